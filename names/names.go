// Package names tells names from other texts, for the layers that take them: labels, keys, variables and views have one.
package names

import "rhizome/api"

// Is tells whether a text is a name: 1 to api.MaxName letters a to z.
func Is(s string) bool {
	if len(s) < 1 || len(s) > api.MaxName {
		return false
	}
	for i := range len(s) {
		if s[i] < 'a' || s[i] > 'z' {
			return false
		}
	}
	return true
}
