package disk_test

import (
	"bytes"
	"math"
	"math/rand"
	"slices"
	"testing"

	"rhizome/api"
	"rhizome/disk"
)

func newDisk(t *testing.T, n int) *disk.Disk {
	t.Helper()
	d, e := disk.New(n)
	if e != api.OK || d == nil {
		t.Fatalf("New(%d): %v, %d", n, d, e)
	}
	return d
}

// full is a sector of this byte.
func full(c byte) []byte { return bytes.Repeat([]byte{c}, api.Sector) }

// torn is a sector of n bytes of one, and then of another.
func torn(n int, ahead, behind byte) []byte {
	return append(bytes.Repeat([]byte{ahead}, n), bytes.Repeat([]byte{behind}, api.Sector-n)...)
}

// counted is a sector whose bytes all differ.
func counted(from byte) []byte {
	b := make([]byte, api.Sector)
	for i := range b {
		b[i] = from + byte(i)
	}
	return b
}

func arm(t *testing.T, d *disk.Disk, n int) {
	t.Helper()
	if e := d.Arm(n); e != api.OK {
		t.Fatalf("Arm(%d): %d", n, e)
	}
}

func write(t *testing.T, d *disk.Disk, i int, b []byte) {
	t.Helper()
	if e := d.Write(i, b); e != api.OK {
		t.Fatalf("Write(%d): %d", i, e)
	}
}

func flush(t *testing.T, d *disk.Disk) {
	t.Helper()
	if e := d.Flush(); e != api.OK {
		t.Fatalf("Flush: %d", e)
	}
}

func read(t *testing.T, d *disk.Disk, i int) []byte {
	t.Helper()
	b, e := d.Read(i)
	if e != api.OK || len(b) != api.Sector {
		t.Fatalf("Read(%d): % x, %d", i, b, e)
	}
	return b
}

// holds checks all sectors: those that want doesn't name are all zero.
func holds(t *testing.T, d *disk.Disk, want map[int][]byte) {
	t.Helper()
	for i := range d.Size() {
		w := want[i]
		if w == nil {
			w = full(0)
		}
		if b := read(t, d, i); !bytes.Equal(b, w) {
			t.Errorf("sector %d: % x; want % x", i, b, w)
		}
	}
}

// counts checks the steps and what isn't sure.
func counts(t *testing.T, d *disk.Disk, steps int, unsure ...int) {
	t.Helper()
	if n := d.Steps(); n != steps {
		t.Errorf("Steps: %d; want %d", n, steps)
	}
	if u := d.Unsure(); !slices.Equal(u, unsure) {
		t.Errorf("Unsure: %v; want %v", u, unsure)
	}
}

// isDead checks that each step is refused, and is none.
func isDead(t *testing.T, d *disk.Disk) {
	t.Helper()
	steps, unsure := d.Steps(), d.Unsure()
	ahead := read(t, d, 0)
	if e := d.Write(0, full(ahead[0]+1)); e != api.ErrDead {
		t.Errorf("Write of a dead disk: %d", e)
	}
	if e := d.Flush(); e != api.ErrDead {
		t.Errorf("Flush of a dead disk: %d", e)
	}
	if b := read(t, d, 0); !bytes.Equal(b, ahead) {
		t.Errorf("a dead disk's sector is % x behind a Write", b)
	}
	counts(t, d, steps, unsure...)
}

// isFresh checks that a disk is as a Crash leaves one: all sure, no steps, not armed.
func isFresh(t *testing.T, d *disk.Disk, size int) {
	t.Helper()
	if d == nil || d.Size() != size {
		t.Fatalf("a disk of %d sectors is %v", size, d)
	}
	counts(t, d, 0)
}

func TestP3_1New(t *testing.T) {
	for _, n := range []int{1, 2, 3, 63, 64, 65, api.MaxDisk - 1, api.MaxDisk} {
		d := newDisk(t, n)
		isFresh(t, d, n)
		holds(t, d, nil)
	}
	for _, n := range []int{0, -1, -64, math.MinInt, api.MaxDisk + 1, 2 * api.MaxDisk, math.MaxInt} {
		if d, e := disk.New(n); d != nil || e != api.ErrRange {
			t.Errorf("New(%d): %v, %d; want ErrRange", n, d, e)
		}
	}
}

func TestP3_1FirstAndLastSector(t *testing.T) {
	for _, n := range []int{1, 2, 64, api.MaxDisk} {
		d := newDisk(t, n)
		write(t, d, n-1, counted(100))
		want := map[int][]byte{n - 1: counted(100)}
		holds(t, d, want)
		write(t, d, 0, counted(1))
		want[0] = counted(1)
		holds(t, d, want)
		flush(t, d)
		counts(t, d, 3)
		holds(t, d, want)
	}
}

func TestP3_1AllSectorsOfTheGreatestDisk(t *testing.T) {
	d := newDisk(t, api.MaxDisk)
	var all []int
	want := map[int][]byte{}
	for i := range api.MaxDisk {
		all = append(all, i)
		at := api.MaxDisk - 1 - i
		want[at] = counted(byte(at))
		want[at][0] = byte(at >> 8)
		write(t, d, at, want[at])
	}
	counts(t, d, api.MaxDisk, all...)
	holds(t, d, want)
	flush(t, d)
	counts(t, d, api.MaxDisk+1)
	holds(t, d, want)
}

func TestP3_1WriteOfNoSector(t *testing.T) {
	for _, n := range []int{1, 5, api.MaxDisk} {
		d := newDisk(t, n)
		for _, i := range []int{-1, n, n + 1, -n, math.MinInt, math.MaxInt, 1 << 32, -1 << 32} {
			if e := d.Write(i, full(1)); e != api.ErrRange {
				t.Errorf("Write(%d) of %d: %d; want ErrRange", i, n, e)
			}
			if b, e := d.Read(i); e != api.ErrRange || len(b) != 0 {
				t.Errorf("Read(%d) of %d: % x, %d; want ErrRange", i, n, b, e)
			}
		}
		counts(t, d, 0)
		holds(t, d, nil)
	}
}

func TestP3_1WriteOfOtherBytes(t *testing.T) {
	d := newDisk(t, 2)
	write(t, d, 1, counted(7))
	for _, b := range [][]byte{nil, {}, {1}, full(1)[:api.Sector-1], append(full(1), 1), append(full(1), full(1)...), make([]byte, 0, api.Sector), make([]byte, 1<<16)} {
		for i := range 2 {
			if e := d.Write(i, b); e != api.ErrRange {
				t.Errorf("Write(%d) of %d bytes: %d; want ErrRange", i, len(b), e)
			}
		}
	}
	counts(t, d, 1, 1)
	holds(t, d, map[int][]byte{1: counted(7)})
}

// What is outside is told ahead of a dead disk.
func TestP3_1OrderOfErrors(t *testing.T) {
	d := newDisk(t, 2)
	arm(t, d, 0)
	for _, i := range []int{-1, 2} {
		if e := d.Write(i, full(1)); e != api.ErrRange {
			t.Errorf("Write(%d) of a dead disk: %d; want ErrRange", i, e)
		}
		if b, e := d.Read(i); e != api.ErrRange || len(b) != 0 {
			t.Errorf("Read(%d) of a dead disk: % x, %d; want ErrRange", i, b, e)
		}
	}
	for _, n := range []int{0, 1, api.Sector - 1, api.Sector + 1} {
		if e := d.Write(0, make([]byte, n)); e != api.ErrRange {
			t.Errorf("Write of %d bytes to a dead disk: %d; want ErrRange", n, e)
		}
	}
	for _, n := range []int{-1, math.MinInt} {
		if e := d.Arm(n); e != api.ErrRange {
			t.Errorf("Arm(%d) of a dead disk: %d; want ErrRange", n, e)
		}
	}
}

func TestP3_1UnsureIsRising(t *testing.T) {
	d := newDisk(t, 9)
	for k, i := range []int{5, 8, 0, 3, 5, 7, 0} {
		write(t, d, i, full(byte(k)))
	}
	counts(t, d, 7, 0, 3, 5, 7, 8)
	flush(t, d)
	counts(t, d, 8)
	write(t, d, 3, full(3)) // what it is already
	counts(t, d, 9, 3)
	write(t, d, 1, full(0))
	counts(t, d, 10, 1, 3)
	flush(t, d)
	counts(t, d, 11)
}

func TestP3_1WrittenTwice(t *testing.T) {
	d := newDisk(t, 3)
	write(t, d, 1, full(1))
	flush(t, d)
	write(t, d, 1, full(2))
	write(t, d, 1, full(3))
	counts(t, d, 4, 1)
	holds(t, d, map[int][]byte{1: full(3)})
	holds(t, d.Crash(nil, -1, 0), map[int][]byte{1: full(1)})
	holds(t, d.Crash([]bool{true}, -1, 0), map[int][]byte{1: full(3)})
	holds(t, d.Crash(nil, 0, 10), map[int][]byte{1: torn(10, 3, 1)})
	flush(t, d)
	holds(t, d.Crash(nil, 0, 10), map[int][]byte{1: full(3)})
}

// A sector that is written back to what was sure isn't sure.
func TestP3_1WrittenBack(t *testing.T) {
	d := newDisk(t, 2)
	write(t, d, 0, full(1))
	flush(t, d)
	write(t, d, 0, full(2))
	write(t, d, 0, full(1))
	write(t, d, 1, full(4))
	counts(t, d, 5, 0, 1)
	holds(t, d.Crash([]bool{false, true}, -1, 0), map[int][]byte{0: full(1), 1: full(4)})
}

func TestP3_1FlushWithoutWrites(t *testing.T) {
	d := newDisk(t, 2)
	flush(t, d)
	flush(t, d)
	counts(t, d, 2)
	holds(t, d, nil)
}

func TestP3_1ArmNone(t *testing.T) {
	d := newDisk(t, 2)
	write(t, d, 0, full(1))
	arm(t, d, 0)
	isDead(t, d)
	counts(t, d, 1, 0)
	holds(t, d, map[int][]byte{0: full(1)})
}

func TestP3_1LastStepIsAWrite(t *testing.T) {
	d := newDisk(t, 2)
	arm(t, d, 3)
	write(t, d, 0, full(1))
	flush(t, d)
	write(t, d, 1, full(2))
	isDead(t, d)
	counts(t, d, 3, 1)
	holds(t, d, map[int][]byte{0: full(1), 1: full(2)})
	holds(t, d.Crash(nil, -1, 0), map[int][]byte{0: full(1)})
}

func TestP3_1LastStepIsAFlush(t *testing.T) {
	d := newDisk(t, 2)
	arm(t, d, 2)
	write(t, d, 0, full(1))
	flush(t, d)
	isDead(t, d)
	counts(t, d, 2)
	holds(t, d.Crash(nil, -1, 0), map[int][]byte{0: full(1)})
}

func TestP3_1RefusedOnesAreNoSteps(t *testing.T) {
	d := newDisk(t, 1)
	arm(t, d, 1)
	for range 5 {
		if d.Write(1, full(1)) != api.ErrRange || d.Write(0, nil) != api.ErrRange || d.Arm(-1) != api.ErrRange {
			t.Fatal("not refused")
		}
		read(t, d, 0)
		d.Unsure()
		d.Crash(nil, 0, 0)
	}
	counts(t, d, 0)
	write(t, d, 0, full(1))
	isDead(t, d)
	counts(t, d, 1, 0)
}

func TestP3_1ArmAnew(t *testing.T) {
	d := newDisk(t, 1)
	arm(t, d, 5)
	flush(t, d)
	arm(t, d, 2) // fewer than were left
	flush(t, d)
	arm(t, d, 3) // more than were left
	for range 3 {
		flush(t, d)
	}
	counts(t, d, 5)
	isDead(t, d)
}

func TestP3_1ArmBelowZeroChangesNothing(t *testing.T) {
	d := newDisk(t, 1)
	for _, n := range []int{-1, math.MinInt} {
		if e := d.Arm(n); e != api.ErrRange {
			t.Errorf("Arm(%d): %d; want ErrRange", n, e)
		}
	}
	for range 100 {
		flush(t, d)
	}
	arm(t, d, 2)
	if e := d.Arm(-1); e != api.ErrRange {
		t.Errorf("Arm(-1): %d; want ErrRange", e)
	}
	flush(t, d)
	flush(t, d)
	isDead(t, d)
}

func TestP3_1ArmOfADeadDisk(t *testing.T) {
	d := newDisk(t, 1)
	arm(t, d, 1)
	flush(t, d)
	for _, n := range []int{0, 1, 100, math.MaxInt} {
		if e := d.Arm(n); e != api.ErrDead {
			t.Errorf("Arm(%d) of a dead disk: %d; want ErrDead", n, e)
		}
		isDead(t, d)
	}
	counts(t, d, 1)
}

func TestP3_1ArmForLong(t *testing.T) {
	d := newDisk(t, 1)
	flush(t, d)
	arm(t, d, math.MaxInt)
	for range 100 {
		write(t, d, 0, full(1))
		flush(t, d)
	}
	counts(t, d, 201)
	arm(t, d, 0)
	isDead(t, d)
}

func TestP3_1ReadOfADeadDisk(t *testing.T) {
	d := newDisk(t, 4)
	write(t, d, 1, full(1))
	flush(t, d)
	write(t, d, 3, full(3))
	write(t, d, 1, full(2))
	arm(t, d, 0)
	isDead(t, d)
	counts(t, d, 4, 1, 3)
	holds(t, d, map[int][]byte{1: full(2), 3: full(3)})
	if n := d.Size(); n != 4 {
		t.Errorf("Size: %d", n)
	}
}

func TestP3_1CrashExample(t *testing.T) {
	d := newDisk(t, 3)
	write(t, d, 1, full(1))
	write(t, d, 0, full(1))
	counts(t, d, 2, 0, 1)
	c := d.Crash([]bool{false, true}, 0, 2)
	isFresh(t, c, 3)
	holds(t, c, map[int][]byte{0: torn(2, 1, 0), 1: full(1)})
}

// unsureDisk has sectors 1, 3, 4 of 11, 13, 14 that were sure as 1, 3, 4; and 0, 5 that are sure.
func unsureDisk(t *testing.T) *disk.Disk {
	t.Helper()
	d := newDisk(t, 6)
	for _, i := range []int{0, 1, 3, 4, 5} {
		write(t, d, i, full(byte(i)))
	}
	flush(t, d)
	for _, i := range []int{4, 1, 3} {
		write(t, d, i, full(byte(10+i)))
	}
	return d
}

func TestP3_1CrashKeeps(t *testing.T) {
	for _, c := range []struct {
		keep      []bool
		one, two  byte
		three     byte
		torn, cut int
	}{
		{nil, 1, 3, 4, -1, 0},
		{[]bool{}, 1, 3, 4, 3, 64},
		{[]bool{true}, 11, 3, 4, -1, 64},
		{[]bool{false, true}, 1, 13, 4, math.MinInt, 64},
		{[]bool{true, false, true}, 11, 3, 14, math.MaxInt, 64},
		{[]bool{true, true, true}, 11, 13, 14, 3, 0},
		{[]bool{false, false, false, true, true}, 1, 3, 4, 4, 64},
		{[]bool{false, false, true, false, true, true, true}, 1, 3, 14, 5, 64},
		{append(make([]bool, 3), slices.Repeat([]bool{true}, 5000)...), 1, 3, 4, 4096, 64},
		// torn at one that is kept
		{[]bool{true, true, true}, 11, 13, 14, 1, 0},
		{[]bool{true, true, true}, 11, 13, 14, 0, -1},
		{[]bool{false, false, true}, 1, 3, 14, 2, 5},
		// torn at one that isn't kept, whole or not at all
		{[]bool{false, true}, 11, 13, 4, 0, api.Sector},
		{nil, 1, 13, 4, 1, api.Sector + 1},
		{nil, 1, 3, 14, 2, math.MaxInt},
		{[]bool{true, true}, 11, 13, 14, 2, api.Sector},
		{[]bool{true, true}, 11, 13, 4, 2, 0},
		{nil, 1, 3, 4, 0, -1},
		{nil, 1, 3, 4, 2, math.MinInt},
	} {
		d := unsureDisk(t)
		x := d.Crash(c.keep, c.torn, c.cut)
		isFresh(t, x, 6)
		holds(t, x, map[int][]byte{0: full(0), 1: full(c.one), 3: full(c.two), 4: full(c.three), 5: full(5)})
	}
}

func TestP3_1CrashTears(t *testing.T) {
	for cut := -2; cut <= api.Sector+2; cut++ {
		n := min(max(cut, 0), api.Sector)
		for k, i := range []int{1, 3, 4} {
			want := map[int][]byte{1: full(1), 3: full(3), 4: full(4), 5: full(5)}
			want[i] = torn(n, byte(10+i), byte(i))
			holds(t, unsureDisk(t).Crash(nil, k, cut), want)
			holds(t, unsureDisk(t).Crash(make([]bool, 9), k, cut), want)
		}
	}
	d := newDisk(t, 1)
	write(t, d, 0, counted(50))
	flush(t, d)
	write(t, d, 0, counted(150))
	holds(t, d.Crash(nil, 0, 1), map[int][]byte{0: append(counted(150)[:1:1], counted(50)[1:]...)})
	holds(t, d.Crash(nil, 0, 63), map[int][]byte{0: append(counted(150)[:63:63], counted(50)[63:]...)})
}

func TestP3_1CrashLooksAtNoSpareKeeps(t *testing.T) {
	keep := []bool{true, true, true}
	holds(t, unsureDisk(t).Crash(keep[:1], -1, 0), map[int][]byte{1: full(11), 3: full(3), 4: full(4), 5: full(5)})
}

func TestP3_1CrashOfAnArmedDisk(t *testing.T) {
	d := unsureDisk(t)
	arm(t, d, 2)
	c := d.Crash([]bool{true}, 1, 1)
	isFresh(t, c, 6)
	want := map[int][]byte{1: full(11), 3: torn(1, 13, 3), 4: full(4), 5: full(5)}
	holds(t, c, want)
	for range 100 { // it isn't armed
		flush(t, c)
	}
	holds(t, c, want)
	counts(t, d, 9, 1, 3, 4) // the disk itself stays
	flush(t, d)
	flush(t, d)
	isDead(t, d)
	counts(t, d, 11)
	holds(t, d, map[int][]byte{1: full(11), 3: full(13), 4: full(14), 5: full(5)})
}

func TestP3_1CrashOfADeadDisk(t *testing.T) {
	d := unsureDisk(t)
	arm(t, d, 0)
	for range 3 {
		c := d.Crash([]bool{false, true}, 2, 7)
		isFresh(t, c, 6)
		holds(t, c, map[int][]byte{1: full(1), 3: full(13), 4: torn(7, 14, 4), 5: full(5)})
		write(t, c, 0, full(9))
		flush(t, c)
		arm(t, c, 0)
		isDead(t, c)
		counts(t, d, 9, 1, 3, 4)
		isDead(t, d)
		holds(t, d, map[int][]byte{1: full(11), 3: full(13), 4: full(14), 5: full(5)})
	}
}

func TestP3_1CrashOfACrash(t *testing.T) {
	c := unsureDisk(t).Crash([]bool{true}, 2, 32)
	left := map[int][]byte{1: full(11), 3: full(3), 4: torn(32, 14, 4), 5: full(5)}
	x := c.Crash([]bool{true, true, true}, 0, api.Sector)
	isFresh(t, x, 6)
	holds(t, x, left)
	write(t, x, 4, full(24))
	write(t, x, 0, full(20))
	counts(t, x, 2, 0, 4)
	y := x.Crash(nil, 1, 1)
	isFresh(t, y, 6)
	left[4] = append([]byte{24}, left[4][1:]...)
	holds(t, y, left)
	holds(t, y.Crash([]bool{true}, 0, 64), left)
}

func TestP3_1CrashOfANewDisk(t *testing.T) {
	for _, n := range []int{1, api.MaxDisk} {
		c := newDisk(t, n).Crash([]bool{true}, 0, api.Sector)
		isFresh(t, c, n)
		holds(t, c, nil)
		write(t, c, n-1, full(1))
		holds(t, c.Crash(nil, 0, 0), nil)
		if e := c.Write(n, full(1)); e != api.ErrRange {
			t.Errorf("Write(%d) of %d: %d", n, n, e)
		}
	}
}

// model is the document's disk, said anew: what each sector is, what it was when it was sure, and whether it is.
type model struct {
	now, sure [][]byte
	unsure    []bool
	steps     int
	left      int // below 0: not armed
}

func newModel(n int) *model {
	m := &model{unsure: make([]bool, n), left: -1}
	for range n {
		m.now = append(m.now, full(0))
		m.sure = append(m.sure, full(0))
	}
	return m
}

func (m *model) step() api.Errno {
	if m.left == 0 {
		return api.ErrDead
	}
	m.left = max(m.left-1, -1)
	m.steps++
	return api.OK
}

func (m *model) write(i int, b []byte) api.Errno {
	if i < 0 || i >= len(m.now) || len(b) != api.Sector {
		return api.ErrRange
	}
	e := m.step()
	if e == api.OK {
		m.now[i], m.unsure[i] = bytes.Clone(b), true
	}
	return e
}

func (m *model) flush() api.Errno {
	e := m.step()
	if e == api.OK {
		copy(m.sure, m.now)
		clear(m.unsure)
	}
	return e
}

func (m *model) arm(n int) api.Errno {
	switch {
	case n < 0:
		return api.ErrRange
	case m.left == 0:
		return api.ErrDead
	}
	m.left = n
	return api.OK
}

func (m *model) crash(keep []bool, torn, cut int) *model {
	c := newModel(len(m.now))
	k := 0
	for i := range m.now {
		b := bytes.Clone(m.sure[i])
		if m.unsure[i] {
			for at := range b {
				if k < len(keep) && keep[k] || k == torn && at < cut {
					b[at] = m.now[i][at]
				}
			}
			k++
		}
		c.now[i], c.sure[i] = b, b
	}
	return c
}

// alike checks that a disk is as its model.
func alike(t *testing.T, d *disk.Disk, m *model) {
	t.Helper()
	var unsure []int
	for i, b := range m.now {
		if got := read(t, d, i); !bytes.Equal(got, b) {
			t.Fatalf("sector %d: % x; want % x", i, got, b)
		}
		if m.unsure[i] {
			unsure = append(unsure, i)
		}
	}
	counts(t, d, m.steps, unsure...)
	if d.Size() != len(m.now) {
		t.Fatalf("Size: %d", d.Size())
	}
}

func TestP3_1ListsOfCalls(t *testing.T) {
	r := rand.New(rand.NewSource(3))
	bits := func() []bool {
		keep := make([]bool, r.Intn(8))
		for k := range keep {
			keep[k] = r.Intn(2) == 0
		}
		return keep
	}
	for range 400 {
		n := 1 + r.Intn(7)
		d, m := newDisk(t, n), newModel(n)
		for range 60 {
			var got, want api.Errno
			switch r.Intn(10) {
			case 0:
				a := r.Intn(30) - 2
				got, want = d.Arm(a), m.arm(a)
			case 1, 2:
				got, want = d.Flush(), m.flush()
			case 3:
				keep, torn, cut := bits(), r.Intn(9)-1, r.Intn(api.Sector+5)-2
				d, m = d.Crash(keep, torn, cut), m.crash(keep, torn, cut)
			default:
				i, b := r.Intn(n+2)-1, make([]byte, api.Sector)
				r.Read(b)
				b = b[:api.Sector-max(0, r.Intn(20)-18)]
				got, want = d.Write(i, b), m.write(i, b)
			}
			if got != want {
				t.Fatalf("%d; want %d", got, want)
			}
			alike(t, d, m)
		}
	}
}

// allCrashes goes through all that may be kept of n sectors, torn at each, at none and at one behind, at several cuts.
func allCrashes(n int, f func(keep []bool, torn, cut int)) {
	for set := range 1 << n {
		keep := make([]bool, n)
		for k := range keep {
			keep[k] = set>>k&1 == 1
		}
		for torn := -1; torn <= n; torn++ {
			for _, cut := range []int{-1, 0, 1, 31, 63, 64, 65} {
				f(keep, torn, cut)
			}
		}
	}
}

func TestP3_2WhatIsFlushedOutlives(t *testing.T) {
	d := newDisk(t, 5)
	want := map[int][]byte{}
	for _, i := range []int{4, 0, 2} {
		want[i] = counted(byte(10 * i))
		write(t, d, i, full(200))
		write(t, d, i, want[i])
	}
	flush(t, d)
	write(t, d, 1, full(1)) // not sure: it may be anything of the two
	write(t, d, 3, full(3))
	for range 2 {
		allCrashes(5, func(keep []bool, torn, cut int) {
			c := d.Crash(keep, torn, cut)
			for i, b := range want {
				if got := read(t, c, i); !bytes.Equal(got, b) {
					t.Fatalf("Crash(%v, %d, %d): sector %d: % x", keep, torn, cut, i, got)
				}
			}
		})
		d.Arm(0) // and of a dead disk
	}
}

func TestP3_2WhatWasNotWrittenIsNeverChanged(t *testing.T) {
	d := newDisk(t, 8)
	write(t, d, 5, full(5))
	write(t, d, 6, full(6))
	flush(t, d)
	for _, i := range []int{6, 1, 3} {
		write(t, d, i, full(0xEE))
	}
	untouched := map[int][]byte{0: full(0), 2: full(0), 4: full(0), 5: full(5), 7: full(0)}
	allCrashes(4, func(keep []bool, torn, cut int) {
		c := d.Crash(keep, torn, cut)
		for i, b := range untouched {
			if got := read(t, c, i); !bytes.Equal(got, b) {
				t.Fatalf("Crash(%v, %d, %d): sector %d: % x", keep, torn, cut, i, got)
			}
		}
	})
}

// A sector that was written, flushed, and written again falls back to what was flushed, not further.
func TestP3_2FlushAfterFlush(t *testing.T) {
	d := newDisk(t, 1)
	for n := range byte(20) {
		write(t, d, 0, full(n))
		flush(t, d)
		write(t, d, 0, full(n+100))
		holds(t, d.Crash(nil, -1, 0), map[int][]byte{0: full(n)})
		holds(t, d.Crash([]bool{false}, 0, 0), map[int][]byte{0: full(n)})
	}
}

func TestP3_3WriteKeepsNothing(t *testing.T) {
	room := counted(1)
	room = append(room, full(77)...)
	b := room[:api.Sector]
	d := newDisk(t, 2)
	write(t, d, 1, b)
	if !bytes.Equal(room, append(counted(1), full(77)...)) {
		t.Errorf("Write changed what was handed in: % x", room)
	}
	copy(room, full(9))
	holds(t, d, map[int][]byte{1: counted(1)})
	flush(t, d)
	write(t, d, 0, room[64:])
	clear(room)
	want := map[int][]byte{0: full(77), 1: counted(1)}
	holds(t, d, want)
	holds(t, d.Crash([]bool{true}, -1, 0), want)
	flush(t, d)
	holds(t, d.Crash(nil, -1, 0), want)
}

// A refused Write, too, leaves what is handed in.
func TestP3_3RefusedWriteLeavesTheBytes(t *testing.T) {
	d := newDisk(t, 1)
	arm(t, d, 0)
	room := counted(1)
	for _, n := range []int{1, 63, 64} {
		d.Write(0, room[:n])
		d.Write(1, room[:n])
	}
	if !bytes.Equal(room, counted(1)) {
		t.Errorf("Write changed what was handed in: % x", room)
	}
}

func TestP3_3ReadAnswersNewMemory(t *testing.T) {
	d := newDisk(t, 3)
	write(t, d, 0, full(1))
	flush(t, d)
	write(t, d, 1, full(2))
	want := map[int][]byte{0: full(1), 1: full(2)}
	for range 2 {
		for i := range 3 { // sure, unsure, never written
			a, b := read(t, d, i), read(t, d, i)
			copy(a[:cap(a)], bytes.Repeat([]byte{9}, cap(a)))
			if bytes.Equal(a, b) {
				t.Errorf("two answers of sector %d share their memory", i)
			}
		}
		holds(t, d, want)
		holds(t, d.Crash([]bool{true}, -1, 0), want)
		d.Arm(0) // and of a dead disk
	}
}

func TestP3_3UnsureAnswersNewMemory(t *testing.T) {
	d := newDisk(t, 5)
	for _, i := range []int{4, 2, 0} {
		write(t, d, i, full(1))
	}
	a := d.Unsure()
	a = a[:cap(a)]
	for k := range a {
		a[k] = 3
	}
	counts(t, d, 3, 0, 2, 4)
	holds(t, d.Crash([]bool{false, true}, -1, 0), map[int][]byte{2: full(1)})
	b := d.Unsure()
	write(t, d, 1, full(1))
	flush(t, d)
	if !slices.Equal(b, []int{0, 2, 4}) {
		t.Errorf("an answer has changed behind a Write and a Flush: %v", b)
	}
}

func TestP3_3ReadIsAsItWas(t *testing.T) {
	d := newDisk(t, 2)
	write(t, d, 0, full(1))
	a := read(t, d, 0)
	write(t, d, 0, full(2))
	flush(t, d)
	if !bytes.Equal(a, full(1)) {
		t.Errorf("an answer has changed behind a Write: % x", a)
	}
}

func TestP3_3CrashKeepsNothing(t *testing.T) {
	d := unsureDisk(t)
	room := []bool{true, false, true, true, false}
	c := d.Crash(room[:3], 1, 5)
	if !slices.Equal(room, []bool{true, false, true, true, false}) {
		t.Errorf("Crash changed what was handed in: %v", room)
	}
	for k := range room {
		room[k] = !room[k]
	}
	holds(t, c, map[int][]byte{1: full(11), 3: torn(5, 13, 3), 4: full(14), 5: full(5)})
}

func TestP3_3DiskAndCrashGoTheirOwnWays(t *testing.T) {
	d := unsureDisk(t)
	c := d.Crash([]bool{true, true, true}, -1, 0)
	other := d.Crash([]bool{true, true, true}, -1, 0)
	same := map[int][]byte{1: full(11), 3: full(13), 4: full(14), 5: full(5)}

	write(t, d, 5, full(50)) // the disk goes on
	flush(t, d)
	write(t, d, 1, full(51))
	isFresh(t, c, 6)
	holds(t, c, same)

	for i := range 6 { // the Crash goes on
		write(t, c, i, full(60))
	}
	counts(t, c, 6, 0, 1, 2, 3, 4, 5)
	counts(t, d, 12, 1)
	flush(t, c)
	arm(t, c, 0)
	isDead(t, c)
	counts(t, d, 12, 1)
	want := map[int][]byte{1: full(51), 3: full(13), 4: full(14), 5: full(50)}
	holds(t, d, want)
	want[1] = full(11)
	holds(t, d.Crash(nil, -1, 0), want)

	isFresh(t, other, 6) // and another Crash by itself
	holds(t, other, same)
	flush(t, d) // a dead Crash isn't the disk's death
	counts(t, d, 13)
}
