package image_test

import (
	"bytes"
	"math"
	"math/rand"
	"slices"
	"testing"

	"rhizome/api"
	"rhizome/disk"
	"rhizome/image"
)

const lastSeq = 1 << 62

var zeros = make([]byte, api.Sector)

// full is n bytes of one.
func full(c byte, n int) []byte { return bytes.Repeat([]byte{c}, n) }

// bytesOf is n bytes, none of them zero, that differ from place to place and by salt.
func bytesOf(n int, salt byte) []byte {
	b := make([]byte, n)
	for i := range b {
		b[i] = byte(i*7+i/api.Sector) + salt
		if b[i] == 0 {
			b[i] = 0xEE
		}
	}
	return b
}

// head is a head's sector, said anew, of any numbers.
func head(seq uint64, n uint32) []byte {
	b := []byte{0x49,
		byte(seq >> 56), byte(seq >> 48), byte(seq >> 40), byte(seq >> 32), byte(seq >> 24), byte(seq >> 16), byte(seq >> 8), byte(seq),
		byte(n >> 24), byte(n >> 16), byte(n >> 8), byte(n)}
	return append(b, append(make([]byte, 50), 0x5A)...)
}

// with is a sector with another byte.
func with(b []byte, at int, c byte) []byte {
	b = bytes.Clone(b)
	b[at] = c
	return b
}

// cut is data in sectors, the last one filled up with zeros.
func cut(data []byte) [][]byte {
	var all [][]byte
	for at := 0; at < len(data); at += api.Sector {
		b := make([]byte, api.Sector)
		copy(b, data[at:])
		all = append(all, b)
	}
	return all
}

// imageOf is the sectors of an image, its head ahead.
func imageOf(seq int, data []byte) [][]byte {
	return append([][]byte{head(uint64(seq), uint32(len(data)))}, cut(data)...)
}

func newDisk(t *testing.T, n int) *disk.Disk {
	t.Helper()
	d, e := disk.New(n)
	if e != api.OK {
		t.Fatalf("New(%d): %d", n, e)
	}
	return d
}

// laid is a disk of n sectors whose first ones are these, all sure; nil is zeros.
func laid(t *testing.T, n int, sectors ...[]byte) *disk.Disk {
	t.Helper()
	d := newDisk(t, n)
	for i, b := range sectors {
		if b != nil {
			write(t, d, i, b)
		}
	}
	return whole(d)
}

// whole is a disk on which all is sure as it is.
func whole(d *disk.Disk) *disk.Disk { return d.Crash(slices.Repeat([]bool{true}, d.Size()), -1, 0) }

func write(t *testing.T, d *disk.Disk, i int, b []byte) {
	t.Helper()
	if e := d.Write(i, b); e != api.OK {
		t.Fatalf("Write(%d): %d", i, e)
	}
}

func arm(t *testing.T, d *disk.Disk, n int) {
	t.Helper()
	if e := d.Arm(n); e != api.OK {
		t.Fatalf("Arm(%d): %d", n, e)
	}
}

// sectors is all that stands on a disk.
func sectors(t *testing.T, d *disk.Disk) [][]byte {
	t.Helper()
	var all [][]byte
	for i := range d.Size() {
		b, e := d.Read(i)
		if e != api.OK {
			t.Fatalf("Read(%d): %d", i, e)
		}
		all = append(all, b)
	}
	return all
}

// holds checks all sectors: nil, and those behind, are zeros.
func holds(t *testing.T, d *disk.Disk, want ...[]byte) {
	t.Helper()
	for i, b := range sectors(t, d) {
		w := zeros
		if i < len(want) && want[i] != nil {
			w = want[i]
		}
		if !bytes.Equal(b, w) {
			t.Fatalf("sector %d: % x; want % x", i, b, w)
		}
	}
}

// twins checks that two disks are the same: what stands there, what is sure.
func twins(t *testing.T, d, want *disk.Disk) {
	t.Helper()
	if !slices.Equal(d.Unsure(), want.Unsure()) {
		t.Fatalf("Unsure: %v; want %v", d.Unsure(), want.Unsure())
	}
	holds(t, d, sectors(t, want)...)
	holds(t, d.Crash(nil, -1, 0), sectors(t, want.Crash(nil, -1, 0))...)
}

func open(t *testing.T, d *disk.Disk, first, count int) *image.Image {
	t.Helper()
	m, e := image.Open(d, first, count)
	if e != api.OK || m == nil {
		t.Fatalf("Open(%d, %d): %v, %d", first, count, m, e)
	}
	return m
}

func save(t *testing.T, m *image.Image, seq int, data []byte) {
	t.Helper()
	if e := m.Save(seq, data); e != api.OK {
		t.Fatalf("Save(%d, %d bytes): %d", seq, len(data), e)
	}
}

// saved is what Load answers. With a Seq of 0 there is none.
type saved struct {
	seq  int
	data []byte
}

func (s saved) same(x saved) bool { return s.seq == x.seq && bytes.Equal(s.data, x.data) }

func load(t *testing.T, m *image.Image) saved {
	t.Helper()
	seq, data, ok := m.Load()
	if ok != (seq != 0) || !ok && len(data) > 0 {
		t.Fatalf("Load: %d, %v, %v", seq, data, ok)
	}
	return saved{seq, data}
}

// says checks what Load answers, twice.
func says(t *testing.T, m *image.Image, want saved) {
	t.Helper()
	for range 2 {
		if got := load(t, m); !got.same(want) {
			t.Fatalf("Load: %v; want %v", got, want)
		}
	}
}

// refused checks that a Save is refused, with no step, and that nothing is changed.
func refused(t *testing.T, d *disk.Disk, m *image.Image, want api.Errno, seq int, data []byte) {
	t.Helper()
	steps, was, ahead := d.Steps(), load(t, m), sectors(t, d)
	if e := m.Save(seq, data); e != want {
		t.Fatalf("Save(%d, %d bytes): %d; want %d", seq, len(data), e, want)
	}
	if d.Steps() != steps {
		t.Fatalf("it was refused with %d steps", d.Steps()-steps)
	}
	says(t, m, was)
	holds(t, d, ahead...)
}

// step is a Write of a sector, or a flush: no bytes.
type step struct {
	at int
	b  []byte
}

var flush = step{}

func run(d *disk.Disk, steps []step) api.Errno {
	for _, s := range steps {
		e := api.OK
		if s.b == nil {
			e = d.Flush()
		} else {
			e = d.Write(s.at, s.b)
		}
		if e != api.OK {
			return e
		}
	}
	return api.OK
}

// inSteps checks that a call makes just these steps of the disk, in their order: the power goes ahead
// of each of them, and at last not at all. A scene makes the disk, all of it sure, and the call, anew.
func inSteps(t *testing.T, scene func() (*disk.Disk, func() api.Errno), want ...step) {
	t.Helper()
	for k := range len(want) + 1 {
		d, call := scene()
		other, ahead, e := d.Crash(nil, -1, 0), d.Steps(), api.OK
		if k < len(want) {
			arm(t, d, k)
			e = api.ErrDead
		}
		if got := call(); got != e {
			t.Fatalf("behind %d steps of %d: %d; want %d", k, len(want), got, e)
		}
		if n := d.Steps() - ahead; n != k {
			t.Fatalf("%d steps; want %d", n, k)
		}
		if e := run(other, want[:k]); e != api.OK {
			t.Fatal(e)
		}
		twins(t, d, other)
	}
}

// stepsOf is the steps of a Save in the area from a sector on, said anew.
func stepsOf(at, seq int, data []byte) []step {
	all := []step{{at, zeros}, flush}
	for i, b := range cut(data) {
		all = append(all, step{at + 1 + i, b})
	}
	return append(all, flush, step{at, head(uint64(seq), uint32(len(data)))}, flush)
}

func TestP5_1Example(t *testing.T) {
	d := newDisk(t, 8)
	m := open(t, d, 0, 4)
	says(t, m, saved{})
	save(t, m, 1, []byte("hello"))
	if d.Steps() != 6 || len(d.Unsure()) != 0 {
		t.Errorf("Save: %d steps, unsure %v", d.Steps(), d.Unsure())
	}
	holds(t, d, []byte("\x49\x00\x00\x00\x00\x00\x00\x00\x01\x00\x00\x00\x05"+string(make([]byte, 50))+"\x5a"), append([]byte("hello"), zeros[5:]...))
	refused(t, d, m, api.ErrTwice, 1, []byte("hello"))
	refused(t, d, m, api.ErrTwice, 1, nil)
	refused(t, d, m, api.ErrLong, 2, bytesOf(193, 1))
	says(t, m, saved{1, []byte("hello")})
	save(t, m, 2, bytesOf(192, 1))
	says(t, m, saved{2, bytesOf(192, 1)})
	holds(t, d, slices.Concat(imageOf(1, []byte("hello")), [][]byte{nil, nil}, imageOf(2, bytesOf(192, 1)))...)
}

func TestP5_1ExampleStepByStep(t *testing.T) {
	inSteps(t, func() (*disk.Disk, func() api.Errno) {
		d := newDisk(t, 8)
		m := open(t, d, 0, 4)
		return d, func() api.Errno { return m.Save(1, []byte("hello")) }
	}, step{0, zeros}, flush, step{1, append([]byte("hello"), zeros[5:]...)}, flush, step{0, head(1, 5)}, flush)
}

func TestP5_1OpenOfNoSectors(t *testing.T) {
	for _, n := range []int{1, 2, 3, 4, 5, 9, 10, api.MaxDisk} {
		d := laid(t, n, full(1, api.Sector))
		for dead := range 2 {
			for _, c := range [][2]int{
				{0, 1}, {0, 0}, {0, -1}, {0, -2}, {0, -n}, {0, math.MinInt}, {0, math.MinInt / 2}, {n - 2, 1}, {n, 0}, {1, 1}, {n, -1}, {n, -2}, {n + 2, -1}, {n + 4, -2},
				{-1, 2}, {-1, n / 2}, {-2, 2}, {-4, 2}, {-n, n}, {-n, n / 2}, {math.MinInt, 2}, {math.MinInt, math.MaxInt}, {math.MinInt, math.MinInt},
				{0, n/2 + 1}, {0, n + 1}, {n - 3, 2}, {n - 2, 2}, {n - 1, 2}, {n, 2}, {n + 1, 2}, {n%2 + 1, n / 2}, {0, n * 3}, {n, n},
				{0, math.MaxInt}, {1, math.MaxInt}, {0, math.MaxInt/2 + 1}, {0, math.MaxInt/2 + 2}, {0, math.MaxInt/2 + 3}, {4, math.MaxInt - 1},
				{math.MaxInt, 2}, {math.MaxInt - 3, 2}, {math.MaxInt - 4, 2}, {math.MaxInt, math.MaxInt}, {math.MaxInt, 1}, {n, math.MinInt}, {math.MaxInt, math.MinInt},
			} {
				if m, e := image.Open(d, c[0], c[1]); m != nil || e != api.ErrRange {
					t.Errorf("Open(%d, %d) of %d: %v, %d; want ErrRange", c[0], c[1], n, m, e)
				}
			}
			if d.Steps() > 0 {
				t.Fatalf("%d steps", d.Steps())
			}
			if dead == 0 {
				arm(t, d, 0)
			}
		}
		holds(t, d, full(1, api.Sector))
	}
}

func TestP5_1OpenOfANewDisk(t *testing.T) {
	for _, c := range [][4]int{
		// sectors, first, count, the greatest image's bytes
		{4, 0, 2, 64}, {5, 0, 2, 64}, {5, 1, 2, 64}, {6, 0, 3, 128}, {7, 1, 3, 128}, {9, 1, 4, 192}, {9, 0, 4, 192}, {11, 3, 4, 192},
		{api.MaxDisk, 0, api.MaxDisk / 2, 64 * 2047}, {api.MaxDisk, 2, api.MaxDisk/2 - 1, 64 * 2046}, {api.MaxDisk, api.MaxDisk - 4, 2, 64},
	} {
		d := newDisk(t, c[0])
		m := open(t, d, c[1], c[2])
		says(t, m, saved{})
		if d.Steps() > 0 {
			t.Fatalf("Open: %d steps", d.Steps())
		}
		refused(t, d, m, api.ErrLong, 1, make([]byte, c[3]+1))
		refused(t, d, m, api.ErrLong, 1, make([]byte, c[3]+64))
		refused(t, d, m, api.ErrLong, 1, make([]byte, 64*api.MaxDisk))
		for seq := 1; seq <= 3; seq++ {
			save(t, m, seq, bytesOf(c[3], byte(seq)))
			says(t, m, saved{seq, bytesOf(c[3], byte(seq))})
			says(t, open(t, d, c[1], c[2]), saved{seq, bytesOf(c[3], byte(seq))})
		}
		// The third stands where the first one stood.
		holds(t, d, slices.Concat(make([][]byte, c[1]), imageOf(3, bytesOf(c[3], 3)), imageOf(2, bytesOf(c[3], 2)))...)
	}
}

// place is a table's row: the first sectors of each area, the image that counts, and the area that a newer one goes to.
type place struct {
	name          string
	count         int
	ahead, behind [][]byte
	image         saved
	to            int // 0: the one ahead; 1: the one behind
}

// sectorsOf is a table's word for sectors.
func sectorsOf(b ...[]byte) [][]byte { return b }

var none saved

// headed is the sectors of an area, with its head anew.
func headed(h []byte, area [][]byte) [][]byte { return append([][]byte{h}, area[1:]...) }

var (
	a5   = imageOf(5, bytesOf(70, 5))
	is5  = saved{5, bytesOf(70, 5)}
	long = bytesOf(0x010203, 8)
)

var places = []place{
	{"nothing", 3, nil, nil, none, 0},
	{"something that is no image", 3, sectorsOf(full(1, 64), full(2, 64), full(3, 64)), sectorsOf(full(4, 64), full(5, 64), full(6, 64)), none, 0},
	{"an image that isn't at first", 4, sectorsOf(nil, head(1, 0), head(2, 0)), sectorsOf(nil, head(1, 0), head(2, 0)), none, 0},

	{"ahead, no data", 3, imageOf(1, nil), nil, saved{1, nil}, 1},
	{"behind, no data", 3, nil, imageOf(1, nil), saved{1, nil}, 0},
	{"ahead, a byte", 3, imageOf(1, []byte{7}), nil, saved{1, []byte{7}}, 1},
	{"behind, a byte", 3, nil, imageOf(1, []byte{7}), saved{1, []byte{7}}, 0},
	{"ahead, 63 bytes", 3, imageOf(1, bytesOf(63, 1)), nil, saved{1, bytesOf(63, 1)}, 1},
	{"ahead, 64 bytes", 3, imageOf(1, bytesOf(64, 1)), nil, saved{1, bytesOf(64, 1)}, 1},
	{"behind, 64 bytes", 3, nil, imageOf(1, bytesOf(64, 1)), saved{1, bytesOf(64, 1)}, 0},
	{"ahead, 65 bytes", 3, imageOf(1, bytesOf(65, 1)), nil, saved{1, bytesOf(65, 1)}, 1},
	{"behind, 65 bytes", 3, nil, imageOf(1, bytesOf(65, 1)), saved{1, bytesOf(65, 1)}, 0},
	{"ahead, all bytes", 3, imageOf(1, bytesOf(128, 1)), nil, saved{1, bytesOf(128, 1)}, 1},
	{"behind, all bytes", 3, nil, imageOf(1, bytesOf(128, 1)), saved{1, bytesOf(128, 1)}, 0},
	{"count 2, ahead", 2, imageOf(1, bytesOf(64, 1)), nil, saved{1, bytesOf(64, 1)}, 1},
	{"count 2, behind", 2, nil, imageOf(1, bytesOf(64, 1)), saved{1, bytesOf(64, 1)}, 0},
	{"count 2, both", 2, imageOf(8, bytesOf(64, 1)), imageOf(9, bytesOf(64, 2)), saved{9, bytesOf(64, 2)}, 0},
	{"three bytes of a length, ahead", 1034, imageOf(1, long), nil, saved{1, long}, 1},
	{"three bytes of a length, behind", 1034, a5, imageOf(6, long), saved{6, long}, 0},
	{"data of zeros", 3, sectorsOf(head(1, 66)), nil, saved{1, make([]byte, 66)}, 1},
	{"data like heads", 3, sectorsOf(head(1, 128), head(9, 0), head(8, 64)), nil, saved{1, append(head(9, 0), head(8, 64)...)}, 1},
	// The chapter names what is asked of a head; of the bytes behind the data it asks nothing.
	{"no zeros behind the data", 3, sectorsOf(head(1, 5), full(6, 64), full(7, 64)), nil, saved{1, full(6, 5)}, 1},

	{"ahead the greater", 3, a5, imageOf(4, bytesOf(9, 4)), is5, 1},
	{"behind the greater", 3, imageOf(4, bytesOf(9, 4)), a5, is5, 0},
	{"ahead far greater", 3, a5, imageOf(1, bytesOf(9, 4)), is5, 1},
	{"alike", 3, a5, imageOf(5, bytesOf(9, 4)), is5, 1},
	{"alike, the one behind longer", 3, imageOf(5, bytesOf(9, 4)), a5, saved{5, bytesOf(9, 4)}, 1},
	{"alike, no data ahead", 3, imageOf(5, nil), a5, saved{5, nil}, 1},
	{"both 1", 3, imageOf(1, []byte("a")), imageOf(1, []byte("b")), saved{1, []byte("a")}, 1},
	{"both 2^62", 3, imageOf(lastSeq, []byte("a")), imageOf(lastSeq, []byte("b")), saved{lastSeq, []byte("a")}, 1},
	{"2^62 - 1 and 2^62", 3, imageOf(lastSeq-1, []byte("a")), imageOf(lastSeq, []byte("b")), saved{lastSeq, []byte("b")}, 0},
	{"2^62 and 2^62 - 1", 3, imageOf(lastSeq, []byte("a")), imageOf(lastSeq-1, []byte("b")), saved{lastSeq, []byte("a")}, 1},
	{"256 and 255", 3, imageOf(256, []byte("a")), imageOf(255, []byte("b")), saved{256, []byte("a")}, 1},
	{"255 and 256", 3, imageOf(255, []byte("a")), imageOf(256, []byte("b")), saved{256, []byte("b")}, 0},
	{"bytes of a Seq", 3, imageOf(0x0102030405060708, []byte("a")), imageOf(0x0102030405060709, []byte("b")), saved{0x0102030405060709, []byte("b")}, 0},
	{"bytes of a Seq, the other way", 3, imageOf(0x0201030405060708, []byte("a")), imageOf(0x0102030405060709, []byte("b")), saved{0x0201030405060708, []byte("a")}, 1},

	{"Seq 0 ahead", 3, sectorsOf(head(0, 0)), nil, none, 0},
	{"Seq 0 behind", 3, nil, sectorsOf(head(0, 0)), none, 0},
	{"Seq 0 in both", 3, sectorsOf(head(0, 5)), sectorsOf(head(0, 6)), none, 0},
	{"Seq 0 ahead of an image", 3, sectorsOf(head(0, 1)), a5, is5, 0},
	{"Seq 0 behind an image", 3, a5, sectorsOf(head(0, 1)), is5, 1},
	{"Seq 2^62 + 1 ahead", 3, sectorsOf(head(lastSeq+1, 0)), nil, none, 0},
	{"Seq 2^62 + 1 ahead of an image", 3, sectorsOf(head(lastSeq+1, 1)), a5, is5, 0},
	{"Seq 2^62 + 1 behind an image", 3, a5, sectorsOf(head(lastSeq+1, 1)), is5, 1},
	{"Seq 2^63 - 1", 3, a5, sectorsOf(head(1<<63-1, 1)), is5, 1},
	{"Seq 2^63", 3, a5, sectorsOf(head(1<<63, 1)), is5, 1},
	{"Seq 2^63 + 1", 3, sectorsOf(head(1<<63+1, 1)), a5, is5, 0},
	{"Seq 2^64 - 1", 3, sectorsOf(head(math.MaxUint64, 1)), nil, none, 0},

	{"a byte too many ahead", 3, sectorsOf(head(6, 129), full(1, 64), full(2, 64)), nil, none, 0},
	{"a byte too many behind", 3, nil, sectorsOf(head(6, 129), full(1, 64), full(2, 64)), none, 0},
	{"a byte too many ahead of an image", 3, sectorsOf(head(6, 129), full(1, 64), full(2, 64)), a5, is5, 0},
	{"a byte too many behind an image", 3, a5, sectorsOf(head(6, 129), full(1, 64), full(2, 64)), is5, 1},
	{"count 2, a byte too many", 2, sectorsOf(head(6, 65), full(1, 64)), sectorsOf(head(5, 64), full(2, 64)), saved{5, full(2, 64)}, 0},
	{"2^8 bytes", 3, sectorsOf(head(6, 1<<8)), a5, is5, 0},
	{"2^16 bytes", 3, sectorsOf(head(6, 1<<16)), a5, is5, 0},
	{"2^24 bytes", 3, sectorsOf(head(6, 1<<24)), a5, is5, 0},
	{"2^31 bytes", 3, sectorsOf(head(6, 1<<31)), a5, is5, 0},
	{"2^32 - 1 bytes", 3, a5, sectorsOf(head(6, math.MaxUint32)), is5, 1},

	{"another first byte ahead", 3, headed(with(head(6, 70), 0, 0x4A), a5), nil, none, 0},
	{"another first byte ahead of an image", 3, headed(with(head(6, 70), 0, 0x52), a5), a5, is5, 0},
	{"no first byte behind an image", 3, a5, headed(with(head(6, 70), 0, 0), a5), is5, 1},
	{"another last byte ahead of an image", 3, headed(with(head(6, 70), 63, 0xA5), a5), a5, is5, 0},
	{"no last byte ahead", 3, headed(with(head(6, 70), 63, 0), a5), nil, none, 0},
	{"no last byte behind an image", 3, a5, headed(with(head(6, 70), 63, 0), a5), is5, 1},
	{"not zeros at first", 3, headed(with(head(6, 70), 13, 1), a5), a5, is5, 0},
	{"not zeros in the middle", 3, a5, headed(with(head(6, 70), 40, 0xFF), a5), is5, 1},
	{"not zeros at last", 3, headed(with(head(6, 70), 62, 0x80), a5), nil, none, 0},
}

// laidPlace is a disk with the place on the sectors from 2 on, and heads of great images on those around it.
func (p place) laidPlace(t *testing.T) *disk.Disk {
	t.Helper()
	all := make([][]byte, 4+2*p.count)
	all[0], all[1] = full(0xC1, 64), head(lastSeq, 0)
	copy(all[2:], p.ahead)
	copy(all[2+p.count:], p.behind)
	all[2+2*p.count], all[3+2*p.count] = head(lastSeq, 0), full(0xC4, 64)
	return laid(t, len(all), all...)
}

func TestP5_1Load(t *testing.T) {
	for _, p := range places {
		t.Run(p.name, func(t *testing.T) {
			d := p.laidPlace(t)
			ahead := sectors(t, d)
			m := open(t, d, 2, p.count)
			says(t, m, p.image)
			arm(t, d, 0)
			says(t, m, p.image)
			says(t, open(t, d, 2, p.count), p.image)
			if d.Steps() > 0 {
				t.Fatalf("%d steps", d.Steps())
			}
			holds(t, d, ahead...)
		})
	}
}

// What stands in the two areas tells where a newer image goes; all else stays.
func TestP5_1SaveBesideWhatIsThere(t *testing.T) {
	for _, p := range places {
		if p.count > 100 {
			continue // so many sectors needn't be gone through once more
		}
		t.Run(p.name, func(t *testing.T) {
			for _, seq := range []int{p.image.seq + 1, p.image.seq + 77, lastSeq} {
				for _, n := range []int{0, 1, 64*p.count - 64} {
					if seq <= p.image.seq || seq > lastSeq {
						d := p.laidPlace(t)
						refused(t, d, open(t, d, 2, p.count), errnoOf(seq), seq, bytesOf(n, 9))
						continue
					}
					var m *image.Image
					inSteps(t, func() (*disk.Disk, func() api.Errno) {
						d := p.laidPlace(t)
						m = open(t, d, 2, p.count)
						return d, func() api.Errno {
							e := m.Save(seq, bytesOf(n, 9))
							if e != api.OK {
								says(t, m, counting(t, d, 2, p.count))
							}
							return e
						}
					}, stepsOf(2+p.to*p.count, seq, bytesOf(n, 9))...)
					says(t, m, saved{seq, bytesOf(n, 9)})
				}
			}
		})
	}
}

// errnoOf is why a Seq that isn't great enough, or is too great, is refused.
func errnoOf(seq int) api.Errno {
	if seq > lastSeq {
		return api.ErrRange
	}
	return api.ErrTwice
}

// Each byte of a head counts.
func TestP5_1LoadOfAHeadWithAnotherByte(t *testing.T) {
	for at := range api.Sector {
		if 1 <= at && at <= 12 {
			continue // another Seq, or another length
		}
		for bit := range 8 {
			for area := range 2 {
				b := head(9, 0)
				b[at] ^= 1 << bit
				d := laid(t, 4)
				write(t, d, 2*area, b)
				m := open(t, d, 0, 2)
				says(t, m, none)
				write(t, d, 2-2*area, head(8, 0))
				says(t, m, saved{8, nil})
				save(t, m, 10, []byte("x"))
				d = whole(d)
				says(t, open(t, d, 0, 2), saved{10, []byte("x")})
				var want [4][]byte
				copy(want[2*area:], imageOf(10, []byte("x")))
				copy(want[2-2*area:], imageOf(8, nil))
				holds(t, d, want[:]...)
			}
		}
	}
}

func TestP5_1SaveStepByStep(t *testing.T) {
	for _, count := range []int{2, 3, 5, 9} {
		for _, n := range []int{0, 1, 63, 64, 65, 127, 128, 129, 256, 511, 512} {
			if n > 64*(count-1) {
				continue
			}
			for times := range 4 { // images that were saved ahead
				for _, seq := range []int{times + 1, times + 500, lastSeq - 1, lastSeq} {
					at := 1 + times%2*count
					inSteps(t, func() (*disk.Disk, func() api.Errno) {
						d := laid(t, 2*count+2, full(0x77, 64))
						write(t, d, 2*count+1, full(0x78, 64))
						m := open(t, d, 1, count)
						for k := range times {
							save(t, m, k+1, bytesOf(64*(count-1)-k, byte(k)))
						}
						d.Flush()
						return d, func() api.Errno { return m.Save(seq, bytesOf(n, 9)) }
					}, stepsOf(at, seq, bytesOf(n, 9))...)
				}
			}
		}
	}
}

// Data of zeros are written like others, and zeros over zeros too.
func TestP5_1SaveOfZeros(t *testing.T) {
	inSteps(t, func() (*disk.Disk, func() api.Errno) {
		d := newDisk(t, 6)
		m := open(t, d, 0, 3)
		return d, func() api.Errno { return m.Save(3, make([]byte, 65)) }
	}, step{0, zeros}, flush, step{1, zeros}, step{2, zeros}, flush, step{0, head(3, 65)}, flush)
}

func TestP5_1SaveOfNoData(t *testing.T) {
	for _, data := range [][]byte{nil, {}, bytesOf(70, 1)[:0]} {
		inSteps(t, func() (*disk.Disk, func() api.Errno) {
			d := newDisk(t, 4)
			m := open(t, d, 0, 2)
			return d, func() api.Errno { return m.Save(1, data) }
		}, step{0, zeros}, flush, flush, step{0, head(1, 0)}, flush)
	}
}

// A shorter image leaves what stands behind its last sector, but not within it.
func TestP5_1SaveOverALongerOne(t *testing.T) {
	d := newDisk(t, 8)
	m := open(t, d, 0, 4)
	save(t, m, 1, bytesOf(192, 1))
	save(t, m, 2, bytesOf(192, 2))
	save(t, m, 3, bytesOf(65, 3))
	save(t, m, 4, nil)
	says(t, m, saved{4, nil})
	ahead := append(imageOf(3, bytesOf(65, 3)), bytesOf(192, 1)[128:])
	behind := append(imageOf(4, nil), cut(bytesOf(192, 2))...)
	holds(t, d, append(ahead, behind...)...)
}

func TestP5_1ByTurns(t *testing.T) {
	d := newDisk(t, 9)
	m := open(t, d, 1, 4)
	area := [2][][]byte{make([][]byte, 4), make([][]byte, 4)}
	for k, seq := range []int{1, 2, 3, 7, 8, 255, 256, 65536, 1 << 40, lastSeq - 1, lastSeq} {
		data := bytesOf(192-k, byte(k))
		save(t, m, seq, data)
		says(t, m, saved{seq, data})
		area[k%2] = imageOf(seq, data)
		holds(t, d, slices.Concat([][]byte{nil}, area[0], area[1])...)
		refused(t, d, m, api.ErrTwice, seq, []byte("again"))
		if seq > 1 {
			refused(t, d, m, api.ErrTwice, seq-1, []byte("elder"))
		}
		refused(t, d, m, api.ErrTwice, 1, nil)
		if k%3 == 0 {
			m = open(t, d, 1, 4)
		}
	}
	refused(t, d, m, api.ErrRange, lastSeq+1, nil)
}

func TestP5_1Refused(t *testing.T) {
	d := newDisk(t, 6)
	m := open(t, d, 0, 3)
	fits, tooLong := bytesOf(128, 1), bytesOf(129, 1)
	wrong := func(ahead api.Errno) {
		t.Helper()
		for _, data := range [][]byte{nil, fits, tooLong} {
			for _, seq := range []int{0, -1, math.MinInt, -lastSeq, lastSeq + 1, math.MaxInt} {
				refused(t, d, m, api.ErrRange, seq, data)
			}
		}
		was := load(t, m).seq
		for _, seq := range []int{1, was - 1, was} {
			if seq > 0 && seq <= was {
				refused(t, d, m, api.ErrTwice, seq, nil)
				refused(t, d, m, api.ErrTwice, seq, fits)
				refused(t, d, m, api.ErrTwice, seq, tooLong)
			}
		}
		for _, seq := range []int{was + 1, lastSeq} {
			refused(t, d, m, api.ErrLong, seq, tooLong)
			refused(t, d, m, api.ErrLong, seq, make([]byte, 5000))
			if ahead != api.OK {
				refused(t, d, m, ahead, seq, nil)
				refused(t, d, m, ahead, seq, fits)
			}
		}
	}
	for _, seq := range []int{1, 2, 3, 90} {
		wrong(api.OK)
		save(t, m, seq, fits)
	}
	wrong(api.OK)
	arm(t, d, 0)
	wrong(api.ErrDead)
	m = open(t, d, 0, 3)
	wrong(api.ErrDead)
}

// counting is the image that counts by what stands on the disk, said anew.
func counting(t *testing.T, d *disk.Disk, first, count int) saved {
	t.Helper()
	all := sectors(t, d)
	var best saved
	for _, at := range []int{first, first + count} {
		b, s, n := all[at], saved{}, 0
		for _, c := range b[1:9] {
			s.seq = s.seq*256 + int(c)
		}
		for _, c := range b[9:13] {
			n = n*256 + int(c)
		}
		isNumber := s.seq > 0 && (b[1] < 0x40 || s.seq == lastSeq)
		if isNumber && n <= 64*count-64 && bytes.Equal(b, head(uint64(s.seq), uint32(n))) && s.seq > best.seq {
			s.data = bytes.Join(all[at+1:at+count], nil)[:n]
			best = s
		}
	}
	return best
}

// What counts is what stands there: a Save whose head was written counts, also if the power goes ahead of its last flush.
func TestP5_1SaveThatWasCutOff(t *testing.T) {
	for k := range 8 {
		d := newDisk(t, 6)
		m := open(t, d, 0, 3)
		save(t, m, 4, bytesOf(80, 1))
		arm(t, d, k)
		want := saved{4, bytesOf(80, 1)}
		e := m.Save(5, bytesOf(128, 2))
		if k >= 6 {
			want = saved{5, bytesOf(128, 2)}
		}
		if (e == api.OK) != (k == 7) {
			t.Fatalf("behind %d steps: %d", k, e)
		}
		says(t, m, want)
		says(t, open(t, d, 0, 3), want)
		refused(t, d, m, api.ErrTwice, want.seq, nil)
		refused(t, d, m, api.ErrDead, 6, nil)
	}
}

// Two places on one disk don't touch each other's sectors; two that were opened on the same sectors are one.
func TestP5_1TwoPlaces(t *testing.T) {
	d := newDisk(t, 9)
	write(t, d, 4, head(3, 0))
	a, b, alsoA := open(t, d, 0, 2), open(t, d, 5, 2), open(t, d, 0, 2)
	save(t, a, 1, bytesOf(64, 1))
	save(t, b, 7, bytesOf(64, 2))
	save(t, alsoA, 2, bytesOf(64, 3))
	save(t, b, 8, bytesOf(64, 4))
	holds(t, d, slices.Concat(imageOf(1, bytesOf(64, 1)), imageOf(2, bytesOf(64, 3)), [][]byte{head(3, 0)}, imageOf(7, bytesOf(64, 2)), imageOf(8, bytesOf(64, 4)))...)
	refused(t, d, a, api.ErrTwice, 2, nil)
	save(t, a, 3, nil)
	says(t, alsoA, saved{3, nil})
	says(t, b, saved{8, bytesOf(64, 4)})
}

// pair is an image's place and its model: a disk of its own, on which the document's steps are done one by one.
type pair struct {
	t            *testing.T
	r            *rand.Rand
	d, other     *disk.Disk
	m            *image.Image
	first, count int
}

func (p *pair) reopen(first, count int) {
	p.t.Helper()
	want := api.OK
	if first < 0 || count < 2 || first+2*count > p.d.Size() {
		want = api.ErrRange
	}
	m, e := image.Open(p.d, first, count)
	if e != want || (m == nil) != (e != api.OK) {
		p.t.Fatalf("Open(%d, %d) of %d: %v, %d; want %d", first, count, p.d.Size(), m, e, want)
	}
	if e == api.OK {
		p.m, p.first, p.count = m, first, count
	}
}

// modelSave is the document's Save, said anew.
func (p *pair) modelSave(seq int, data []byte) api.Errno {
	was, at := counting(p.t, p.other, p.first, p.count), p.first
	if was.seq > 0 { // the area ahead has it, or the one behind
		b, _ := p.other.Read(p.first)
		if bytes.Equal(b, head(uint64(was.seq), uint32(len(was.data)))) {
			at += p.count
		}
	}
	switch {
	case seq <= 0 || seq > lastSeq:
		return api.ErrRange
	case seq <= was.seq:
		return api.ErrTwice
	case len(data) > 64*p.count-64:
		return api.ErrLong
	}
	return run(p.other, stepsOf(at, seq, data))
}

func (p *pair) crash() {
	keep := make([]bool, p.r.Intn(6))
	for k := range keep {
		keep[k] = p.r.Intn(2) == 0
	}
	torn, at := p.r.Intn(6), p.r.Intn(65)
	p.d, p.other = p.d.Crash(keep, torn, at), p.other.Crash(keep, torn, at)
	p.reopen(p.first, p.count)
}

// scribble writes heads and other things over sectors.
func (p *pair) scribble() {
	seq := counting(p.t, p.d, p.first, p.count).seq
	for range 1 + p.r.Intn(4) {
		i, b := p.r.Intn(p.d.Size()), zeros
		if p.r.Intn(2) == 0 {
			i = p.first + p.r.Intn(2)*p.count
		}
		switch p.r.Intn(4) {
		case 0:
			b = bytesOf(64, byte(p.r.Intn(256)))
		case 1, 2:
			b = head(uint64(seq-2+p.r.Intn(5)), uint32(p.r.Intn(5)*64))
		}
		p.d.Write(i, b)
		p.other.Write(i, b)
	}
	if p.r.Intn(2) == 0 {
		p.d.Flush()
		p.other.Flush()
	}
}

func (p *pair) save() {
	p.t.Helper()
	was, room := load(p.t, p.m).seq, 64*p.count-64
	seq := was + 1
	if p.r.Intn(3) == 0 {
		seq = []int{0, -1, 1, was, was - 1, was + 2, lastSeq - 1, lastSeq, lastSeq + 1}[p.r.Intn(9)]
	}
	n := []int{0, 1, 63, 64, 65, p.r.Intn(200), room, room + 1, p.r.Intn(room + 1)}[p.r.Intn(9)]
	data := bytesOf(n, byte(p.r.Intn(256)))
	if e, want := p.m.Save(seq, data), p.modelSave(seq, data); e != want {
		p.t.Fatalf("Save(%d, %d bytes): %d; want %d", seq, n, e, want)
	}
}

func (p *pair) call() {
	p.t.Helper()
	switch p.r.Intn(12) {
	case 0:
		n := p.r.Intn(12)
		p.d.Arm(n)
		p.other.Arm(n)
	case 1, 2:
		p.crash()
	case 3:
		p.scribble()
	case 4:
		p.reopen(p.r.Intn(p.d.Size()+2)-1, p.r.Intn(p.d.Size()/2+2))
	default:
		p.save()
	}
}

func TestP5_1ListsOfCalls(t *testing.T) {
	r := rand.New(rand.NewSource(5))
	for range 400 {
		n := 4 + r.Intn(16)
		p := &pair{t: t, r: r, d: newDisk(t, n), other: newDisk(t, n)}
		p.reopen(0, n/2)
		for range 60 {
			p.call()
			says(t, p.m, counting(t, p.other, p.first, p.count))
			if p.d.Steps() != p.other.Steps() {
				t.Fatalf("%d steps; want %d", p.d.Steps(), p.other.Steps())
			}
			twins(t, p.d, p.other)
		}
	}
}

// crashes goes through what the power may leave of a disk: of few sectors all, of many some; torn at each of them.
func crashes(d *disk.Disk, f func(c *disk.Disk)) {
	n := len(d.Unsure())
	var keeps [][]bool
	if n <= 4 {
		for set := range 1 << n {
			keep := make([]bool, n)
			for k := range keep {
				keep[k] = set>>k&1 == 1
			}
			keeps = append(keeps, keep)
		}
	} else {
		keeps = [][]bool{nil, slices.Repeat([]bool{true}, n), slices.Repeat([]bool{true, false}, n), slices.Repeat([]bool{true}, n/2), append(make([]bool, n/2), slices.Repeat([]bool{true}, n)...)}
	}
	for _, keep := range keeps {
		f(d.Crash(keep, -1, 0))
		for torn := range n {
			if torn < len(keep) && keep[torn] || n > 6 && torn%17 > 1 {
				continue
			}
			for _, at := range []int{1, 9, 12, 13, 63} {
				f(d.Crash(keep, torn, at))
			}
		}
	}
}

// scene is a place of areas of 4 sectors, from sector 1 on, what counts there, and images that are saved one behind the other.
type scene struct {
	name          string
	ahead, behind [][]byte
	first         saved
	images        []saved
}

var scenes = []scene{
	{"an image", nil, nil, none, []saved{{1, []byte("hello")}}},
	{"no data", nil, nil, none, []saved{{1, nil}, {2, nil}, {3, nil}}},
	{"the greatest Seq", nil, nil, none, []saved{{lastSeq - 1, bytesOf(64, 1)}, {lastSeq, bytesOf(65, 2)}}},
	{"by turns", nil, nil, none, []saved{{1, bytesOf(192, 1)}, {2, bytesOf(192, 2)}, {3, bytesOf(192, 3)}, {4, nil}, {9, bytesOf(1, 5)}}},
	{"data of zeros", nil, nil, none, []saved{{5, make([]byte, 192)}, {6, bytesOf(192, 1)}, {7, make([]byte, 192)}, {8, make([]byte, 130)}}},
	{"data like heads", nil, nil, none, []saved{{1, head(7, 0)}, {2, append(head(8, 0), head(9, 64)...)}, {3, head(lastSeq, 0)}, {4, head(5, 64)}}},
	{"alike", imageOf(5, []byte("a")), imageOf(5, []byte("b")), saved{5, []byte("a")}, []saved{{6, bytesOf(64, 1)}, {8, bytesOf(65, 2)}}},
	{"the one behind", nil, imageOf(5, bytesOf(192, 3)), saved{5, bytesOf(192, 3)}, []saved{{6, bytesOf(64, 1)}, {8, nil}}},
	{"what was torn", sectorsOf(with(head(9, 64), 63, 0), full(1, 64)), imageOf(5, []byte("b")), saved{5, []byte("b")}, []saved{{6, bytesOf(66, 1)}, {7, bytesOf(3, 2)}}},
	{"what is none", sectorsOf(full(0x5A, 64), full(1, 64), full(2, 64), full(3, 64)), sectorsOf(full(0x49, 64), full(5, 64), full(6, 64), full(7, 64)), none, []saved{{1, bytesOf(65, 1)}, {2, bytesOf(65, 1)}, {3, bytesOf(128, 1)}}},
}

func (s scene) disk(t *testing.T) *disk.Disk {
	t.Helper()
	all := make([][]byte, 10)
	all[0], all[9] = full(0xC1, 64), full(0xC9, 64)
	copy(all[1:], s.ahead)
	copy(all[5:], s.behind)
	return laid(t, 10, all...)
}

// play saves images till the power goes, behind so many steps: what counted ahead of the Save that was
// cut off, and what it would save; or the last image twice, and that all was done.
func play(t *testing.T, d *disk.Disk, ahead saved, images []saved, steps int) (saved, saved, bool) {
	t.Helper()
	m := open(t, d, 1, 4)
	arm(t, d, steps)
	for _, s := range images {
		says(t, m, ahead)
		switch e := m.Save(s.seq, s.data); e {
		case api.ErrDead:
			return ahead, s, false
		case api.OK:
			ahead = s
		default:
			t.Fatal(e)
		}
	}
	return ahead, ahead, true
}

// everyPower saves images with the power going at each step, and hands out each disk that may be left.
func everyPower(t *testing.T, fresh func() *disk.Disk, first saved, images []saved, f func(c *disk.Disk, ahead, behind saved)) {
	t.Helper()
	for steps, done := 0, false; !done; steps++ {
		d := fresh()
		var ahead, behind saved
		ahead, behind, done = play(t, d, first, images, steps)
		crashes(d, func(c *disk.Disk) { f(c, ahead, behind) })
	}
}

// oneOf opens a place again, and again, and checks that it is as it was, or as it would be.
func oneOf(t *testing.T, c *disk.Disk, ahead, behind saved) saved {
	t.Helper()
	got := load(t, open(t, c, 1, 4))
	if !got.same(ahead) && !got.same(behind) {
		t.Fatalf("%v; want %v, or %v", got, ahead, behind)
	}
	says(t, open(t, c, 1, 4), got)
	says(t, open(t, c.Crash(nil, -1, 0), 1, 4), got)
	if c.Steps() > 0 {
		t.Fatalf("it was opened with %d steps", c.Steps())
	}
	return got
}

func TestP5_2TheOneOrTheOther(t *testing.T) {
	for _, s := range scenes {
		t.Run(s.name, func(t *testing.T) {
			everyPower(t, func() *disk.Disk { return s.disk(t) }, s.first, s.images, func(c *disk.Disk, ahead, behind saved) {
				oneOf(t, c, ahead, behind)
				around := sectors(t, c)
				if !bytes.Equal(around[0], full(0xC1, 64)) || !bytes.Equal(around[9], full(0xC9, 64)) {
					t.Fatal("the sectors around it have changed")
				}
			})
		})
	}
}

// What is opened again goes on: a Save that isn't cut off counts, whatever the power left; and the power may go again.
func TestP5_2GoesOn(t *testing.T) {
	for _, s := range scenes {
		t.Run(s.name, func(t *testing.T) {
			everyPower(t, func() *disk.Disk { return s.disk(t) }, s.first, s.images, func(c *disk.Disk, ahead, behind saved) {
				was := oneOf(t, c, ahead, behind)
				if was.seq == lastSeq {
					return
				}
				next := []saved{{was.seq + 1, bytesOf(66, 7)}}
				everyPower(t, func() *disk.Disk { return c.Crash(nil, -1, 0) }, was, next, func(x *disk.Disk, ahead, behind saved) {
					oneOf(t, x, ahead, behind)
				})
			})
		})
	}
}

// A head that is torn, at whatever byte, is none, and the elder image is there whole.
func TestP5_2TornHead(t *testing.T) {
	for at := range api.Sector + 1 {
		for k := range 2 { // the zeros over the elder head, and the new head
			d := newDisk(t, 8)
			m := open(t, d, 0, 4)
			save(t, m, 1, bytesOf(100, 1))
			save(t, m, 2, bytesOf(192, 2))
			arm(t, d, []int{1, 6}[k])
			if e := m.Save(3, bytesOf(70, 3)); e != api.ErrDead {
				t.Fatal(e)
			}
			want := saved{2, bytesOf(192, 2)}
			if k == 1 && at == api.Sector {
				want = saved{3, bytesOf(70, 3)}
			}
			says(t, open(t, d.Crash(nil, 0, at), 0, 4), want)
		}
	}
}

// The power goes again and again, while images are saved: one that was saved with OK isn't lost.
func TestP5_2OverManyCrashes(t *testing.T) {
	r := rand.New(rand.NewSource(52))
	for range 200 {
		count := 2 + r.Intn(5)
		d, have := newDisk(t, 2*count), none
		for range 15 {
			arm(t, d, r.Intn(30))
			m, maybe, e := open(t, d, 0, count), none, api.OK
			says(t, m, have)
			for e == api.OK {
				maybe = saved{have.seq + 1 + r.Intn(3), bytesOf(r.Intn(64*count-63), byte(r.Intn(256)))}
				if e = m.Save(maybe.seq, maybe.data); e == api.OK {
					have = maybe
				}
			}
			if e != api.ErrDead {
				t.Fatal(e)
			}
			keep := make([]bool, len(d.Unsure()))
			for k := range keep {
				keep[k] = r.Intn(2) == 0
			}
			d = d.Crash(keep, r.Intn(len(keep)+1), r.Intn(65))
			got := load(t, open(t, d, 0, count))
			if !got.same(have) && !got.same(maybe) {
				t.Fatalf("%v; want %v or %v", got, have, maybe)
			}
			have = got
		}
	}
}

func TestP5_3SaveKeepsNothing(t *testing.T) {
	for _, n := range []int{0, 5, 64, 65, 256} {
		room := bytesOf(n+200, 1)
		ahead := bytes.Clone(room)
		d := newDisk(t, 10)
		m := open(t, d, 0, 5)
		save(t, m, 1, room[:n])
		if !bytes.Equal(room, ahead) {
			t.Errorf("Save changed what was handed in")
		}
		clear(room)
		says(t, m, saved{1, ahead[:n]})
		holds(t, d, imageOf(1, ahead[:n])...)
		save(t, m, 2, nil)
		holds(t, d, slices.Concat(imageOf(1, ahead[:n]), make([][]byte, 4-len(cut(ahead[:n]))), imageOf(2, nil))...)
	}
}

// A refused Save, too, leaves what is handed in, and keeps none of it.
func TestP5_3RefusedSaveLeavesTheBytes(t *testing.T) {
	for k := range 7 {
		room := bytesOf(400, 1)
		ahead := bytes.Clone(room)
		d := newDisk(t, 6)
		m := open(t, d, 0, 3)
		save(t, m, 3, room[:70])
		arm(t, d, k)
		m.Save(0, room[:100])
		m.Save(3, room[:100])
		m.Save(4, room[:129])
		if e := m.Save(4, room[1:101]); e != api.ErrDead {
			t.Fatal(e)
		}
		if !bytes.Equal(room, ahead) {
			t.Errorf("Save changed what was handed in")
		}
		stand := sectors(t, d)
		clear(room)
		holds(t, d, stand...)
		says(t, open(t, d.Crash(nil, -1, 0), 0, 3), saved{3, ahead[:70]})
	}
}

func TestP5_3LoadAnswersNewMemory(t *testing.T) {
	for _, n := range []int{0, 1, 63, 64, 65, 128} {
		for area := range 2 {
			d := newDisk(t, 6)
			m := open(t, d, 0, 3)
			for seq := 1; seq <= 1+area; seq++ {
				save(t, m, seq, bytesOf(n, 1))
			}
			stand, want := sectors(t, d), saved{1 + area, bytesOf(n, 1)}
			one, two := load(t, m), load(t, m)
			room := one.data[:cap(one.data)]
			for i := range room { // spare room too
				room[i] = ^room[i]
			}
			if !two.same(want) {
				t.Errorf("%v; want %v", two, want)
			}
			says(t, m, want)
			says(t, open(t, d, 0, 3), want)
			holds(t, d, stand...)
			holds(t, d.Crash(nil, -1, 0), stand...)
		}
	}
}

// What was answered stays, whatever is saved behind it.
func TestP5_3DataAreAsTheyWere(t *testing.T) {
	d := newDisk(t, 6)
	m := open(t, d, 0, 3)
	save(t, m, 1, bytesOf(70, 1))
	got := load(t, m)
	for seq := 2; seq < 6; seq++ {
		save(t, m, seq, full(0xFF, 128))
	}
	if !got.same(saved{1, bytesOf(70, 1)}) {
		t.Errorf("%v", got)
	}
}

// An image's place is on the disk that it was opened on, not on another one that is alike.
func TestP5_3OfItsDisk(t *testing.T) {
	d := newDisk(t, 4)
	m := open(t, d, 0, 2)
	save(t, m, 1, []byte("one"))
	other := d.Crash(nil, -1, 0)
	save(t, m, 2, []byte("two"))
	says(t, open(t, other, 0, 2), saved{1, []byte("one")})
	save(t, open(t, other, 0, 2), 9, nil)
	says(t, m, saved{2, []byte("two")})
}
