package log_test

import (
	"bytes"
	"math"
	"math/rand"
	"slices"
	"testing"

	"rhizome/api"
	"rhizome/disk"
	"rhizome/log"
)

const lastSeq = 1 << 62

var zeros = make([]byte, api.Sector)

// full is n bytes of one.
func full(c byte, n int) []byte { return bytes.Repeat([]byte{c}, n) }

// bytesOf is n bytes, none of them zero, that differ from place to place and by salt.
func bytesOf(n int, salt byte) []byte {
	b := make([]byte, n)
	for i := range b {
		b[i] = byte(i*7+i/api.Sector) + salt
		if b[i] == 0 {
			b[i] = 0xEE
		}
	}
	return b
}

// head is a head's sector, said anew, of any numbers.
func head(seq uint64, n uint16) []byte {
	b := []byte{0x52,
		byte(seq >> 56), byte(seq >> 48), byte(seq >> 40), byte(seq >> 32), byte(seq >> 24), byte(seq >> 16), byte(seq >> 8), byte(seq),
		byte(n >> 8), byte(n)}
	return append(b, append(make([]byte, 52), 0xA5)...)
}

// with is a sector with another byte.
func with(b []byte, at int, c byte) []byte {
	b = bytes.Clone(b)
	b[at] = c
	return b
}

// padded is a sector that begins with these bytes.
func padded(b []byte) []byte { return append(bytes.Clone(b), zeros[len(b):]...) }

// cut is data in sectors.
func cut(data []byte) [][]byte {
	var all [][]byte
	for c := range slices.Chunk(data, api.Sector) {
		all = append(all, padded(c))
	}
	return all
}

func newDisk(t *testing.T, n int) *disk.Disk {
	t.Helper()
	d, e := disk.New(n)
	if e != api.OK {
		t.Fatalf("New(%d): %d", n, e)
	}
	return d
}

// laid is a disk of n sectors whose first ones are these, all sure; nil is zeros.
func laid(t *testing.T, n int, sectors ...[]byte) *disk.Disk {
	t.Helper()
	d := newDisk(t, n)
	for i, b := range sectors {
		if b != nil {
			write(t, d, i, b)
		}
	}
	return d.Crash(slices.Repeat([]bool{true}, n), -1, 0)
}

func write(t *testing.T, d *disk.Disk, i int, b []byte) {
	t.Helper()
	if e := d.Write(i, b); e != api.OK {
		t.Fatalf("Write(%d): %d", i, e)
	}
}

func arm(t *testing.T, d *disk.Disk, n int) {
	t.Helper()
	if e := d.Arm(n); e != api.OK {
		t.Fatalf("Arm(%d): %d", n, e)
	}
}

// sectors is all that stands on a disk.
func sectors(t *testing.T, d *disk.Disk) [][]byte {
	t.Helper()
	var all [][]byte
	for i := range d.Size() {
		b, e := d.Read(i)
		if e != api.OK {
			t.Fatalf("Read(%d): %d", i, e)
		}
		all = append(all, b)
	}
	return all
}

// holds checks all sectors: nil, and those behind, are zeros.
func holds(t *testing.T, d *disk.Disk, want ...[]byte) {
	t.Helper()
	for i, b := range sectors(t, d) {
		w := zeros
		if i < len(want) && want[i] != nil {
			w = want[i]
		}
		if !bytes.Equal(b, w) {
			t.Errorf("sector %d: % x; want % x", i, b, w)
		}
	}
}

// twins checks that two disks are the same: what stands there, what is sure.
func twins(t *testing.T, d, want *disk.Disk) {
	t.Helper()
	if !slices.Equal(d.Unsure(), want.Unsure()) {
		t.Fatalf("Unsure: %v; want %v", d.Unsure(), want.Unsure())
	}
	holds(t, d, sectors(t, want)...)
	holds(t, d.Crash(nil, -1, 0), sectors(t, want.Crash(nil, -1, 0))...)
}

func open(t *testing.T, d *disk.Disk, first, count int) (*log.Log, []log.Record) {
	t.Helper()
	l, r, e := log.Open(d, first, count)
	if e != api.OK || l == nil {
		t.Fatalf("Open(%d, %d): %v, %d", first, count, l, e)
	}
	return l, r
}

func appendTo(t *testing.T, l *log.Log, data []byte) {
	t.Helper()
	if e := l.Append(data); e != api.OK {
		t.Fatalf("Append of %d bytes: %d", len(data), e)
	}
}

func reset(t *testing.T, l *log.Log, next int) {
	t.Helper()
	if e := l.Reset(next); e != api.OK {
		t.Fatalf("Reset(%d): %d", next, e)
	}
}

func same(a, b []log.Record) bool {
	return slices.EqualFunc(a, b, func(x, y log.Record) bool { return x.Seq == y.Seq && bytes.Equal(x.Data, y.Data) })
}

// says checks records.
func says(t *testing.T, got, want []log.Record) {
	t.Helper()
	if !same(got, want) {
		t.Fatalf("records %v; want %v", got, want)
	}
}

// tells checks Next and Room.
func tells(t *testing.T, l *log.Log, next, room int) {
	t.Helper()
	if l.Next() != next || l.Room() != room {
		t.Fatalf("Next %d, Room %d; want %d, %d", l.Next(), l.Room(), next, room)
	}
}

// refused checks that a log refuses it, with no step, and stays as it is.
func refused(t *testing.T, d *disk.Disk, l *log.Log, want api.Errno, call func() api.Errno) {
	t.Helper()
	steps, next, room, ahead := d.Steps(), l.Next(), l.Room(), sectors(t, d)
	if e := call(); e != want {
		t.Fatalf("%d; want %d", e, want)
	}
	if d.Steps() != steps {
		t.Fatalf("it was refused with %d steps", d.Steps()-steps)
	}
	tells(t, l, next, room)
	holds(t, d, ahead...)
}

// step is a Write of a sector, or a flush: no bytes.
type step struct {
	at int
	b  []byte
}

var flush = step{}

func run(d *disk.Disk, steps []step) api.Errno {
	for _, s := range steps {
		e := api.OK
		if s.b == nil {
			e = d.Flush()
		} else {
			e = d.Write(s.at, s.b)
		}
		if e != api.OK {
			return e
		}
	}
	return api.OK
}

// inSteps checks that a call makes just these steps of the disk, in their order: the power goes ahead
// of each of them, and at last not at all. A scene makes the disk, all of it sure, and the call, anew.
func inSteps(t *testing.T, scene func() (*disk.Disk, func() api.Errno), want ...step) {
	t.Helper()
	for k := range len(want) + 1 {
		d, call := scene()
		other, ahead, e := d.Crash(nil, -1, 0), d.Steps(), api.OK
		if k < len(want) {
			arm(t, d, k)
			e = api.ErrDead
		}
		if got := call(); got != e {
			t.Fatalf("behind %d steps of %d: %d; want %d", k, len(want), got, e)
		}
		if n := d.Steps() - ahead; n != k {
			t.Fatalf("%d steps; want %d", n, k)
		}
		if e := run(other, want[:k]); e != api.OK {
			t.Fatal(e)
		}
		twins(t, d, other)
	}
}

// appended is a scene of a log on sectors 1 to 1+count of a greater disk: what stands there, and a call of it.
func appended(t *testing.T, count int, data [][]byte, call func(l *log.Log) api.Errno) func() (*disk.Disk, func() api.Errno) {
	return func() (*disk.Disk, func() api.Errno) {
		d := newDisk(t, count+2)
		write(t, d, 0, full(0x77, api.Sector))
		write(t, d, count+1, full(0x78, api.Sector))
		d.Flush()
		l, _ := open(t, d, 1, count)
		for _, b := range data {
			appendTo(t, l, b)
		}
		next, room := l.Next(), l.Room()
		return d, func() api.Errno {
			e := call(l)
			if e != api.OK {
				tells(t, l, next, room)
			}
			return e
		}
	}
}

func TestP4_1Example(t *testing.T) {
	d := newDisk(t, 4)
	l, r := open(t, d, 0, 4)
	says(t, r, nil)
	tells(t, l, 1, 192)
	appendTo(t, l, []byte("hello"))
	if d.Steps() != 4 || len(d.Unsure()) != 0 {
		t.Errorf("Append: %d steps, unsure %v", d.Steps(), d.Unsure())
	}
	holds(t, d, []byte("\x52\x00\x00\x00\x00\x00\x00\x00\x01\x00\x05"+string(make([]byte, 52))+"\xa5"), padded([]byte("hello")))
	refused(t, d, l, api.ErrFull, func() api.Errno { return l.Append(bytesOf(65, 1)) })
	tells(t, l, 2, 64)
	appendTo(t, l, bytesOf(64, 1))
	tells(t, l, 3, -1)
	holds(t, d, head(1, 5), padded([]byte("hello")), head(2, 64), bytesOf(64, 1))
}

func TestP4_1ExampleStepByStep(t *testing.T) {
	inSteps(t, func() (*disk.Disk, func() api.Errno) {
		d := newDisk(t, 4)
		l, _ := open(t, d, 0, 4)
		return d, func() api.Errno { return l.Append([]byte("hello")) }
	}, step{1, padded([]byte("hello"))}, flush, step{0, head(1, 5)}, flush)
}

func TestP4_1OpenOfNoSectors(t *testing.T) {
	for _, n := range []int{1, 2, 5, api.MaxDisk} {
		d := laid(t, n, full(1, api.Sector))
		for dead := range 2 {
			for _, c := range [][2]int{
				{0, 1}, {0, 0}, {0, -1}, {0, -2}, {0, math.MinInt}, {n - 1, 1}, {n, 0}, {1, 1},
				{-1, 2}, {-1, n}, {-2, 2}, {-n, 2 * n}, {math.MinInt, 2}, {math.MinInt, math.MaxInt},
				{0, n + 1}, {1, n}, {n - 1, 2}, {n, 2}, {n + 1, 2}, {0, math.MaxInt}, {1, math.MaxInt},
				{math.MaxInt, 2}, {math.MaxInt, math.MaxInt}, {math.MaxInt, 1}, {n, math.MinInt},
			} {
				if l, r, e := log.Open(d, c[0], c[1]); l != nil || len(r) > 0 || e != api.ErrRange {
					t.Errorf("Open(%d, %d) of %d: %v, %v, %d; want ErrRange", c[0], c[1], n, l, r, e)
				}
			}
			if d.Steps() > 0 {
				t.Fatalf("%d steps", d.Steps())
			}
			if dead == 0 {
				arm(t, d, 0)
			}
		}
		holds(t, d, full(1, api.Sector))
	}
}

func TestP4_1OpenOfANewDisk(t *testing.T) {
	for _, c := range [][4]int{
		// sectors, first, count, room
		{2, 0, 2, 64}, {3, 0, 2, 64}, {3, 1, 2, 64}, {3, 0, 3, 128}, {64, 0, 63, 3968}, {64, 0, 64, 4000}, {65, 0, 65, 4000},
		{api.MaxDisk, 0, api.MaxDisk, 4000}, {api.MaxDisk, api.MaxDisk - 2, 2, 64},
	} {
		d := newDisk(t, c[0])
		l, r := open(t, d, c[1], c[2])
		says(t, r, nil)
		tells(t, l, 1, c[3])
		refused(t, d, l, api.ErrLong, func() api.Errno { return l.Append(make([]byte, 4001)) })
		if c[3] < 4000 {
			refused(t, d, l, api.ErrFull, func() api.Errno { return l.Append(make([]byte, c[3]+1)) })
			refused(t, d, l, api.ErrFull, func() api.Errno { return l.Append(make([]byte, 4000)) })
		}
		appendTo(t, l, bytesOf(c[3], 1))
		if _, r = open(t, d, c[1], c[2]); !same(r, []log.Record{{1, bytesOf(c[3], 1)}}) {
			t.Errorf("Open(%d, %d): %v", c[1], c[2], r)
		}
	}
}

// opens is a table's row: the sectors of a log, from sector 2 of its disk on, and how many of them its records have.
type opens struct {
	name    string
	sectors [][]byte
	records []log.Record
	end     int
}

func manySectors(n int, ahead []byte) [][]byte {
	return append([][]byte{ahead}, cut(bytesOf(n, 9))...)
}

var openings = []opens{
	{"nothing", [][]byte{nil, nil}, nil, 0},
	{"nothing at first", [][]byte{nil, head(1, 0), head(2, 0)}, nil, 0},
	{"no data", [][]byte{head(1, 0), nil}, []log.Record{{1, nil}}, 1},
	{"no data, twice", [][]byte{head(1, 0), head(2, 0)}, []log.Record{{1, nil}, {2, nil}}, 2},
	{"a byte", [][]byte{head(1, 1), padded([]byte{7})}, []log.Record{{1, []byte{7}}}, 2},
	{"64 bytes", [][]byte{head(1, 64), bytesOf(64, 1), head(2, 0)}, []log.Record{{1, bytesOf(64, 1)}, {2, nil}}, 3},
	{"65 bytes", [][]byte{head(1, 65), full(5, 64), padded([]byte{5}), head(2, 0)}, []log.Record{{1, full(5, 65)}, {2, nil}}, 4},
	{"data of zeros", [][]byte{head(1, 65), nil, nil, head(2, 3), nil, nil}, []log.Record{{1, make([]byte, 65)}, {2, make([]byte, 3)}}, 5},
	{"data like a head", [][]byte{head(4, 64), head(5, 0), head(5, 64), head(6, 0)}, []log.Record{{4, head(5, 0)}, {5, head(6, 0)}}, 4},
	{"data are there, a head isn't", [][]byte{head(1, 0), nil, bytesOf(64, 1), head(2, 0)}, []log.Record{{1, nil}}, 1},

	{"Seq 0", [][]byte{head(0, 0), head(1, 0)}, nil, 0},
	{"Seq 2", [][]byte{head(2, 0), head(3, 0)}, []log.Record{{2, nil}, {3, nil}}, 2},
	{"bytes of a Seq", [][]byte{head(0x0102030405060708, 0), nil}, []log.Record{{0x0102030405060708, nil}}, 1},
	{"Seq 2^62 - 1", [][]byte{head(lastSeq-1, 0), head(lastSeq, 1), full(1, 64)}, []log.Record{{lastSeq - 1, nil}, {lastSeq, []byte{1}}}, 3},
	{"Seq 2^62", [][]byte{head(lastSeq, 0), head(lastSeq+1, 0)}, []log.Record{{lastSeq, nil}}, 1},
	{"Seq 2^62 + 1", [][]byte{head(lastSeq+1, 0), nil}, nil, 0},
	{"Seq 2^63 - 1", [][]byte{head(1<<63-1, 0), nil}, nil, 0},
	{"Seq 2^63", [][]byte{head(1<<63, 0), nil}, nil, 0},
	{"Seq 2^63 + 1", [][]byte{head(1<<63+1, 0), nil}, nil, 0},
	{"Seq 2^64 - 1", [][]byte{head(math.MaxUint64, 0), head(0, 0)}, nil, 0},

	{"again the same Seq", [][]byte{head(5, 0), head(5, 0), head(6, 0)}, []log.Record{{5, nil}}, 1},
	{"a Seq that is two more", [][]byte{head(5, 0), head(7, 0), head(6, 0)}, []log.Record{{5, nil}}, 1},
	{"a Seq that is one less", [][]byte{head(5, 0), head(4, 0), head(6, 0)}, []log.Record{{5, nil}}, 1},
	{"Seq 1 behind 5", [][]byte{head(5, 0), head(6, 0), head(1, 0)}, []log.Record{{5, nil}, {6, nil}}, 2},
	{"Seq 0 behind 5", [][]byte{head(5, 0), head(0, 0), nil}, []log.Record{{5, nil}}, 1},
	{"over a byte of the Seq", [][]byte{head(255, 0), head(256, 0), head(257, 0)}, []log.Record{{255, nil}, {256, nil}, {257, nil}}, 3},
	{"a Seq of which a byte differs", [][]byte{head(5, 0), head(6+1<<32, 0), nil}, []log.Record{{5, nil}}, 1},

	{"4000 bytes", manySectors(4000, head(3, 4000)), []log.Record{{3, bytesOf(4000, 9)}}, 64},
	{"4001 bytes", manySectors(4000, head(3, 4001)), nil, 0},
	{"4096 bytes", manySectors(4096, head(3, 4096)), nil, 0},
	{"65535 bytes", manySectors(4096, head(3, 65535)), nil, 0},
	{"too many bytes behind a record", append([][]byte{head(2, 0)}, manySectors(4096, head(3, 4001))...), []log.Record{{2, nil}}, 1},
	{"256 bytes", manySectors(256, head(3, 256)), []log.Record{{3, bytesOf(256, 9)}}, 5},

	{"just within the log", [][]byte{head(1, 128), full(1, 64), full(2, 64)}, []log.Record{{1, append(full(1, 64), full(2, 64)...)}}, 3},
	{"a sector beyond", [][]byte{head(1, 129), full(1, 64), full(2, 64)}, nil, 0},
	{"a head at the last sector, with a byte", [][]byte{head(1, 0), head(2, 0), head(3, 1)}, []log.Record{{1, nil}, {2, nil}}, 2},
	{"a head at the last sector", [][]byte{head(1, 0), head(2, 0), head(3, 0)}, []log.Record{{1, nil}, {2, nil}, {3, nil}}, 3},
	{"far beyond", [][]byte{head(1, 4000), full(1, 64)}, nil, 0},

	{"another first byte", [][]byte{with(head(1, 0), 0, 0x53), head(2, 0)}, nil, 0},
	{"no first byte", [][]byte{with(head(1, 0), 0, 0), nil}, nil, 0},
	{"another last byte", [][]byte{with(head(1, 0), 63, 0xA4), head(2, 0)}, nil, 0},
	{"no last byte", [][]byte{with(head(1, 0), 63, 0), nil}, nil, 0},
	{"the second's last byte", [][]byte{head(1, 1), full(1, 64), with(head(2, 0), 63, 0x5A)}, []log.Record{{1, []byte{1}}}, 2},
	{"not zeros at first", [][]byte{with(head(1, 0), 11, 1), nil}, nil, 0},
	{"not zeros in the middle", [][]byte{with(head(1, 0), 40, 0xFF), nil}, nil, 0},
	{"not zeros at last", [][]byte{with(head(1, 0), 62, 0x80), nil}, nil, 0},
	// The chapter names what is asked of a head; of the bytes behind the data it asks nothing.
	{"no zeros behind the data", [][]byte{head(1, 5), full(6, 64), head(2, 0)}, []log.Record{{1, full(6, 5)}, {2, nil}}, 3},

	{"zeros between what isn't", [][]byte{nil, full(1, 64), nil, nil, head(1, 0), with(zeros, 63, 1)}, nil, 0},
	{"all behind isn't", [][]byte{head(9, 1), full(1, 64), with(zeros, 0, 1), with(zeros, 63, 0xA5), with(zeros, 31, 1)}, []log.Record{{9, []byte{1}}}, 2},
}

// laidLog is a disk with a log on the sectors from 2 on, with what isn't zero on the sectors around it.
func (o opens) laidLog(t *testing.T) *disk.Disk {
	t.Helper()
	around := [][]byte{full(0xC1, 64), head(1, 0)}
	all := append(append(around, o.sectors...), head(1, 0), full(0xC4, 64))
	return laid(t, len(all), all...)
}

// steps is what Open does, said anew.
func (o opens) steps() []step {
	var all []step
	for i, b := range o.sectors {
		if i >= o.end && b != nil {
			all = append(all, step{2 + i, zeros})
		}
	}
	if len(all) > 0 {
		all = append(all, flush)
	}
	return all
}

// room is what Room tells.
func (o opens) room() int {
	free := len(o.sectors) - o.end
	if free == 0 || o.next() > lastSeq {
		return -1
	}
	return min(64*free-64, 4000)
}

func (o opens) next() int {
	if len(o.records) == 0 {
		return 1
	}
	return o.records[len(o.records)-1].Seq + 1
}

func TestP4_1OpenReads(t *testing.T) {
	for _, o := range openings {
		t.Run(o.name, func(t *testing.T) {
			d := o.laidLog(t)
			l, r := open(t, d, 2, len(o.sectors))
			says(t, r, o.records)
			tells(t, l, o.next(), o.room())
			if n := len(o.steps()); d.Steps() != n {
				t.Fatalf("%d steps; want %d", d.Steps(), n)
			}
			_, r = open(t, d, 2, len(o.sectors))
			says(t, r, o.records)
			if n := len(o.steps()); d.Steps() != n {
				t.Fatalf("opened again with %d more steps", d.Steps()-n)
			}
		})
	}
}

func TestP4_1OpenStepByStep(t *testing.T) {
	for _, o := range openings {
		t.Run(o.name, func(t *testing.T) {
			inSteps(t, func() (*disk.Disk, func() api.Errno) {
				d := o.laidLog(t)
				return d, func() api.Errno {
					l, r, e := log.Open(d, 2, len(o.sectors))
					if e != api.OK && (l != nil || len(r) > 0) {
						t.Fatalf("beside %d: %v, %v", e, l, r)
					}
					return e
				}
			}, o.steps()...)
		})
	}
}

// Each byte of a head counts.
func TestP4_1OpenOfAHeadWithAnotherByte(t *testing.T) {
	for at := range api.Sector {
		if 1 <= at && at <= 10 {
			continue // another Seq, or more data
		}
		for bit := range 8 {
			b := head(1, 0)
			b[at] ^= 1 << bit
			d := laid(t, 3, head(1, 0), head(2, 0), head(3, 0))
			write(t, d, 0, b)
			d.Flush()
			_, r := open(t, d, 0, 3)
			says(t, r, nil)
			holds(t, d)
		}
	}
}

func TestP4_1OpenOfADeadDisk(t *testing.T) {
	d := laid(t, 4, head(3, 1), full(8, 64))
	arm(t, d, 0)
	l, r := open(t, d, 0, 4)
	says(t, r, []log.Record{{3, []byte{8}}})
	tells(t, l, 4, 64)
	l, r = open(t, d, 2, 2)
	says(t, r, nil)
	tells(t, l, 1, 64)
	if l, r, e := log.Open(d, 1, 3); l != nil || len(r) > 0 || e != api.ErrDead {
		t.Errorf("Open of what isn't zero: %v, %v, %d; want ErrDead", l, r, e)
	}
	holds(t, d, head(3, 1), full(8, 64))
}

func TestP4_1AppendStepByStep(t *testing.T) {
	for _, n := range []int{0, 1, 63, 64, 65, 127, 128, 129, 256, 3999, api.MaxRecord} {
		for _, ahead := range [][][]byte{nil, {nil}, {bytesOf(5, 1)}, {nil, bytesOf(64, 2), bytesOf(65, 3)}} {
			data, count, at := bytesOf(n, 4), 70, 1
			for _, b := range ahead {
				at += 1 + len(cut(b))
			}
			var want []step
			for i, b := range cut(data) {
				want = append(want, step{at + 1 + i, b})
			}
			want = append(want, flush, step{at, head(uint64(1+len(ahead)), uint16(n))}, flush)
			inSteps(t, appended(t, count, ahead, func(l *log.Log) api.Errno { return l.Append(data) }), want...)
		}
	}
}

func TestP4_1AppendFits(t *testing.T) {
	for _, c := range []struct {
		count int
		ahead []int
		room  int
	}{
		{2, nil, 64}, {2, []int{0}, 0}, {2, []int{1}, -1}, {2, []int{64}, -1}, {2, []int{0, 0}, -1},
		{3, nil, 128}, {3, []int{0}, 64}, {3, []int{64}, 0}, {3, []int{65}, -1}, {3, []int{0, 0}, 0}, {3, []int{0, 0, 0}, -1},
		{4, []int{5}, 64}, {63, nil, 3968}, {64, nil, 4000}, {64, []int{0}, 3968}, {65, []int{0}, 4000}, {100, nil, 4000},
		{66, []int{4000}, 64}, {128, []int{4000}, 4000}, {128, []int{4000, 4000}, -1}, {127, []int{4000}, 3968},
	} {
		d := newDisk(t, c.count+2)
		l, _ := open(t, d, 1, c.count)
		var want []log.Record
		for i, n := range c.ahead {
			appendTo(t, l, bytesOf(n, byte(i)))
			want = append(want, log.Record{Seq: i + 1, Data: bytesOf(n, byte(i))})
		}
		next := len(c.ahead) + 1
		tells(t, l, next, c.room)
		for _, n := range []int{4001, 5000, 65536} {
			refused(t, d, l, api.ErrLong, func() api.Errno { return l.Append(make([]byte, n)) })
		}
		for _, n := range []int{c.room + 1, c.room + 64, 4000} {
			if c.room < n && n <= api.MaxRecord {
				refused(t, d, l, api.ErrFull, func() api.Errno { return l.Append(make([]byte, n)) })
			}
		}
		if c.room >= 0 { // what just fits
			appendTo(t, l, bytesOf(c.room, 99))
			want = append(want, log.Record{Seq: next, Data: bytesOf(c.room, 99)})
		}
		_, r := open(t, d, 1, c.count)
		says(t, r, want)
	}
}

func TestP4_1ManyRecords(t *testing.T) {
	d := newDisk(t, api.MaxDisk)
	l, _ := open(t, d, 0, api.MaxDisk)
	var want []log.Record
	for l.Room() >= 0 {
		data := bytesOf(min(len(want)*13%200, l.Room()), byte(len(want)))
		want = append(want, log.Record{Seq: l.Next(), Data: data})
		appendTo(t, l, data)
	}
	refused(t, d, l, api.ErrFull, func() api.Errno { return l.Append(nil) })
	tells(t, l, len(want)+1, -1)
	l, r := open(t, d, 0, api.MaxDisk)
	says(t, r, want)
	tells(t, l, len(want)+1, -1)
	reset(t, l, 7)
	holds(t, d)
	tells(t, l, 7, 4000)
}

func TestP4_1NextAtItsEnd(t *testing.T) {
	for _, from := range []int{lastSeq - 1, lastSeq} {
		d := newDisk(t, 8)
		l, _ := open(t, d, 0, 8)
		reset(t, l, from)
		var want []log.Record
		for seq := from; seq <= lastSeq; seq++ {
			if l.Next() != seq || l.Room() < 0 {
				t.Fatalf("Next %d, Room %d", l.Next(), l.Room())
			}
			appendTo(t, l, []byte{1})
			want = append(want, log.Record{Seq: seq, Data: []byte{1}})
		}
		for range 2 {
			tells(t, l, lastSeq+1, -1)
			refused(t, d, l, api.ErrFull, func() api.Errno { return l.Append(nil) })
			refused(t, d, l, api.ErrFull, func() api.Errno { return l.Append([]byte{1}) })
			refused(t, d, l, api.ErrLong, func() api.Errno { return l.Append(make([]byte, 4001)) })
			var r []log.Record
			l, r = open(t, d, 0, 8)
			says(t, r, want)
		}
		reset(t, l, 1)
		tells(t, l, 1, 448)
		appendTo(t, l, nil)
		_, r := open(t, d, 0, 8)
		says(t, r, []log.Record{{1, nil}})
	}
}

func TestP4_1ResetOutside(t *testing.T) {
	d := newDisk(t, 8)
	l, _ := open(t, d, 0, 8)
	for range 3 {
		for _, n := range []int{0, -1, math.MinInt, lastSeq + 1, math.MaxInt} {
			refused(t, d, l, api.ErrRange, func() api.Errno { return l.Reset(n) })
		}
		appendTo(t, l, []byte{1})
	}
	arm(t, d, 0)
	refused(t, d, l, api.ErrRange, func() api.Errno { return l.Reset(0) })
}

// With no record there is no step: a dead disk doesn't refuse it.
func TestP4_1ResetOfNoRecord(t *testing.T) {
	d := newDisk(t, 4)
	l, _ := open(t, d, 0, 4)
	for _, n := range []int{1, 2, 77, lastSeq, 5} {
		inSteps(t, appended(t, 4, nil, func(l *log.Log) api.Errno { return l.Reset(n) }))
		reset(t, l, n)
		tells(t, l, n, 192)
	}
	appendTo(t, l, []byte("x"))
	reset(t, l, 9)
	steps := d.Steps()
	arm(t, d, 0)
	reset(t, l, 3)
	tells(t, l, 3, 192)
	if d.Steps() != steps {
		t.Errorf("%d steps", d.Steps()-steps)
	}
}

func TestP4_1ResetStepByStep(t *testing.T) {
	for _, sizes := range [][]int{{0}, {1}, {64}, {65}, {0, 0, 0}, {200, 0, 64, 1}, {0, 65, 0, 300}, {4000}, {4000, 4000}} {
		var data [][]byte
		var heads, others []step
		at := 1
		for i, n := range sizes {
			data = append(data, bytesOf(n, byte(i)))
			heads = append(heads, step{at, zeros})
			for range cut(data[i]) {
				at++
				others = append(others, step{at, zeros})
			}
			at++
		}
		want := append(append(append(heads, flush), others...), flush)
		for _, next := range []int{1, 44, lastSeq} {
			inSteps(t, appended(t, 130, data, func(l *log.Log) api.Errno {
				e := l.Reset(next)
				if e == api.OK {
					tells(t, l, next, 4000)
				}
				return e
			}), want...)
		}
	}
}

// Data of zeros are written, and reset, like others.
func TestP4_1DataOfZeros(t *testing.T) {
	data := [][]byte{make([]byte, 65)}
	inSteps(t, appended(t, 4, nil, func(l *log.Log) api.Errno { return l.Append(data[0]) }),
		step{2, zeros}, step{3, zeros}, flush, step{1, head(1, 65)}, flush)
	inSteps(t, appended(t, 4, data, func(l *log.Log) api.Errno { return l.Reset(1) }),
		step{1, zeros}, flush, step{2, zeros}, step{3, zeros}, flush)
}

func TestP4_1ResetOfALogThatWasOpened(t *testing.T) {
	sectors := [][]byte{head(6, 65), full(1, 64), full(2, 64), head(7, 0), head(8, 2), full(3, 64), nil}
	inSteps(t, func() (*disk.Disk, func() api.Errno) {
		d := laid(t, 8, sectors...)
		l, _ := open(t, d, 0, 7)
		appendTo(t, l, nil)
		return d, func() api.Errno { return l.Reset(10) }
	}, step{0, zeros}, step{3, zeros}, step{4, zeros}, step{6, zeros}, flush, step{1, zeros}, step{2, zeros}, step{5, zeros}, flush)
}

func TestP4_1ResetAndOn(t *testing.T) {
	d := newDisk(t, 5)
	l, _ := open(t, d, 0, 5)
	for next := 10; next < 30; next += 3 {
		appendTo(t, l, bytesOf(64, 1))
		appendTo(t, l, nil)
		tells(t, l, l.Next(), 64)
		reset(t, l, next)
		holds(t, d)
		tells(t, l, next, 256)
		appendTo(t, l, bytesOf(256, byte(next)))
		tells(t, l, next+1, -1)
		_, r := open(t, d, 0, 5)
		says(t, r, []log.Record{{next, bytesOf(256, byte(next))}})
		reset(t, l, 1)
	}
	reset(t, l, 5) // it is kept in the log alone
	l, r := open(t, d, 0, 5)
	says(t, r, nil)
	tells(t, l, 1, 256)
}

func TestP4_1DeadDisk(t *testing.T) {
	d := newDisk(t, 4)
	l, _ := open(t, d, 0, 4)
	appendTo(t, l, []byte{5})
	arm(t, d, 0)
	for range 2 {
		refused(t, d, l, api.ErrLong, func() api.Errno { return l.Append(make([]byte, 4001)) })
		refused(t, d, l, api.ErrFull, func() api.Errno { return l.Append(make([]byte, 65)) })
		refused(t, d, l, api.ErrDead, func() api.Errno { return l.Append(make([]byte, 64)) })
		refused(t, d, l, api.ErrDead, func() api.Errno { return l.Append(nil) })
		refused(t, d, l, api.ErrDead, func() api.Errno { return l.Reset(5) })
	}
	_, r := open(t, d, 0, 4)
	says(t, r, []log.Record{{1, []byte{5}}})
}

// Two logs on one disk don't touch each other's sectors.
func TestP4_1TwoLogs(t *testing.T) {
	d := newDisk(t, 9)
	write(t, d, 4, head(3, 0))
	a, _ := open(t, d, 0, 4)
	b, _ := open(t, d, 5, 4)
	appendTo(t, a, bytesOf(192, 1))
	appendTo(t, b, bytesOf(64, 2))
	appendTo(t, b, bytesOf(64, 3))
	reset(t, a, 4)
	holds(t, d, nil, nil, nil, nil, head(3, 0), head(1, 64), bytesOf(64, 2), head(2, 64), bytesOf(64, 3))
	appendTo(t, a, nil)
	reset(t, b, 9)
	holds(t, d, head(4, 0), nil, nil, nil, head(3, 0))
	tells(t, a, 5, 128)
	tells(t, b, 9, 192)
}

// model is the document's log, said anew: each call is the list of its steps.
type model struct {
	d            *disk.Disk
	first, count int
	records      []log.Record
	next         int
}

func (m *model) sector(i int) []byte {
	b, _ := m.d.Read(i)
	return b
}

// free is its sectors from its end on.
func (m *model) free() []int {
	at := m.first
	for _, r := range m.records {
		at += 1 + len(cut(r.Data))
	}
	var all []int
	for ; at < m.first+m.count; at++ {
		all = append(all, at)
	}
	return all
}

// record is what stands at its end, if one does.
func (m *model) record() (r log.Record, ok bool) {
	free := m.free()
	if len(free) == 0 {
		return r, false
	}
	b := m.sector(free[0])
	for at := 1; at <= 8; at++ {
		r.Seq = r.Seq*256 + int(b[at])
	}
	n := int(b[9])*256 + int(b[10])
	if b[1] >= 0x40 && r.Seq != lastSeq || r.Seq == 0 || n > 4000 || !bytes.Equal(b, head(uint64(r.Seq), uint16(n))) {
		return r, false
	}
	for _, i := range free[1:] {
		r.Data = append(r.Data, m.sector(i)...)
	}
	if len(r.Data) < n || len(m.records) > 0 && r.Seq != m.next {
		return r, false
	}
	r.Data = r.Data[:n]
	return r, true
}

func openModel(d *disk.Disk, first, count int) (*model, api.Errno) {
	if first < 0 || count < 2 || first+count > d.Size() {
		return nil, api.ErrRange
	}
	m := &model{d, first, count, nil, 1}
	for r, ok := m.record(); ok; r, ok = m.record() {
		m.records, m.next = append(m.records, r), r.Seq+1
	}
	var steps []step
	for _, i := range m.free() {
		if !bytes.Equal(m.sector(i), zeros) {
			steps = append(steps, step{i, zeros})
		}
	}
	if len(steps) > 0 {
		steps = append(steps, flush)
	}
	if e := run(d, steps); e != api.OK {
		return nil, e
	}
	return m, api.OK
}

func (m *model) append(data []byte) api.Errno {
	free := m.free()
	if len(data) > 4000 {
		return api.ErrLong
	}
	if m.next > lastSeq || len(free) < 1+len(cut(data)) {
		return api.ErrFull
	}
	var steps []step
	for k, b := range cut(data) {
		steps = append(steps, step{free[1+k], b})
	}
	steps = append(steps, flush, step{free[0], head(uint64(m.next), uint16(len(data)))}, flush)
	e := run(m.d, steps)
	if e == api.OK {
		m.records, m.next = append(m.records, log.Record{Seq: m.next, Data: bytes.Clone(data)}), m.next+1
	}
	return e
}

func (m *model) reset(next int) api.Errno {
	if next < 1 || next > lastSeq {
		return api.ErrRange
	}
	var heads, others []step
	at := m.first
	for _, r := range m.records {
		heads = append(heads, step{at, zeros})
		for range cut(r.Data) {
			at++
			others = append(others, step{at, zeros})
		}
		at++
	}
	var steps []step
	if len(heads) > 0 {
		steps = slices.Concat(heads, []step{flush}, others, []step{flush})
	}
	e := run(m.d, steps)
	if e == api.OK {
		m.records, m.next = nil, next
	}
	return e
}

func (m *model) room() int {
	free := len(m.free())
	if m.next > lastSeq || free == 0 {
		return -1
	}
	return min(4000, 64*(free-1))
}

// pair is a log and its model, each on a disk of its own, that go through the same calls.
type pair struct {
	t    *testing.T
	r    *rand.Rand
	d    *disk.Disk
	l    *log.Log
	m    *model
	size int
}

func (p *pair) reopen(first, count int) {
	p.t.Helper()
	l, records, e := log.Open(p.d, first, count)
	m, want := openModel(p.m.d, first, count)
	if e != want {
		p.t.Fatalf("Open(%d, %d) of %d: %d; want %d", first, count, p.size, e, want)
	}
	if e == api.OK {
		says(p.t, records, m.records)
		p.l, p.m = l, m
	} else if l != nil || len(records) > 0 {
		p.t.Fatalf("beside %d: %v, %v", e, l, records)
	}
}

// crash lets the power go; if the new Open is refused, it goes on with another one.
func (p *pair) crash() {
	keep := make([]bool, p.r.Intn(6))
	for k := range keep {
		keep[k] = p.r.Intn(2) == 0
	}
	torn, at := p.r.Intn(6), p.r.Intn(65)
	p.d, p.m.d = p.d.Crash(keep, torn, at), p.m.d.Crash(keep, torn, at)
	p.maybeArm(4)
	first, count := p.m.first, p.m.count
	p.reopen(first, count)
	if p.d.Arm(1000) == api.ErrDead {
		p.d, p.m.d = p.d.Crash(keep, torn, at), p.m.d.Crash(keep, torn, at)
		p.reopen(first, count)
	} else {
		p.m.d.Arm(1000)
	}
}

func (p *pair) maybeArm(n int) {
	if p.r.Intn(3) == 0 {
		n = p.r.Intn(n)
		p.d.Arm(n)
		p.m.d.Arm(n)
	}
}

// scribble writes heads and other things over sectors.
func (p *pair) scribble() {
	for range 1 + p.r.Intn(4) {
		i, b := p.r.Intn(p.size), zeros
		switch p.r.Intn(4) {
		case 0:
			b = bytesOf(64, byte(p.r.Intn(256)))
		case 1, 2:
			b = head(uint64(p.m.next-2+p.r.Intn(4)), uint16(p.r.Intn(4)*64))
		}
		p.d.Write(i, b)
		p.m.d.Write(i, b)
	}
	p.d.Flush()
	p.m.d.Flush()
	p.reopen(p.m.first, p.m.count)
}

func (p *pair) call() {
	p.t.Helper()
	switch p.r.Intn(12) {
	case 0:
		p.maybeArm(12)
	case 1:
		p.crash()
	case 2:
		p.scribble()
	case 3:
		p.reopen(p.r.Intn(p.size+2)-1, p.r.Intn(p.size+2))
	case 4:
		n := []int{0, -1, 1, 2, 77, lastSeq - 2, lastSeq - 1, lastSeq, lastSeq + 1}[p.r.Intn(9)]
		if e, want := p.l.Reset(n), p.m.reset(n); e != want {
			p.t.Fatalf("Reset(%d): %d; want %d", n, e, want)
		}
	default:
		n := []int{0, 1, 63, 64, 65, p.r.Intn(200), p.r.Intn(4100), p.m.room(), p.m.room() + 1}[p.r.Intn(9)]
		data := bytesOf(max(n, 0), byte(p.r.Intn(256)))
		if e, want := p.l.Append(data), p.m.append(data); e != want {
			p.t.Fatalf("Append of %d bytes: %d; want %d", n, e, want)
		}
	}
}

func TestP4_1ListsOfCalls(t *testing.T) {
	r := rand.New(rand.NewSource(4))
	for range 300 {
		n := 2 + r.Intn(12)
		if r.Intn(8) == 0 {
			n += 100
		}
		p := &pair{t: t, r: r, d: newDisk(t, n), m: &model{d: newDisk(t, n)}, size: n}
		p.reopen(0, n)
		for range 60 {
			p.call()
			tells(t, p.l, p.m.next, p.m.room())
			if p.d.Steps() != p.m.d.Steps() {
				t.Fatalf("%d steps; want %d", p.d.Steps(), p.m.d.Steps())
			}
			twins(t, p.d, p.m.d)
		}
	}
}

// crashes goes through what the power may leave of a disk: of few sectors all, of many some; torn at each of them.
func crashes(d *disk.Disk, f func(c *disk.Disk)) {
	n := len(d.Unsure())
	var keeps [][]bool
	if n <= 4 {
		for set := range 1 << n {
			keep := make([]bool, n)
			for k := range keep {
				keep[k] = set>>k&1 == 1
			}
			keeps = append(keeps, keep)
		}
	} else {
		keeps = [][]bool{nil, slices.Repeat([]bool{true}, n), slices.Repeat([]bool{true, false}, n), slices.Repeat([]bool{true}, n/2), append(make([]bool, n/2), slices.Repeat([]bool{true}, n)...)}
	}
	for _, keep := range keeps {
		f(d.Crash(keep, -1, 0))
		for torn := range n {
			if torn < len(keep) && keep[torn] || n > 6 && torn%17 > 1 {
				continue
			}
			for _, at := range []int{1, 8, 10, 11, 63} {
				f(d.Crash(keep, torn, at))
			}
		}
	}
}

// script is a list of calls of a log, and the records behind each; each is refused only as the power goes.
type script []call

type call struct {
	reset int // not 0: a Reset
	data  []byte
}

func (c call) on(l *log.Log) api.Errno {
	if c.reset > 0 {
		return l.Reset(c.reset)
	}
	return l.Append(c.data)
}

// behind is the records behind a call.
func (c call) behind(records []log.Record, next int) ([]log.Record, int) {
	if c.reset > 0 {
		return nil, c.reset
	}
	return append(slices.Clip(records), log.Record{Seq: next, Data: c.data}), next + 1
}

// mayBe tells whether a log may have these records, if the power went within a call.
func (c call) mayBe(ahead, behind, got []log.Record) bool {
	if c.reset == 0 {
		return same(got, ahead) || same(got, behind)
	}
	return len(got) <= len(ahead) && same(got, ahead[:len(got)])
}

// play goes through a script till the power goes, behind so many steps: what the log had ahead of the
// call that was cut off, and that call; or none, if all was done.
func (s script) play(t *testing.T, d *disk.Disk, count, steps int) (ahead, behind []log.Record, cut *call) {
	l, _ := open(t, d, 1, count)
	next := 1
	arm(t, d, steps)
	for _, c := range s {
		behind, next = c.behind(ahead, next)
		if e := c.on(l); e == api.ErrDead {
			return ahead, behind, &c
		} else if e != api.OK {
			t.Fatal(e)
		}
		if l.Next() != next {
			t.Fatalf("Next: %d; want %d", l.Next(), next)
		}
		ahead = behind
	}
	return ahead, ahead, nil
}

var scripts = []script{
	{{0, nil}},
	{{0, bytesOf(5, 1)}},
	{{0, bytesOf(64, 1)}, {0, bytesOf(65, 2)}},
	{{0, nil}, {0, nil}, {0, bytesOf(130, 3)}, {0, nil}},
	{{0, bytesOf(api.MaxRecord, 1)}, {0, bytesOf(1, 2)}},
	{{0, nil}, {1, nil}},
	{{0, bytesOf(65, 1)}, {7, nil}, {0, bytesOf(70, 2)}},
	{{0, bytesOf(1, 1)}, {0, nil}, {0, bytesOf(128, 2)}, {4, nil}, {0, nil}, {0, bytesOf(2, 3)}, {6, nil}},
	// Data that look like the next record's head.
	{{0, head(2, 0)}, {0, append(head(3, 0), head(2, 0)...)}, {1, nil}, {0, head(1, 64)}, {0, head(3, 0)}},
	{{0, slices.Concat(head(1, 64), head(2, 0), head(2, 64))}, {2, nil}, {0, head(3, 0)}, {3, nil}, {lastSeq, nil}, {0, head(1, 0)}},
}

// everyPower plays a script with the power going at each of its steps, and hands out each disk that may be left.
func everyPower(t *testing.T, s script, count int, f func(c *disk.Disk, ahead, behind []log.Record, cut *call)) {
	for steps, done := 0, false; !done; steps++ {
		d := laid(t, count+2, full(0xC1, 64))
		ahead, behind, cut := s.play(t, d, count, steps)
		done = cut == nil
		crashes(d, func(c *disk.Disk) { f(c, ahead, behind, cut) })
	}
}

func TestP4_2Whole(t *testing.T) {
	for _, s := range scripts {
		everyPower(t, s, 70, func(c *disk.Disk, ahead, behind []log.Record, cut *call) {
			_, got := open(t, c, 1, 70)
			if cut == nil {
				says(t, got, ahead)
			} else if !cut.mayBe(ahead, behind, got) {
				t.Fatalf("%v; want %v, or %v", got, ahead, behind)
			}
		})
	}
}

// What is opened again goes on: records more, whole, and a Reset.
func TestP4_2GoesOn(t *testing.T) {
	for _, s := range scripts {
		everyPower(t, s, 70, func(c *disk.Disk, ahead, behind []log.Record, cut *call) {
			l, got := open(t, c, 1, 70)
			if len(got) == 0 && l.Next() != 1 {
				t.Fatalf("Next: %d", l.Next())
			}
			if l.Next() > lastSeq {
				reset(t, l, 1)
				got = nil
			}
			got = append(got, log.Record{Seq: l.Next(), Data: bytesOf(66, 7)})
			appendTo(t, l, bytesOf(66, 7))
			l, again := open(t, c.Crash(nil, -1, 0), 1, 70)
			says(t, again, got)
			reset(t, l, 3)
			appendTo(t, l, nil)
		})
	}
}

// The power goes again and again, while records are appended: none is lost, none is there in part.
func TestP4_2OverManyCrashes(t *testing.T) {
	r := rand.New(rand.NewSource(42))
	for range 150 {
		n := 2 + r.Intn(30)
		d := newDisk(t, n)
		var have []log.Record
		for range 12 {
			arm(t, d, r.Intn(25))
			var maybe []log.Record
			wasReset := false
			l, got, e := log.Open(d, 0, n)
			if e == api.OK {
				says(t, got, have)
			}
			for e == api.OK {
				data := bytesOf(r.Intn(200), byte(r.Intn(256)))
				wasReset = len(data) > l.Room() || r.Intn(12) == 0
				if wasReset {
					if e = l.Reset(1 + r.Intn(50)); e == api.OK {
						have = nil
					}
					continue
				}
				maybe = append(slices.Clip(have), log.Record{Seq: l.Next(), Data: data})
				if e = l.Append(data); e == api.OK {
					have = maybe
				}
			}
			if e != api.ErrDead {
				t.Fatal(e)
			}
			keep := make([]bool, len(d.Unsure()))
			for k := range keep {
				keep[k] = r.Intn(2) == 0
			}
			d = d.Crash(keep, r.Intn(len(keep)+1), r.Intn(65))
			_, got = open(t, d.Crash(nil, -1, 0), 0, n)
			ok := same(got, have) || maybe != nil && same(got, maybe)
			if wasReset {
				ok = len(got) <= len(have) && same(got, have[:len(got)])
			}
			if !ok {
				t.Fatalf("%v; want %v or %v", got, have, maybe)
			}
			have = got
		}
	}
}

// againAndAgain opens a log with the power going at each step of Open, so deep, and checks that the records stay.
func againAndAgain(t *testing.T, c *disk.Disk, first, count int, want []log.Record, depth int) {
	whole := c.Crash(nil, -1, 0)
	_, got := open(t, whole, first, count)
	says(t, got, want)
	_, got = open(t, whole, first, count)
	says(t, got, want)
	if depth == 0 {
		return
	}
	for k := range whole.Steps() {
		d := c.Crash(nil, -1, 0)
		arm(t, d, k)
		if l, r, e := log.Open(d, first, count); l != nil || len(r) > 0 || e != api.ErrDead {
			t.Fatalf("Open behind %d steps: %v, %v, %d; want ErrDead", k, l, r, e)
		}
		crashes(d, func(x *disk.Disk) { againAndAgain(t, x, first, count, want, depth-1) })
	}
}

func TestP4_3AgainAndAgain(t *testing.T) {
	for _, s := range scripts {
		if len(s[0].data) > 1000 {
			continue // too many sectors to go through all
		}
		everyPower(t, s, 12, func(c *disk.Disk, ahead, behind []log.Record, cut *call) {
			_, want := open(t, c.Crash(nil, -1, 0), 1, 12)
			againAndAgain(t, c, 1, 12, want, 1)
		})
	}
}

func TestP4_3OpenOfAnySectors(t *testing.T) {
	for _, o := range openings {
		t.Run(o.name, func(t *testing.T) {
			depth := 2
			if len(o.steps()) > 4 {
				depth = 0 // too many sectors to go through all
			}
			againAndAgain(t, o.laidLog(t), 2, len(o.sectors), o.records, depth)
		})
	}
}

// A sector that a torn head would fall on is zero behind Open: its last byte doesn't make it whole.
func TestP4_3NothingIsLeftForATornHead(t *testing.T) {
	for at := range 64 {
		d := laid(t, 3, with(zeros, 63, 0xA5), with(zeros, at, 1))
		l, _ := open(t, d, 0, 3)
		holds(t, d)
		arm(t, d, 2)
		if e := l.Append(nil); e != api.ErrDead {
			t.Fatal(e)
		}
		_, r := open(t, d.Crash(nil, 0, 63), 0, 3)
		says(t, r, nil)
	}
}

func TestP4_4AppendKeepsNothing(t *testing.T) {
	for _, n := range []int{0, 5, 64, 65, 4000} {
		room := bytesOf(n+200, 1)
		ahead := bytes.Clone(room)
		d := newDisk(t, 70)
		l, _ := open(t, d, 0, 70)
		appendTo(t, l, room[:n])
		if !bytes.Equal(room, ahead) {
			t.Errorf("Append changed what was handed in")
		}
		clear(room)
		want := append([][]byte{head(1, uint16(n))}, cut(ahead[:n])...)
		holds(t, d, want...)
		appendTo(t, l, nil)
		_, r := open(t, d, 0, 70)
		says(t, r, []log.Record{{1, ahead[:n]}, {2, nil}})
	}
}

// A refused Append, too, leaves what is handed in.
func TestP4_4RefusedAppendLeavesTheBytes(t *testing.T) {
	room := bytesOf(5000, 1)
	ahead := bytes.Clone(room)
	d := newDisk(t, 4)
	l, _ := open(t, d, 0, 4)
	for left := 5; left >= 0; left-- {
		l.Append(room[:4001])
		l.Append(room[:193])
		l.Append(room[:left])
		d.Arm(2)
	}
	if !bytes.Equal(room, ahead) {
		t.Errorf("Append changed what was handed in")
	}
}

func TestP4_4OpenAnswersNewMemory(t *testing.T) {
	o := [][]byte{head(1, 65), full(1, 64), full(2, 64), head(2, 0), head(3, 64), full(3, 64), head(4, 5), full(4, 64)}
	want := []log.Record{{1, append(full(1, 64), 2)}, {2, nil}, {3, full(3, 64)}, {4, full(4, 5)}}
	for k := range want {
		d := laid(t, 12, o...)
		l, r := open(t, d, 0, 12)
		_, other := open(t, d, 0, 12)
		for i, b := range r[k].Data {
			r[k].Data[i] = ^b
		}
		room := r[k].Data[:cap(r[k].Data)]
		copy(room[len(r[k].Data):], full(0xFF, cap(room)))
		r[k].Seq = 99
		for i := range want { // it shares nothing with the others of the answer
			if i != k && !same(r[i:i+1], want[i:i+1]) {
				t.Errorf("record %d has changed beside record %d: %v", i, k, r[i])
			}
		}
		r = append(r[:1], log.Record{Seq: 98}, log.Record{Seq: 97})
		says(t, other, want)
		holds(t, d, o...)
		tells(t, l, 5, 192)
		appendTo(t, l, nil)
		holds(t, d, append(slices.Clone(o), head(5, 0))...)
		_, again := open(t, d, 0, 12)
		says(t, again, append(slices.Clone(want), log.Record{Seq: 5}))
		reset(t, l, 9) // it knows where its records are
		holds(t, d)
	}
}

// What was answered stays, whatever the log goes on to do.
func TestP4_4RecordsAreAsTheyWere(t *testing.T) {
	d := newDisk(t, 8)
	l, _ := open(t, d, 0, 8)
	appendTo(t, l, bytesOf(65, 1))
	appendTo(t, l, bytesOf(3, 2))
	want := []log.Record{{1, bytesOf(65, 1)}, {2, bytesOf(3, 2)}}
	l, r := open(t, d, 0, 8)
	appendTo(t, l, bytesOf(9, 3))
	says(t, r, want)
	reset(t, l, 5)
	appendTo(t, l, full(0xFF, 400))
	says(t, r, want)
}
