package disk_test

import (
	"bytes"
	"math"
	"math/rand"
	"slices"
	"testing"

	"trivet/api"
	"trivet/disk"
)

// model is a disk as the chapter's words say, byte by byte: what stands, what is read, and for each block whether it was written since.
type model struct {
	stands, read []byte
	written      []bool
}

func newModel(blocks int) *model {
	return &model{make([]byte, blocks*64), make([]byte, blocks*64), make([]bool, blocks)}
}

func (m *model) write(at int, b []byte) {
	for i, x := range b {
		m.read[at+i] = x
		m.written[(at+i)/64] = true
	}
}

func (m *model) dirty() int {
	n := 0
	for _, w := range m.written {
		if w {
			n++
		}
	}
	return n
}

func (m *model) sync() {
	copy(m.stands, m.read)
	clear(m.written)
}

func (m *model) crash(picks []int) {
	nth := 0
	for place, w := range m.written {
		if !w {
			continue
		}
		for i := range 64 {
			if nth >= len(picks) || i >= picks[nth] {
				m.read[place*64+i] = m.stands[place*64+i]
			}
		}
		nth++
	}
	m.sync()
}

// check holds a disk against its model: all that can be asked of it.
func (m *model) check(t *testing.T, d *disk.Disk, what string) {
	t.Helper()
	if d.Size() != len(m.read) {
		t.Fatalf("%s: Size %d; want %d", what, d.Size(), len(m.read))
	}
	if d.Dirty() != m.dirty() {
		t.Fatalf("%s: Dirty %d; want %d", what, d.Dirty(), m.dirty())
	}
	if b := mustRead(t, d, 0, d.Size()); !bytes.Equal(b, m.read) {
		t.Fatalf("%s: % x; want % x", what, b, m.read)
	}
}

func mustNew(t *testing.T, blocks int) *disk.Disk {
	t.Helper()
	d, err := disk.New(blocks)
	if err != nil || d == nil {
		t.Fatalf("New(%d): %v, %v", blocks, d, err)
	}
	return d
}

func mustRead(t *testing.T, d *disk.Disk, at, n int) []byte {
	t.Helper()
	b, err := d.Read(at, n)
	if err != nil || len(b) != n {
		t.Fatalf("Read(%d, %d): %d bytes, %v", at, n, len(b), err)
	}
	return b
}

func mustWrite(t *testing.T, d *disk.Disk, at int, b ...byte) {
	t.Helper()
	if err := d.Write(at, b); err != nil {
		t.Fatalf("Write(%d, %d bytes): %v", at, len(b), err)
	}
}

// run is so many bytes, none of which is 0, that tell where they belong.
func run(n int, seed byte) []byte {
	b := make([]byte, n)
	for i := range b {
		b[i] = 1 + (seed+byte(i))%250
	}
	return b
}

// P7.1: every number of blocks that may be, all of them 0 at first.
func TestNew(t *testing.T) {
	for blocks := 1; blocks <= 1024; blocks++ {
		d := mustNew(t, blocks)
		if d.Size() != blocks*64 || d.Dirty() != 0 {
			t.Fatalf("New(%d): Size %d, Dirty %d", blocks, d.Size(), d.Dirty())
		}
		if b := mustRead(t, d, 0, blocks*64); !bytes.Equal(b, make([]byte, blocks*64)) {
			t.Fatalf("New(%d): not all bytes are 0", blocks)
		}
	}
}

// P7.1, R3: other numbers of blocks, and no disk beside the error.
func TestNewWrong(t *testing.T) {
	for _, blocks := range []int{0, -1, -64, 1025, 1026, 2048, 65536, 1 << 32, 1<<58 + 1, math.MaxInt, math.MinInt, math.MinInt + 1} {
		if d, err := disk.New(blocks); err != api.ErrArg || d != nil {
			t.Errorf("New(%d): %v, %v; want ErrArg", blocks, d, err)
		}
	}
}

// P7.1: what is done to one disk isn't done to another.
func TestDisksAreApart(t *testing.T) {
	one, two := mustNew(t, 2), mustNew(t, 2)
	mustWrite(t, one, 60, run(8, 0)...)
	if two.Dirty() != 0 || !bytes.Equal(mustRead(t, two, 0, 128), make([]byte, 128)) {
		t.Error("a write is seen on another disk")
	}
	mustWrite(t, two, 0, 1)
	two.Sync()
	if one.Dirty() != 2 {
		t.Errorf("Dirty %d behind another disk's Sync; want 2", one.Dirty())
	}
	one.Crash(nil)
	if b := mustRead(t, two, 0, 1); b[0] != 1 {
		t.Error("a crash is seen on another disk")
	}
}

// P7.2, P7.1: each place and each length of three blocks: what was written is read at once, all else stays, and the blocks that hold a byte of it are written.
func TestWriteEverywhere(t *testing.T) {
	const blocks = 3
	under := run(blocks*64, 100)
	d, m := mustNew(t, blocks), newModel(blocks)
	for at := 0; at <= blocks*64; at++ {
		for n := 0; at+n <= blocks*64; n++ {
			mustWrite(t, d, 0, under...)
			m.write(0, under)
			d.Sync()
			m.sync()
			b := run(n, byte(at))
			mustWrite(t, d, at, b...)
			m.write(at, b)
			if d.Dirty() != m.dirty() || !bytes.Equal(mustRead(t, d, 0, blocks*64), m.read) || !bytes.Equal(mustRead(t, d, at, n), b) {
				t.Fatalf("Write(%d, %d bytes): Dirty %d, % x", at, n, d.Dirty(), mustRead(t, d, 0, blocks*64))
			}
		}
	}
}

// P7.2: each piece of the bytes that are there is read as it stands.
func TestReadEverywhere(t *testing.T) {
	d := mustNew(t, 3)
	all := run(192, 0)
	mustWrite(t, d, 0, all...)
	for at := 0; at <= 192; at++ {
		for n := 0; at+n <= 192; n++ {
			if b := mustRead(t, d, at, n); !bytes.Equal(b, all[at:at+n]) {
				t.Fatalf("Read(%d, %d): % x; want % x", at, n, b, all[at:at+n])
			}
		}
	}
	if d.Dirty() != 3 {
		t.Errorf("Dirty %d behind reading; want 3", d.Dirty())
	}
}

// P7.2: places that aren't there, and bytes beyond the end; nothing is done.
func TestWriteWrong(t *testing.T) {
	d, m := mustNew(t, 2), newModel(2)
	first := run(70, 0)
	mustWrite(t, d, 0, first...)
	m.write(0, first)
	d.Sync()
	m.sync()
	mustWrite(t, d, 3, 9)
	m.write(3, []byte{9})
	for _, x := range []struct{ at, n int }{
		{-1, 0}, {-1, 1}, {-1, 2}, {-64, 64}, {-64, 128}, {-128, 129}, {math.MinInt, 0}, {math.MinInt, 1}, {math.MinInt, 128},
		{129, 0}, {129, 1}, {192, 0}, {192, 64}, {math.MaxInt, 0}, {math.MaxInt, 1}, {math.MaxInt, 128}, {math.MaxInt - 1, 3},
		{128, 1}, {127, 2}, {127, 200}, {64, 65}, {63, 66}, {1, 128}, {0, 129}, {0, 1000},
	} {
		if err := d.Write(x.at, run(x.n, 50)); err != api.ErrArg {
			t.Errorf("Write(%d, %d bytes): %v; want ErrArg", x.at, x.n, err)
		}
		m.check(t, d, "behind a wrong write")
	}
	d.Crash(nil)
	m.crash(nil)
	m.check(t, d, "behind wrong writes and a crash")
}

// P7.2, R3: places that aren't there, bytes beyond the end, and fewer than none; no bytes beside the error.
func TestReadWrong(t *testing.T) {
	d, m := mustNew(t, 2), newModel(2)
	mustWrite(t, d, 0, run(128, 0)...)
	m.write(0, run(128, 0))
	for _, x := range []struct{ at, n int }{
		{-1, 0}, {-1, 1}, {-1, 2}, {-64, 64}, {math.MinInt, 0}, {math.MinInt, math.MaxInt}, {math.MinInt, math.MinInt},
		{129, 0}, {129, -1}, {math.MaxInt, 0}, {math.MaxInt, 1}, {math.MaxInt, math.MaxInt}, {math.MaxInt, math.MinInt},
		{128, 1}, {127, 2}, {64, 65}, {1, 128}, {0, 129}, {0, math.MaxInt}, {1, math.MaxInt}, {64, math.MaxInt - 63}, {128, math.MaxInt},
		{0, -1}, {0, math.MinInt}, {1, -1}, {64, -64}, {128, -1}, {128, -128}, {128, math.MinInt},
	} {
		if b, err := d.Read(x.at, x.n); err != api.ErrArg || b != nil {
			t.Errorf("Read(%d, %d): %d bytes, %v; want ErrArg", x.at, x.n, len(b), err)
		}
		m.check(t, d, "behind a wrong read")
	}
}

// P7.1: a block counts once, whatever is written on it, and no more behind a sync or a crash.
func TestDirty(t *testing.T) {
	d := mustNew(t, 4)
	for i, x := range []struct {
		at   int
		b    []byte
		want int
	}{
		{0, nil, 0}, {70, nil, 0}, {256, nil, 0}, {100, []byte{}, 0},
		{64, []byte{0}, 1}, {64, []byte{0}, 1}, {127, []byte{5}, 1}, {128, nil, 1}, {127, []byte{5, 6}, 2},
		{0, run(64, 0), 3}, {0, run(256, 0), 4}, {255, []byte{1}, 4},
	} {
		mustWrite(t, d, x.at, x.b...)
		if d.Dirty() != x.want {
			t.Errorf("Dirty behind write %d: %d; want %d", i, d.Dirty(), x.want)
		}
	}
	d.Sync()
	if d.Dirty() != 0 {
		t.Errorf("Dirty behind Sync: %d", d.Dirty())
	}
	mustWrite(t, d, 10, mustRead(t, d, 10, 100)...)
	if d.Dirty() != 2 {
		t.Errorf("Dirty behind a write of what is there: %d; want 2", d.Dirty())
	}
	d.Crash([]int{64})
	if d.Dirty() != 0 {
		t.Errorf("Dirty behind Crash: %d", d.Dirty())
	}
}

// P7.3: the chapter's example.
func TestExample(t *testing.T) {
	d := mustNew(t, 1)
	mustWrite(t, d, 0, 7, 8)
	d.Crash([]int{1})
	if b := mustRead(t, d, 0, 2); !bytes.Equal(b, []byte{7, 0}) {
		t.Errorf("%v; want 7 0", b)
	}
}

// P7.3: each pick for a block alone, from below none to above all, over bytes that stood and aren't 0.
func TestCrashPicks(t *testing.T) {
	stood, last := run(64, 0), run(64, 120)
	picks := []int{math.MinInt, math.MinInt + 1, -65, -64, -2, -1, 65, 66, 128, 1 << 32, math.MaxInt - 1, math.MaxInt}
	for pick := range 65 {
		picks = append(picks, pick)
	}
	for _, pick := range picks {
		d := mustNew(t, 1)
		mustWrite(t, d, 0, stood...)
		d.Sync()
		mustWrite(t, d, 0, last...)
		d.Crash([]int{pick})
		kept := max(0, min(64, pick))
		want := slices.Concat(last[:kept], stood[kept:])
		if b := mustRead(t, d, 0, 64); !bytes.Equal(b, want) {
			t.Errorf("Crash(%d): % x; want % x", pick, b, want)
		}
		d.Crash(nil)
		if b := mustRead(t, d, 0, 64); !bytes.Equal(b, want) {
			t.Errorf("Crash(%d) and another: % x; want % x", pick, b, want)
		}
	}
}

// P7.3: picks go to the written blocks alone, by rising places, in whatever order they were written; those that aren't there keep none, those that are too many are for none.
func TestCrashOrder(t *testing.T) {
	for _, order := range [][]int{{0, 2, 5, 9, 11}, {11, 9, 5, 2, 0}, {5, 0, 11, 2, 9}, {9, 11, 9, 0, 5, 2, 0}} {
		for _, picks := range [][]int{nil, {}, {64}, {0, 64}, {1, 2, 3}, {-1, 70, 0, 64}, {10, 20, 30, 40, 50}, {0, 0, 0, 0, 1}, {64, 64, 64, 64, 64, 64, 64}, {5, 5, 5, 5, 5, 64, 64, 64, 64, 64, 64, 64}} {
			d, m := mustNew(t, 12), newModel(12)
			mustWrite(t, d, 0, run(768, 0)...)
			m.write(0, run(768, 0))
			d.Sync()
			m.sync()
			for _, place := range order {
				b := run(64, byte(100+place))
				mustWrite(t, d, place*64, b...)
				m.write(place*64, b)
			}
			m.check(t, d, "ahead of the crash")
			d.Crash(picks)
			m.crash(picks)
			m.check(t, d, "behind the crash")
		}
	}
}

// P7.3: of what was written several times the last counts, and what stood is what was synced, or left by a crash, last.
func TestCrashLastWritten(t *testing.T) {
	d := mustNew(t, 1)
	mustWrite(t, d, 0, 1, 1, 1, 1)
	mustWrite(t, d, 1, 2, 2, 2)
	mustWrite(t, d, 2, 3)
	d.Crash([]int{3})
	if b := mustRead(t, d, 0, 5); !bytes.Equal(b, []byte{1, 2, 3, 0, 0}) {
		t.Errorf("%v; want 1 2 3 0 0", b)
	}
	mustWrite(t, d, 0, 4, 4, 4, 4, 4)
	mustWrite(t, d, 0, 5)
	d.Crash([]int{2})
	if b := mustRead(t, d, 0, 5); !bytes.Equal(b, []byte{5, 4, 3, 0, 0}) {
		t.Errorf("%v; want 5 4 3 0 0", b)
	}
	mustWrite(t, d, 0, 6, 6)
	d.Sync()
	mustWrite(t, d, 0, 7, 7)
	mustWrite(t, d, 0, 8, 8)
	d.Crash(nil)
	if b := mustRead(t, d, 0, 5); !bytes.Equal(b, []byte{6, 6, 3, 0, 0}) {
		t.Errorf("%v; want 6 6 3 0 0", b)
	}
}

// P7.3: with nothing written, neither a sync nor a crash changes a thing, whatever its picks.
func TestCrashOfNothing(t *testing.T) {
	d, m := mustNew(t, 2), newModel(2)
	d.Sync()
	d.Crash([]int{64, 64})
	m.check(t, d, "a new disk")
	mustWrite(t, d, 0, run(128, 7)...)
	m.write(0, run(128, 7))
	d.Sync()
	m.sync()
	mustWrite(t, d, 64)
	for _, picks := range [][]int{nil, {0}, {-1, 1}, {64, 64, 64}} {
		d.Crash(picks)
		d.Sync()
		m.check(t, d, "with nothing written")
	}
}

// somePicks are as many picks as come, most of them near the edges.
func somePicks(r *rand.Rand) []int {
	picks := make([]int, r.Intn(10))
	for i := range picks {
		picks[i] = [...]int{math.MinInt, -1, 0, 1, 63, 64, 65, math.MaxInt, r.Intn(64), r.Intn(64), r.Intn(64)}[r.Intn(11)]
	}
	return picks
}

// step does one thing to a disk and to its model, right or wrong.
func step(t *testing.T, r *rand.Rand, d *disk.Disk, m *model) string {
	switch r.Intn(8) {
	case 0:
		d.Sync()
		m.sync()
		return "Sync"
	case 1:
		picks := somePicks(r)
		d.Crash(picks)
		m.crash(picks)
		return "Crash"
	}
	at := r.Intn(d.Size()+20) - 10
	b := make([]byte, r.Intn(200))
	r.Read(b)
	there := at >= 0 && at+len(b) <= d.Size()
	if err := d.Write(at, b); (err == nil) != there || !there && err != api.ErrArg {
		t.Fatalf("Write(%d, %d bytes) of %d: %v", at, len(b), d.Size(), err)
	}
	if there {
		m.write(at, b)
	}
	return "Write"
}

// P7.1 to P7.3: long ways of doing, on disks of some sizes, held against the model at each step.
func TestAsTheModel(t *testing.T) {
	r := rand.New(rand.NewSource(7))
	for _, blocks := range []int{1, 2, 3, 5, 8, 17} {
		d, m := mustNew(t, blocks), newModel(blocks)
		for range 4000 {
			m.check(t, d, step(t, r, d, m))
		}
	}
}

// P7.3: the greatest disk, all of it written.
func TestGreatestDisk(t *testing.T) {
	d, m := mustNew(t, 1024), newModel(1024)
	for _, seed := range []byte{0, 90} {
		mustWrite(t, d, 0, run(65536, seed)...)
		m.write(0, run(65536, seed))
		if d.Dirty() != 1024 {
			t.Fatalf("Dirty %d; want 1024", d.Dirty())
		}
		picks := make([]int, 1023)
		for i := range picks {
			picks[i] = (i*int(seed) + 3*i) % 67
		}
		d.Crash(picks)
		m.crash(picks)
		m.check(t, d, "the greatest disk")
	}
}

// P7.5: what was synced is there behind every crash, whatever was written elsewhere, or is as it was once more where it was written over and none is kept.
func TestSyncedStays(t *testing.T) {
	r := rand.New(rand.NewSource(5))
	for range 300 {
		d := mustNew(t, 6)
		synced := run(100, byte(r.Intn(250)))
		mustWrite(t, d, 64, synced...)
		d.Sync()
		for range 4 {
			mustWrite(t, d, 192, run(1+r.Intn(192), byte(r.Intn(250)))...)
			mustWrite(t, d, r.Intn(64), 1)
			d.Crash(somePicks(r))
			if b := mustRead(t, d, 64, 100); !bytes.Equal(b, synced) {
				t.Fatalf("behind a crash: % x; want % x", b, synced)
			}
		}
		mustWrite(t, d, 64, run(100, byte(r.Intn(250)))...)
		d.Crash(nil)
		if b := mustRead(t, d, 64, 100); !bytes.Equal(b, synced) {
			t.Fatalf("behind a crash that keeps none: % x; want % x", b, synced)
		}
	}
}

// P7.5: a crash of all picks of 64 is a sync: of two disks to which the same is done, but for that, the same is read for ever.
func TestCrashOfAllIsSync(t *testing.T) {
	r := rand.New(rand.NewSource(3))
	d, other, m := mustNew(t, 7), mustNew(t, 7), newModel(7)
	for range 2000 {
		at := r.Intn(d.Size())
		b := make([]byte, r.Intn(d.Size()-at+1))
		r.Read(b)
		mustWrite(t, d, at, b...)
		mustWrite(t, other, at, b...)
		m.write(at, b)
		switch r.Intn(3) {
		case 0:
			d.Crash(slices.Repeat([]int{64}, 7))
			other.Sync()
			m.sync()
		case 1:
			picks := somePicks(r)
			d.Crash(picks)
			other.Crash(picks)
			m.crash(picks)
		}
		m.check(t, d, "crashes of all")
		m.check(t, other, "syncs")
	}
}

// P7.4, R2: what is handed in stays as it is, room behind it too, and is not kept; what is told is new memory.
func TestNothingIsKept(t *testing.T) {
	d := mustNew(t, 2)
	room := []byte{1, 2, 3, 77, 78}
	mustWrite(t, d, 62, room[:3]...)
	room[0], room[2] = 9, 9
	if b := mustRead(t, d, 62, 3); !bytes.Equal(b, []byte{1, 2, 3}) {
		t.Errorf("what was written is kept: %v; want 1 2 3", b)
	}
	d.Sync()
	if !bytes.Equal(room, []byte{9, 2, 9, 77, 78}) {
		t.Errorf("bytes handed in were changed: %v", room)
	}
	b := mustRead(t, d, 60, 4)
	b = append(b[:cap(b)], 50)
	for i := range b {
		b[i] = 60
	}
	if again := mustRead(t, d, 60, 6); !bytes.Equal(again, []byte{0, 0, 1, 2, 3, 0}) {
		t.Errorf("what was read is shared: %v", again)
	}
	none := mustRead(t, d, 62, 0)
	_ = append(none[:cap(none)], 50)
	old := mustRead(t, d, 62, 3)
	mustWrite(t, d, 62, 7, 7, 7)
	if !bytes.Equal(old, []byte{1, 2, 3}) {
		t.Errorf("a write changed what was read ahead of it: %v", old)
	}
	picks := []int{2, -7, 100, 5}
	d.Crash(picks[:2])
	if !slices.Equal(picks, []int{2, -7, 100, 5}) {
		t.Errorf("picks were changed: %v", picks)
	}
	if !bytes.Equal(old, []byte{1, 2, 3}) {
		t.Errorf("a crash changed what was read ahead of it: %v", old)
	}
	clear(picks)
	d.Crash(nil)
	if b := mustRead(t, d, 62, 3); !bytes.Equal(b, []byte{1, 2, 3}) {
		t.Errorf("behind both crashes: %v; want 1 2 3", b)
	}
}
