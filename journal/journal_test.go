package journal_test

import (
	"bytes"
	"encoding/binary"
	"math"
	"math/rand"
	"slices"
	"testing"

	"trivet/api"
	"trivet/disk"
	"trivet/journal"
)

// record is a record as it stands on a disk, as the chapter's words say.
func record(b []byte) []byte {
	h := binary.LittleEndian.AppendUint32(nil, uint32(len(b)))
	h = binary.LittleEndian.AppendUint32(h, ^uint32(len(b)))
	return append(h, b...)
}

// journalOf is the journal of all a disk's bytes, as the chapter's words say: its records, and the place behind them.
func journalOf(all []byte) ([][]byte, int) {
	var records [][]byte
	end := 0
	for len(all)-end > 8 {
		n := binary.LittleEndian.Uint32(all[end:])
		if n == 0 || n > 1024 || binary.LittleEndian.Uint32(all[end+4:])^n != math.MaxUint32 || int(n) > len(all)-end-8 {
			break
		}
		records = append(records, all[end+8:end+8+int(n)])
		end += 8 + int(n)
	}
	return records, end
}

// model is a journal and its disk, as the chapter's words say.
type model struct {
	d       *disk.Disk // done to by the model's own calls
	records [][]byte
	end     int
	spoilt  bool
}

func (m *model) open(t *testing.T) {
	t.Helper()
	all := mustRead(t, m.d, 0, m.d.Size())
	records, end := journalOf(all)
	m.records, m.end, m.spoilt = slices.Clone(records), end, false
	if zeros := make([]byte, len(all)-end); !bytes.Equal(all[end:], zeros) {
		mustWrite(t, m.d, end, zeros)
		m.d.Sync()
	}
}

func (m *model) free() int {
	if m.spoilt || m.d.Size() < m.end+8 {
		return 0
	}
	return min(m.d.Size()-m.end-8, 1024)
}

// want is what is told of appending b.
func (m *model) want(b []byte) error {
	if m.spoilt {
		return api.ErrState
	}
	if len(b) == 0 || len(b) > 1024 {
		return api.ErrArg
	}
	if len(b) > m.free() {
		return api.ErrFull
	}
	return nil
}

// do appends b up to a stage: 4 is all of it.
func (m *model) do(t *testing.T, b []byte, stage int) {
	t.Helper()
	mustWrite(t, m.d, m.end+8, b)
	if stage >= 2 {
		m.d.Sync()
	}
	if stage >= 3 {
		mustWrite(t, m.d, m.end, record(b)[:8])
	}
	if stage == 4 {
		m.d.Sync()
		m.records = append(m.records, slices.Clone(b))
		m.end += 8 + len(b)
	}
	m.spoilt = stage < 4
}

func mustDisk(t *testing.T, blocks int) *disk.Disk {
	t.Helper()
	d, err := disk.New(blocks)
	if err != nil {
		t.Fatalf("disk.New(%d): %v", blocks, err)
	}
	return d
}

func mustRead(t *testing.T, d *disk.Disk, at, n int) []byte {
	t.Helper()
	b, err := d.Read(at, n)
	if err != nil {
		t.Fatalf("Read(%d, %d): %v", at, n, err)
	}
	return b
}

func mustWrite(t *testing.T, d *disk.Disk, at int, b []byte) {
	t.Helper()
	if err := d.Write(at, b); err != nil {
		t.Fatalf("Write(%d, %d bytes): %v", at, len(b), err)
	}
}

func mustOpen(t *testing.T, d *disk.Disk) *journal.Journal {
	t.Helper()
	j, err := journal.Open(d)
	if err != nil || j == nil {
		t.Fatalf("Open: %v, %v", j, err)
	}
	return j
}

func mustAppend(t *testing.T, j *journal.Journal, b []byte) {
	t.Helper()
	if err := j.Append(b); err != nil {
		t.Fatalf("Append(%d bytes): %v", len(b), err)
	}
}

func mustStart(t *testing.T, j *journal.Journal, b []byte, stage int) {
	t.Helper()
	if err := j.Start(b, stage); err != nil {
		t.Fatalf("Start(%d bytes, %d): %v", len(b), stage, err)
	}
}

func sameRecords(a, b [][]byte) bool { return slices.EqualFunc(a, b, bytes.Equal) }

// check holds a journal and its disk against a model and its.
func (m *model) check(t *testing.T, j *journal.Journal, d *disk.Disk, what string) {
	t.Helper()
	if r := j.Records(); !sameRecords(r, m.records) {
		t.Fatalf("%s: Records %x; want %x", what, r, m.records)
	}
	if j.Free() != m.free() {
		t.Fatalf("%s: Free %d; want %d", what, j.Free(), m.free())
	}
	if d.Dirty() != m.d.Dirty() {
		t.Fatalf("%s: Dirty %d; want %d", what, d.Dirty(), m.d.Dirty())
	}
	if b, want := mustRead(t, d, 0, d.Size()), mustRead(t, m.d, 0, d.Size()); !bytes.Equal(b, want) {
		t.Fatalf("%s: the disk has\n% x; want\n% x", what, b, want)
	}
}

// run is so many bytes, none of which is 0, that tell where they belong.
func run(n int, seed byte) []byte {
	b := make([]byte, n)
	for i := range b {
		b[i] = 1 + (seed+byte(i))%250
	}
	return b
}

// The chapter's example.
func TestExample(t *testing.T) {
	d := mustDisk(t, 1)
	mustAppend(t, mustOpen(t, d), []byte{5})
	want := append([]byte{1, 0, 0, 0, 0xfe, 0xff, 0xff, 0xff, 5}, make([]byte, 55)...)
	if b := mustRead(t, d, 0, 64); !bytes.Equal(b, want) {
		t.Errorf("% x; want % x", b, want)
	}
}

// P8.1, R3: no disk, no journal.
func TestOpenNone(t *testing.T) {
	if j, err := journal.Open(nil); err != api.ErrArg || j != nil {
		t.Errorf("Open(nil): %v, %v; want ErrArg", j, err)
	}
}

// P8.1: an empty disk of each size holds no records, and isn't written.
func TestOpenEmpty(t *testing.T) {
	for blocks := 1; blocks <= 1024; blocks++ {
		d := mustDisk(t, blocks)
		j := mustOpen(t, d)
		if want := min(blocks*64-8, 1024); len(j.Records()) != 0 || j.Free() != want || d.Dirty() != 0 {
			t.Fatalf("%d blocks: %d records, Free %d, Dirty %d; want 0, %d, 0", blocks, len(j.Records()), j.Free(), d.Dirty(), want)
		}
	}
}

// P8.1, P8.2: a record of each size that may be, on a disk of 20 blocks: on it as the chapter says, synced, told now and by another opening.
func TestEachSize(t *testing.T) {
	for n := 1; n <= 1024; n++ {
		d := mustDisk(t, 20)
		j := mustOpen(t, d)
		b := run(n, byte(n))
		mustAppend(t, j, b)
		if all := mustRead(t, d, 0, 1280); d.Dirty() != 0 || !bytes.HasPrefix(all, record(b)) || len(bytes.TrimRight(all, "\x00")) != n+8 {
			t.Fatalf("%d bytes: Dirty %d, % x", n, d.Dirty(), all)
		}
		if want := min(1280-n-16, 1024); j.Free() != want {
			t.Fatalf("Free behind %d bytes: %d; want %d", n, j.Free(), want)
		}
		again := mustOpen(t, d)
		if !sameRecords(j.Records(), [][]byte{b}) || !sameRecords(again.Records(), [][]byte{b}) || again.Free() != j.Free() || d.Dirty() != 0 {
			t.Fatalf("%d bytes: Records %x, and opened again %x", n, j.Records(), again.Records())
		}
	}
}

// P8.1, P8.2: with each number of bytes left behind the journal: Free is what may be appended, and not a byte more.
func TestFreeAtTheEnd(t *testing.T) {
	for left := range 1100 {
		d := mustDisk(t, 20)
		j := mustOpen(t, d)
		fill := 1280 - left - 8
		if fill > 1024 {
			mustAppend(t, j, run(500, 1))
			fill -= 508
		}
		mustAppend(t, j, run(fill, 0))
		free := min(max(left-8, 0), 1024)
		if j.Free() != free || mustOpen(t, d).Free() != free {
			t.Fatalf("Free with %d bytes left: %d; want %d", left, j.Free(), free)
		}
		if free < 1024 {
			if err := j.Append(run(free+1, 0)); err != api.ErrFull {
				t.Fatalf("Append(%d bytes) with %d left: %v; want ErrFull", free+1, left, err)
			}
		}
		if free > 0 {
			mustAppend(t, j, run(free, 9))
			if r := mustOpen(t, d).Records(); !bytes.Equal(r[len(r)-1], run(free, 9)) || !sameRecords(r, j.Records()) {
				t.Fatalf("with %d bytes left: Records %x", left, r)
			}
		}
	}
}

// P8.1: the greatest disk, filled by the greatest records, and by the least.
func TestGreatestDisk(t *testing.T) {
	for _, n := range []int{1, 1024} {
		d, m := mustDisk(t, 1024), &model{d: mustDisk(t, 1024)}
		j := mustOpen(t, d)
		for j.Free() >= n {
			mustAppend(t, j, run(n, byte(len(m.records))))
			m.do(t, run(n, byte(len(m.records))), 4)
		}
		m.check(t, j, d, "the greatest disk")
		if want := 65536 / (n + 8); len(m.records) != want {
			t.Errorf("%d records of %d; want %d", len(m.records), n, want)
		}
		m.check(t, mustOpen(t, d), d, "the greatest disk, opened again")
	}
}

// P8.1: a disk's bytes that are a journal, and others that end one: bytes ahead of the fault are told, and all that stands behind becomes 0.
func TestOpenHeads(t *testing.T) {
	first := record([]byte{1, 2, 3})
	over := record(run(1025, 0))
	for _, x := range []struct {
		what string
		b    []byte
		want [][]byte
	}{
		{"one", first, [][]byte{{1, 2, 3}}},
		{"two", slices.Concat(first, record([]byte{0})), [][]byte{{1, 2, 3}, {0}}},
		{"0s as bytes", slices.Concat(first, record(make([]byte, 30)), record([]byte{7})), [][]byte{{1, 2, 3}, make([]byte, 30), {7}}},
		{"a record as bytes", record(first), [][]byte{first}},
		{"the greatest", slices.Concat(record(run(1024, 0)), first), [][]byte{run(1024, 0), {1, 2, 3}}},
		{"256, whose lowest byte is 0", record(run(256, 0)), [][]byte{run(256, 0)}},
		{"no byte", slices.Concat(record(nil), first), nil},
		{"no byte behind one", slices.Concat(first, record(nil), first), [][]byte{{1, 2, 3}}},
		{"one too many", over, nil},
		{"one too many behind one", slices.Concat(first, over), [][]byte{{1, 2, 3}}},
		{"a gap", slices.Concat(first, []byte{0}, first), [][]byte{{1, 2, 3}}},
		{"a gap first", slices.Concat([]byte{0}, first), nil},
		{"no bits turned", []byte{3, 0, 0, 0, 3, 0, 0, 0, 1, 2, 3}, nil},
		{"the highest first", []byte{0, 0, 0, 3, 255, 255, 255, 252, 1, 2, 3}, nil},
		{"turned ahead", []byte{252, 255, 255, 255, 3, 0, 0, 0, 1, 2, 3}, nil},
		{"-1", []byte{255, 255, 255, 255, 0, 0, 0, 0, 9}, nil},
		{"the least int32", []byte{0, 0, 0, 128, 255, 255, 255, 127, 9}, nil},
		{"65536 and 1", []byte{1, 0, 1, 0, 254, 255, 254, 255, 9}, nil},
		{"2^24 and 1", []byte{1, 0, 0, 1, 254, 255, 255, 254, 9}, nil},
		{"no head", []byte{9}, nil},
	} {
		d := mustDisk(t, 20)
		mustWrite(t, d, 0, x.b)
		d.Sync()
		if r := mustOpen(t, d).Records(); !sameRecords(r, x.want) {
			t.Errorf("%s: Records %x; want %x", x.what, r, x.want)
		}
		var kept []byte
		for _, b := range x.want {
			kept = append(kept, record(b)...)
		}
		if b := mustRead(t, d, 0, 1280); !bytes.Equal(b, append(kept, make([]byte, 1280-len(kept))...)) {
			t.Errorf("%s: the disk has % x", x.what, b)
		}
		if d.Dirty() != 0 {
			t.Errorf("%s: Dirty %d", x.what, d.Dirty())
		}
		if r := mustOpen(t, d).Records(); !sameRecords(r, x.want) {
			t.Errorf("%s: Records, opened again, %x; want %x", x.what, r, x.want)
		}
	}
}

// P8.1: a head with any one bit turned is none.
func TestOpenTurnedBit(t *testing.T) {
	for _, n := range []int{1, 3, 256, 1024} {
		for bit := range 64 {
			d := mustDisk(t, 20)
			b := record(run(n, 0))
			b[bit/8] ^= 1 << (bit % 8)
			mustWrite(t, d, 0, b)
			if r := mustOpen(t, d).Records(); len(r) != 0 {
				t.Errorf("%d bytes, bit %d: Records %x; want none", n, bit, r)
			}
			if !bytes.Equal(mustRead(t, d, 0, 1280), make([]byte, 1280)) {
				t.Errorf("%d bytes, bit %d: not all are 0", n, bit)
			}
		}
	}
}

// P8.1: a head near the disk's end, with room behind it, or not enough, or only a part of it there.
func TestOpenNoRoom(t *testing.T) {
	for at := 0; at <= 64; at++ {
		for n := 1; n <= 64; n++ {
			d := mustDisk(t, 2)
			all := run(128, 0)
			ahead := record(run(128-64+at-8, 7)) // ends at 64 + at
			copy(all, ahead)
			copy(all[64+at:], record(run(n, 3)))
			mustWrite(t, d, 0, all)
			want := [][]byte{ahead[8:]}
			if at+8+n <= 64 {
				want = append(want, run(n, 3))
			}
			if r := mustOpen(t, d).Records(); !sameRecords(r, want) {
				t.Fatalf("%d bytes at %d: Records %x; want %x", n, 64+at, r, want)
			}
		}
	}
}

// P8.1: one byte alone that isn't 0, at each place behind a journal; it, and what was written, is synced.
func TestOpenOneByte(t *testing.T) {
	for at := 20; at < 256; at++ {
		for _, x := range []byte{1, 128, 255} {
			d := mustDisk(t, 4)
			mustWrite(t, d, 0, record(run(12, 0)))
			mustWrite(t, d, at, []byte{x})
			j := mustOpen(t, d)
			want := append(record(run(12, 0)), make([]byte, 236)...)
			if d.Dirty() != 0 || !bytes.Equal(mustRead(t, d, 0, 256), want) || len(j.Records()) != 1 {
				t.Fatalf("%d at %d: Dirty %d, % x", x, at, d.Dirty(), mustRead(t, d, 0, 256))
			}
			d.Crash(nil)
			if !bytes.Equal(mustRead(t, d, 0, 256), want) {
				t.Fatalf("%d at %d: behind a crash % x", x, at, mustRead(t, d, 0, 256))
			}
		}
	}
}

// P8.1: with nothing but 0s behind, nothing is synced: what was written ahead of opening is read, and lost in a crash.
func TestOpenUnsynced(t *testing.T) {
	d := mustDisk(t, 2)
	mustWrite(t, d, 60, []byte{0})
	mustWrite(t, d, 0, record([]byte{4, 4}))
	j := mustOpen(t, d)
	if !sameRecords(j.Records(), [][]byte{{4, 4}}) || d.Dirty() != 1 {
		t.Errorf("Records %x, Dirty %d; want 0404, 1", j.Records(), d.Dirty())
	}
	d.Crash(nil)
	if r := mustOpen(t, d).Records(); len(r) != 0 {
		t.Errorf("behind a crash: Records %x; want none", r)
	}
	if !sameRecords(j.Records(), [][]byte{{4, 4}}) {
		t.Errorf("Records of what was opened ahead of the crash: %x; want 0404", j.Records())
	}
}

// P8.2: what may not be appended: nothing is done, on the disk nor to the journal.
func TestAppendWrong(t *testing.T) {
	d, m := mustDisk(t, 2), &model{d: mustDisk(t, 2)}
	j := mustOpen(t, d)
	mustAppend(t, j, run(50, 0))
	m.do(t, run(50, 0), 4)
	for _, x := range []struct {
		n    int
		want error
	}{{0, api.ErrArg}, {1025, api.ErrArg}, {2048, api.ErrArg}, {65536, api.ErrArg}, {63, api.ErrFull}, {64, api.ErrFull}, {128, api.ErrFull}, {1024, api.ErrFull}} {
		if err := j.Append(run(x.n, 0)); err != x.want {
			t.Errorf("Append(%d bytes): %v; want %v", x.n, err, x.want)
		}
		for _, stage := range []int{-1, 0, 1, 2, 3, 4, math.MinInt, math.MaxInt} {
			if err := j.Start(run(x.n, 0), stage); err != x.want {
				t.Errorf("Start(%d bytes, %d): %v; want %v", x.n, stage, err, x.want)
			}
		}
		m.check(t, j, d, "behind wrong records")
	}
	for _, b := range [][]byte{nil, {}} {
		if err := j.Append(b); err != api.ErrArg {
			t.Errorf("Append(%v): %v; want ErrArg", b, err)
		}
	}
	for _, stage := range []int{0, -1, 4, 5, 1 << 32, 1<<32 + 1, math.MinInt, math.MaxInt} {
		if err := j.Start(run(62, 0), stage); err != api.ErrArg {
			t.Errorf("Start(62 bytes, %d): %v; want ErrArg", stage, err)
		}
		m.check(t, j, d, "behind wrong stages")
	}
	mustAppend(t, j, run(62, 0))
	m.do(t, run(62, 0), 4)
	m.check(t, j, d, "behind all")
}

// P8.2: each stage writes and syncs what it is to, no more, and spoils the journal for good.
func TestStart(t *testing.T) {
	for ahead := range 130 {
		for stage := 1; stage <= 3; stage++ {
			d, m := mustDisk(t, 5), &model{d: mustDisk(t, 5)}
			j := mustOpen(t, d)
			if ahead > 0 {
				mustAppend(t, j, run(ahead, 0))
				m.do(t, run(ahead, 0), 4)
			}
			mustStart(t, j, run(70, 100), stage)
			m.do(t, run(70, 100), stage)
			m.check(t, j, d, "behind Start")
			for _, n := range []int{0, 1, 70, 1024, 1025} {
				if err := j.Append(run(n, 0)); err != api.ErrState {
					t.Fatalf("Append(%d bytes) of a spoilt one: %v; want ErrState", n, err)
				}
				for _, again := range []int{0, 1, 2, 3, 4} {
					if err := j.Start(run(n, 0), again); err != api.ErrState {
						t.Fatalf("Start(%d bytes, %d) of a spoilt one: %v; want ErrState", n, again, err)
					}
				}
			}
			m.check(t, j, d, "spoilt")
			d.Crash(nil)
			m.d.Crash(nil)
			m.check(t, j, d, "behind a crash")
			m.open(t)
			m.check(t, mustOpen(t, d), d, "opened again")
			if err := j.Append([]byte{1}); err != api.ErrState {
				t.Fatalf("Append of one that stays spoilt: %v; want ErrState", err)
			}
		}
	}
}

// P8.2: what is appended is synced, its bytes ahead of its head, and with them whatever was written.
func TestAppendSyncs(t *testing.T) {
	d := mustDisk(t, 4)
	j := mustOpen(t, d)
	mustWrite(t, d, 250, []byte{6})
	mustAppend(t, j, run(100, 0))
	mustAppend(t, j, []byte{8})
	if d.Dirty() != 0 {
		t.Errorf("Dirty %d; want 0", d.Dirty())
	}
	d.Crash(nil)
	if b := mustRead(t, d, 0, 251); !bytes.HasPrefix(b, slices.Concat(record(run(100, 0)), record([]byte{8}))) || b[250] != 6 {
		t.Errorf("behind a crash: % x", b)
	}
}

// P8.4: at each place of an Append, at each place of a block, each pair of picks: the records that were appended are there, and the one that was being appended is whole, or isn't there; opened twice it is as opened once.
func TestCrashInAppend(t *testing.T) {
	wholes := 0
	for ahead := 40; ahead <= 56; ahead++ { // its end is where the head begins: from 48 to 64
		for _, b := range [][]byte{{9}, {0}, run(12, 0), make([]byte, 12), record([]byte{5, 6})} {
			for stage := 1; stage <= 3; stage++ {
				for pick := range 65 * 3 {
					d := mustDisk(t, 2)
					j := mustOpen(t, d)
					mustAppend(t, j, run(ahead, 50))
					mustStart(t, j, b, stage)
					d.Crash([]int{pick % 65, pick / 65 * 32})
					again := mustOpen(t, d)
					r := again.Records()
					whole := len(r) == 2 && bytes.Equal(r[1], b)
					if len(r) < 1 || !bytes.Equal(r[0], run(ahead, 50)) || len(r) > 1 && !(whole && stage == 3) {
						t.Fatalf("%d bytes ahead, %x, stage %d, pick %d: Records %x", ahead, b, stage, pick, r)
					}
					if whole {
						wholes++
					}
					all := mustRead(t, d, 0, 128)
					_, end := journalOf(all)
					if !bytes.Equal(all[end:], make([]byte, 128-end)) {
						t.Fatalf("%d bytes ahead, %x, stage %d, pick %d: left behind % x", ahead, b, stage, pick, all[end:])
					}
					twice := mustOpen(t, d)
					if !sameRecords(twice.Records(), r) || twice.Free() != again.Free() || !bytes.Equal(mustRead(t, d, 0, 128), all) {
						t.Fatalf("%d bytes ahead, %x, stage %d, pick %d: Records %x, opened twice %x", ahead, b, stage, pick, r, twice.Records())
					}
					mustAppend(t, twice, []byte{77})
					if !sameRecords(mustOpen(t, d).Records(), append(r, []byte{77})) {
						t.Fatalf("%d bytes ahead, %x, stage %d, pick %d: Records behind another %x", ahead, b, stage, pick, mustOpen(t, d).Records())
					}
				}
			}
		}
	}
	if wholes == 0 {
		t.Error("none was ever whole")
	}
}

// P8.4: behind an Append, whatever a crash is to keep, it is there.
func TestCrashBehindAppend(t *testing.T) {
	for pick := range 65 {
		d := mustDisk(t, 2)
		j := mustOpen(t, d)
		mustAppend(t, j, run(50, 0))
		mustAppend(t, j, run(50, 1))
		d.Crash([]int{pick, 64 - pick})
		if r := mustOpen(t, d).Records(); !sameRecords(r, [][]byte{run(50, 0), run(50, 1)}) {
			t.Fatalf("pick %d: Records %x", pick, r)
		}
	}
}

// P8.4: what a crash left of a greater record isn't read behind a lesser one.
func TestLeftBehind(t *testing.T) {
	b := slices.Concat([]byte{1}, record([]byte{66}), record([]byte{67, 68}))
	for stage := 1; stage <= 3; stage++ {
		d := mustDisk(t, 2)
		mustStart(t, mustOpen(t, d), b, stage)
		d.Crash([]int{64, 64})
		again := mustOpen(t, d)
		ahead := again.Records()
		mustAppend(t, again, []byte{2})
		if r := mustOpen(t, d).Records(); !sameRecords(r, append(ahead, []byte{2})) {
			t.Errorf("stage %d: Records %x", stage, r)
		}
	}
}

// somePicks are as many picks as come, most of them near the edges.
func somePicks(r *rand.Rand) []int {
	picks := make([]int, r.Intn(6))
	for i := range picks {
		picks[i] = [...]int{-1, 0, 1, 63, 64, 65, r.Intn(64), r.Intn(64), r.Intn(64)}[r.Intn(9)]
	}
	return picks
}

// someBytes are a record's, of all sizes, some with 0s or heads in them.
func someBytes(r *rand.Rand) []byte {
	b := make([]byte, [...]int{0, 1, r.Intn(20), r.Intn(20), r.Intn(20), r.Intn(100), r.Intn(1100), 1024, 1025}[r.Intn(9)])
	switch r.Intn(4) {
	case 0:
	case 1:
		if len(b) > 0 {
			return bytes.Repeat(record([]byte{3}), 1+len(b)/9)
		}
	default:
		r.Read(b)
	}
	return b
}

// step does one thing to a journal on a disk and to its model, and tells what.
func step(t *testing.T, r *rand.Rand, j **journal.Journal, d *disk.Disk, m *model) string {
	t.Helper()
	b := someBytes(r)
	want := m.want(b)
	switch r.Intn(8) {
	case 0:
		picks := somePicks(r)
		d.Crash(picks)
		m.d.Crash(picks)
		fallthrough
	case 1:
		*j = mustOpen(t, d)
		m.open(t)
		return "Open"
	case 2:
		stage := r.Intn(5)
		if want == nil && (stage < 1 || stage > 3) {
			want = api.ErrArg
		}
		if err := (*j).Start(b, stage); err != want {
			t.Fatalf("Start(%d bytes, %d): %v; want %v", len(b), stage, err, want)
		}
		if want == nil {
			m.do(t, b, stage)
		}
		return "Start"
	}
	if err := (*j).Append(b); err != want {
		t.Fatalf("Append(%d bytes): %v; want %v", len(b), err, want)
	}
	if want == nil {
		m.do(t, b, 4)
	}
	return "Append"
}

// P8.1, P8.2, P8.4: long ways of doing, on disks of some sizes, held against the model at each step.
func TestAsTheModel(t *testing.T) {
	r := rand.New(rand.NewSource(8))
	for _, blocks := range []int{1, 2, 3, 5, 17, 60} {
		for range 60 {
			d, m := mustDisk(t, blocks), &model{d: mustDisk(t, blocks)}
			j := mustOpen(t, d)
			for range 60 {
				m.check(t, j, d, step(t, r, &j, d, m))
			}
		}
	}
}

// P8.1, P1: any bytes on a disk, and many of them nearly a journal's: opened as the model opens them.
func TestOpenAnything(t *testing.T) {
	r := rand.New(rand.NewSource(1))
	for range 5000 {
		d, m := mustDisk(t, 3), &model{d: mustDisk(t, 3)}
		all := make([]byte, 0, 400)
		for len(all) < 192 && r.Intn(8) > 0 {
			all = append(all, record(run(r.Intn(60), byte(r.Intn(250))))...)
		}
		all = append(all, make([]byte, 192)...)[:192]
		for range r.Intn(3) {
			all[r.Intn(192)] = byte(r.Intn(256))
		}
		cut := r.Intn(193)
		for _, x := range []*disk.Disk{d, m.d} {
			mustWrite(t, x, 0, all[:cut])
			x.Sync()
			mustWrite(t, x, cut, all[cut:])
		}
		m.open(t)
		m.check(t, mustOpen(t, d), d, "any bytes")
	}
}

// Journals on disks of their own are apart.
func TestJournalsAreApart(t *testing.T) {
	one, two := mustOpen(t, mustDisk(t, 2)), mustOpen(t, mustDisk(t, 2))
	mustAppend(t, one, []byte{1, 2})
	mustStart(t, one, []byte{3}, 3)
	if two.Free() != 120 || len(two.Records()) != 0 {
		t.Errorf("Free %d, Records %x of another journal; want 120, none", two.Free(), two.Records())
	}
	mustAppend(t, two, []byte{9})
	if !sameRecords(one.Records(), [][]byte{{1, 2}}) || !sameRecords(two.Records(), [][]byte{{9}}) {
		t.Errorf("Records %x and %x", one.Records(), two.Records())
	}
}

// P8.3, R2: what is handed in stays as it is, room behind it too, and is not kept; what is told is new memory.
func TestNothingIsKept(t *testing.T) {
	d := mustDisk(t, 2)
	j := mustOpen(t, d)
	room := []byte{1, 2, 3, 77, 78}
	mustAppend(t, j, room[:3])
	mustAppend(t, j, room[3:4])
	if !bytes.Equal(room, []byte{1, 2, 3, 77, 78}) {
		t.Errorf("bytes handed in were changed: %v", room)
	}
	clear(room)
	want := [][]byte{{1, 2, 3}, {77}}
	for _, x := range []*journal.Journal{j, mustOpen(t, d)} {
		told := x.Records()
		if !sameRecords(told, want) {
			t.Errorf("what was appended is kept: %v; want %v", told, want)
		}
		for i, b := range told {
			b = append(b[:cap(b)], 50)
			for k := range b {
				b[k] = 60
			}
			told[i] = append(told[i], 60)
			clear(told[i])
		}
		told = append(told[:cap(told)], []byte{1})
		clear(told)
		if again := x.Records(); !sameRecords(again, want) {
			t.Errorf("what was told is shared: %v; want %v", again, want)
		}
	}
	old := j.Records()
	mustAppend(t, j, []byte{5})
	mustWrite(t, d, 0, run(128, 0))
	if !sameRecords(old, want) || !sameRecords(j.Records(), append(want, []byte{5})) {
		t.Errorf("what was told is shared with the disk: %v, %v", old, j.Records())
	}
	start := []byte{6, 7, 8}
	mustStart(t, mustOpen(t, mustDisk(t, 1)), start[:2], 3)
	if !bytes.Equal(start, []byte{6, 7, 8}) {
		t.Errorf("bytes handed in were changed: %v", start)
	}
}
