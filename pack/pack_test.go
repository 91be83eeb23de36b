package pack_test

import (
	"bytes"
	"math"
	"math/big"
	"slices"
	"testing"

	"trivet/api"
	"trivet/pack"
)

// edges are numbers beside which a way of writing them is most likely to break: where a digit more begins, and the ends of all.
func edges() []int64 {
	l := []int64{0, 1, 2, 3, 100, 1000, 1_000_000, api.MaxCents}
	for bits := range 63 {
		at := int64(1) << bits
		l = append(l, at-2, at-1, at, at+1)
	}
	l = append(l, math.MaxInt64-2, math.MaxInt64-1, math.MaxInt64)
	for _, n := range slices.Clone(l) {
		l = append(l, -n, -n-1)
	}
	return l
}

// written is a number's bytes by exact arithmetic, as the chapter's words say.
func written(n int64) []byte {
	v := new(big.Int).Mul(big.NewInt(2), big.NewInt(n))
	if n < 0 {
		v.Neg(v).Sub(v, big.NewInt(1))
	}
	base, digit := big.NewInt(128), new(big.Int)
	var b []byte
	for {
		v.DivMod(v, base, digit)
		if v.Sign() == 0 {
			return append(b, byte(digit.Int64()))
		}
		b = append(b, 128+byte(digit.Int64()))
	}
}

// packed is a command's bytes, as the chapter's words say.
func packed(c api.Cmd) []byte {
	l := append([]int64{int64(c.Kind), c.Key, int64(c.Loan), int64(len(c.N))}, c.N...)
	var b []byte
	for _, n := range l {
		b = append(b, written(n)...)
	}
	return b
}

// read is what bytes come to, the other way about than the program: cut behind every byte that no other follows, then each piece by itself.
func read(b []byte) (api.Cmd, bool) {
	var l []int64
	for len(b) > 0 {
		end := slices.IndexFunc(b, func(x byte) bool { return x < 128 })
		if end < 0 {
			return api.Cmd{}, false
		}
		n, ok := readPiece(b[:end+1])
		if !ok {
			return api.Cmd{}, false
		}
		l = append(l, n)
		b = b[end+1:]
	}
	if len(l) < 4 || l[3] != int64(len(l)-4) || l[3] > api.MaxNumbers {
		return api.Cmd{}, false
	}
	return api.Cmd{Kind: int(l[0]), Key: l[1], Loan: int(l[2]), N: l[4:]}, true
}

func readPiece(b []byte) (int64, bool) {
	if len(b) > 1 && b[len(b)-1] == 0 {
		return 0, false
	}
	v := new(big.Int)
	for _, x := range slices.Backward(b) {
		v.Mul(v, big.NewInt(128)).Add(v, big.NewInt(int64(x%128)))
	}
	if v.BitLen() > 64 {
		return 0, false
	}
	odd := v.Bit(0) == 1
	v.Rsh(v, 1)
	if odd {
		v.Neg(v).Sub(v, big.NewInt(1))
	}
	return v.Int64(), true
}

func same(c, d api.Cmd) bool {
	return c.Kind == d.Kind && c.Key == d.Key && c.Loan == d.Loan && slices.Equal(c.N, d.N)
}

func mustPut(t *testing.T, c api.Cmd) []byte {
	t.Helper()
	b, err := pack.Put(c)
	if err != nil {
		t.Fatalf("Put(%v): %v", c, err)
	}
	return b
}

func checkPut(t *testing.T, c api.Cmd, want []byte) {
	t.Helper()
	if b := mustPut(t, c); !bytes.Equal(b, want) {
		t.Fatalf("Put(%v): % x; want % x", c, b, want)
	}
}

func checkGet(t *testing.T, b []byte, want api.Cmd) {
	t.Helper()
	c, err := pack.Get(b)
	if err != nil || !same(c, want) {
		t.Fatalf("Get(% x): %v, %v; want %v", b, c, err, want)
	}
}

// checkNone sees that bytes are none of a command, and that nothing is told beside the error (R3).
func checkNone(t *testing.T, b []byte) {
	t.Helper()
	c, err := pack.Get(b)
	if err != api.ErrForm {
		t.Fatalf("Get(% x): %v, %v; want ErrForm", b, c, err)
	}
	if !same(c, api.Cmd{}) {
		t.Fatalf("Get(% x): %v beside ErrForm", b, c)
	}
}

// commands are all sorts: each number of the head at the edges, every length of N, and edges in N.
func commands() []api.Cmd {
	var l []api.Cmd
	all := edges()
	for _, n := range all {
		l = append(l, api.Cmd{Kind: int(n)}, api.Cmd{Key: n}, api.Cmd{Loan: int(n)}, api.Cmd{N: []int64{n}})
	}
	for many := range api.MaxNumbers + 1 {
		for at := 0; at+many <= len(all); at += 7 {
			n := all[at : at+many]
			l = append(l, api.Cmd{Kind: many, Key: -all[at], Loan: int(all[len(all)-1-at]), N: n})
		}
	}
	return l
}

// P6.1: the chapter's example, and others written out by hand.
func TestPut(t *testing.T) {
	for _, x := range []struct {
		c    api.Cmd
		want []byte
	}{
		{api.Cmd{Kind: 2, Key: -1, Loan: 64, N: []int64{3}}, []byte{0x04, 0x01, 0x80, 0x01, 0x02, 0x06}},
		{api.Cmd{}, []byte{0, 0, 0, 0}},
		{api.Cmd{N: []int64{}}, []byte{0, 0, 0, 0}},
		{api.Cmd{Kind: 1, Key: 2, Loan: 3, N: []int64{4, 5}}, []byte{2, 4, 6, 4, 8, 10}},
		{api.Cmd{Kind: -1, Key: -2, Loan: -3, N: []int64{-4, -5}}, []byte{1, 3, 5, 4, 7, 9}},
		{api.Cmd{Kind: 63, Key: -64, Loan: -65}, []byte{0x7e, 0x7f, 0x81, 0x01, 0}},
		{api.Cmd{Kind: 8191, Key: 8192, Loan: -8192}, []byte{0xfe, 0x7f, 0x80, 0x80, 0x01, 0xff, 0x7f, 0}},
		{api.Cmd{N: make([]int64, 16)}, append([]byte{0, 0, 0, 32}, make([]byte, 16)...)},
		{api.Cmd{Key: math.MaxInt64}, []byte{0, 0xfe, 0xff, 0xff, 0xff, 0xff, 0xff, 0xff, 0xff, 0xff, 0x01, 0, 0}},
		{api.Cmd{Key: math.MinInt64}, []byte{0, 0xff, 0xff, 0xff, 0xff, 0xff, 0xff, 0xff, 0xff, 0xff, 0x01, 0, 0}},
		{api.Cmd{Kind: math.MinInt, Loan: math.MaxInt}, slices.Concat(
			[]byte{0xff, 0xff, 0xff, 0xff, 0xff, 0xff, 0xff, 0xff, 0xff, 0x01}, []byte{0},
			[]byte{0xfe, 0xff, 0xff, 0xff, 0xff, 0xff, 0xff, 0xff, 0xff, 0x01}, []byte{0})},
	} {
		checkPut(t, x.c, x.want)
	}
}

// P6.1: the bytes of all sorts of commands, whatever their kind, by exact arithmetic.
func TestPutIsAsWritten(t *testing.T) {
	for _, c := range commands() {
		checkPut(t, c, packed(c))
	}
	for n := range int64(70000) {
		checkPut(t, api.Cmd{Key: n, N: []int64{-n}}, packed(api.Cmd{Key: n, N: []int64{-n}}))
	}
}

// P6.1: sixteen numbers may be, more may not, whatever else the command is; R3: nothing is told beside the error.
func TestPutTooMany(t *testing.T) {
	for _, many := range []int{17, 18, 32, 64, 100, 1 << 16} {
		for _, kind := range []int{0, api.CmdBoard, api.CmdFee, -1, math.MaxInt} {
			b, err := pack.Put(api.Cmd{Kind: kind, Key: 1, Loan: 1, N: make([]int64, many)})
			if err != api.ErrArg || len(b) != 0 {
				t.Errorf("Put of %d numbers: % x, %v; want ErrArg", many, b, err)
			}
		}
	}
	for many := range api.MaxNumbers + 1 {
		mustPut(t, api.Cmd{Kind: -1, N: make([]int64, many)})
	}
}

// P6.2: commands written out by hand.
func TestGet(t *testing.T) {
	checkGet(t, []byte{0x04, 0x01, 0x80, 0x01, 0x02, 0x06}, api.Cmd{Kind: 2, Key: -1, Loan: 64, N: []int64{3}})
	checkGet(t, []byte{0, 0, 0, 0}, api.Cmd{})
	checkGet(t, []byte{1, 3, 5, 4, 7, 9}, api.Cmd{Kind: -1, Key: -2, Loan: -3, N: []int64{-4, -5}})
	checkGet(t, []byte{0x7e, 0x7f, 0x81, 0x01, 0}, api.Cmd{Kind: 63, Key: -64, Loan: -65})
	checkGet(t, append([]byte{0, 0, 0, 32}, make([]byte, 16)...), api.Cmd{N: make([]int64, 16)})
	greatest := []byte{0xfe, 0xff, 0xff, 0xff, 0xff, 0xff, 0xff, 0xff, 0xff, 0x01}
	least := []byte{0xff, 0xff, 0xff, 0xff, 0xff, 0xff, 0xff, 0xff, 0xff, 0x01}
	checkGet(t, slices.Concat(greatest, least, least, []byte{4}, least, greatest),
		api.Cmd{Kind: math.MaxInt, Key: math.MinInt64, Loan: math.MinInt, N: []int64{math.MinInt64, math.MaxInt64}})
}

// P6.2: bytes that are no command's: too few numbers, too many, too long ones, too great ones, counts that may not be.
func TestGetNone(t *testing.T) {
	full := append([]byte{0, 0, 0, 32}, make([]byte, 16)...)
	for _, b := range [][]byte{
		nil, {}, {0}, {0, 0}, {0, 0, 0},
		{0, 0, 0, 2}, {0, 0, 0, 4, 0}, {0, 0, 0, 32}, full[:19],
		{0, 0, 0, 0, 0}, {0, 0, 0, 2, 0, 0}, append(slices.Clone(full), 0),
		{0, 0, 0, 1}, {0, 0, 0, 1, 0}, {0, 0, 0, 3}, {0, 0, 0, 31}, {0, 0, 0, 33},
		append([]byte{0, 0, 0, 34}, make([]byte, 17)...),
		append([]byte{0, 0, 0, 36}, make([]byte, 18)...),
		append([]byte{0, 0, 0, 0x80, 0x01}, make([]byte, 64)...),
		{0x80}, {0, 0, 0, 0x80}, {0, 0, 0, 0xff}, {0, 0, 0, 0, 0x80}, {0, 0, 0, 2, 0x80}, {0, 0, 0, 2, 0xff, 0xff},
		bytes.Repeat([]byte{0x80}, 9), bytes.Repeat([]byte{0x80}, 10), bytes.Repeat([]byte{0xff}, 40), make([]byte, 40),
	} {
		checkNone(t, b)
	}
	for _, n := range []int64{-1, -2, 17, 18, 1 << 31, 1 << 32, math.MaxInt32, math.MinInt32, math.MaxInt64, math.MinInt64, math.MaxInt64 / 8} {
		checkNone(t, slices.Concat([]byte{0, 0, 0}, written(n)))
		checkNone(t, slices.Concat([]byte{0, 0, 0}, written(n), make([]byte, 17)))
	}
}

// P6.2: a number stands in as few bytes as can be, wherever it stands, and has room in 64 bits.
func TestGetWrongNumbers(t *testing.T) {
	high := func(many int, last ...byte) []byte {
		return append(bytes.Repeat([]byte{0xff}, many), last...)
	}
	low := func(many int, last ...byte) []byte {
		return append(bytes.Repeat([]byte{0x80}, many), last...)
	}
	wrong := [][]byte{
		{0x80, 0}, {0x81, 0}, {0x84, 0}, {0xff, 0}, {0x80, 0x80, 0}, {0x80, 0x81, 0}, {0x81, 0x80, 0},
		high(9, 0), high(9, 2), high(9, 3), high(9, 4), high(9, 0x7f), high(9, 0x80), high(9, 0x81), high(9, 0x80, 0), high(9, 0x81, 0),
		low(9, 0), low(9, 2), low(9, 4), low(9, 0x40), low(9, 0x7e), low(9, 0x80, 0), low(9, 0x81, 0), low(10, 1), low(63, 1), low(64, 1), low(128, 1),
		high(10, 1), high(10, 0x7f), high(11, 1), high(63, 1),
	}
	for many := 1; many < 9; many++ {
		wrong = append(wrong, high(many, 0), low(many, 0))
	}
	for _, w := range wrong {
		for _, b := range [][]byte{
			slices.Concat(w, []byte{0, 0, 0}),
			slices.Concat([]byte{0}, w, []byte{0, 0}),
			slices.Concat([]byte{0, 0}, w, []byte{0}),
			slices.Concat([]byte{0, 0, 0}, w),
			slices.Concat([]byte{0, 0, 0}, w, []byte{0}),
			slices.Concat([]byte{0, 0, 0, 2}, w),
			slices.Concat([]byte{0, 0, 0, 4}, w, []byte{0}),
			slices.Concat([]byte{0, 0, 0, 4, 0}, w),
		} {
			checkNone(t, b)
		}
	}
}

// P6.2, P6.4: all bytes of some kinds, up to eight: what isn't a command's is told so, what is comes to that command and is put as those bytes.
func TestGetAllShort(t *testing.T) {
	kinds := []byte{0x00, 0x01, 0x02, 0x04, 0x7f, 0x80, 0xff}
	found := 0
	for size := range 8 {
		places := make([]int, size)
		b := make([]byte, size)
		for more := true; more; more = next(places, len(kinds)) {
			for i, p := range places {
				b[i] = kinds[p]
			}
			want, ok := read(b)
			if !ok {
				checkNone(t, b)
				continue
			}
			found++
			checkGet(t, b, want)
			checkPut(t, want, b)
		}
	}
	if found < 1000 {
		t.Errorf("%d commands found; want many", found)
	}
}

// next counts places on by one, and tells whether it isn't at the start again.
func next(places []int, kinds int) bool {
	for i := range places {
		places[i]++
		if places[i] < kinds {
			return true
		}
		places[i] = 0
	}
	return false
}

// P6.4: what was put is got as it was, and put as those bytes again.
func TestPutIsGot(t *testing.T) {
	for _, c := range commands() {
		b := mustPut(t, c)
		checkGet(t, b, c)
		got, _ := pack.Get(b)
		checkPut(t, got, b)
	}
}

// P6.4: no beginning of a command's bytes is one's, nor is one with bytes behind it.
func TestNoBeginning(t *testing.T) {
	for _, c := range commands() {
		b := mustPut(t, c)
		for end := range b {
			checkNone(t, b[:end])
		}
		for _, more := range []byte{0, 1, 2, 0x7f, 0x80, 0xff} {
			checkNone(t, append(slices.Clone(b), more))
		}
		checkNone(t, append(slices.Clone(b), b...))
	}
}

// P6.2, P6.4: with any one byte turned, bytes are as the words say: none, or another command's.
func TestGetTurned(t *testing.T) {
	for i, c := range commands() {
		if i%5 != 0 {
			continue
		}
		b := packed(c)
		for at, was := range b {
			for _, x := range []byte{0, 1, 2, 32, 33, 34, was ^ 1, was ^ 0x80, 0x7f, 0x80, 0xff} {
				b[at] = x
				if want, ok := read(b); ok {
					checkGet(t, b, want)
					checkPut(t, want, b)
				} else {
					checkNone(t, b)
				}
			}
			b[at] = was
		}
	}
}

// P6.3, R2: what is handed in stays as it is, room behind it too, and is not kept; what is told is new memory.
func TestNothingIsKept(t *testing.T) {
	room := []int64{1, -2, 300, 77, 78}
	c := api.Cmd{Kind: 2, Key: 3, Loan: 4, N: room[:3]}
	first := mustPut(t, c)
	if !slices.Equal(room, []int64{1, -2, 300, 77, 78}) {
		t.Errorf("Put changed its numbers: %v", room)
	}
	want := slices.Clone(first)
	second := mustPut(t, c)
	clear(first[:cap(first)])
	room[0] = 9
	if !bytes.Equal(second, want) {
		t.Errorf("what Put answered is shared: % x; want % x", second, want)
	}
	bytesRoom := append(slices.Clone(want), 1, 2, 3)
	before := slices.Clone(bytesRoom)
	b := bytesRoom[:len(want)]
	one, _ := pack.Get(b)
	two, _ := pack.Get(b)
	if !bytes.Equal(bytesRoom, before) {
		t.Errorf("Get changed its bytes: % x; want % x", bytesRoom, before)
	}
	clear(one.N[:cap(one.N)])
	clear(bytesRoom)
	if !slices.Equal(two.N, []int64{1, -2, 300}) {
		t.Errorf("what Get answered is shared: %v", two.N)
	}
	wrong := slices.Clone(before)
	checkNone(t, wrong)
	if !bytes.Equal(wrong, before) {
		t.Errorf("Get changed bytes that are none: % x; want % x", wrong, before)
	}
}
