package snap

import (
	"encoding/binary"
	"math"
	"slices"
	"strings"
	"testing"

	"levelling/absorb"
	"levelling/api"
)

const (
	least = math.SmallestNonzeroFloat64
	zeros = "\x00\x00\x00\x00\x00\x00"
)

var (
	minusZero = math.Copysign(0, -1)
	infinity  = math.Inf(1)
	// A triangle's entries end here.
	greatest = math.Ldexp(1, 420)
	tooGreat = math.Nextafter(greatest, infinity)
)

func sameBits(a, b float64) bool { return math.Float64bits(a) == math.Float64bits(b) }

func sameFactor(a, b api.Factor) bool {
	return a.Cols == b.Cols && a.Rows == b.Rows && a.Turns == b.Turns && slices.EqualFunc(a.Tri, b.Tri, sameBits)
}

func isZero(f api.Factor) bool { return sameFactor(f, api.Factor{}) }

func copied(f api.Factor) api.Factor {
	f.Tri = slices.Clone(f.Tri)
	return f
}

func size(cols int) int { return (cols + 1) * (cols + 2) / 2 }

func place(cols, i, j int) int {
	at := 0
	for row := range i {
		at += cols + 1 - row
	}
	return at + j - i
}

func onDiagonal(cols, at int) bool {
	for i := range cols + 1 {
		if place(cols, i, i) == at {
			return true
		}
	}
	return false
}

// filled is a factor of so many columns, no two entries of which are the same.
func filled(cols int) api.Factor {
	f := api.Factor{Cols: cols, Rows: 3, Turns: 5}
	for at := range size(cols) {
		f.Tri = append(f.Tri, -0.5-float64(at))
	}
	for i := range cols + 1 {
		f.Tri[place(cols, i, i)] *= -1
	}
	return f
}

// changed is f with x as its entry at.
func changed(f api.Factor, at int, x float64) api.Factor {
	f = copied(f)
	f.Tri[at] = x
	return f
}

// counted is f with other numbers of rows and rotations.
func counted(f api.Factor, rows, turns int) api.Factor {
	f.Rows, f.Turns = rows, turns
	return f
}

// wrong has factors that may not be.
func wrong() []api.Factor {
	l := []api.Factor{{}, {Cols: 1}, {Tri: make([]float64, 3)}, {Tri: make([]float64, 1)}, {Cols: 7, Tri: make([]float64, 36)}, {Cols: 257, Tri: make([]float64, 3)}, {Cols: -1, Tri: make([]float64, 1)}, {Cols: -3, Tri: make([]float64, 1)}, {Cols: math.MaxInt}, {Cols: math.MinInt}}
	for cols := 1; cols <= 6; cols++ {
		f := filled(cols)
		last := size(cols) - 1
		l = append(l, changed(f, 0, minusZero), changed(f, last, -1), changed(f, 1, tooGreat), changed(f, 1, -tooGreat), changed(f, 1, math.NaN()), changed(f, last, infinity), changed(f, 1, -infinity))
		l = append(l, counted(f, -1, 0), counted(f, 201, 0), counted(f, 0, -1), counted(f, 0, 4097), counted(f, 1<<16, 0), counted(f, 0, 1<<16), counted(f, math.MaxInt, 0), counted(f, 0, math.MaxInt), counted(f, math.MinInt, 0), counted(f, 0, math.MinInt))
		l = append(l, api.Factor{Cols: cols, Tri: f.Tri[1:]}, api.Factor{Cols: cols, Tri: append(slices.Clone(f.Tri), 1)}, api.Factor{Cols: cols%6 + 1, Tri: f.Tri})
	}
	return l
}

// drawer hands out numbers, the same ones again for each start.
type drawer uint64

func (d *drawer) next() uint64 {
	*d ^= *d << 13
	*d ^= *d >> 7
	*d ^= *d << 17
	return uint64(*d)
}

// factor has any bits that may be in it.
func (d *drawer) factor(cols int) api.Factor {
	f := api.Factor{Cols: cols, Rows: int(d.next() % 201), Turns: int(d.next() % 4097)}
	for at := 0; at < size(cols); {
		x := math.Float64frombits(d.next())
		if onDiagonal(cols, at) {
			x = math.Abs(x)
		}
		if math.Abs(x) <= greatest {
			f.Tri = append(f.Tri, x)
			at++
		}
	}
	return f
}

// laid is the bytes of any bits, by the library.
func laid(b uint64) string { return string(binary.BigEndian.AppendUint64(nil, b)) }

// numbers has floats at all edges.
func numbers() []float64 {
	l := []float64{0, 1, 0.5, 3, 1.0 / 3, least, 3 * least, 0x1p-1022, math.Nextafter(0x1p-1022, 0), 0x1p-400, 0x1p400, greatest, tooGreat, 0x1p1023, math.MaxFloat64, math.Pi, math.Float64frombits(0x0102030405060708)}
	for k := -1074; k <= 1023; k += 9 {
		l = append(l, math.Ldexp(1, k))
	}
	for _, x := range slices.Clone(l) {
		l = append(l, -x)
	}
	return l
}

// noNumbers has the bits of infinities and NaN.
func noNumbers() []uint64 {
	l := []uint64{0x7ff << 52, 0x7ff<<52 | 1, 0x7ff8 << 48, 0x7ff8<<48 | 1, 1<<63 - 1, 0x7ff4 << 48, 0x7ff<<52 | 1<<31}
	for _, b := range slices.Clone(l) {
		l = append(l, b|1<<63)
	}
	return l
}

// P15.1: the document's example, and bytes by hand.
func TestPut(t *testing.T) {
	for _, c := range []struct {
		x    float64
		want string
	}{
		{1, "\x3f\xf0" + zeros},
		{-1, "\xbf\xf0" + zeros},
		{0, "\x00\x00" + zeros},
		{minusZero, "\x80\x00" + zeros},
		{least, zeros + "\x00\x01"},
		{-3 * least, "\x80" + zeros + "\x03"},
		{0x1p-1022, "\x00\x10" + zeros},
		{1.0 / 3, "\x3f\xd5\x55\x55\x55\x55\x55\x55"},
		{math.Pi, "\x40\x09\x21\xfb\x54\x44\x2d\x18"},
		{math.MaxFloat64, "\x7f\xef\xff\xff\xff\xff\xff\xff"},
		{math.Float64frombits(0x0102030405060708), "\x01\x02\x03\x04\x05\x06\x07\x08"},
	} {
		if s := Put(c.x); s != c.want {
			t.Errorf("Put(%v): %q, not %q", c.x, s, c.want)
		}
	}
	for _, x := range numbers() {
		if s := Put(x); s != laid(math.Float64bits(x)) {
			t.Errorf("Put(%v): %q", x, s)
		}
	}
	for _, b := range noNumbers() {
		if s := Put(math.Float64frombits(b)); s != "" {
			t.Errorf("Put of bits %x: %q", b, s)
		}
	}
}

func holdGet(t *testing.T, s string, at int, want float64, is bool) {
	t.Helper()
	if x, got := Get(s, at); got != is || !sameBits(x, want) {
		t.Errorf("Get(%q, %d): %v, %v, not %v, %v", s, at, x, got, want, is)
	}
}

// P15.1: what is put is got, wherever it stands.
func TestGet(t *testing.T) {
	for _, x := range numbers() {
		for _, ahead := range []string{"", "a", "\xff\xff\xff", strings.Repeat("\x7f\xf0", 9)} {
			for _, behind := range []string{"", "b", "\xff\xf0" + zeros} {
				s := ahead + laid(math.Float64bits(x)) + behind
				holdGet(t, s, len(ahead), x, true)
			}
		}
	}
	for _, b := range noNumbers() {
		for _, ahead := range []string{"", "a", "\x00\x00" + zeros} {
			holdGet(t, ahead+laid(b)+"b", len(ahead), 0, false)
		}
	}
}

// P15.1: each place of a text, and all those that it has not.
func TestGetAtEachPlace(t *testing.T) {
	long := "\x01\x23\x45\x67\x89\xab\xcd\xef\x02\x46\x8a\xce\x13\x57\x9b\xdf\x11\x00"
	for n := range len(long) + 1 {
		s := long[:n]
		for at := -20; at <= n+20; at++ {
			if at >= 0 && at+8 <= n {
				holdGet(t, s, at, math.Float64frombits(binary.BigEndian.Uint64([]byte(s[at:]))), true)
			} else {
				holdGet(t, s, at, 0, false)
			}
		}
		for _, at := range []int{math.MinInt, math.MinInt + 1, math.MinInt + 7, math.MinInt + 8, math.MaxInt, math.MaxInt - 1, math.MaxInt - 7, math.MaxInt - 8, 1 << 32, -1 << 32} {
			holdGet(t, s, at, 0, false)
		}
	}
}

// encoded says P15.2 over again, of a factor that may be.
func encoded(f api.Factor) string {
	s := []byte{81, byte(f.Cols)}
	s = binary.BigEndian.AppendUint16(s, uint16(f.Rows))
	s = binary.BigEndian.AppendUint16(s, uint16(f.Turns))
	for _, x := range f.Tri {
		s = binary.BigEndian.AppendUint64(s, math.Float64bits(x))
	}
	return string(s)
}

// mayBe has factors at all edges of what may be.
func mayBe() []api.Factor {
	seed := drawer(1)
	var l []api.Factor
	for cols := 1; cols <= 6; cols++ {
		l = append(l, filled(cols), api.Factor{Cols: cols, Tri: make([]float64, size(cols))})
		for _, rows := range []int{0, 1, 127, 128, 199, 200} {
			for _, turns := range []int{0, 1, 255, 256, 257, 4095, 4096} {
				l = append(l, counted(filled(cols), rows, turns))
			}
		}
		for at := range size(cols) {
			for _, x := range []float64{0, least, 0x1p-1022, 1, greatest} {
				l = append(l, changed(filled(cols), at, x))
				if !onDiagonal(cols, at) {
					l = append(l, changed(filled(cols), at, -x))
				}
			}
		}
		for range 50 {
			l = append(l, seed.factor(cols))
		}
	}
	return l
}

// P15.2: bytes by hand, and of all that may be.
func TestEncode(t *testing.T) {
	for _, c := range []struct {
		f    api.Factor
		want string
	}{
		{api.Factor{Cols: 1, Tri: []float64{1, -2, 0}, Rows: 200, Turns: 4096}, "Q\x01\x00\xc8\x10\x00" + "\x3f\xf0" + zeros + "\xc0\x00" + zeros + "\x00\x00" + zeros},
		{api.Factor{Cols: 1, Tri: []float64{0, minusZero, 0.5}, Rows: 1, Turns: 515}, "Q\x01\x00\x01\x02\x03" + "\x00\x00" + zeros + "\x80\x00" + zeros + "\x3f\xe0" + zeros},
		{api.Factor{Cols: 6, Tri: make([]float64, 28)}, "Q\x06\x00\x00\x00\x00" + strings.Repeat("\x00", 224)},
	} {
		if s, is := Encode(c.f); !is || s != c.want {
			t.Errorf("Encode(%v): %q, %v, not %q", c.f, s, is, c.want)
		}
	}
	for _, f := range mayBe() {
		if s, is := Encode(f); !is || s != encoded(f) {
			t.Errorf("Encode(%v): %q, %v, not %q", f, s, is, encoded(f))
		}
	}
}

// P15.2: wrong inputs.
func TestEncodeRefuses(t *testing.T) {
	for _, f := range wrong() {
		if s, is := Encode(f); is || s != "" {
			t.Errorf("Encode(%v): %q, %v", f, s, is)
		}
	}
}

func refusesDecode(t *testing.T, s string, want api.Errno) {
	t.Helper()
	if f, err := Decode(s); err != want || !isZero(f) {
		t.Errorf("Decode(%q): %v, %d, not %d", s, f, err, want)
	}
}

// with is s with other bytes from place at on.
func with(s string, at int, by string) string { return s[:at] + by + s[at+len(by):] }

// P15.3 and P15.4: what is encoded is decoded as it was, with all its bits.
func TestDecode(t *testing.T) {
	for _, f := range mayBe() {
		s, _ := Encode(f)
		if g, err := Decode(s); err != api.OK || !sameFactor(g, f) {
			t.Errorf("Decode(%q): %v, %d, not %v", s, g, err, f)
		}
	}
	f, err := Decode("Q\x01\x00\xc8\x10\x00" + "\x3f\xf0" + zeros + "\xc0\x00" + zeros + "\x00\x00" + zeros)
	if err != api.OK || !sameFactor(f, api.Factor{Cols: 1, Tri: []float64{1, -2, 0}, Rows: 200, Turns: 4096}) {
		t.Errorf("%v, %d", f, err)
	}
}

// P15.3: texts that are too short for anything, or begin otherwise, whatever is wrong behind that.
func TestDecodeTellsTheForm(t *testing.T) {
	for cols := 1; cols <= 6; cols++ {
		s := encoded(filled(cols))
		for n := range 6 {
			refusesDecode(t, s[:n], api.ErrForm)
		}
		nan := with(s, 6, "\x7f\xf8")
		for b := range 256 {
			first := string([]byte{byte(b)})
			if b != 81 {
				for _, other := range []string{with(s, 0, first), with(nan, 0, first), with(s, 0, first)[:6], s[1:], with(s, 0, first) + "a", with(s, 0, first+"\x00")} {
					refusesDecode(t, other, api.ErrForm)
				}
			}
			if b < 1 || b > 6 {
				for _, other := range []string{with(s, 1, first), with(nan, 1, first), with(s, 1, first)[:6], with(s, 1, first) + "a"} {
					refusesDecode(t, other, api.ErrForm)
				}
			}
		}
	}
	// As many bytes as there would be of no column, or of seven.
	refusesDecode(t, "Q\x00"+strings.Repeat("\x00", 12), api.ErrForm)
	refusesDecode(t, "Q\x00"+strings.Repeat("\x00", 4), api.ErrForm)
	refusesDecode(t, "Q\x07"+strings.Repeat("\x00", 4+36*8), api.ErrForm)
}

// P15.3: all lengths but one, whatever stands there.
func TestDecodeTellsTheSize(t *testing.T) {
	for cols := 1; cols <= 6; cols++ {
		s := encoded(filled(cols))
		for _, s := range []string{s, with(s, 6, "\x7f\xf8"), with(s, 2, "\xff\xff\xff\xff")} {
			long := s + strings.Repeat("\x00", 300)
			for n := 6; n <= len(long); n++ {
				if n != len(s) {
					refusesDecode(t, long[:n], api.ErrSize)
				}
			}
			for other := 1; other <= 6; other++ {
				if other != cols {
					refusesDecode(t, with(s, 1, string([]byte{byte(other)})), api.ErrSize)
				}
			}
		}
	}
}

// P15.3: each count beyond its limit, and each entry that may not be.
func TestDecodeTellsTheRange(t *testing.T) {
	for cols := 1; cols <= 6; cols++ {
		s := encoded(filled(cols))
		for n := range 1 << 16 {
			count := string(binary.BigEndian.AppendUint16(nil, uint16(n)))
			rows, turns := with(s, 2, count), with(s, 4, count)
			if n > 200 {
				refusesDecode(t, rows, api.ErrRange)
			} else if f, err := Decode(rows); err != api.OK || !sameFactor(f, counted(filled(cols), n, 5)) {
				t.Errorf("Decode(%q): %v, %d", rows, f, err)
			}
			if n > 4096 {
				refusesDecode(t, turns, api.ErrRange)
			} else if f, err := Decode(turns); err != api.OK || !sameFactor(f, counted(filled(cols), 3, n)) {
				t.Errorf("Decode(%q): %v, %d", turns, f, err)
			}
		}
		for at := range size(cols) {
			bad := append(noNumbers(), math.Float64bits(tooGreat), math.Float64bits(-tooGreat), math.Float64bits(math.MaxFloat64))
			if onDiagonal(cols, at) {
				bad = append(bad, 1<<63, 1<<63|1, math.Float64bits(-1), math.Float64bits(-greatest))
			}
			for _, b := range bad {
				refusesDecode(t, with(s, 6+8*at, laid(b)), api.ErrRange)
			}
		}
	}
}

// P15.4: what can be decoded is encoded to the same bytes; each bit is of moment.
func TestEachBit(t *testing.T) {
	good, bad := 0, 0
	seed := drawer(2)
	for cols := 1; cols <= 6; cols++ {
		for _, f := range []api.Factor{filled(cols), counted(filled(cols), 200, 4096), seed.factor(cols)} {
			s := encoded(f)
			for bit := range 8 * len(s) {
				other := with(s, bit/8, string([]byte{s[bit/8] ^ 1<<(bit%8)}))
				g, err := Decode(other)
				if err != api.OK {
					bad++
					continue
				}
				good++
				if back, is := Encode(g); !is || back != other || sameFactor(f, g) {
					t.Errorf("Decode(%q): %v, which is encoded as %q, %v", other, g, back, is)
				}
			}
		}
	}
	if good < 1000 || bad < 100 {
		t.Errorf("%d were decoded, %d not", good, bad)
	}
}

// P2: a factor that is encoded and decoded between two rows changes no later bit.
func TestLaterBits(t *testing.T) {
	for cols := 1; cols <= 6; cols++ {
		f := filled(cols)
		g := f
		for n := range 10 {
			r := api.Row{Y: 1.0 / float64(n+3)}
			for j := range cols {
				r.X = append(r.X, math.Sin(float64(n*cols+j)))
			}
			s, _ := Encode(g)
			g, _ = Decode(s)
			f, _ = absorb.Row(f, r)
			g, _ = absorb.Row(g, r)
			if f.Cols != cols || !sameFactor(f, g) {
				t.Fatalf("%v, not %v", g, f)
			}
		}
	}
}

// R5: what is handed in is not changed, and each answer is memory of its own.
func TestAnswersAreNewMemory(t *testing.T) {
	for cols := 1; cols <= 6; cols++ {
		f := filled(cols)
		s, _ := Encode(f)
		if !sameFactor(f, filled(cols)) {
			t.Fatalf("what was handed in is changed: %v", f)
		}
		g, _ := Decode(s)
		clear(g.Tri)
		if h, err := Decode(s); err != api.OK || !sameFactor(h, f) || s != encoded(f) {
			t.Errorf("Decode(%q), again: %v, %d", s, h, err)
		}
	}
}
