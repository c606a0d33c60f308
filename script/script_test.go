package script

import (
	"errors"
	"math"
	"math/big"
	"regexp"
	"slices"
	"strconv"
	"strings"
	"testing"

	"levelling/api"
	"levelling/audit"
	"levelling/engine"
	"levelling/replay"
	"levelling/snap"
)

var (
	minusZero = math.Copysign(0, -1)
	infinity  = math.Inf(1)
)

func same(a, b float64) bool { return math.Float64bits(a) == math.Float64bits(b) }

func sameBits(a, b []float64) bool { return slices.EqualFunc(a, b, same) }

func sameOp(a, b api.Op) bool {
	floats := sameBits([]float64{a.Row.Y, a.Beta, a.Mu}, []float64{b.Row.Y, b.Beta, b.Mu}) && sameBits(a.Row.X, b.Row.X)
	return floats && a.Kind == b.Kind && a.Shard == b.Shard && a.From == b.From && a.Bytes == b.Bytes && slices.Equal(a.Plan, b.Plan)
}

func sameOps(a, b []api.Op) bool { return slices.EqualFunc(a, b, sameOp) }

func sameState(a, b api.State) bool {
	return a.Cols == b.Cols && slices.EqualFunc(a.Shards, b.Shards, func(a, b api.Factor) bool {
		return a.Cols == b.Cols && a.Rows == b.Rows && a.Turns == b.Turns && sameBits(a.Tri, b.Tri)
	})
}

func floatsOf(s api.Stats) []float64 { return []float64{s.Rest, s.Total, s.Var, s.Fit} }

func sameAnswer(a, b api.Answer) bool {
	return a.Turns == b.Turns && a.Bytes == b.Bytes && sameBits(a.Coefs, b.Coefs) && a.Stats.Free == b.Stats.Free && sameBits(floatsOf(a.Stats), floatsOf(b.Stats))
}

func allSame(a, b []api.Done) bool {
	return slices.EqualFunc(a, b, func(a, b api.Done) bool { return a.Err == b.Err && sameAnswer(a.Answer, b.Answer) })
}

// kept is s, of memory of its own.
func kept(s api.State) api.State {
	s.Shards = slices.Clone(s.Shards)
	for k := range s.Shards {
		s.Shards[k].Tri = slices.Clone(s.Shards[k].Tri)
	}
	return s
}

// keptOps is l, of memory of its own.
func keptOps(l []api.Op) []api.Op {
	l = slices.Clone(l)
	for i := range l {
		l[i].Row.X, l[i].Plan = slices.Clone(l[i].Row.X), slices.Clone(l[i].Plan)
	}
	return l
}

// drawer hands out numbers, the same ones again for each start.
type drawer uint64

func (d *drawer) next() uint64 {
	*d ^= *d << 13
	*d ^= *d >> 7
	*d ^= *d << 17
	return uint64(*d)
}

func (d *drawer) below(n int) int { return int(d.next() % uint64(n)) }

// one is one of l.
func one[T any](d *drawer, l ...T) T { return l[d.below(len(l))] }

// float is one of 53 bits, whose size is 1 to 2 times 2 to the power of exp.
func (d *drawer) float(exp int) float64 {
	return math.Ldexp(1+float64(d.next()>>12)/(1<<52), exp) * one(d, 1.0, -1)
}

// What the chapter calls a number and a float's word, by the library.
var (
	numberWord = regexp.MustCompile(`^(0|[1-9][0-9]{0,3})$`)
	floatWord  = regexp.MustCompile(`^(-?)(0|[1-9][0-9]{0,15})(?:p(0|-?[1-9][0-9]{0,3}))?$`)
)

// floatByWords says P24.1's Float over again.
func floatByWords(s string) (float64, bool) {
	parts := floatWord.FindStringSubmatch(s)
	if parts == nil {
		return 0, false
	}
	mant, _ := new(big.Int).SetString(parts[2], 10)
	power, _ := strconv.Atoi(parts[3])
	r := new(big.Rat).SetInt(mant)
	scale := new(big.Int).Lsh(big.NewInt(1), uint(max(power, -power)))
	if power < 0 {
		r.SetFrac(mant, scale)
	} else {
		r.SetInt(scale.Mul(scale, mant))
	}
	x, _ := r.Float64()
	if back := new(big.Rat).SetFloat64(x); back == nil || back.Cmp(r) != 0 {
		return 0, false
	}
	if parts[1] == "-" {
		x = -x
	}
	return x, true
}

func holdFloat(t *testing.T, s string) bool {
	t.Helper()
	x, is := Float(s)
	if want, wantIs := floatByWords(s); is != wantIs || !same(x, want) {
		t.Errorf("Float(%q): %v, %v, not %v, %v", s, x, is, want, wantIs)
	}
	return is
}

// P24.1: by hand, each way in which a word may be none.
func TestFloat(t *testing.T) {
	for _, c := range []struct {
		s    string
		want float64
	}{
		{"0", 0}, {"-0", minusZero}, {"0p0", 0}, {"-0p-7", minusZero}, {"0p9999", 0}, {"-0p-9999", minusZero},
		{"7", 7}, {"-7", -7}, {"10", 10}, {"10p0", 10}, {"1p1", 2}, {"3p-1", 1.5}, {"-3p-1", -1.5}, {"6p-2", 1.5},
		{"9007199254740991", 1<<53 - 1}, {"9007199254740992", 1 << 53}, {"9007199254740994", 1<<53 + 2}, {"9999999999999998", 9999999999999998}, {"1000000000000000", 1e15},
		{"1p1023", math.Ldexp(1, 1023)}, {"9007199254740991p971", math.MaxFloat64}, {"-9007199254740991p971", -math.MaxFloat64},
		{"1p-1074", math.SmallestNonzeroFloat64}, {"2p-1075", math.SmallestNonzeroFloat64}, {"4503599627370496p-1126", math.SmallestNonzeroFloat64}, {"-1p-1074", -math.SmallestNonzeroFloat64},
		{"3p-1074", 3 * math.SmallestNonzeroFloat64}, {"1p400", math.Ldexp(1, 400)}, {"1p-400", math.Ldexp(1, -400)},
	} {
		if x, is := Float(c.s); !is || !same(x, c.want) {
			t.Errorf("Float(%q): %v, %v, not %v", c.s, x, is, c.want)
		}
		holdFloat(t, c.s)
	}
	for _, s := range []string{
		"", "-", "p", "-p", "p1", "-p1", "1p", "-1p", "1p-", "--1", "-+1", "+1", "+0", "1-", "1p--1", "1p+1", "1p1-", "1p1p1", "1pp1", "1P1", "1e1", "1.0", ".5", "0x1", "1_0", "1,0",
		"00", "01", "-00", "-01", "000", "1p00", "1p01", "1p-0", "1p-00", "1p-01", "0p-0", "0p00", "1p0001", "1p10000", "1p-10000", "0p10000", "1p99999", "1p18446744073709551616",
		" 1", "1 ", "1 p1", "1p 1", "- 1", "\t1", "1\n", "\n1", "1\r", "1\x00", "１", "1p１", "−1", "١",
		"12345678901234567", "10000000000000000", "0000000000000001", "-10000000000000000", "99999999999999999999999999",
		"9007199254740993", "9999999999999999", "9007199254740993p3", "9007199254740993p-3", "9007199254740992p971", "1p1024", "3p1023", "1p9999", "1p-1075", "3p-1075", "1p-9999", "9007199254740991p-1075",
		"NaN", "nan", "Inf", "inf", "-Inf", "infinity", "x", "-x", "1px",
	} {
		if x, is := Float(s); is || !same(x, 0) {
			t.Errorf("Float(%q): %v, %v", s, x, is)
		}
		holdFloat(t, s)
	}
}

// P24.1: all short words of what words are made of, and long ones of any digits.
func TestFloatByWords(t *testing.T) {
	words := []string{""}
	for range 6 {
		var longer []string
		for _, w := range words {
			for _, c := range []string{"-", "0", "1", "8", "p", " "} {
				longer = append(longer, w+c)
			}
		}
		for _, w := range longer {
			holdFloat(t, w)
		}
		words = longer
	}
	seed := drawer(1)
	good := 0
	for range 40000 {
		s := one(&seed, "", "", "-")
		for range 1 + seed.below(17) {
			s += string(one(&seed, []byte("0123456789")...))
		}
		if seed.below(4) == 0 {
			s = one(&seed, "", "-") + strconv.FormatUint(seed.next()>>11, 10)
		}
		switch seed.below(4) {
		case 0:
			s += "p" + one(&seed, "", "-") + strconv.Itoa(seed.below(1200))
		case 1:
			s += "p" + one(&seed, "", "-") + strconv.Itoa(seed.below(12000))
		case 2:
			s += "p-" + strconv.Itoa(1000+seed.below(140))
		}
		if holdFloat(t, s) {
			good++
		}
	}
	if good < 5000 {
		t.Errorf("%d floats", good)
	}
}

// numbers has floats at all edges, and some of each exponent.
func numbers() []float64 {
	seed := drawer(2)
	l := []float64{0, 1, 3, 10, 0.1, 1.0 / 3, math.Pi, 1<<53 - 1, 1 << 53, 1<<53 + 2, math.MaxFloat64, math.SmallestNonzeroFloat64, 3 * math.SmallestNonzeroFloat64, 0x1p-1022, math.Nextafter(0x1p-1022, 0), 0x1p1023}
	for k := -1074; k <= 1023; k++ {
		l = append(l, math.Ldexp(1, k), math.Abs(seed.float(k)), math.Ldexp(float64(seed.below(1000)), min(k, 1000)))
	}
	for _, x := range slices.Clone(l) {
		l = append(l, -x)
	}
	return append(l, minusZero)
}

// P24.1: by hand.
func TestWrite(t *testing.T) {
	for _, c := range []struct {
		x    float64
		want string
	}{
		{0, "0"}, {minusZero, "-0"}, {1, "1"}, {-1, "-1"}, {2, "1p1"}, {12, "3p2"}, {-12, "-3p2"}, {0.5, "1p-1"}, {-1.5, "-3p-1"}, {1000, "125p3"},
		{0.1, "3602879701896397p-55"}, {1<<53 - 1, "9007199254740991"}, {1 << 53, "1p53"}, {1<<53 + 2, "4503599627370497p1"},
		{math.MaxFloat64, "9007199254740991p971"}, {-math.MaxFloat64, "-9007199254740991p971"}, {math.SmallestNonzeroFloat64, "1p-1074"}, {-3 * math.SmallestNonzeroFloat64, "-3p-1074"}, {0x1p-1022, "1p-1022"},
		{infinity, ""}, {-infinity, ""}, {math.NaN(), ""}, {math.Float64frombits(0xfff8000000000123), ""}, {math.Float64frombits(0x7ff0000000000001), ""},
	} {
		if s := Write(c.x); s != c.want {
			t.Errorf("Write(%v): %q, not %q", c.x, s, c.want)
		}
	}
}

// P24.1, P24.7: what is written has odd digits, no power of 0, and is read as it was.
func TestWrittenIsRead(t *testing.T) {
	for _, x := range numbers() {
		s := Write(x)
		if back, is := Float(s); !is || !same(back, x) {
			t.Errorf("Float(%q): %v, %v, not %v", s, back, is, x)
		}
		parts := floatWord.FindStringSubmatch(s)
		if parts == nil || parts[3] == "0" || x == 0 && parts[3] != "" || x != 0 && !strings.Contains("13579", parts[2][len(parts[2])-1:]) {
			t.Errorf("Write(%v): %q", x, s)
		}
	}
}

// parseByWords says P24.2 over again.
func parseByWords(line string) (api.Op, bool) {
	words := strings.Split(line, " ")
	name, words := words[0], words[1:]
	is := true
	number := func(i int) int {
		if i >= len(words) || !numberWord.MatchString(words[i]) {
			is = false
			return 0
		}
		n, _ := strconv.Atoi(words[i])
		return n
	}
	floats := func(from int) []float64 {
		var l []float64
		for i := from; i < len(words); i++ {
			x, good := floatByWords(words[i])
			is = is && good
			l = append(l, x)
		}
		is = is && len(l) > 0
		return l
	}
	steps := func(from int) []int {
		var l []int
		for i := from; i < len(words); i++ {
			if words[i] == "+" {
				l = append(l, -1)
			} else {
				l = append(l, number(i))
			}
		}
		return l
	}
	var o api.Op
	switch name {
	case "in", "out":
		o = api.Op{Kind: map[string]int{"in": 1, "out": 2}[name], Shard: number(0)}
		if l := floats(1); len(l) > 0 {
			o.Row = api.Row{X: l[:len(l)-1], Y: l[len(l)-1]}
		}
	case "fade":
		o = api.Op{Kind: 3, Shard: number(0)}
		is = is && len(words) == 2
		if l := floats(1); len(l) > 0 {
			o.Beta = l[0]
		}
	case "merge", "load":
		o = api.Op{Kind: map[string]int{"merge": 4, "load": 6}[name], Shard: number(0), From: number(1)}
		is = is && len(words) == 2
	case "ship":
		o = api.Op{Kind: 5, Shard: number(0)}
		is = is && len(words) == 1
	case "solve":
		o = api.Op{Kind: 7, Plan: steps(1)}
		if l := floats(0); len(l) > 0 {
			// Steps behind it need be no floats.
			x, good := floatByWords(words[0])
			o.Mu, is = x, good
			steps(1)
		}
	case "tell":
		o = api.Op{Kind: 8, Plan: steps(0)}
	default:
		is = false
	}
	if !is {
		return api.Op{}, false
	}
	return o, true
}

func holdParse(t *testing.T, line string) (api.Op, bool) {
	t.Helper()
	o, is := Parse(line)
	if want, wantIs := parseByWords(line); is != wantIs || !sameOp(o, want) {
		t.Errorf("Parse(%q): %v, %v, not %v, %v", line, o, is, want, wantIs)
	}
	return o, is
}

// P24.2: by hand, each kind.
func TestParse(t *testing.T) {
	row := func(y float64, x ...float64) api.Row { return api.Row{X: x, Y: y} }
	for _, c := range []struct {
		line string
		want api.Op
	}{
		{"in 0 1 -2 3p1", api.Op{Kind: api.Insert, Row: row(6, 1, -2)}},
		{"in 9999 5", api.Op{Kind: api.Insert, Shard: 9999, Row: row(5)}},
		{"in 3 -0 -0 0", api.Op{Kind: api.Insert, Shard: 3, Row: row(0, minusZero, minusZero)}},
		{"in 1 1p1000 1p-1074 1 2 3 4 5 6 7 8", api.Op{Kind: api.Insert, Shard: 1, Row: row(8, math.Ldexp(1, 1000), math.SmallestNonzeroFloat64, 1, 2, 3, 4, 5, 6, 7)}},
		{"out 2 1 0", api.Op{Kind: api.Remove, Shard: 2, Row: row(0, 1)}},
		{"out 0 -7", api.Op{Kind: api.Remove, Row: row(-7)}},
		{"fade 1 1p-1", api.Op{Kind: api.Fade, Shard: 1, Beta: 0.5}},
		{"fade 0 -3", api.Op{Kind: api.Fade, Beta: -3}},
		{"merge 3 4", api.Op{Kind: api.Merge, Shard: 3, From: 4}},
		{"merge 0 0", api.Op{Kind: api.Merge}},
		{"ship 7", api.Op{Kind: api.Ship, Shard: 7}},
		{"load 1 1234", api.Op{Kind: api.Load, Shard: 1, From: 1234}},
		{"solve 3", api.Op{Kind: api.Solve, Mu: 3}},
		{"solve -1p-2 0 10 + +", api.Op{Kind: api.Solve, Mu: -0.25, Plan: []int{0, 10, -1, -1}}},
		{"solve -0 +", api.Op{Kind: api.Solve, Mu: minusZero, Plan: []int{-1}}},
		{"tell", api.Op{Kind: api.Tell}},
		{"tell + 5 9999", api.Op{Kind: api.Tell, Plan: []int{-1, 5, 9999}}},
	} {
		if o, is := Parse(c.line); !is || !sameOp(o, c.want) {
			t.Errorf("Parse(%q): %v, %v, not %v", c.line, o, is, c.want)
		}
		holdParse(t, c.line)
		// No word may be missing, or one too many, or empty, and none may have another byte.
		for _, wrong := range []string{" " + c.line, c.line + " ", c.line + " x", strings.Replace(c.line, " ", "  ", 1) + " ", c.line + "\n", "\n" + c.line, c.line + "\r", strings.ToUpper(c.line), strings.Replace(c.line, " ", "\t", 1) + "\t", "x" + c.line, c.line + " 00", c.line + " 10000p-0"} {
			if o, is := holdParse(t, wrong); is || !sameOp(o, api.Op{}) {
				t.Errorf("Parse(%q): %v, %v", wrong, o, is)
			}
		}
	}
}

// P24.2: lines that ask for nothing.
func TestParseRefuses(t *testing.T) {
	for _, line := range []string{
		"", " ", "  ", "0", "x", "+", "levelling 1 1", "insert 0 1", "i 0 1", "in", "out", "fade", "merge", "ship", "load", "solve",
		"in 0", "out 0", "fade 0", "merge 0", "load 0", "in 0 ", "in 0 1 ", "in  0 1", " in 0 1", "in 0  1", "solve ", "tell ", "solve 0 ", "solve 0  1", "tell  1",
		"in 00 1", "in 01 1", "in 10000 1", "in -1 1", "in + 1", "in 0p0 1", "in 1p1 1", "in x 1", "in 0 x", "in 0 1 x", "in 0 x 1", "in 0 +", "in 0 01", "in 0 1p1024",
		"out 10000 1", "out -0 1", "out 0 1,0", "fade 10000 1", "fade 0 1 1", "fade 0 x", "fade x 1", "fade 0 +",
		"merge 0 1 2", "merge 0 +", "merge 0 -1", "merge 0 10000", "merge 10000 0", "merge 0 1p0", "ship 0 0", "ship x", "ship 10000", "ship -1", "ship +", "ship 01",
		"load 0 -1", "load 0 10000", "load 0 1 2", "load 00 1", "load 0 01", "solve x", "solve + 0", "solve 0 -1", "solve 0 x", "solve 0 0 1 -", "solve 0 10000", "solve 0 1p0", "solve 01 0", "solve 0 ++",
		"tell -1", "tell x", "tell 10000", "tell 0 1 -1", "tell 00", "tell ++", "tell 1p0", "TELL", "Tell", "tell\x00", "tell\n",
	} {
		if o, is := holdParse(t, line); is || !sameOp(o, api.Op{}) {
			t.Errorf("Parse(%q): %v, %v", line, o, is)
		}
	}
}

// P24.2: any words one behind the other; each kind is asked for often enough.
func TestParseByWords(t *testing.T) {
	seed := drawer(3)
	count := map[int]int{}
	for range 60000 {
		words := []string{one(&seed, "in", "out", "fade", "merge", "ship", "load", "solve", "tell", "tell", "In", "", "0")}
		for range seed.below(5) {
			words = append(words, one(&seed, "0", "1", "2", "12", "9999", "7", "3", "+", "+", one(&seed, "3p2", "-1", "1p-1", "-0", "1p1023", "9007199254740992"), one(&seed, "", "10000", "01", "-", "x", "++", "1p1024", "9007199254740993", "p1")))
		}
		o, is := holdParse(t, strings.Join(words, " "))
		if is {
			count[o.Kind]++
		} else {
			count[0]++
		}
	}
	for kind := range 9 {
		if count[kind] < 300 {
			t.Errorf("of kind %d there were %d", kind, count[kind])
		}
	}
}

// readByWords says P24.3 over again.
func readByWords(text string) (api.State, []api.Op, int, api.Errno) {
	lines := strings.Split(text, "\n")
	if lines[len(lines)-1] == "" {
		lines = lines[:len(lines)-1]
	}
	if len(lines) == 0 {
		return api.State{}, nil, 0, api.ErrLine
	}
	head := regexp.MustCompile(`^levelling ([0-9]+) ([0-9]+)$`).FindStringSubmatch(lines[0])
	if head == nil || !numberWord.MatchString(head[1]) || !numberWord.MatchString(head[2]) {
		return api.State{}, nil, 0, api.ErrLine
	}
	cols, _ := strconv.Atoi(head[1])
	shards, _ := strconv.Atoi(head[2])
	s, err := engine.New(cols, shards)
	if err != api.OK {
		return api.State{}, nil, 0, api.ErrLine
	}
	var l []api.Op
	for i, line := range lines[1:] {
		o, is := parseByWords(line)
		if !is {
			return api.State{}, nil, i + 1, api.ErrLine
		}
		l = append(l, o)
	}
	return s, l, 0, api.OK
}

func holdRead(t *testing.T, text string) api.Errno {
	t.Helper()
	s, l, n, err := Read(text)
	wantS, wantL, wantN, want := readByWords(text)
	if !sameState(s, wantS) || !sameOps(l, wantL) || n != wantN || err != want {
		t.Errorf("Read(%q): %v, %v, %d, %d, not %v, %v, %d, %d", text, s, l, n, err, wantS, wantL, wantN, want)
	}
	if err != api.OK {
		if out, n, err := Play(text); out != "" || n != wantN || err != want {
			t.Errorf("Play(%q): %q, %d, %d", text, out, n, err)
		}
	}
	return err
}

// P24.3, and P24.6 of what can't be read: the number of the first line that is wrong.
func TestRead(t *testing.T) {
	for _, c := range []struct {
		text   string
		things int
		n      int
		err    api.Errno
	}{
		{"levelling 1 1", 0, 0, api.OK}, {"levelling 1 1\n", 0, 0, api.OK}, {"levelling 6 8", 0, 0, api.OK}, {"levelling 6 8\ntell", 1, 0, api.OK}, {"levelling 6 8\ntell\n", 1, 0, api.OK}, {"levelling 2 3\nin 0 1\nship 9999\nsolve -1", 3, 0, api.OK},
		{"", 0, 0, api.ErrLine}, {"\n", 0, 0, api.ErrLine}, {"\n\n", 0, 0, api.ErrLine}, {"\nlevelling 1 1", 0, 0, api.ErrLine}, {"tell", 0, 0, api.ErrLine}, {"tell\nlevelling 1 1", 0, 0, api.ErrLine},
		{"levelling", 0, 0, api.ErrLine}, {"levelling 1", 0, 0, api.ErrLine}, {"levelling 1 1 1", 0, 0, api.ErrLine}, {"levelling  1 1", 0, 0, api.ErrLine}, {"levelling 1 1 ", 0, 0, api.ErrLine}, {" levelling 1 1", 0, 0, api.ErrLine}, {"Levelling 1 1", 0, 0, api.ErrLine}, {"level 1 1", 0, 0, api.ErrLine},
		{"levelling 0 1", 0, 0, api.ErrLine}, {"levelling 7 1", 0, 0, api.ErrLine}, {"levelling 1 0", 0, 0, api.ErrLine}, {"levelling 1 9", 0, 0, api.ErrLine}, {"levelling 9999 9999", 0, 0, api.ErrLine}, {"levelling 01 1", 0, 0, api.ErrLine}, {"levelling 1 01", 0, 0, api.ErrLine}, {"levelling -1 1", 0, 0, api.ErrLine}, {"levelling 1 +", 0, 0, api.ErrLine}, {"levelling 1p0 1", 0, 0, api.ErrLine}, {"levelling 10001 1", 0, 0, api.ErrLine}, {"levelling 1 x", 0, 0, api.ErrLine},
		{"levelling 0 1\nx", 0, 0, api.ErrLine}, {"x\ny", 0, 0, api.ErrLine}, {"levelling 1 1\r\ntell", 0, 0, api.ErrLine},
		{"levelling 1 1\n\n", 0, 1, api.ErrLine}, {"levelling 1 1\n\ntell", 0, 1, api.ErrLine}, {"levelling 1 1\ntell\n\n", 0, 2, api.ErrLine}, {"levelling 1 1\ntell\n\ntell\n", 0, 2, api.ErrLine}, {"levelling 1 1\ntell \n", 0, 1, api.ErrLine}, {"levelling 1 1\ntell\ntell\nx\ny", 0, 3, api.ErrLine}, {"levelling 1 1\nlevelling 1 1", 0, 1, api.ErrLine}, {"levelling 1 1\ntell\r\n", 0, 1, api.ErrLine},
	} {
		s, l, n, err := Read(c.text)
		if len(l) != c.things || n != c.n || err != c.err || engine.Check(s) != (err == api.OK) || err != api.OK && !sameState(s, api.State{}) {
			t.Errorf("Read(%q): %v, %v, %d, %d", c.text, s, l, n, err)
		}
		holdRead(t, c.text)
	}
	for cols := range 10 {
		for shards := range 12 {
			err := holdRead(t, "levelling "+strconv.Itoa(cols)+" "+strconv.Itoa(shards)+"\ntell 0\n")
			if (err == api.OK) != (cols >= 1 && cols <= 6 && shards >= 1 && shards <= 8) {
				t.Errorf("%d columns, %d shards: %d", cols, shards, err)
			}
		}
	}
}

// P24.3: any lines one behind the other.
func TestReadByWords(t *testing.T) {
	seed := drawer(4)
	count := map[api.Errno]int{}
	for range 5000 {
		lines := []string{one(&seed, "levelling 1 1", "levelling 1 1", "levelling 6 8", "levelling 2 3", "levelling 2 3", "levelling 0 1", "tell")}
		for range seed.below(5) {
			lines = append(lines, one(&seed, "tell", "ship 0", "in 0 1 2", "in 0 1", "out 1 2 3 4", "solve 0 0", "merge 0 1", "load 1 0", "fade 0 1p-1", "tell 0 1 +", one(&seed, "tell", "", "x", "in 0")))
		}
		count[holdRead(t, strings.Join(lines, "\n")+one(&seed, "", "\n", "\n", "\n\n"))]++
	}
	if count[api.OK] < 1000 || count[api.ErrLine] < 1000 {
		t.Errorf("%v", count)
	}
}

// runByWords says P24.4 over again: a Load is asked by what came of what stands ahead of it.
func runByWords(s api.State, l []api.Op) (api.State, []api.Op, []api.Done) {
	asked := keptOps(l)
	var all []api.Done
	for i, o := range asked {
		if o.Kind == api.Load {
			asked[i].Bytes = ""
			if o.From >= 0 && o.From < i {
				asked[i].Bytes = all[o.From].Answer.Bytes
			}
		}
		next, done := replay.Play(s, asked[i:i+1])
		s = next
		all = append(all, done...)
	}
	return s, asked, all
}

func holdRun(t *testing.T, s api.State, l []api.Op) []api.Done {
	t.Helper()
	last, asked, done := Run(s, l)
	wantLast, wantAsked, want := runByWords(s, l)
	if !sameState(last, wantLast) || !sameOps(asked, wantAsked) || !allSame(done, want) {
		t.Errorf("Run(%v, %v): %v, %v, %v, not %v, %v, %v", s, l, last, asked, done, wantLast, wantAsked, want)
	}
	return done
}

// P24.4: a Load by each number that may stand there.
func TestRun(t *testing.T) {
	s := api.State{Cols: 1, Shards: []api.Factor{{Cols: 1, Tri: []float64{3, 6, 0}, Rows: 1, Turns: 2}, {Cols: 1, Tri: []float64{0, 0, 0}}}}
	bytes, _ := snap.Encode(s.Shards[0])
	empty, _ := snap.Encode(s.Shards[1])
	ahead := []api.Op{
		{Kind: api.Ship},                       // 0
		{Kind: api.Ship, Shard: 2},             // 1: ErrArg, and no bytes
		{Kind: api.Solve, Plan: []int{0}},      // 2: no bytes
		{Kind: api.Ship, Shard: 1, Bytes: "x"}, // 3
		{Kind: api.Fade, Beta: 0.5},            // 4
	}
	for from, want := range map[int]string{0: bytes, 1: "", 2: "", 3: empty, 4: "", 5: "", 6: "", 7: "", -1: "", math.MaxInt: "", math.MinInt: ""} {
		load := api.Op{Kind: api.Load, Shard: 1, From: from, Bytes: bytes, Mu: 7}
		l := append(keptOps(ahead), load, api.Op{Kind: api.Ship}, load)
		last, asked, done := Run(s, l)
		if len(asked) != 8 || len(done) != 8 || asked[5].Bytes != want || asked[5].From != from || asked[5].Mu != 7 || asked[3].Bytes != "x" || done[0].Answer.Bytes != bytes || l[5].Bytes != bytes {
			t.Fatalf("from %d: %v, %v", from, asked, done)
		}
		wantErr := api.ErrForm
		if want != "" {
			wantErr = api.OK
		}
		if done[5].Err != wantErr || done[1].Err != api.ErrArg || done[4].Err != api.OK || last.Shards[0].Tri[0] != 1.5 {
			t.Errorf("from %d: %v, %v", from, done, last)
		}
		// The last one has a thing more ahead of it: the Ship of what is faded by then.
		if from == 6 && (len(asked[7].Bytes) != 30 || asked[7].Bytes == bytes || last.Shards[1].Tri[1] != 3) {
			t.Errorf("from %d: %v, %v", from, asked, last)
		}
		// What was loaded has no bytes of its own.
		if from == 5 && (asked[7].Bytes != "" || done[7].Err != api.ErrForm) {
			t.Errorf("from %d: %v, %v", from, asked, last)
		}
		holdRun(t, s, l)
	}
	for _, none := range [][]api.Op{nil, {}} {
		if last, asked, done := Run(s, none); !sameState(last, s) || len(asked) != 0 || len(done) != 0 {
			t.Errorf("of nothing: %v, %v, %v", last, asked, done)
		}
	}
}

// P24.4: of states that may not be each thing is told so, and they stay as they were.
func TestRunOfWrongStates(t *testing.T) {
	nan := math.Float64frombits(0xfff8000000000123)
	for i, s := range []api.State{{}, {Cols: 1}, {Cols: 2, Shards: []api.Factor{{Cols: 1, Tri: []float64{1, 1, 1}}}}, {Cols: 1, Shards: []api.Factor{{Cols: 1, Tri: []float64{1, nan, 1}}}}, {Cols: 1, Shards: make([]api.Factor, 9)}} {
		l := []api.Op{{Kind: api.Ship}, {Kind: api.Load, Bytes: "x"}, {Kind: api.Tell}}
		for _, d := range holdRun(t, s, l) {
			if d.Err != api.ErrArg || !sameAnswer(d.Answer, api.Answer{}) {
				t.Errorf("of wrong state %d: %v", i, d)
			}
		}
		if last, _, _ := Run(s, l); !sameState(last, s) {
			t.Errorf("of wrong state %d: %v", i, last)
		}
	}
}

// P24.4: any things of any states.
func TestRunByWords(t *testing.T) {
	seed := drawer(5)
	count := map[[2]int]int{}
	for range 500 {
		text := seed.text(25)
		s, l, n, err := Read(text)
		if err != api.OK {
			t.Fatalf("Read(%q): %d, %d", text, n, err)
		}
		s, _ = replay.Play(s, l[:len(l)/2])
		for i, d := range holdRun(t, s, l) {
			count[[2]int{l[i].Kind, int(d.Err)}]++
		}
	}
	for kind := api.Insert; kind <= api.Tell; kind++ {
		if count[[2]int{kind, 0}] < 100 {
			t.Errorf("of kind %d %d went", kind, count[[2]int{kind, 0}])
		}
	}
}

// P24.5: by hand, each kind, errors of all numbers, and floats that have no word.
func TestLine(t *testing.T) {
	all := api.Answer{Coefs: []float64{0.5, -3, minusZero, 0}, Turns: 4, Bytes: "abc", Stats: api.Stats{Free: 2, Rest: 9, Total: 98, Var: 4.5, Fit: 0.75}}
	for i, c := range []struct {
		n    int
		o    api.Op
		d    api.Done
		want string
	}{
		{0, api.Op{Kind: api.Solve}, api.Done{Answer: all}, "0 0 4 1p-1 -3 -0 0\n"},
		{1, api.Op{Kind: api.Solve}, api.Done{}, "1 0 0\n"},
		{12, api.Op{Kind: api.Tell}, api.Done{Answer: all}, "12 0 4 2 9 49p1 9p-1 3p-2\n"},
		{2, api.Op{Kind: api.Tell}, api.Done{}, "2 0 0 0 0 0 0 0\n"},
		{3, api.Op{Kind: api.Tell}, api.Done{Answer: api.Answer{Turns: -1, Stats: api.Stats{Free: -2, Rest: 1, Total: 3, Var: 5, Fit: 7}}}, "3 0 -1 -2 1 3 5 7\n"},
		{4, api.Op{Kind: api.Ship}, api.Done{Answer: all}, "4 0 3\n"},
		{4, api.Op{Kind: api.Ship}, api.Done{}, "4 0 0\n"},
		{5, api.Op{Kind: api.Insert}, api.Done{Answer: all}, "5 0\n"},
		{6, api.Op{Kind: api.Remove}, api.Done{Answer: all}, "6 0\n"},
		{7, api.Op{Kind: api.Fade}, api.Done{Answer: all}, "7 0\n"},
		{8, api.Op{Kind: api.Merge}, api.Done{Answer: all}, "8 0\n"},
		{9, api.Op{Kind: api.Load}, api.Done{Answer: all}, "9 0\n"},
		{9, api.Op{}, api.Done{Answer: all}, "9 0\n"},
		{9, api.Op{Kind: 99}, api.Done{Answer: all}, "9 0\n"},
		{-3, api.Op{Kind: math.MinInt}, api.Done{Answer: all}, "-3 0\n"},
		{math.MinInt, api.Op{}, api.Done{}, "-9223372036854775808 0\n"},
		{math.MaxInt, api.Op{}, api.Done{Err: -7}, "9223372036854775807 -7\n"},
		{0, api.Op{Kind: api.Solve}, api.Done{Answer: api.Answer{Coefs: []float64{infinity, 1}}}, "0 0 0  1\n"},
		{0, api.Op{Kind: api.Solve}, api.Done{Answer: api.Answer{Coefs: []float64{math.NaN()}}}, "0 0 0 \n"},
	} {
		if s := Line(c.n, c.o, c.d); s != c.want {
			t.Errorf("case %d: %q, not %q", i, s, c.want)
		}
	}
	for kind := range 11 {
		for err := api.ErrArg; err <= api.ErrNear; err++ {
			if s := Line(kind, api.Op{Kind: kind}, api.Done{Answer: all, Err: err}); s != strconv.Itoa(kind)+" "+strconv.Itoa(int(err))+"\n" {
				t.Errorf("of kind %d and error %d: %q", kind, err, s)
			}
		}
	}
}

// playByWords says P24.6 over again, of a text that can be read.
func playByWords(text string) string {
	first, l, _, _ := readByWords(text)
	_, asked, done := runByWords(first, l)
	out := ""
	for i := range asked {
		out += Line(i, asked[i], done[i])
	}
	at, err := audit.Audit(first, asked)
	if err == api.OK {
		return out + "near\n"
	}
	return out + "far " + strconv.Itoa(at) + "\n"
}

// P24.6: the document's example, texts by hand, and texts without things.
func TestPlay(t *testing.T) {
	for _, c := range [][2]string{
		{"levelling 1 1\nin 0 3 6\nsolve 0 0", "0 0\n1 0 2 1p1\nnear\n"},
		{"levelling 1 1\nin 0 3 6\nsolve 0 0\n", "0 0\n1 0 2 1p1\nnear\n"},
		{"levelling 6 8", "near\n"},
		{"levelling 6 8\n", "near\n"},
		{"levelling 1 2\nin 0 1 2\nin 0 0 2\ntell 0\nship 0\nload 1 3\nmerge 0 1\nout 0 9 9\nload 1 9\nin 0 1\nfade 0 2\ntell 0 +\nsolve 0 1\nsolve 1 1\nship 9\n", "0 0\n1 0\n2 0 4 1 1p2 1p3 1p2 1p-1\n3 0 30\n4 0\n5 0\n6 8\n7 9\n8 3\n9 12\n10 10\n11 7\n12 0 2 0\n13 1\nnear\n"},
		{"levelling 2 1\nin 0 1 0 3\nin 0 0 1p1 -1\nsolve 0 0\nfade 0 1p-1\nsolve 0 0\nship 0\n", "0 0\n1 0\n2 0 6 3 -1p-1\n3 0\n4 0 7 3 -1p-1\n5 0 54\nnear\n"},
	} {
		if s, n, err := Play(c[0]); s != c[1] || n != 0 || err != api.OK {
			t.Errorf("Play(%q): %q, %d, %d, not %q", c[0], s, n, err, c[1])
		}
	}
	if verdict(7, api.ErrNear) != "far 7\n" || verdict(0, api.ErrArg) != "far 0\n" || verdict(7, api.OK) != "near\n" {
		t.Errorf("%q, %q, %q", verdict(7, api.ErrNear), verdict(0, api.ErrArg), verdict(7, api.OK))
	}
}

// P24.6, P24.7: any texts that can be read; their last line is "near".
func TestPlayByWords(t *testing.T) {
	seed := drawer(6)
	for range 150 {
		text := seed.text(25)
		s, n, err := Play(text)
		if want := playByWords(text); s != want || n != 0 || err != api.OK {
			t.Fatalf("Play(%q): %q, %d, %d, not %q", text, s, n, err, want)
		}
		if s != "near\n" && !strings.HasSuffix(s, "\nnear\n") {
			t.Fatalf("Play(%q): %q", text, s)
		}
	}
}

// P24.6: a text that fades beyond what dyads there are is told to be far, with the number of the thing.
func TestPlayFar(t *testing.T) {
	text := "levelling 1 1\nin 0 9007199254740991 1\n" + strings.Repeat("fade 0 9007199254740991p-53\n", 195)
	s, n, err := Play(text)
	if want := playByWords(text); s != want || n != 0 || err != api.OK {
		t.Fatalf("%q, %d, %d, not %q", s, n, err, want)
	}
	_, l, _, _ := Read(text)
	first, _ := engine.New(1, 1)
	at, err := audit.Audit(first, l)
	if err != api.ErrNear || at < 150 || !strings.HasSuffix(s, "\n195 0\nfar "+strconv.Itoa(at)+"\n") {
		t.Errorf("%q, %d, %d", s, at, err)
	}
}

// P24.6: the things are audited as they were asked: a shard that is loaded has a new ledger, which is not yet faded.
func TestPlayAuditsWhatWasLoaded(t *testing.T) {
	fades := strings.Repeat("fade 0 9007199254740991p-53\n", 120)
	text := "levelling 1 1\nin 0 9007199254740991 1\n" + fades + "ship 0\nload 0 121\n" + fades
	s, n, err := Play(text)
	if want := playByWords(text); s != want || n != 0 || err != api.OK || !strings.HasSuffix(s, "\n242 0\nnear\n") {
		t.Errorf("%q, %d, %d, not %q", s, n, err, want)
	}
	first, l, _, _ := Read(text)
	if at, err := audit.Audit(first, l); at < 123 || err != api.ErrNear {
		t.Errorf("without what was loaded: %d, %d", at, err)
	}
}

// What is wrong with a line is found behind whatever it is wrapped in, and its number, too.
func TestWrongLine(t *testing.T) {
	err := error(wrongLine{7, errWord})
	if lineOf(err) != 7 || numberOf(err) != api.ErrLine || err.Error() != "line 7: "+errWord.Error() || !errors.Is(err, errWord) {
		t.Errorf("%v: %d, %d", err, lineOf(err), numberOf(err))
	}
	if lineOf(errWord) != 0 || numberOf(errWord) != api.ErrLine || lineOf(nil) != 0 || numberOf(nil) != api.OK {
		t.Errorf("%d, %d, %d, %d", lineOf(errWord), numberOf(errWord), lineOf(nil), numberOf(nil))
	}
}

// R5, R6: what is handed in is not changed, no answer shares its memory, and the same is answered again.
func TestAnswersAreNewMemory(t *testing.T) {
	seed := drawer(7)
	for range 200 {
		text := seed.text(12)
		s, l, _, _ := Read(text)
		s, _ = replay.Play(s, l)
		was, things := kept(s), keptOps(l)
		none, _, _ := Run(s, nil)
		for _, f := range none.Shards {
			f.Tri[0] = -3
		}
		last, asked, done := Run(s, l)
		wantLast, wantAsked := kept(last), keptOps(asked)
		for _, f := range last.Shards {
			f.Tri[0] = -3
		}
		for i := range asked {
			for n := range asked[i].Row.X {
				asked[i].Row.X[n] = 77
			}
			for n := range asked[i].Plan {
				asked[i].Plan[n] = 77
			}
			clear(done[i].Answer.Coefs)
		}
		if !sameState(s, was) || !sameOps(l, things) {
			t.Fatalf("%v, %v was changed", was, things)
		}
		if again, askedAgain, _ := Run(s, l); !sameState(again, wantLast) || !sameOps(askedAgain, wantAsked) {
			t.Fatalf("asked again, Run(%v, %v) is not the same", was, things)
		}
		first, k, _, _ := Read(text)
		for _, f := range first.Shards {
			f.Tri[0] = -3
		}
		for i := range k {
			clear(k[i].Row.X)
			clear(k[i].Plan)
		}
		if again, k, _, err := Read(text); err != api.OK || again.Shards[0].Tri[0] != 0 || !sameOps(k, things) {
			t.Fatalf("asked again, Read(%q) is not the same", text)
		}
	}
}
