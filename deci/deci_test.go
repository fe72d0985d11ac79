package deci_test

import (
	"math"
	"math/big"
	"math/rand"
	"strings"
	"testing"

	"soffit/api"
	"soffit/deci"
)

func dec(t *testing.T, s string) api.Dec {
	t.Helper()
	d, e := deci.Parse(s)
	if e != api.OK {
		t.Fatalf("Parse(%q): %d", s, e)
	}
	return d
}

// unsound are numbers that no function may take.
func unsound() []api.Dec {
	return []api.Dec{
		{N: 10, Scale: 1}, {N: 0, Scale: 1}, {N: 1, Scale: 7}, {N: 1, Scale: -1},
		{N: api.MaxCoef + 1}, {N: -api.MaxCoef - 1}, {N: math.MinInt}, {N: math.MaxInt},
		{N: 1, Scale: math.MaxInt}, {N: 1, Scale: math.MinInt},
	}
}

func TestMake(t *testing.T) {
	for _, c := range []struct {
		n, scale int
		want     api.Dec
		e        api.Errno
	}{
		{0, 0, api.Dec{}, 0}, {0, 6, api.Dec{}, 0}, {100, 0, api.Dec{N: 100}, 0},
		{100, 1, api.Dec{N: 10}, 0}, {-1500, 3, api.Dec{N: -15, Scale: 1}, 0},
		{api.MaxCoef, 6, api.Dec{N: api.MaxCoef, Scale: 6}, 0},
		{-api.MaxCoef, 0, api.Dec{N: -api.MaxCoef}, 0},
		{api.MaxCoef + 1, 0, api.Dec{}, api.ErrRange}, {-api.MaxCoef - 1, 6, api.Dec{}, api.ErrRange},
		{api.MaxCoef + 1, 6, api.Dec{}, api.ErrRange}, {math.MinInt, 0, api.Dec{}, api.ErrRange},
		{1, -1, api.Dec{}, api.ErrRange}, {1, 7, api.Dec{}, api.ErrRange}, {10, 7, api.Dec{}, api.ErrRange},
	} {
		if d, e := deci.Make(c.n, c.scale); d != c.want || e != c.e {
			t.Errorf("Make(%d, %d): %v, %d", c.n, c.scale, d, e)
		}
	}
}

func TestSound(t *testing.T) {
	for _, d := range unsound() {
		if deci.Sound(d) {
			t.Errorf("%v is sound", d)
		}
	}
	for _, d := range []api.Dec{{}, {N: 10}, {N: -1, Scale: 6}, {N: api.MaxCoef, Scale: 6}, {N: -api.MaxCoef}} {
		if !deci.Sound(d) {
			t.Errorf("%v is not sound", d)
		}
	}
}

func TestUnsoundArguments(t *testing.T) {
	good := api.Dec{N: 1}
	for _, d := range unsound() {
		for i, f := range []func(a, b api.Dec) (api.Dec, api.Errno){deci.Add, deci.Mul, deci.Div} {
			if r, e := f(d, good); r != (api.Dec{}) || e != api.ErrForm {
				t.Errorf("%d, first %v: %v, %d", i, d, r, e)
			}
			if r, e := f(good, d); r != (api.Dec{}) || e != api.ErrForm {
				t.Errorf("%d, second %v: %v, %d", i, d, r, e)
			}
		}
		if n, e := deci.Compare(d, good); n != 0 || e != api.ErrForm {
			t.Errorf("Compare %v: %d, %d", d, n, e)
		}
		if n, e := deci.Compare(good, d); n != 0 || e != api.ErrForm {
			t.Errorf("Compare %v: %d, %d", d, n, e)
		}
		if r, e := deci.Neg(d); r != (api.Dec{}) || e != api.ErrForm {
			t.Errorf("Neg %v: %v, %d", d, r, e)
		}
		if s, e := deci.Text(d); s != "" || e != api.ErrForm {
			t.Errorf("Text %v: %q, %d", d, s, e)
		}
		if n, exact, e := deci.At(d, 0); n != 0 || exact || e != api.ErrForm {
			t.Errorf("At %v: %d, %v, %d", d, n, exact, e)
		}
		if n, exact, e := deci.At(d, -1); n != 0 || exact || e != api.ErrArg {
			t.Errorf("At %v, -1: %d, %v, %d", d, n, exact, e)
		}
	}
	if _, e := deci.Div(api.Dec{N: 10, Scale: 1}, api.Dec{}); e != api.ErrForm {
		t.Errorf("an unsound number over 0: %d", e)
	}
}

func TestCompareAndNeg(t *testing.T) {
	for _, c := range []struct {
		a, b string
		want int
	}{
		{"1.5", "1.50", 0}, {"-2", "1", -1}, {"0.000001", "0", 1}, {"-1.5", "-1.4", -1},
		{"999999999999", "999999.999999", 1}, {"-999999999999", "999999999999", -1}, {"0.2", "0.15", 1},
	} {
		if n, e := deci.Compare(dec(t, c.a), dec(t, c.b)); n != c.want || e != 0 {
			t.Errorf("Compare(%s, %s): %d, %d", c.a, c.b, n, e)
		}
	}
	for a, want := range map[string]string{"0": "0", "1.5": "-1.5", "-999999999999": "999999999999"} {
		if d, e := deci.Neg(dec(t, a)); d != dec(t, want) || e != 0 {
			t.Errorf("Neg(%s): %v, %d", a, d, e)
		}
	}
}

func TestArithmetic(t *testing.T) {
	for _, c := range []struct {
		op         byte
		a, b, want string
		e          api.Errno
	}{
		{'+', "0.1", "0.2", "0.3", 0}, {'+', "-1.5", "1.5", "0", 0}, {'+', "0.5", "0.5", "1", 0},
		{'+', "999999999999", "1", "", api.ErrRange}, {'+', "999999999999", "0.5", "", api.ErrRange},
		{'+', "99999999999.5", "0.55", "", api.ErrRange}, {'+', "99999999999.5", "0.5", "100000000000", 0},
		{'+', "-999999999999", "-1", "", api.ErrRange}, {'+', "999999999999", "-999999999999", "0", 0},
		{'*', "1.5", "-2", "-3", 0}, {'*', "0.001", "0.0005", "0", 0}, {'*', "0.001", "0.0015", "0.000002", 0},
		{'*', "0.001", "0.0025", "0.000002", 0}, {'*', "-0.001", "0.0025", "-0.000002", 0},
		{'*', "-0.001", "0.0035", "-0.000004", 0}, {'*', "0.001", "0.002501", "0.000003", 0},
		{'*', "1000000", "1000000", "", api.ErrRange}, {'*', "999999", "1000000", "999999000000", 0},
		{'*', "999999999999", "999999999999", "", api.ErrRange}, {'*', "999999.999999", "0.000001", "1", 0},
		{'*', "0", "-5", "0", 0}, {'*', "-0.000001", "0.1", "0", 0},
		{'*', "999999.999999", "0.999999", "999998.999999", 0}, {'*', "999999.999999", "1.000001", "1000000.999999", api.ErrRange},
		{'/', "1", "3", "0.333333", 0}, {'/', "2", "3", "0.666667", 0}, {'/', "-1", "8", "-0.125", 0},
		{'/', "1", "0", "", api.ErrZero}, {'/', "0", "0", "", api.ErrZero}, {'/', "0.000001", "2", "0", 0},
		{'/', "0.000003", "2", "0.000002", 0}, {'/', "-0.000003", "-2", "0.000002", 0}, {'/', "0.000003", "-2", "-0.000002", 0},
		{'/', "999999999999", "0.000001", "", api.ErrRange}, {'/', "0", "7", "0", 0}, {'/', "999999999999", "999999999999", "1", 0},
		{'/', "1", "0.000001", "1000000", 0}, {'/', "999999999999", "7", "142857142857", 0}, {'/', "999999999998", "7", "", api.ErrRange},
	} {
		f := map[byte]func(a, b api.Dec) (api.Dec, api.Errno){'+': deci.Add, '*': deci.Mul, '/': deci.Div}[c.op]
		d, e := f(dec(t, c.a), dec(t, c.b))
		if e != c.e {
			t.Errorf("%s %c %s: %d", c.a, c.op, c.b, e)
		}
		want := api.Dec{}
		if c.e == api.OK {
			want = dec(t, c.want)
		}
		if d != want {
			t.Errorf("%s %c %s: %v, want %v", c.a, c.op, c.b, d, want)
		}
	}
}

// tenTo returns ten to the power of k.
func tenTo(k int) int {
	p := 1
	for range k {
		p *= 10
	}
	return p
}

// exact returns d as a fraction.
func exact(d api.Dec) *big.Rat {
	return new(big.Rat).SetFrac64(int64(d.N), int64(tenTo(d.Scale)))
}

// rounded returns r in units of the smallest scale, half to even.
func rounded(r *big.Rat) *big.Int {
	n := new(big.Int).Mul(r.Num(), big.NewInt(1000000))
	q, m := new(big.Int).DivMod(n, r.Denom(), new(big.Int))
	switch m.Lsh(m, 1).Cmp(r.Denom()) {
	case 1:
		q.Add(q, big.NewInt(1))
	case 0:
		q.Add(q, big.NewInt(int64(q.Bit(0))))
	}
	return q
}

func TestAgainstFractions(t *testing.T) {
	r := rand.New(rand.NewSource(1))
	some := func() api.Dec {
		limit := int64(tenTo(1 + r.Intn(12)))
		d, _ := deci.Make(int(r.Int63n(2*limit-1)-limit+1), r.Intn(7))
		return d
	}
	for range 20000 {
		a, b := some(), some()
		for i, f := range []func(a, b api.Dec) (api.Dec, api.Errno){deci.Add, deci.Mul, deci.Div} {
			if i == 2 && b.N == 0 {
				continue
			}
			x, y := exact(a), exact(b)
			sum := []func(x, y *big.Rat) *big.Rat{new(big.Rat).Add, new(big.Rat).Mul, new(big.Rat).Quo}[i](x, y)
			units := rounded(sum)
			d, e := f(a, b)
			if e == api.OK {
				if !deci.Sound(d) || new(big.Int).Div(new(big.Int).Mul(big.NewInt(int64(d.N)), big.NewInt(1000000)), big.NewInt(int64(tenTo(d.Scale)))).Cmp(units) != 0 {
					t.Fatalf("%d: %v, %v: %v", i, a, b, d)
				}
				continue
			}
			for range 6 {
				if q, m := new(big.Int).QuoRem(units, big.NewInt(10), new(big.Int)); m.Sign() == 0 {
					units = q
				}
			}
			if e != api.ErrRange || d != (api.Dec{}) || units.CmpAbs(big.NewInt(api.MaxCoef)) <= 0 {
				t.Fatalf("%d: %v, %v: %v, %d", i, a, b, d, e)
			}
		}
	}
}

func TestText(t *testing.T) {
	for s, want := range map[string]string{
		"0": "0", "-0": "0", "-0.000": "0", "12.50": "12.5", "-0.000001": "-0.000001", "0.10": "0.1", "100": "100",
		"999999999999": "999999999999", "-999999.999999": "-999999.999999", "10.05": "10.05", "0.0000010": "0.000001",
		"5." + strings.Repeat("0", 1000): "5",
	} {
		if got, e := deci.Text(dec(t, s)); got != want || e != 0 {
			t.Errorf("%q: %q, %d", s, got, e)
		}
	}
}

func TestParseErrors(t *testing.T) {
	for s, want := range map[string]api.Errno{
		"": api.ErrText, "-": api.ErrText, "--1": api.ErrText, "01": api.ErrText, "-01": api.ErrText, "00": api.ErrText,
		"1.": api.ErrText, ".5": api.ErrText, "-.5": api.ErrText, "1.5.2": api.ErrText, "+1": api.ErrText, "1e5": api.ErrText,
		" 1": api.ErrText, "1 ": api.ErrText, "1.-5": api.ErrText, "1_0": api.ErrText, "\xff": api.ErrText, "١": api.ErrText,
		"0000000000000": api.ErrText, "1.x": api.ErrText,
		"0.0000001": api.ErrRange, "1000000000000": api.ErrRange, "999999999999.5": api.ErrRange, "-1000000.000001": api.ErrRange,
		strings.Repeat("9", 400): api.ErrRange, "0." + strings.Repeat("0", 400) + "1": api.ErrRange,
	} {
		if d, e := deci.Parse(s); d != (api.Dec{}) || e != want {
			t.Errorf("Parse(%q): %v, %d", s, d, e)
		}
	}
}

func TestAt(t *testing.T) {
	for _, c := range []struct {
		s        string
		scale, n int
		exact    bool
		e        api.Errno
	}{
		{"1.25", 1, 12, false, 0}, {"-1.25", 1, -13, false, 0}, {"1.2", 1, 12, true, 0}, {"5", 2, 500, true, 0},
		{"-0.5", 0, -1, false, 0}, {"0.5", 0, 0, false, 0}, {"0", 6, 0, true, 0}, {"-3", 0, -3, true, 0},
		{"999999999999", 6, 999999999999000000, true, 0}, {"-999999999999", 6, -999999999999000000, true, 0},
		{"1", -1, 0, false, api.ErrArg}, {"1", 7, 0, false, api.ErrArg},
	} {
		if n, exact, e := deci.At(dec(t, c.s), c.scale); n != c.n || exact != c.exact || e != c.e {
			t.Errorf("At(%s, %d): %d, %v, %d", c.s, c.scale, n, exact, e)
		}
	}
}
