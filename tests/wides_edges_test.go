package tests

import (
	"math/big"
	"strings"
	"testing"

	"loop.example/g01242/impl"
)

func TestWidesExample(t *testing.T) {
	if n, code := impl.SizeOf(impl.WideOf(256)); n != 9 || code != impl.OK {
		t.Errorf("SizeOf 256: got %d", n)
	}
	up, code := impl.ShiftNear(impl.WideOf(5), 1)
	wantWide(t, "ShiftNear 5", up, code, big.NewInt(3))
	up, code = impl.ShiftNear(impl.WideOf(-5), 1)
	wantWide(t, "ShiftNear -5", up, code, big.NewInt(-2))
	q, r, code := impl.DivWides(impl.WideOf(-7), impl.WideOf(2))
	wantWide(t, "-7 / 2", q, code, big.NewInt(-4))
	wantWide(t, "the rest of -7 / 2", r, code, big.NewInt(1))
	q, code = impl.DivNear(impl.WideOf(7), impl.WideOf(2))
	wantWide(t, "nearest to 7 / 2", q, code, big.NewInt(4))
	root, code := impl.RootWide(impl.WideOf(99))
	wantWide(t, "the root of 99", root, code, big.NewInt(9))
	common, code := impl.CommonWide(impl.WideOf(12), impl.WideOf(-18))
	wantWide(t, "the divisor of 12 and -18", common, code, big.NewInt(6))
	got, code := impl.ReadWide("1" + strings.Repeat("0", 58))
	wantCode(t, "a 1 with 58 zeros", got, code, impl.ErrLimit)
}

func TestCodeNames(t *testing.T) {
	names := []string{"ok", "invalid", "range", "limit", "state", "syntax", "notfound", "budget", "proof"}
	for code, want := range names {
		if got := impl.CodeName(int64(code)); got != want {
			t.Errorf("CodeName of %d: got %q", code, got)
		}
	}
	for _, code := range []int64{-1 << 63, -1, 9, 256, 1 << 32, 1<<63 - 1} {
		if got := impl.CodeName(code); got != "" {
			t.Errorf("CodeName of %d: got %q", code, got)
		}
	}
}

// What is nearest if two are is the greater one, also below 0, and with divisors of either sign.
func TestWidesNearestOfTwo(t *testing.T) {
	for _, c := range []struct{ a, by, want int64 }{
		{1, 1, 1}, {-1, 1, 0}, {3, 1, 2}, {-3, 1, -1}, {2, 2, 1}, {-2, 2, 0}, {6, 2, 2}, {-6, 2, -1},
		{5, 2, 1}, {-5, 2, -1}, {7, 2, 2}, {-7, 2, -2}, {1, 2, 0}, {-1, 2, 0}, {3, 2, 1}, {-3, 2, -1},
		{5, 0, 5}, {-5, 0, -5}, {0, 0, 0}, {0, 191, 0}, {1, 191, 0}, {-1, 191, 0},
		{1 << 40, 41, 1}, {-1 << 40, 41, 0}, {-1<<40 - 1, 41, -1}, {1<<40 - 1, 41, 0},
	} {
		got, code := impl.ShiftNear(impl.WideOf(c.a), c.by)
		wantWide(t, "ShiftNear", got, code, big.NewInt(c.want))
	}
	for _, c := range []struct{ a, b, want int64 }{
		{7, 2, 4}, {-7, 2, -3}, {7, -2, -3}, {-7, -2, 4}, {1, 2, 1}, {-1, 2, 0}, {1, -2, 0}, {-1, -2, 1},
		{9, 6, 2}, {-9, 6, -1}, {9, -6, -1}, {-9, -6, 2}, {8, 6, 1}, {-8, 6, -1}, {10, 6, 2}, {-10, -6, 2}, {10, -6, -2},
		{1, 3, 0}, {2, 3, 1}, {-1, 3, 0}, {-2, 3, -1}, {0, 3, 0}, {0, -3, 0}, {6, 3, 2}, {6, -3, -2}, {5, 1, 5}, {5, -1, -5},
	} {
		got, code := impl.DivNear(impl.WideOf(c.a), impl.WideOf(c.b))
		wantWide(t, "DivNear", got, code, big.NewInt(c.want))
	}
	half, top := wide(t, power2(190, 0)), wide(t, power2(192, -1))
	low := wide(t, "-"+power2(192, -1))
	got, code := impl.ShiftNear(half, impl.MaxShift)
	wantWide(t, "2 to the power 190, shifted", got, code, big.NewInt(1))
	got, code = impl.ShiftNear(impl.Wide{Neg: true, Limb: half.Limb}, impl.MaxShift)
	wantWide(t, "its opposite, shifted", got, code, big.NewInt(0))
	got, code = impl.ShiftNear(top, impl.MaxShift)
	wantWide(t, "the greatest one, shifted", got, code, big.NewInt(2))
	got, code = impl.ShiftNear(low, impl.MaxShift)
	wantWide(t, "the least one, shifted", got, code, big.NewInt(-2))
	got, code = impl.ShiftNear(low, 0)
	wantWide(t, "the least one, shifted by 0", got, code, bigOf(low))
	got, code = impl.DivNear(top, impl.WideOf(2))
	wantWide(t, "half of the greatest one", got, code, bigOf(wide(t, power2(191, 0))))
	got, code = impl.DivNear(low, impl.WideOf(2))
	wantWide(t, "half of the least one", got, code, bigOf(wide(t, "-"+power2(191, -1))))
	got, code = impl.DivNear(wide(t, power2(192, -2)), low)
	wantWide(t, "nearly one of the least one", got, code, big.NewInt(-1))
}

func TestWidesQuotientsOfEitherSign(t *testing.T) {
	for _, c := range []struct{ a, b, q, r int64 }{
		{7, 2, 3, 1}, {-7, 2, -4, 1}, {7, -2, -4, -1}, {-7, -2, 3, -1},
		{6, 2, 3, 0}, {-6, 2, -3, 0}, {6, -2, -3, 0}, {-6, -2, 3, 0},
		{1, 5, 0, 1}, {-1, 5, -1, 4}, {1, -5, -1, -4}, {-1, -5, 0, -1},
		{0, 5, 0, 0}, {0, -5, 0, 0}, {5, 1, 5, 0}, {5, -1, -5, 0}, {5, 5, 1, 0}, {5, -5, -1, 0},
	} {
		q, r, code := impl.DivWides(impl.WideOf(c.a), impl.WideOf(c.b))
		wantWide(t, "DivWides", q, code, big.NewInt(c.q))
		wantWide(t, "the rest of DivWides", r, code, big.NewInt(c.r))
	}
}

// Sizes just below 2 to the power 192 can be returned, those at it cannot.
func TestWidesAtTheLimit(t *testing.T) {
	top, low := wide(t, power2(192, -1)), wide(t, "-"+power2(192, -1))
	one, minus := impl.WideOf(1), impl.WideOf(-1)
	upper := wide(t, power2(191, 0))
	fine := func(what string, want impl.Wide) func(impl.Wide, int64) {
		return func(got impl.Wide, code int64) { wantWide(t, what, got, code, bigOf(want)) }
	}
	limit := func(what string) func(impl.Wide, int64) {
		return func(got impl.Wide, code int64) { wantCode(t, what, got, code, impl.ErrLimit) }
	}
	limit("greatest + 1")(impl.AddWides(top, one))
	limit("least - 1")(impl.SubWides(low, one))
	limit("greatest - -1")(impl.SubWides(top, minus))
	limit("least + least")(impl.AddWides(low, low))
	limit("a half and a half")(impl.AddWides(upper, upper))
	fine("greatest + 0", top)(impl.AddWides(top, impl.Wide{}))
	fine("greatest + least", impl.Wide{})(impl.AddWides(top, low))
	fine("0 - greatest", low)(impl.SubWides(impl.Wide{}, top))
	fine("opposite of the greatest", low)(impl.NegWide(top))
	fine("opposite of 0", impl.Wide{})(impl.NegWide(impl.Wide{}))
	limit("96 and 96 bits")(impl.MulWides(wide(t, power2(96, 0)), wide(t, power2(96, 0))))
	limit("32 and 160 bits")(impl.MulWides(wide(t, "-"+power2(32, 0)), wide(t, power2(160, 0))))
	limit("three times 0101..")(impl.MulWides(impl.WideOf(6), wide(t, new(big.Int).Div(bigOf(top), big.NewInt(3)).String())))
	fine("greatest * -1", low)(impl.MulWides(top, minus))
	fine("greatest * 0", impl.Wide{})(impl.MulWides(low, impl.Wide{}))
	limit("2 to the power 192")(impl.ShiftUp(impl.WideOf(2), impl.MaxShift))
	limit("greatest * 2")(impl.ShiftUp(top, 1))
	fine("1 shifted", upper)(impl.ShiftUp(one, impl.MaxShift))
	fine("greatest shifted by 0", top)(impl.ShiftUp(top, 0))
	fine("0 shifted", impl.Wide{})(impl.ShiftUp(impl.Wide{}, impl.MaxShift))
	fine("2 to the power 191", upper)(impl.PowerWide(impl.WideOf(2), 191))
	limit("3 to the power 122")(impl.PowerWide(impl.WideOf(3), 122))
	limit("-4 to the power 96")(impl.PowerWide(impl.WideOf(-4), 96))
	fine("greatest to the power 1", low)(impl.PowerWide(low, 1))
	fine("greatest to the power 0", one)(impl.PowerWide(top, 0))
	fine("0 to the power 0", one)(impl.PowerWide(impl.Wide{}, 0))
	fine("0 to the power 191", impl.Wide{})(impl.PowerWide(impl.Wide{}, 191))
	fine("-1 to the power 191", minus)(impl.PowerWide(minus, 191))
	fine("greatest read", top)(impl.ReadWide("6277101735386680763835789423207666416102355444464034512895"))
	fine("least read", low)(impl.ReadWide("-6277101735386680763835789423207666416102355444464034512895"))
	limit("2 to the power 192 read")(impl.ReadWide("6277101735386680763835789423207666416102355444464034512896"))
	limit("its opposite read")(impl.ReadWide("-6277101735386680763835789423207666416102355444464034512896"))
	limit("58 digits of 9")(impl.ReadWide(strings.Repeat("9", 58)))
	if n, code := impl.SizeOf(low); n != 192 || code != impl.OK {
		t.Errorf("SizeOf the least one: got %d", n)
	}
}

func TestWidesCommonDivisors(t *testing.T) {
	for _, c := range []struct{ a, b, want int64 }{
		{0, 0, 0}, {0, 5, 5}, {5, 0, 5}, {0, -5, 5}, {-5, 0, 5}, {12, 18, 6}, {12, -18, 6}, {-12, 18, 6}, {-12, -18, 6}, {1, 7, 1}, {-7, 1, 1}, {35, 64, 1},
	} {
		got, code := impl.CommonWide(impl.WideOf(c.a), impl.WideOf(c.b))
		wantWide(t, "CommonWide", got, code, big.NewInt(c.want))
	}
	low := wide(t, "-"+power2(192, -1))
	got, code := impl.CommonWide(low, impl.Wide{})
	wantWide(t, "CommonWide of the least one and 0", got, code, bigOf(wide(t, power2(192, -1))))
}

func TestWidesOfNarrowOnes(t *testing.T) {
	for _, n := range []int64{-1 << 63, -1<<63 + 1, -1 << 32, -1<<32 + 1, -256, -1, 0, 1, 255, 1<<32 - 1, 1 << 32, 1<<63 - 1} {
		a := impl.WideOf(n)
		wantWide(t, "WideOf", a, impl.OK, big.NewInt(n))
		if got, code := impl.NarrowOf(a); got != n || code != impl.OK {
			t.Errorf("NarrowOf %d: got %d with %d", n, got, code)
		}
	}
	for _, text := range []string{power2(63, 0), "-" + power2(63, 1), power2(64, -1), "-" + power2(64, -1), power2(64, 0), "-" + power2(64, 0), power2(64, 5), power2(96, 0), power2(191, 7), "-" + power2(192, -1)} {
		if n, code := impl.NarrowOf(wide(t, text)); n != 0 || code != impl.ErrRange {
			t.Errorf("NarrowOf %s: got %d with %d", text, n, code)
		}
	}
}

func TestWidesSignsAndSizes(t *testing.T) {
	for _, a := range someWides() {
		x := bigOf(a)
		if sign, code := impl.SignOf(a); sign != int64(x.Sign()) || code != impl.OK {
			t.Errorf("SignOf %v: got %d with %d", x, sign, code)
		}
		if size, code := impl.SizeOf(a); size != int64(x.BitLen()) || code != impl.OK {
			t.Errorf("SizeOf %v: got %d with %d", x, size, code)
		}
		neg, code := impl.NegWide(a)
		wantWide(t, "NegWide", neg, code, x.Neg(x))
	}
}

func TestWidesOfNoText(t *testing.T) {
	for _, text := range []string{
		"", "-", "--1", "+1", "+0", "-0", "00", "-00", "01", "-01", "007", " 1", "1 ", "1\n", "\t1", "1-", "1-2", "- 1",
		"1.0", "1e3", "0x10", "1_000", "1,000", "a", "1a", "a1", "\x00", "1\x00", "/", ":", "1/", "1:", "٣", "１", "-\xff", "−1",
		"0" + strings.Repeat("0", 60), "-" + strings.Repeat("9", 60) + " ",
	} {
		got, code := impl.ReadWide(text)
		wantCode(t, "ReadWide of "+text, got, code, impl.ErrSyntax)
	}
	for text, want := range map[string]int64{"0": 0, "7": 7, "-7": -7, "10": 10, "-10": -10, "100": 100} {
		got, code := impl.ReadWide(text)
		wantWide(t, "ReadWide of "+text, got, code, big.NewInt(want))
	}
}
