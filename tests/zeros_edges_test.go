package tests

import (
	"fmt"
	"math/big"
	"slices"
	"strings"
	"testing"

	"loop.example/g01242/impl"
)

// The example of the chapter, as the document tells it.
func TestZerosExample(t *testing.T) {
	p := poly(-2, 0, 1)
	bound, code := impl.BoundOf(p)
	wantNumber(t, "BoundOf x * x - 2", bound, code, 2, impl.OK)
	parts, code := impl.PartsOf(p)
	if partsText(parts) != "-8 0/1; 0 8/1" || code != impl.OK {
		t.Fatalf("PartsOf: got %s with %d", partsText(parts), code)
	}
	fine, code := impl.RefinePart(p, parts[1], 4)
	if fine != part(22, 23, 4) || code != impl.OK {
		t.Errorf("RefinePart: got %s with %d", partText(fine), code)
	}
	a, code := impl.ZeroApprox(p, parts[1], 8)
	wantWide(t, "ZeroApprox", a, code, big.NewInt(363))
	wantChain(t, p, "-2 0 1; 0 2; 1")
	sum, code := impl.SeriesApprox(impl.Series{Num: 1, Den: 2, First: 1, Step: 1}, 8)
	wantWide(t, "SeriesApprox", sum, code, big.NewInt(355))
}

// Polynomials of the degrees 1 and 8, with coefficients of MaxCoef and of 0.
func TestZerosValidPolysByHand(t *testing.T) {
	const most = impl.MaxCoef
	for _, p := range [][]int64{{0, 1}, {0, -1}, {most, most}, {-most, -most}, {0, 0, 1}, {0, 0, 0, 0, 0, 0, 0, 0, -1}, {most, most, most, most, most, most, most, most, most}, {-most, 0, most, 0, -most, 0, most, 0, -most}} {
		if !impl.ValidPoly(p) || !isPoly(p) {
			t.Errorf("%v is valid", p)
		}
	}
}

func TestZerosValuesByHand(t *testing.T) {
	const most = impl.MaxCoef
	for _, row := range []struct {
		p      []int64
		a      string
		places int64
		want   string
	}{
		{poly(-2, 0, 1), "3", 0, "7"}, {poly(-2, 0, 1), "3", 1, "1"}, {poly(-2, 0, 1), "-3", 1, "1"}, {poly(-2, 0, 1), "0", 3, "-128"}, {poly(-2, 0, 1), "11", 3, "-7"}, {poly(5, 4, 3), "2", 0, "25"}, {poly(5, 4, 3), "1", 1, "31"}, {poly(5, 4, 3), "-1", 1, "15"}, {poly(5, 4, 3), "1", 64, sumText(pow2(130), pow2(128), pow2(66), big.NewInt(3))},
		{poly(7, -3), "0", 0, "7"}, {poly(7, -3), "0", 64, "129127208515966861312"}, {poly(7, -3), "1", 64, "129127208515966861309"}, {poly(0, 1), "0", 64, "0"}, {poly(0, 1), "5", 64, "5"}, {poly(0, -1), "5", 9, "-5"},
		{poly(1, 2, 3, 4, 5, 6, 7, 8, 9), "1", 0, "45"}, {poly(1, 2, 3, 4, 5, 6, 7, 8, 9), "-1", 0, "5"}, {poly(1, 2, 3, 4, 5, 6, 7, 8, 9), "0", 0, "1"}, {poly(1, 2, 3, 4, 5, 6, 7, 8, 9), "1", 1, "1013"}, {poly(1, 0, 0, 0, 0, 0, 0, 0, 1), "2", 0, "257"}, {poly(1, 0, 0, 0, 0, 0, 0, 0, -1), "-2", 1, "0"},
		{poly(most, most, most, most, most, most, most, most, most), "1", 0, "9000000"}, {poly(most, most, most, most, most, most, most, most, most), "10", 0, "111111111000000"}, {poly(0, 0, 0, 0, 0, 0, 0, 0, 1), "0", 23, "0"},
		// Just as large as it may be, and too large: the value itself, and what there is on the way to it.
		{poly(0, 1), power2(192, -1), 0, power2(192, -1)}, {poly(1, 1), power2(192, -1), 0, ""}, {poly(-1, 1), power2(192, -1), 0, power2(192, -2)}, {poly(1, -1), power2(192, -1), 0, "-" + power2(192, -2)}, {poly(-1, -1), power2(192, -1), 0, ""}, {poly(0, 1), "-" + power2(192, -1), 5, "-" + power2(192, -1)},
		{poly(0, 2), power2(191, -1), 0, power2(192, -2)}, {poly(0, 2), power2(191, 0), 0, ""}, {poly(-1, 2), power2(191, 0), 0, ""}, {poly(1, 2), power2(191, -1), 0, power2(192, -1)}, {poly(2, 2), power2(191, -1), 0, ""}, {poly(0, 0, 1), power2(96, -1), 0, sumText(pow2(192), new(big.Int).Neg(pow2(97)), big.NewInt(1))}, {poly(0, 0, 1), power2(96, 0), 0, ""}, {poly(-most, 0, 1), power2(96, 0), 0, ""}, {poly(0, -1, 1), power2(96, 0), 0, sumText(pow2(192), new(big.Int).Neg(pow2(96)))},
		// Shifts by as much as MaxShift, and by more, also of coefficients that are 0, at places where nothing else is large.
		{poly(0, 0, 0, 1), "0", 63, "0"}, {poly(0, 0, 0, 1), "0", 64, ""}, {poly(1, 0, 0, 1), "0", 63, power2(189, 0)}, {poly(7, 0, 0, 1), "0", 63, sumText(new(big.Int).Mul(pow2(189), big.NewInt(7)))}, {poly(8, 0, 0, 1), "0", 63, ""}, {poly(0, 0, 0, 0, 1), "0", 47, "0"}, {poly(0, 0, 0, 0, 1), "0", 48, ""}, {poly(0, 0, 0, 0, 0, 1), "0", 38, "0"}, {poly(0, 0, 0, 0, 0, 1), "0", 39, ""},
		{poly(0, 0, 0, 0, 0, 0, 0, 0, 1), "0", 24, ""}, {poly(0, 0, 0, 0, 0, 0, 0, 0, 1), "0", 64, ""}, {poly(0, 1, 0, 0, 0, 0, 0, 0, 1), "0", 23, "0"}, {poly(most, 0, 1), "0", 64, sumText(new(big.Int).Mul(pow2(128), big.NewInt(most)))}, {poly(0, 0, 1), power2(64, 0), 64, power2(128, 0)}, {poly(-most, 0, 1), power2(64, 0), 64, sumText(new(big.Int).Mul(pow2(128), big.NewInt(1-most)))},
		// The zero -100, at which what is added is too large already.
		{poly(most, 0, 0, 1), "-" + sumText(new(big.Int).Mul(pow2(50), big.NewInt(100))), 50, "0"}, {poly(most, 0, 0, 1), "-" + sumText(new(big.Int).Mul(pow2(58), big.NewInt(100))), 58, ""}, {poly(most, 0, 0, 1), "-" + sumText(new(big.Int).Mul(pow2(57), big.NewInt(100))), 57, "0"},
	} {
		got, code := impl.ValueAt(row.p, wide(t, row.a), row.places)
		what := fmt.Sprint("ValueAt ", row.p, " at ", row.a, " for ", row.places)
		if row.want == "" {
			wantCode(t, what, got, code, impl.ErrLimit)
			continue
		}
		wantWide(t, what, got, code, bigOf(wide(t, row.want)))
	}
}

// sumText returns the text of a sum.
func sumText(list ...*big.Int) string {
	sum := new(big.Int)
	for _, n := range list {
		sum.Add(sum, n)
	}
	return sum.String()
}

func TestZerosSlopesByHand(t *testing.T) {
	const most = impl.MaxCoef
	for _, row := range [][2][]int64{
		{poly(5, 4, 3), poly(4, 6)}, {poly(5, 4), poly(4)}, {poly(0, -1), poly(-1)}, {poly(1, 0, 0, 1), poly(0, 0, 3)}, {poly(0, 0, 0, 0, 0, 0, 0, 0, -1), poly(0, 0, 0, 0, 0, 0, 0, -8)},
		// Greater than MaxCoef.
		{poly(most, most, most, most, most, most, most, most, -most), poly(most, 2*most, 3*most, 4*most, 5*most, 6*most, 7*most, -8*most)},
	} {
		if got, code := impl.SlopeOf(row[0]); !slices.Equal(got, row[1]) || code != impl.OK {
			t.Errorf("SlopeOf %v: got %v with %d, want %v", row[0], got, code, row[1])
		}
	}
}

func TestZerosProductsByHand(t *testing.T) {
	const most = impl.MaxCoef
	for _, row := range [][3][]int64{
		{poly(-1, 1), poly(1, 1), poly(-1, 0, 1)}, {poly(0, 1), poly(0, 1), poly(0, 0, 1)}, {poly(2, 3), poly(-5, 0, 7), poly(-10, -15, 14, 21)}, {poly(0, 1000), poly(0, 1000), poly(0, 0, most)}, {poly(0, 1000), poly(0, -1000), poly(0, 0, -most)}, {poly(0, 1000), poly(0, 1001), nil}, {poly(0, 999), poly(0, -1001), poly(0, 0, -999999)}, {poly(0, 1001), poly(0, -1000), nil}, {poly(most, 1), poly(0, 1), poly(0, most, 1)}, {poly(most, 1), poly(0, 2), nil}, {poly(most, 1), poly(1, 1), nil}, {poly(999999, 1), poly(1, 1), poly(999999, most, 1)}, {poly(most, 1), poly(-most, 1), nil},
		// The degree 8 is the greatest one.
		{poly(0, 0, 0, 0, 1), poly(0, 0, 0, 0, 1), poly(0, 0, 0, 0, 0, 0, 0, 0, 1)}, {poly(0, 0, 0, 0, 1), poly(0, 0, 0, 0, 0, 1), nil}, {poly(0, 1), poly(0, 0, 0, 0, 0, 0, 0, 1), poly(0, 0, 0, 0, 0, 0, 0, 0, 1)}, {poly(0, 1), poly(0, 0, 0, 0, 0, 0, 0, 0, 1), nil}, {poly(1, 1, 1, 1, 1, 1, 1, 1, 1), poly(1, 1, 1, 1, 1, 1, 1, 1, 1), nil},
	} {
		for _, order := range [][2][]int64{{row[0], row[1]}, {row[1], row[0]}} {
			wantProductCode := int64(impl.OK)
			if row[2] == nil {
				wantProductCode = impl.ErrLimit
			}
			if got, code := impl.TimesPoly(order[0], order[1]); !slices.Equal(got, row[2]) || code != wantProductCode {
				t.Errorf("TimesPoly %v %v: got %v with %d, want %v", order[0], order[1], got, code, row[2])
			}
		}
	}
}

// wideText returns the text of wide coefficients.
func wideText(p []impl.Wide) string {
	var fields []string
	for _, a := range p {
		fields = append(fields, bigOf(a).String())
	}
	return strings.Join(fields, " ")
}

func wantChain(t *testing.T, p []int64, want string) {
	t.Helper()
	chain, code := impl.ChainOf(p)
	var fields []string
	for _, x := range chain {
		fields = append(fields, wideText(x))
	}
	wantChainCode := int64(impl.OK)
	if want == "" {
		wantChainCode = impl.ErrLimit
	}
	if strings.Join(fields, "; ") != want || code != wantChainCode {
		t.Errorf("ChainOf %v: got %q with %d, want %q", p, strings.Join(fields, "; "), code, want)
	}
}

// Short chains and long ones, with gaps between degrees, and such that end with a polynomial.
func TestZerosChainsByHand(t *testing.T) {
	for _, row := range []struct {
		p    []int64
		want string
	}{
		{poly(3, 2), "3 2; 2"}, {poly(3, -2), "3 -2; -2"}, {poly(0, 1000000), "0 1000000; 1000000"}, {poly(1, 0, 1), "1 0 1; 0 2; -1"}, {poly(2, 0, -1), "2 0 -1; 0 -2; -1"}, {poly(-8, 0, 4), "-8 0 4; 0 8; 1"}, {poly(-4, 0, -4), "-4 0 -4; 0 -8; 1"}, {poly(6, -5, 1), "6 -5 1; -5 2; 1"},
		// Multiple zeros: the chain ends with what p and its derivative have in common.
		{poly(0, 0, 1), "0 0 1; 0 2"}, {poly(1, 2, 1), "1 2 1; 2 2"}, {poly(-3, 6, -3), "-3 6 -3; 6 -6"}, {poly(0, 0, 0, 0, 0, 0, 0, 0, 5), "0 0 0 0 0 0 0 0 5; 0 0 0 0 0 0 0 40"}, {poly(2, -3, 0, 1), "2 -3 0 1; -3 0 3; -1 1"}, {poly(0, 0, -1, 1), "0 0 -1 1; 0 -2 3; 0 1"}, {poly(1, 0, 2, 0, 1), "1 0 2 0 1; 0 4 0 4; -1 0 -1"},
		{poly(0, -1, 0, 1), "0 -1 0 1; -1 0 3; 0 1; 1"}, {poly(0, 1, 0, -1), "0 1 0 -1; 1 0 -3; 0 -1; -1"}, {poly(-2, 0, 0, 1), "-2 0 0 1; 0 0 3; 1"}, {poly(0, 1, 0, 1), "0 1 0 1; 1 0 3; 0 -1; -1"},
		{poly(-1, 0, 0, 0, 0, 0, 0, 0, 1), "-1 0 0 0 0 0 0 0 1; 0 0 0 0 0 0 0 8; 1"}, {poly(1, 0, 0, 0, 0, 0, 0, 0, 1), "1 0 0 0 0 0 0 0 1; 0 0 0 0 0 0 0 8; -1"}, {poly(1, -1, 0, 0, 0, 1), "1 -1 0 0 0 1; -1 0 0 0 5; -5 4; -1"}, {poly(1, 0, 0, 0, -2, 0, 0, 0, 1), "1 0 0 0 -2 0 0 0 1; 0 0 0 -8 0 0 0 8; -1 0 0 0 1"},
		{poly(1, 0, -3, 0, 1), "1 0 -3 0 1; 0 -6 0 4; -2 0 3; 0 1; 1"}, {chebyshev, "1 0 -32 0 160 0 -256 0 128; 0 -64 0 640 0 -1536 0 1024; -1 0 24 0 -80 0 64; 0 3 0 -16 0 16; 1 0 -12 0 16; 0 -1 0 2; -1 0 4; 0 1; 1"},
		{poly(-1000000, 999999, -999998, 999997, 999983, 999979, 999961, 999959, 999953), ""},
		// Only the products of the last coefficients, which take each other away, are too large.
		{poly(-1, 154719, -816396, 836399, 36316), ""}, {poly(6063, -1, 0, -5216, -1, 9519), ""},
	} {
		wantChain(t, row.p, row.want)
	}
}

// Common divisors of one coefficient, of a whole polynomial, and in either order.
func TestZerosCommonDivisorsByHand(t *testing.T) {
	for _, row := range []struct {
		p, q []int64
		want string
	}{
		{poly(-2, 0, 1), poly(-3, 0, 1), "1"}, {poly(1, 1), poly(2, 1), "1"}, {poly(0, -5), poly(5, 5), "1"}, {poly(1, 0, 1), poly(0, 0, 0, -7), "1"}, {poly(0, 2), poly(0, -3), "0 1"}, {poly(0, 6), poly(0, 4), "0 1"},
		{poly(-2, 0, 1), poly(-2, 0, 1), "-2 0 1"}, {poly(-2, 0, 1), poly(2, 0, -1), "-2 0 1"}, {poly(6, 0, -3), poly(6, 0, -3), "-2 0 1"}, {poly(6, 0, -3), poly(-4, 0, 2), "-2 0 1"}, {poly(-6, -4), poly(9, 6), "3 2"}, {poly(6, -4), poly(9, -6), "-3 2"},
		{poly(-1, 0, 1), poly(2, 2), "1 1"}, {poly(-1, 0, 1), poly(2, -2), "-1 1"}, {poly(-1, 1), poly(-1, 0, 0, 0, 0, 0, 0, 0, 1), "-1 1"}, {poly(1, 0, 1), poly(-1, 0, 0, 0, 0, 0, 0, 0, 1), "1 0 1"}, {poly(1, 0, 0, 0, 1), poly(-1, 0, 0, 0, 0, 0, 0, 0, 1), "1 0 0 0 1"}, {poly(-1, 0, 0, 0, 0, 0, 1), poly(-1, 0, 0, 0, 0, 0, 0, 0, 1), "-1 0 1"},
		{productOf(poly(-1, 2), poly(3, 1)), productOf(poly(-1, 2), poly(-5, 1)), "-1 2"}, {productOf(poly(-1, 2), poly(3, 1)), productOf(poly(1, -2), poly(-5, 1)), "-1 2"}, {productOf(poly(-1, 1), poly(-1, 1)), productOf(poly(-1, 1), poly(-1, 1), poly(-1, 1)), "1 -2 1"}, {productOf(poly(1, 1), poly(2, 1), poly(3, 1)), productOf(poly(2, 1), poly(3, 1), poly(4, 1), poly(-7)), "6 5 1"},
		{wilkinson, wilkinson, "40320 -109584 118124 -67284 22449 -4536 546 -36 1"}, {wilkinson, poly(0, 1), "1"}, {wilkinson, poly(-8, 1), "-8 1"},
	} {
		for _, order := range [][2][]int64{{row.p, row.q}, {row.q, row.p}} {
			if got, code := impl.CommonPoly(order[0], order[1]); wideText(got) != row.want || code != impl.OK {
				t.Errorf("CommonPoly %v %v: got %q with %d, want %q", order[0], order[1], wideText(got), code, row.want)
			}
		}
	}
	large, other := poly(-1000000, 999999, -999998, 999997, 999983, 999979, 999961, 999959, 999953), poly(999931, -999917, 999907, 999883, 999863, 999853, 999809, 999773, -999769)
	if got, code := impl.CommonPoly(large, other); len(got) != 0 || code != impl.ErrLimit {
		t.Errorf("CommonPoly of what is too large: got %q with %d", wideText(got), code)
	}
}

func TestZerosTurnsByHand(t *testing.T) {
	for _, row := range []struct {
		p            []int64
		a, places, n int64
	}{
		// Values that are 0 are left out: those of x * x - 2 and its chain at 0 are -2, 0 and 1.
		{poly(-2, 0, 1), 0, 0, 1}, {poly(-2, 0, 1), 0, 64, 1}, {poly(-2, 0, 1), -2, 0, 2}, {poly(-2, 0, 1), 2, 0, 0}, {poly(-2, 0, 1), 3, 1, 0}, {poly(-2, 0, 1), 5, 2, 1}, {poly(-2, 0, 1), -5, 2, 1}, {poly(-2, 0, 1), -6, 2, 2}, {poly(2, 0, -1), 0, 0, 1}, {poly(2, 0, -1), -2, 0, 2},
		{poly(1, 0, 1), -1, 0, 1}, {poly(1, 0, 1), 0, 0, 1}, {poly(1, 0, 1), 1, 0, 1}, {poly(0, 1), -1, 0, 1}, {poly(0, 1), 0, 0, 0}, {poly(0, 1), 1, 0, 0}, {poly(0, -1), -1, 9, 1}, {poly(0, -1), 0, 9, 0},
		{poly(0, -1, 0, 1), -2, 0, 3}, {poly(0, -1, 0, 1), -1, 0, 2}, {poly(0, -1, 0, 1), 0, 0, 1}, {poly(0, -1, 0, 1), 1, 0, 0}, {poly(0, -1, 0, 1), -1, 1, 2}, {poly(0, -1, 0, 1), -2, 1, 2}, {wilkinson, 0, 0, 8}, {wilkinson, 4, 0, 4}, {wilkinson, 9, 1, 4}, {wilkinson, 8, 0, 0}, {wilkinson, -5, 0, 8}, {wilkinson, 900, 0, 0},
	} {
		got, code := impl.TurnsAt(row.p, small(row.a), row.places)
		wantNumber(t, fmt.Sprint("TurnsAt ", row.p, " at ", row.a, " for ", row.places), got, code, row.n, impl.OK)
	}
}

// A zero at the lower end does not belong to a part, and one at the upper end does.
func TestZerosCountsByHand(t *testing.T) {
	for _, row := range []struct {
		p            []int64
		a, b, places int64
		want, code   int64
	}{
		{poly(0, -1, 0, 1), -2, 2, 0, 3, impl.OK}, {poly(0, -1, 0, 1), -1, 1, 0, 2, impl.OK}, {poly(0, -1, 0, 1), -1, 0, 0, 1, impl.OK}, {poly(0, -1, 0, 1), -2, -1, 0, 1, impl.OK}, {poly(0, -1, 0, 1), 0, 1, 0, 1, impl.OK}, {poly(0, -1, 0, 1), 1, 2, 0, 0, impl.OK}, {poly(0, -1, 0, 1), -2, 2, 1, 2, impl.OK}, {poly(0, -1, 0, 1), -1, 1, 1, 1, impl.OK}, {poly(0, -1, 0, 1), 0, 1, 1, 0, impl.OK}, {poly(0, -1, 0, 1), -1, 0, 1, 1, impl.OK},
		{poly(0, 1), 0, 0, 0, 0, impl.OK}, {poly(0, 1), -1, 0, 0, 1, impl.OK}, {poly(0, 1), 0, 1, 0, 0, impl.OK}, {poly(0, 1), -1, -1, 64, 0, impl.OK}, {poly(0, -7), -1, 0, 64, 1, impl.OK}, {poly(-1, 2), 0, 1, 1, 1, impl.OK}, {poly(-1, 2), 1, 2, 1, 0, impl.OK}, {poly(-1, 2), 0, 1, 2, 0, impl.OK}, {poly(1, 0, 1), -99, 99, 0, 0, impl.OK}, {poly(-2, 0, 1), 0, 2, 0, 1, impl.OK}, {poly(-2, 0, 1), -2, 2, 0, 2, impl.OK}, {poly(-2, 0, 1), 22, 23, 4, 1, impl.OK}, {poly(-2, 0, 1), 23, 24, 4, 0, impl.OK}, {wilkinson, 0, 8, 0, 8, impl.OK}, {wilkinson, 1, 8, 0, 7, impl.OK}, {wilkinson, 0, 7, 0, 7, impl.OK}, {wilkinson, 7, 13, 1, 3, impl.OK},
		{poly(-2, 0, 1), 2, 1, 0, 0, impl.ErrRange}, {poly(-2, 0, 1), 0, -1, 9, 0, impl.ErrRange}, {poly(-2, 0, 1), -1, -2, 9, 0, impl.ErrRange}, {poly(1, 2, 1), 2, 1, 0, 0, impl.ErrRange}, {poly(1, 2, 1), 1, 2, 0, 0, impl.ErrState}, {poly(1, 2, 1), 1, 1, 0, 0, impl.ErrState}, {poly(-2, 0, 0, 1), 0, 2, 64, 0, impl.ErrLimit}, {poly(-2, 0, 0, 1), 5, 5, 64, 0, impl.ErrLimit},
	} {
		got, code := impl.CountZeros(row.p, small(row.a), small(row.b), row.places)
		what := fmt.Sprint("CountZeros ", row.p, " from ", row.a, " to ", row.b, " for ", row.places)
		wantNumber(t, what, got, code, row.want, row.code)
		if row.a < row.b {
			has, code := impl.HasOneZero(row.p, part(row.a, row.b, row.places))
			wantBool(t, what, has, code, row.want == 1, row.code)
		}
	}
	// Only one of both ends is too large.
	low, high := wide(t, "-"+power2(192, -1)), wide(t, power2(192, -1))
	for _, ends := range [][2]impl.Wide{{low, small(0)}, {small(0), high}, {low, high}, {high, high}} {
		got, code := impl.CountZeros(poly(-2, 0, 1), ends[0], ends[1], 0)
		wantNumber(t, "CountZeros with an end that is too large", got, code, 0, impl.ErrLimit)
	}
	got, code := impl.CountZeros(poly(0, 1), low, high, 64)
	wantNumber(t, "CountZeros of x", got, code, 1, impl.OK)
}

func TestZerosBoundsByHand(t *testing.T) {
	const most = impl.MaxCoef
	for _, row := range []struct {
		p    []int64
		want int64
	}{
		{poly(0, 1), 0}, {poly(0, 0, -5), 0}, {poly(0, 0, 0, 0, 0, 0, 0, 0, 1), 0}, {poly(1, 1), 1}, {poly(-1, 1), 1}, {poly(2, 1), 2}, {poly(-3, 1), 2}, {poly(3, -1), 2}, {poly(4, 1), 3}, {poly(-1, 2), 1}, {poly(2, 2), 1}, {poly(3, 2), 2}, {poly(3, -7, 2), 3}, {poly(-7, 3, 2), 3}, {poly(-6, 0, 2), 2}, {poly(1, most), 1}, {poly(most, -most), 1}, {poly(999999, most), 1}, {poly(most, 999999), 2}, {poly(most, 1), 20}, {poly(0, 0, 0, -most, 0, 0, 0, 0, -1), 20},
		{poly(524287, 1), 19}, {poly(524288, 1), 20}, {poly(0, -524287, 1), 19}, {poly(0, -524288, 1), 20}, {wilkinson, 17},
	} {
		got, code := impl.BoundOf(row.p)
		wantNumber(t, fmt.Sprint("BoundOf ", row.p), got, code, row.want, impl.OK)
	}
}

func TestZerosPartsByHand(t *testing.T) {
	for _, row := range []struct {
		p    []int64
		want string
		code int64
	}{
		{poly(0, 1), "-1 1/0", impl.OK}, {poly(0, -9), "-1 1/0", impl.OK}, {poly(-5, 1), "-8 8/0", impl.OK}, {poly(-2, 0, 1), "-8 0/1; 0 8/1", impl.OK}, {poly(1, 0, 1), "", impl.OK}, {poly(1, 1, 1, 1, 1), "", impl.OK}, {poly(0, 1, 0, 1), "-2 2/0", impl.OK}, {poly(-2, 0, 0, 1), "-4 4/0", impl.OK},
		// Zeros at the ends of parts, which belong to those below.
		{poly(0, -1, 0, 1), "-8 -4/2; -4 0/2; 0 4/1", impl.OK}, {poly(0, 1, 1), "-8 -4/2; -4 0/2", impl.OK}, {poly(0, -1, 1), "-4 0/1; 0 4/1", impl.OK}, {poly(-1, 0, 1), "-4 0/1; 0 4/1", impl.OK}, {poly(2, -3, 1), "0 8/3; 8 16/3", impl.OK}, {poly(2, 3, 1), "-16 -8/2; -8 0/2", impl.OK},
		{wilkinson, "0 262144/18; 262144 524288/18; 524288 786432/18; 786432 1048576/18; 1048576 1310720/18; 1310720 1572864/18; 1572864 1835008/18; 1835008 2097152/18", impl.OK}, {chebyshev, "-64 -56/6; -56 -48/6; -24 -16/5; -8 0/4; 0 8/4; 16 24/5; 48 56/6; 56 64/6", impl.OK},
		// Zeros that lie close together, in parts of up to MaxDepth places, and in such that would have more.
		{closeDouble, "35181821952 35183919104/45; 35183919104 35186016256/45; 2097152 4194304/2", impl.OK}, {poly(26987, -283481, 744446, 1), "-2097152 0/1; 26796024135680 26796026232832/47; 26796026232832 26796028329984/47", impl.OK},
		{deepPoly, "-4194304 -2097152/2; -37868974112768 -37868972015616/48; -37868972015616 -37868969918464/48", impl.OK}, {poly(-14836, 220548, -819652, 1), "37868969918464 37868972015616/48; 37868972015616 37868974112768/48; 2097152 4194304/2", impl.OK}, {poly(44337, -383855, 830822, 1), "-2097152 0/1; 65023271501824 65023273598976/48; 65023273598976 65023275696128/48", impl.OK},
		{deeperPoly, "", impl.ErrBudget}, {poly(-15032, 231044, -887795, 1), "", impl.ErrBudget}, {poly(-15032, -231044, -887795, -1), "", impl.ErrBudget},
		// With the zero 0 as well the shifts are by more than MaxShift before that.
		{poly(0, 15032, 231044, 887795, 1), "", impl.ErrLimit}, {poly(0, 14836, 220548, 819652, 1), "", impl.ErrLimit},
		{poly(0, 0, 1), "", impl.ErrState}, {poly(1, 2, 1), "", impl.ErrState}, {poly(1, 0, 2, 0, 1), "", impl.ErrState}, {poly(1, 0, 0, 0, -2, 0, 0, 0, 1), "", impl.ErrState}, {poly(-1000000, 999999, -999998, 999997, 999983, 999979, 999961, 999959, 999953), "", impl.ErrLimit},
	} {
		got, code := impl.PartsOf(row.p)
		if partsText(got) != row.want || code != row.code {
			t.Errorf("PartsOf %v: got %q with %q, want %q with %q", row.p, partsText(got), impl.CodeName(code), row.want, impl.CodeName(row.code))
		}
	}
}

func TestZerosRefinedByHand(t *testing.T) {
	root, middle := poly(-2, 0, 1), part(22, 23, 4)
	cube := impl.Part{Low: wide(t, "11620720580245083921"), High: wide(t, "11620720580245083922"), Places: 63}
	whole := impl.Part{Low: wide(t, "-"+power2(192, -1)), High: wide(t, power2(192, -1))}
	none := impl.Part{}
	for _, row := range []struct {
		p      []int64
		x      impl.Part
		places int64
		want   impl.Part
		code   int64
	}{
		// To its own places, to more and to fewer ones.
		{root, part(0, 8, 1), 1, part(2, 3, 1), impl.OK}, {root, part(0, 8, 1), 2, part(5, 6, 2), impl.OK}, {root, part(0, 8, 1), 4, middle, impl.OK}, {root, part(0, 8, 1), 0, none, impl.ErrRange}, {root, part(-8, 0, 1), 1, part(-3, -2, 1), impl.OK}, {root, part(-8, 0, 1), 4, part(-23, -22, 4), impl.OK}, {root, part(0, 2, 0), 0, part(1, 2, 0), impl.OK},
		{root, part(0, 8, 1), 64, impl.Part{Low: wide(t, "26087635650665564424"), High: wide(t, "26087635650665564425"), Places: 64}, impl.OK}, {root, middle, 4, middle, impl.OK}, {root, middle, 5, part(45, 46, 5), impl.OK}, {root, middle, 3, none, impl.ErrRange}, {root, part(2, 3, 1), 4, middle, impl.OK},
		// A zero at an end: it is the upper one.
		{poly(-1, 1), part(0, 2, 0), 0, part(0, 1, 0), impl.OK}, {poly(-1, 1), part(0, 1, 0), 0, part(0, 1, 0), impl.OK}, {poly(-1, 1), part(0, 1, 0), 3, part(7, 8, 3), impl.OK}, {poly(-1, 1), part(0, 9, 0), 3, part(7, 8, 3), impl.OK}, {poly(1, 1), part(-2, 0, 0), 0, part(-2, -1, 0), impl.OK}, {poly(1, 1), part(-2, 0, 0), 2, part(-5, -4, 2), impl.OK}, {poly(3, 1), part(-6, -1, 0), 0, part(-4, -3, 0), impl.OK},
		{poly(0, 1), part(-1, 1, 0), 0, part(-1, 0, 0), impl.OK}, {poly(0, 1), part(-1, 1, 0), 64, part(-1, 0, 64), impl.OK}, {poly(0, -5), part(-1, 0, 0), 64, part(-1, 0, 64), impl.OK}, {poly(0, 1), part(-1, 0, 64), 64, part(-1, 0, 64), impl.OK}, {poly(-1, 2), part(0, 1, 1), 1, part(0, 1, 1), impl.OK}, {poly(-1, 2), part(0, 1, 0), 0, part(0, 1, 0), impl.OK}, {poly(1, 2), part(-1, 0, 0), 1, part(-2, -1, 1), impl.OK},
		// No zero, one at the lower end alone, and two.
		{poly(0, 1), part(0, 5, 0), 3, none, impl.ErrNotFound}, {poly(1, 0, 1), part(-5, 5, 0), 3, none, impl.ErrNotFound}, {root, part(-8, 8, 1), 4, none, impl.ErrNotFound}, {root, part(-8, 8, 1), 0, none, impl.ErrRange}, {root, part(23, 24, 4), 4, none, impl.ErrNotFound}, {wilkinson, part(0, 2, 0), 0, none, impl.ErrNotFound}, {wilkinson, part(0, 1, 0), 0, part(0, 1, 0), impl.OK}, {wilkinson, part(1, 2, 0), 2, part(7, 8, 2), impl.OK},
		// Up to where shifts are by more than MaxShift, and ends of 192 bits.
		{poly(-2, 0, 0, 1), part(0, 2, 0), 63, cube, impl.OK}, {poly(-2, 0, 0, 1), part(0, 2, 0), 64, none, impl.ErrLimit}, {poly(0, 1), whole, 0, part(-1, 0, 0), impl.OK}, {poly(0, 1), whole, 1, none, impl.ErrLimit}, {poly(-5, 1), impl.Part{Low: small(4), High: whole.High}, 0, none, impl.ErrLimit}, {poly(-5, 1), impl.Part{Low: small(0), High: whole.High}, 0, part(4, 5, 0), impl.OK},
	} {
		if got, code := impl.RefinePart(row.p, row.x, row.places); got != row.want || code != row.code {
			t.Errorf("RefinePart %v %s for %d: got %s with %q, want %s with %q", row.p, partText(row.x), row.places, partText(got), impl.CodeName(code), partText(row.want), impl.CodeName(row.code))
		}
	}
}

func TestZerosApproximationsByHand(t *testing.T) {
	root := poly(-2, 0, 1)
	for _, row := range []struct {
		p      []int64
		x      impl.Part
		places int64
		want   string
	}{
		{root, part(0, 8, 1), 1, "3"}, {root, part(0, 8, 1), 2, "6"}, {root, part(0, 8, 1), 8, "363"}, {root, part(-8, 0, 1), 8, "-362"}, {root, part(0, 8, 1), 64, "26087635650665564425"}, {root, part(-8, 0, 1), 64, "-26087635650665564424"},
		// Fewer places than the part has: what is nearest to its upper end, when it has been refined to its own places.
		{root, part(0, 8, 1), 0, "2"}, {root, part(-8, 0, 1), 0, "-1"}, {root, part(22, 23, 4), 4, "23"}, {root, part(22, 23, 4), 3, "12"}, {root, part(22, 23, 4), 2, "6"}, {root, part(22, 23, 4), 1, "3"}, {root, part(22, 23, 4), 0, "1"}, {poly(1, 2), part(-2, -1, 1), 0, "0"}, {poly(1, 2), part(-2, -1, 1), 1, "-1"}, {poly(1, 2), part(-1, 0, 0), 0, "0"}, {poly(-1, 2), part(0, 1, 1), 0, "1"}, {poly(-1, 2), part(0, 4, 2), 1, "1"}, {poly(-3, 2), part(0, 4, 1), 0, "2"}, {poly(3, 2), part(-4, 0, 1), 0, "-1"},
		{deepPoly, part(-37868974112768, -37868972015616, 48), 48, "-37868973765827"}, {deepPoly, part(-37868972015616, -37868969918464, 48), 48, "-37868971664655"}, {deepPoly, part(-37868974112768, -37868972015616, 48), 60, ""}, {deepPoly, part(-37868974112768, -37868972015616, 48), 0, "0"}, {deepPoly, part(-37868974112768, -37868972015616, 48), 30, "-144458671"}, {deepPoly, part(-37868972015616, -37868969918464, 48), 30, "-144458663"},
		{poly(0, 1), part(-1, 1, 0), 0, "0"}, {poly(0, 1), part(-1, 1, 0), 64, "0"}, {poly(0, 1), part(-1, 0, 64), 0, "0"}, {poly(-1, 1), part(0, 2, 0), 64, power2(64, 0)}, {poly(-2, 0, 0, 1), part(0, 2, 0), 64, ""}, {poly(-2, 0, 0, 1), part(0, 2, 0), 63, "11620720580245083922"},
	} {
		got, code := impl.ZeroApprox(row.p, row.x, row.places)
		what := fmt.Sprint("ZeroApprox ", row.p, " ", partText(row.x), " for ", row.places)
		if row.want == "" {
			wantCode(t, what, got, code, impl.ErrLimit)
			continue
		}
		wantWide(t, what, got, code, bigOf(wide(t, row.want)))
	}
	for code, x := range map[int64]impl.Part{impl.ErrNotFound: part(3, 4, 0), impl.ErrInvalid: part(4, 4, 0)} {
		got, gotCode := impl.ZeroApprox(root, x, 2)
		wantCode(t, "ZeroApprox", got, gotCode, code)
	}
}

// Counts of 0 and of the greatest one, for which 66 places are asked.
func TestZerosDigitsByHand(t *testing.T) {
	root, zeros := poly(-2, 0, 1), strings.Repeat("0", 64)
	for _, row := range []struct {
		p     []int64
		x     impl.Part
		count int64
		whole int64
		text  string
		code  int64
	}{
		{root, part(0, 8, 1), 0, 2, "", impl.OK}, {root, part(0, 8, 1), 3, 2, "-00", impl.OK}, {root, part(0, 8, 1), 4, 2, "-00-", impl.OK}, {root, part(-8, 0, 1), 0, -1, "", impl.OK}, {poly(0, 1), part(-1, 1, 0), 64, 0, zeros, impl.OK}, {poly(-1, 1), part(0, 2, 0), 64, 1, zeros, impl.OK}, {poly(-1, 2), part(0, 1, 0), 2, 1, "-0", impl.OK}, {poly(-1, 3), part(0, 1, 0), 7, 1, "-0-0-0-", impl.OK}, {poly(-1, 3), part(0, 1, 0), 64, 1, strings.Repeat("-0", 32), impl.OK}, {poly(7, 1), part(-9, 0, 64), 0, 0, "", impl.ErrNotFound}, {poly(0, 1), part(-9, 0, 64), 3, 0, "000", impl.OK}, {poly(0, 1), part(-1, 0, 64), 64, 0, zeros, impl.OK},
		{poly(1, 0, 1), part(0, 9, 0), 3, 0, "", impl.ErrNotFound}, {root, part(0, 8, 1), 65, 0, "", impl.ErrRange}, {root, part(0, 8, 1), -1, 0, "", impl.ErrRange}, {poly(1, 2, 1), part(-3, 0, 0), 3, 0, "", impl.ErrState},
		// 63 places are the most that can be asked of a polynomial of the degree 3.
		{poly(-1, 0, 0, 1), part(0, 2, 0), 61, 1, zeros[:61], impl.OK}, {poly(-1, 0, 0, 1), part(0, 2, 0), 62, 0, "", impl.ErrLimit}, {poly(-1, 0, 0, 0, 0, 0, 0, 0, 1), part(0, 2, 0), 21, 1, zeros[:21], impl.OK}, {poly(-1, 0, 0, 0, 0, 0, 0, 0, 1), part(0, 2, 0), 22, 0, "", impl.ErrLimit},
	} {
		whole, digits, code := impl.ZeroDigits(row.p, row.x, row.count)
		if bigOf(whole).Cmp(big.NewInt(row.whole)) != 0 || textOf(digits) != row.text || code != row.code {
			t.Errorf("ZeroDigits %v %s for %d: got %v and %q with %q, want %d and %q with %q", row.p, partText(row.x), row.count, bigOf(whole), textOf(digits), impl.CodeName(code), row.whole, row.text, impl.CodeName(row.code))
		}
	}
	if _, digits, code := impl.ZeroDigits(root, part(0, 8, 1), 64); len(digits) != 64 || code != impl.OK {
		t.Errorf("ZeroDigits of the root of 2: got %q with %d", textOf(digits), code)
	}
}

// Parts with nothing in common, that touch at an end, with different places, and with other common zeros.
func TestZerosCommonPartsByHand(t *testing.T) {
	root, fourth, low := poly(-2, 0, 1), poly(-4, 0, 0, 0, 1), wide(t, "-"+power2(192, -1))
	tall := impl.Part{Low: low, High: small(1)}
	for _, row := range []struct {
		p, q []int64
		x, y impl.Part
		want bool
		code int64
	}{
		{root, fourth, part(0, 8, 1), part(0, 2, 0), true, impl.OK}, {root, fourth, part(-8, 0, 1), part(-2, 0, 0), true, impl.OK}, {root, fourth, part(0, 8, 1), part(-2, 0, 0), false, impl.OK}, {root, root, part(0, 8, 1), part(0, 8, 1), true, impl.OK}, {root, root, part(0, 8, 1), part(-8, 0, 1), false, impl.OK}, {root, poly(6, 0, -3), part(22, 23, 4), part(2, 3, 1), true, impl.OK}, {root, poly(6, 0, -3), part(22, 23, 4), part(0, 8, 1), true, impl.OK}, {root, root, part(22, 23, 4), part(0, 1<<62, 62), false, impl.ErrNotFound},
		{root, poly(-3, 0, 1), part(0, 8, 1), part(0, 8, 1), false, impl.OK}, {root, poly(-2, 1), part(0, 8, 1), part(0, 8, 1), false, impl.OK},
		// Ends that touch, and zeros at the upper end of both.
		{poly(0, 1), poly(0, -1, 1), part(-1, 0, 0), part(0, 2, 0), false, impl.OK}, {poly(0, -1, 1), poly(0, 1), part(0, 2, 0), part(-1, 0, 0), false, impl.OK}, {poly(-1, 0, 1), poly(-1, 1), part(0, 1, 0), part(0, 2, 1), true, impl.OK}, {poly(-1, 1), poly(-1, 0, 1), part(0, 1<<10, 10), part(0, 1, 0), true, impl.OK}, {poly(0, 1), poly(0, 1), part(-1, 0, 64), part(-1, 0, 0), true, impl.OK}, {poly(0, 1), poly(0, 1), part(-1, 1, 0), part(-1, 0, 64), true, impl.OK},
		// What they have in common has a zero, but not in what is in both parts.
		{poly(0, -1, 1), poly(0, -2, 1), part(0, 1, 0), part(1, 2, 0), false, impl.OK}, {poly(0, -1, 1), poly(0, -2, 1), part(0, 1, 0), part(0, 2, 0), false, impl.OK}, {poly(0, -1, 1), poly(0, -2, 1), part(-1, 0, 0), part(-2, 1, 3), true, impl.OK}, {poly(0, -1, 1), poly(0, -2, 1), part(0, 3, 0), part(-2, 1, 3), false, impl.OK}, {poly(0, 1, 0, 1), poly(1, 0, 1), part(-1, 1, 0), part(-1, 1, 0), false, impl.ErrNotFound}, {poly(0, 1, 0, 1), productOf(poly(1, 0, 1), poly(-1, 2)), part(-1, 1, 0), part(-1, 1, 0), false, impl.OK}, {wilkinson, poly(12, -7, 1), part(2, 3, 0), part(5, 6, 1), true, impl.OK}, {wilkinson, poly(12, -7, 1), part(4, 5, 0), part(7, 8, 1), false, impl.OK},
		// Nothing is in both: the values at the ends, which would be too large, are not asked.
		{poly(0, -4, 3, 1), poly(0, -4, 3, 1), part(-5, -3, 0), part(1<<62, 1<<63-1, 63), false, impl.ErrNotFound}, {poly(0, -4, 3, 1), poly(0, -4, 3, 1), part(-5, -3, 0), impl.Part{Low: small(1 << 62), High: wide(t, power2(63, 0)), Places: 63}, false, impl.OK},
		// Ends that are too large at the places of the other part, asked only if there is something to be counted.
		{poly(0, 1), poly(0, 1), tall, part(-1, 1, 0), true, impl.OK}, {poly(0, 1), poly(0, 1), tall, part(-1, 1, 1), false, impl.ErrLimit}, {poly(0, 1), poly(0, 1), part(-1, 1, 64), tall, false, impl.ErrLimit}, {poly(0, 1), poly(0, 2), tall, tall, false, impl.ErrLimit}, {poly(0, 1), poly(0, -1), tall, tall, true, impl.OK}, {poly(0, 1), poly(1, 1), tall, part(-4, -2, 2), false, impl.ErrNotFound}, {poly(0, 1), poly(1, 1), tall, part(-8, -2, 2), false, impl.OK},
	} {
		got, code := impl.CommonParts(row.p, row.q, row.x, row.y)
		wantBool(t, fmt.Sprint("CommonParts ", row.p, " ", row.q, " ", partText(row.x), " ", partText(row.y)), got, code, row.want, row.code)
	}
}

// Series with the step 0, with the quotients 1 / 1000 and a half, that turn and that don't, for 0 and MaxPlaces places.
func TestZerosSeriesByHand(t *testing.T) {
	for _, row := range []struct {
		s      impl.Series
		sums   [4]string
		counts [4]int64
	}{
		{impl.Series{Num: 1, Den: 2, First: 1, Step: 1}, [4]string{"1", "3", "355", "25572617290405311320"}, [4]int64{11, 12, 19, 75}}, {impl.Series{Num: 500, Den: 1000, First: 1, Step: 1}, [4]string{"1", "3", "355", "25572617290405311320"}, [4]int64{11, 12, 19, 75}}, {impl.Series{Num: 1, Den: 2, First: 1, Step: 1, Turns: true}, [4]string{"1", "2", "208", "14959022160180567958"}, [4]int64{11, 12, 19, 75}},
		{impl.Series{Num: 1, Den: 2, First: 1}, [4]string{"2", "4", "512", "36893488147419103232"}, [4]int64{11, 12, 19, 75}}, {impl.Series{Num: 1, Den: 2, First: 1, Turns: true}, [4]string{"1", "1", "171", "12297829382473034411"}, [4]int64{11, 12, 19, 75}}, {impl.Series{Num: 1, Den: 2, First: 1000}, [4]string{"0", "0", "1", "36893488147419103"}, [4]int64{11, 12, 19, 75}}, {impl.Series{Num: 1, Den: 2, First: 1000, Step: 1000, Turns: true}, [4]string{"0", "0", "0", "14959022160180568"}, [4]int64{11, 12, 19, 75}},
		{impl.Series{Num: 1, Den: 1000, First: 1}, [4]string{"1", "2", "256", "18465209282992544160"}, [4]int64{2, 2, 2, 8}}, {impl.Series{Num: 1, Den: 1000, First: 1, Turns: true}, [4]string{"1", "2", "256", "18428315757951600016"}, [4]int64{2, 2, 2, 8}}, {impl.Series{Num: 1, Den: 1000, First: 1000, Step: 1000}, [4]string{"0", "0", "0", "18455973599276476"}, [4]int64{2, 2, 2, 8}}, {impl.Series{Num: 499, Den: 999, First: 1, Step: 1}, [4]string{"1", "3", "355", "25561292222308167945"}, [4]int64{10, 10, 17, 73}},
		{impl.Series{Num: 1, Den: 3, First: 2, Turns: true}, [4]string{"0", "1", "96", "6917529027641081856"}, [4]int64{7, 7, 12, 47}}, {impl.Series{Num: 1, Den: 2, First: 3, Step: 7, Turns: true}, [4]string{"0", "1", "75", "5428276029908212654"}, [4]int64{11, 12, 19, 75}},
	} {
		for i, places := range []int64{0, 1, 8, 64} {
			what := fmt.Sprint("the series ", row.s, " for ", places)
			sum, code := impl.SeriesApprox(row.s, places)
			wantWide(t, what, sum, code, bigOf(wide(t, row.sums[i])))
			terms, code := impl.SeriesTerms(row.s, places)
			wantNumber(t, what, terms, code, row.counts[i], impl.OK)
		}
	}
	for _, row := range []struct {
		s     impl.Series
		count int64
		whole int64
		text  string
	}{
		{impl.Series{Num: 1, Den: 2, First: 1}, 64, 2, strings.Repeat("0", 64)}, {impl.Series{Num: 1, Den: 2, First: 1}, 0, 2, ""}, {impl.Series{Num: 1, Den: 2, First: 1, Turns: true}, 4, 1, "-+-+"}, {impl.Series{Num: 1, Den: 3, First: 2, Turns: true}, 0, 1, ""}, {impl.Series{Num: 1, Den: 1000, First: 1000, Step: 1000}, 3, 0, "000"},
	} {
		whole, digits, code := impl.SeriesDigits(row.s, row.count)
		if bigOf(whole).Cmp(big.NewInt(row.whole)) != 0 || textOf(digits) != row.text || code != impl.OK {
			t.Errorf("SeriesDigits %v for %d: got %v and %q with %q, want %d and %q", row.s, row.count, bigOf(whole), textOf(digits), impl.CodeName(code), row.whole, row.text)
		}
	}
}

// Two times the angle with the tangent 1 / 2, and as much of the one with 1 / 3, are a right angle: a half of pi.
func TestZerosSeriesOfPi(t *testing.T) {
	for places := int64(0); places <= impl.MaxPlaces; places++ {
		halves, code := impl.SeriesApprox(impl.Series{Num: 1, Den: 4, First: 1, Step: 2, Turns: true}, places)
		thirds, other := impl.SeriesApprox(impl.Series{Num: 1, Den: 9, First: 1, Step: 2, Turns: true}, places)
		round, last := impl.Approx(term(pi), 0, places)
		if code != impl.OK || other != impl.OK || last != impl.OK {
			t.Fatalf("pi for %d: got the codes %d, %d and %d", places, code, other, last)
		}
		// Three times pi is six times the first limit and four times the second one, each of which may be a unit off.
		apart := bigDiff(bigProduct(big.NewInt(3), bigOf(round)), mixed(6, bigOf(halves), 4, bigOf(thirds)))
		if apart.CmpAbs(big.NewInt(13)) > 0 {
			t.Errorf("pi for %d: three times %v is not six times %v and four times %v", places, bigOf(round), bigOf(halves), bigOf(thirds))
		}
	}
}

func TestZerosTextsByHand(t *testing.T) {
	for text, want := range map[string][]int64{
		"-2 0 1": {-2, 0, 1}, "0 1": {0, 1}, "0 -1": {0, -1}, "1000000 -1000000": {1000000, -1000000}, "0 0 0 0 0 0 0 0 1": {0, 0, 0, 0, 0, 0, 0, 0, 1}, "1 2 3 4 5 6 7 8 9": {1, 2, 3, 4, 5, 6, 7, 8, 9},
	} {
		if got, code := impl.ReadPoly(text); !slices.Equal(got, want) || code != impl.OK {
			t.Errorf("ReadPoly %q: got %v with %d", text, got, code)
		}
		if got := impl.PolyText(want); got != text {
			t.Errorf("PolyText %v: got %q", want, got)
		}
	}
	for _, text := range []string{"", " ", "1", "0", "-2", "0 0", "1 0", "1 2 0", "-2 0 1 ", " -2 0 1", "-2  0 1", "-2 0 1\n", "\n-2 0 1", "-2\t0 1", "-2\n0 1", "-2,0,1", "-2 +0 1", "-2 0 +1", "-2 -0 1", "-02 0 1", "-2 00 1", "-2 0 01", "- 2 0 1", "--2 0 1", "-2 0 x", "x 0 1", "-2 0 1.0", "-2 0 1e1", "0x1 1", "1_0 1", "-2 0 1 0", "\xff 1", "\u0661 1",
		"1000001 1", "-1000001 1", "1 1000001", "1 -1000001", "9223372036854775807 1", "9223372036854775808 1", "-9223372036854775809 1", "18446744073709551617 1", "1 1 1 1 1 1 1 1 1 1", "0 0 0 0 0 0 0 0 0 1"} {
		if got, code := impl.ReadPoly(text); len(got) != 0 || code != impl.ErrSyntax {
			t.Errorf("ReadPoly %q: got %v with %d", text, got, code)
		}
	}
	for _, bad := range invalidPolys() {
		if text := impl.PolyText(bad); text != "" {
			t.Errorf("PolyText %v: got %q", bad, text)
		}
	}
}
