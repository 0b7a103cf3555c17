package tests

import (
	"fmt"
	"math/big"
	"slices"
	"strings"
	"testing"

	"loop.example/g01242/impl"
)

func wantApprox(t *testing.T, x []impl.Node, node, places, want int64) {
	t.Helper()
	got, code := impl.Approx(x, node, places)
	wantWide(t, fmt.Sprintf("Approx %d for %d places of\n%s", node, places, impl.TermText(x)), got, code, big.NewInt(want))
}

func wantApproxCode(t *testing.T, x []impl.Node, node, places, want int64) {
	t.Helper()
	got, code := impl.Approx(x, node, places)
	wantCode(t, fmt.Sprintf("Approx %d for %d places of\n%s", node, places, impl.TermText(x)), got, code, want)
}

// last returns the index of the last node.
func last(x []impl.Node) int64 { return int64(len(x) - 1) }

func TestTermsExample(t *testing.T) {
	x := term(ratio(1, 3), pi, ratio(2, 1), one(impl.KdRoot, 2), ratio(1, 2), two(impl.KdDiff, 1, 1), two(impl.KdQuotient, 0, 5))
	wantApprox(t, x, 0, 4, 5)
	wantApprox(t, x, 1, 10, 3217)
	wantApprox(t, x, 3, 8, 362)
	whole, digits, code := impl.TermDigits(x, 0, 4)
	wantWide(t, "the whole number of 1 / 3", whole, code, new(big.Int))
	if !slices.Equal(digits, []int8{1, -1, 1, -1}) {
		t.Errorf("the digits of 1 / 3: got %v", digits)
	}
	if less, places, code := impl.LessWithin(x, 0, 4, 2); !less || places != 2 || code != impl.OK {
		t.Errorf("1 / 3 and 1 / 2: got %v for %d with %d", less, places, code)
	}
	if text, code := impl.DecimalOf(x, 1, 5); text != "3.14159" || code != impl.OK {
		t.Errorf("pi in decimal: got %q with %d", text, code)
	}
	for places := range int64(impl.MaxPlaces + 1) {
		wantApproxCode(t, x, 6, places, impl.ErrBudget)
	}
}

// Values of single rules, by hand.
func TestTermsRulesByHand(t *testing.T) {
	half := term(ratio(1, 2), ratio(-1, 2), ratio(3, 2), ratio(-3, 2), ratio(0, 7))
	for node, want := range []int64{1, 0, 2, -1, 0} {
		wantApprox(t, half, int64(node), 0, want) // of two that are nearest the greater one
	}
	for node, want := range []int64{1, -1, 3, -3, 0} {
		wantApprox(t, half, int64(node), 1, want)
	}
	x := term(ratio(7, 4), ratio(-5, 4), two(impl.KdSum, 0, 1), two(impl.KdDiff, 0, 1), one(impl.KdNeg, 0), one(impl.KdAbs, 1), two(impl.KdMin, 0, 1), two(impl.KdMax, 0, 1), two(impl.KdProduct, 0, 1), two(impl.KdQuotient, 0, 1), one(impl.KdRoot, 0), one(impl.KdRoot, 1), pi, euler)
	for node, want := range []int64{2, -1, 1, 3, -2, 1, -1, 2, -2, -1, 1, 0, 3, 3} {
		wantApprox(t, x, int64(node), 0, want)
	}
	for node, want := range []int64{28, -20, 8, 48, -28, 20, -20, 28, -35, -22, 21, 0, 50, 43} {
		wantApprox(t, x, int64(node), 4, want)
	}
}

func TestTermsAtMaxPlaces(t *testing.T) {
	x := term(ratio(impl.MaxRatio, 1), ratio(-impl.MaxRatio, impl.MaxRatio), ratio(1, impl.MaxRatio))
	got, code := impl.Approx(x, 0, impl.MaxPlaces)
	wantWide(t, "the greatest ratio", got, code, new(big.Int).Mul(pow2(64), big.NewInt(impl.MaxRatio)))
	got, code = impl.Approx(x, 1, impl.MaxPlaces)
	wantWide(t, "-1", got, code, new(big.Int).Neg(pow2(64)))
	got, code = impl.Approx(x, 2, impl.MaxPlaces)
	wantWide(t, "the least ratio", got, code, big.NewInt(18446744074))
	text, code := impl.DecimalOf(x, 2, 15)
	if text != "0.000000001000000" || code != impl.OK {
		t.Errorf("the least ratio in decimal: got %q with %d", text, code)
	}
	_, digits, code := impl.TermDigits(x, 0, impl.MaxPlaces)
	if len(digits) != impl.MaxPlaces || slices.Max(digits) != 0 || slices.Min(digits) != 0 || code != impl.OK {
		t.Errorf("the digits of the greatest ratio: got %v with %d", digits, code)
	}
	for _, places := range []int64{-1 << 63, -1, impl.MaxPlaces + 1, impl.MaxAsked, 1<<63 - 1} {
		wantApproxCode(t, x, 0, places, impl.ErrRange)
		whole, digits, code := impl.TermDigits(x, 0, places)
		wantCode(t, "TermDigits", whole, code, impl.ErrRange)
		if len(digits) != 0 {
			t.Errorf("TermDigits: got %v together with an error", digits)
		}
	}
}

// A node may be asked for 160 places, and not for 161: the root of a product asks A for 2 * n + 9, and the growth of B.
// (A is 0, so that the product is not too large.)
func TestTermsAtMaxAsked(t *testing.T) {
	x := term(ratio(0, 1), ratio(1<<23-1, 1), two(impl.KdProduct, 0, 1), one(impl.KdRoot, 2), ratio(1<<23, 1), two(impl.KdProduct, 0, 4), one(impl.KdRoot, 5))
	list, code := impl.AsksOf(x, 3, impl.MaxPlaces)
	if want := []impl.Ask{{Node: 3, Places: 64}, {Node: 2, Places: 134}, {Node: 0, Places: 0}, {Node: 1, Places: 0}, {Node: 0, Places: 160}, {Node: 1, Places: 137}}; !slices.Equal(list, want) || code != impl.OK {
		t.Errorf("AsksOf: got %v with %d, want %v", list, code, want)
	}
	wantApproxCode(t, x, 6, impl.MaxPlaces, impl.ErrLimit)
	list, code = impl.AsksOf(x, 6, impl.MaxPlaces)
	if len(list) != 0 || code != impl.ErrLimit {
		t.Errorf("AsksOf: got %v with %d", list, code)
	}
	if _, code := impl.AsksOf(x, 6, impl.MaxPlaces-1); code != impl.OK {
		t.Errorf("AsksOf for a place less: got %d", code)
	}
	roots := term(ratio(2, 1), one(impl.KdRoot, 0), one(impl.KdRoot, 1))
	wantApprox(t, roots, 2, 35, 40860845337)
	wantApproxCode(t, roots, 2, 36, impl.ErrLimit)
}

// What is too large on the way is met where the factors of a product have 192 bits or more together.
func TestTermsThatAreTooLarge(t *testing.T) {
	x := term(ratio(impl.MaxRatio, 1), two(impl.KdProduct, 0, 0), two(impl.KdProduct, 1, 0), two(impl.KdProduct, 1, 1))
	wantApprox(t, x, 1, 0, 1000000000000000000)
	got, code := impl.Approx(x, 2, 0)
	wantWide(t, "10 to the power 27", got, code, new(big.Int).Exp(big.NewInt(10), big.NewInt(27), nil))
	// 10 to the power 18 is asked for 34 places then, and its factors for 67.
	wantApproxCode(t, x, 2, 1, impl.ErrLimit)
	for _, places := range []int64{0, 1, 64} {
		wantApproxCode(t, x, 3, places, impl.ErrLimit)
	}
	for _, call := range []func([]impl.Node, int64) (int64, int64){impl.GrowthOf, impl.AwayFrom} {
		if n, code := call(x, 3); n != 0 || code != impl.ErrLimit {
			t.Errorf("what is too large: got %d with %d", n, code)
		}
	}
	if text, code := impl.DecimalOf(x, 1, 15); text != "" || code != impl.ErrLimit {
		t.Errorf("DecimalOf what is too large for so many places: got %q with %d", text, code)
	}
	// Sums grow slowly: this is the greatest number that a term has for 64 places.
	y := repeated(term(ratio(impl.MaxRatio, 1)), impl.MaxNodes-1, func(last int16) impl.Node { return two(impl.KdSum, last, last) })
	if text, code := impl.DecimalOf(y, last(y), 15); text != "549755813888000000000.000000000000000" || code != impl.OK {
		t.Errorf("DecimalOf: got %q with %d", text, code)
	}
}

// For all places pi and e are what the rules make of them, which is the integer nearest to the number.
func TestTermsPiAndEuler(t *testing.T) {
	x := term(pi, euler)
	for places := range int64(impl.MaxPlaces + 1) {
		for node, text := range []string{piText, eulerText} {
			number := newFloat().Mul(float(text), newFloat().SetInt(pow2(places)))
			nearest, _ := number.Add(number, big.NewFloat(0.5)).Int(nil)
			if model := (&termModel{term: x}).ask(int16(node), places); model.Cmp(nearest) != 0 {
				t.Errorf("the model has %v, and not %v", model, nearest)
			}
			got, code := impl.Approx(x, int64(node), places)
			wantWide(t, "pi or e", got, code, nearest)
		}
	}
}

func TestTermsGrowth(t *testing.T) {
	for size, want := range map[int64]int64{0: 0, 1: 1, 2: 2, 3: 2, 4: 3, 7: 3, 8: 4, 255: 8, 256: 9, impl.MaxRatio: 30} {
		for _, p := range []int64{size, -size} {
			if m, code := impl.GrowthOf(term(ratio(p, 1)), 0); m != want || code != impl.OK {
				t.Errorf("GrowthOf %d: got %d with %d, want %d", p, m, code, want)
			}
		}
	}
	if m, code := impl.GrowthOf(term(ratio(7, 2)), 0); m != 3 || code != impl.OK {
		t.Errorf("GrowthOf 7 / 2, which is 4 for 0 places: got %d with %d", m, code)
	}
	if m, code := impl.GrowthOf(term(ratio(-7, 2)), 0); m != 2 || code != impl.OK {
		t.Errorf("GrowthOf -7 / 2, which is -3 for 0 places: got %d with %d", m, code)
	}
}

// An approximation of 5 is away from 0, one of 4 is not; a number is looked at for MaxFind + 2 places at most.
func TestTermsAway(t *testing.T) {
	tiny := func(p int64, more int64) []impl.Node {
		return term(ratio(p, 1<<21), ratio(1, 1<<21*more), two(impl.KdProduct, 0, 1), ratio(1, 1), two(impl.KdQuotient, 3, 2))
	}
	for _, c := range []struct {
		x                []impl.Node
		node, want, code int64
	}{
		{term(ratio(5, 4)), 0, 0, impl.OK}, {term(ratio(-5, 4)), 0, 0, impl.OK}, {term(ratio(1, 1)), 0, 1, impl.OK},
		{term(ratio(9, 8)), 0, 0, impl.OK}, {term(ratio(-9, 8)), 0, 1, impl.OK}, {term(ratio(impl.MaxRatio, 1)), 0, 0, impl.OK},
		{term(ratio(1, 3)), 0, 2, impl.OK}, {term(ratio(0, 1)), 0, 0, impl.ErrBudget}, {term(ratio(-1, 1000000000)), 0, 31, impl.OK},
		{tiny(5, 1), 2, 40, impl.OK}, {tiny(-5, 1), 2, 40, impl.OK}, {tiny(4, 1), 2, 0, impl.ErrBudget}, {tiny(-4, 1), 2, 0, impl.ErrBudget},
		{tiny(9, 2), 2, 40, impl.OK}, {tiny(-9, 2), 2, 0, impl.ErrBudget}, {tiny(5, 2), 2, 0, impl.ErrBudget}, {tiny(10, 2), 2, 40, impl.OK},
		{term(ratio(0, 1), one(impl.KdRoot, 0), one(impl.KdRoot, 1)), 1, 0, impl.ErrBudget},
		{term(ratio(0, 1), one(impl.KdRoot, 0), one(impl.KdRoot, 1)), 2, 0, impl.ErrLimit}, // asked for 4 * 36 + 18 places first
	} {
		k, code := impl.AwayFrom(c.x, c.node)
		if k != c.want || code != c.code {
			t.Errorf("AwayFrom %d of\n%sgot %d with %d, want %d with %d", c.node, impl.TermText(c.x), k, code, c.want, c.code)
		}
	}
	// 2 to the power 42 / 5, by a quotient that asks for as many places as are found.
	got, code := impl.Approx(tiny(5, 1), 4, 0)
	wantWide(t, "1 divided by what is just away", got, code, big.NewInt(879609302221))
	wantApproxCode(t, tiny(4, 1), 4, 0, impl.ErrBudget)
}

// What is asked, in the order in which it is asked, and without pairs that have come before.
func TestTermsAsksInOrder(t *testing.T) {
	x := term(ratio(3, 1), ratio(1, 2), two(impl.KdProduct, 0, 1), two(impl.KdQuotient, 0, 1), two(impl.KdSum, 2, 2), two(impl.KdMin, 1, 0), one(impl.KdNeg, 5), one(impl.KdAbs, 6), one(impl.KdRoot, 0), two(impl.KdDiff, 3, 2), two(impl.KdProduct, 0, 0), two(impl.KdMax, 0, 1), two(impl.KdQuotient, 0, 0), pi)
	for _, c := range []struct {
		node, places int64
		want         string
	}{
		{0, 9, "[{0 9}]"},
		{13, 0, "[{13 0}]"},
		{2, 4, "[{2 4} {0 0} {1 0} {0 8} {1 9}]"},              // growths 2 and 1, A's first
		{3, 4, "[{3 4} {1 2} {1 3} {1 4} {0 0} {0 9} {1 14}]"}, // away by 2: 2 and 4 are too little, and 8 is enough
		{4, 0, "[{4 0} {2 2} {0 0} {1 0} {0 6} {1 7}]"},        // A and B are one node
		{7, 5, "[{7 5} {6 5} {5 5} {1 5} {0 5}]"},              // the order of A and B, and not of indices
		{11, 5, "[{11 5} {0 5} {1 5}]"},                        // likewise
		{8, 3, "[{8 3} {0 12}]"},                               // 2 * n + 6
		{10, 0, "[{10 0} {0 0} {0 5}]"},                        // both growths are one
		{10, 64, "[{10 64} {0 0} {0 69}]"},                     // likewise
		{12, 1, "[{12 1} {0 2} {0 0} {0 4} {0 7}]"},            // away first, then the growth
		{9, 0, "[{9 0} {3 2} {1 2} {1 3} {1 4} {0 0} {0 7} {1 12} {2 2} {1 0} {0 6} {1 7}]"}, // 1 / 2 is 4 for 3 places
	} {
		list, code := impl.AsksOf(x, c.node, c.places)
		if got := fmt.Sprint(list); got != c.want || code != impl.OK {
			t.Errorf("AsksOf %d for %d places: got %s with %d, want %s", c.node, c.places, got, code, c.want)
		}
	}
}

// Of two errors it is the one that is met first: by A ahead of B, and by a growth or an away ahead of both.
func TestTermsErrorsAreThoseMetFirst(t *testing.T) {
	begin := func(nodes ...impl.Node) []impl.Node {
		return append(term(
			ratio(1, 1), two(impl.KdDiff, 0, 0), two(impl.KdQuotient, 0, 1), // 2: ErrBudget
			ratio(impl.MaxRatio, 1), two(impl.KdProduct, 3, 3), two(impl.KdProduct, 4, 4), // 5: ErrLimit
			one(impl.KdRoot, 0), one(impl.KdRoot, 6), // 7: ErrLimit from 36 places on
			one(impl.KdRoot, 1), one(impl.KdRoot, 8), // 9: 0, ErrLimit likewise
		), nodes...)
	}
	for _, kind := range []int8{impl.KdSum, impl.KdDiff, impl.KdProduct, impl.KdMin, impl.KdMax} {
		wantApproxCode(t, begin(two(kind, 2, 5)), 10, 0, impl.ErrBudget)
		wantApproxCode(t, begin(two(kind, 5, 2)), 10, 0, impl.ErrLimit)
		wantApproxCode(t, begin(two(kind, 0, 5)), 10, 0, impl.ErrLimit)
		wantApproxCode(t, begin(two(kind, 0, 2)), 10, 0, impl.ErrBudget)
	}
	for _, kind := range []int8{impl.KdNeg, impl.KdAbs, impl.KdRoot} {
		wantApproxCode(t, begin(one(kind, 2)), 10, 0, impl.ErrBudget)
		wantApproxCode(t, begin(one(kind, 5)), 10, 0, impl.ErrLimit)
	}
	quotient := func(a, b int16) []impl.Node { return begin(two(impl.KdQuotient, a, b)) }
	wantApproxCode(t, quotient(5, 2), 10, 0, impl.ErrBudget) // B is asked ahead of A
	wantApproxCode(t, quotient(2, 5), 10, 0, impl.ErrLimit)
	wantApproxCode(t, quotient(5, 1), 10, 0, impl.ErrBudget)
	wantApproxCode(t, quotient(1, 9), 10, 0, impl.ErrLimit) // before B has been asked for 42 places
	wantApproxCode(t, quotient(1, 8), 10, 0, impl.ErrBudget)
	// A product finds both growths before A is asked for many places.
	wantApproxCode(t, begin(two(impl.KdProduct, 7, 2)), 10, 40, impl.ErrBudget)
	wantApproxCode(t, begin(two(impl.KdProduct, 7, 0)), 10, 40, impl.ErrLimit)
	wantApproxCode(t, begin(two(impl.KdSum, 7, 2)), 10, 40, impl.ErrLimit)
	x := begin()
	for _, c := range []struct{ a, b, budget, code int64 }{{2, 5, 9, impl.ErrBudget}, {5, 2, 9, impl.ErrLimit}, {7, 6, 9, impl.ErrBudget}, {7, 6, 33, impl.ErrBudget}, {7, 6, 34, impl.ErrLimit}} {
		if less, places, code := impl.LessWithin(x, c.a, c.b, c.budget); less || places != 0 || code != c.code {
			t.Errorf("LessWithin %d and %d within %d: got %v for %d with %d, want %d", c.a, c.b, c.budget, less, places, code, c.code)
		}
	}
	// A, C and then B, all of them before anything is decided.
	for _, c := range []struct{ a, b, c, code int64 }{{2, 5, 5, impl.ErrBudget}, {0, 2, 5, impl.ErrLimit}, {0, 5, 2, impl.ErrBudget}, {0, 5, 3, impl.ErrLimit}, {0, 2, 3, impl.ErrBudget}} {
		if side, places, code := impl.WhichSide(x, c.a, c.b, c.c, 9); side != 0 || places != 0 || code != c.code {
			t.Errorf("WhichSide %d, %d, %d: got %d for %d with %d, want %d", c.a, c.b, c.c, side, places, code, c.code)
		}
	}
	for _, c := range []struct{ node, budget, code int64 }{{9, 35, impl.ErrBudget}, {9, 36, impl.ErrLimit}, {1, 64, impl.ErrBudget}, {2, 0, impl.ErrBudget}, {5, 0, impl.ErrLimit}} {
		if sign, places, code := impl.SignWithin(x, c.node, c.budget); sign != 0 || places != 0 || code != c.code {
			t.Errorf("SignWithin %d within %d: got %d for %d with %d, want %d", c.node, c.budget, sign, places, code, c.code)
		}
	}
	for node, want := range map[int64]int64{2: impl.ErrBudget, 5: impl.ErrLimit} {
		if text, code := impl.DecimalOf(x, node, 3); text != "" || code != want {
			t.Errorf("DecimalOf %d: got %q with %d, want %d", node, text, code, want)
		}
	}
}

func TestTermsRootsOfNegativeNumbers(t *testing.T) {
	x := term(ratio(-2, 1), one(impl.KdRoot, 0), ratio(-1, impl.MaxRatio), one(impl.KdRoot, 2), ratio(0, 1), one(impl.KdRoot, 4), two(impl.KdDiff, 1, 3))
	for _, node := range []int64{1, 3, 5, 6} {
		for _, places := range somePlaces {
			wantApprox(t, x, node, places, 0)
		}
	}
	if text, code := impl.DecimalOf(x, 1, 2); text != "0.00" || code != impl.OK {
		t.Errorf("the root of -2: got %q with %d", text, code)
	}
}

// What is asked for 2 places more than the digit, less 8 * s, decides at 3 and not at 2.
func TestTermsDigitsAtTheirBounds(t *testing.T) {
	for _, c := range []struct {
		p, q, whole int64
		digits      []int8
	}{
		{1, 4, 0, []int8{0, 1, 0}}, {-1, 4, 0, []int8{0, -1, 0}}, // 2 and -2, then 4 and -4
		{5, 16, 0, []int8{1, -1, 0, 1}}, {-5, 16, 0, []int8{0, -1, 0, -1}}, // 5 / 2 is near 3, -5 / 2 is near -2
		{3, 8, 1, []int8{-1, 0, -1}}, {-3, 8, 0, []int8{-1, 0, 1}}, // 3 - 8 and -3: the whole numbers are near(2, 2) and near(-1, 2)
		{1, 2, 1, []int8{-1, 0, 0}}, {-1, 2, 0, []int8{-1, 0, 0}}, // the whole number is near(2, 2) or near(-2, 2)
		{3, 4, 1, []int8{0, -1, 0}}, {-3, 4, -1, []int8{0, 1, 0}}, {3, 1, 3, []int8{0, 0}}, {0, 1, 0, []int8{0, 0}},
		{7, 4, 2, []int8{0, -1, 0}}, {-7, 4, -2, []int8{0, 1, 0}}, {2, 3, 1, []int8{-1, 1, -1, 1}},
	} {
		whole, digits, code := impl.TermDigits(term(ratio(c.p, c.q)), 0, int64(len(c.digits)))
		wantWide(t, fmt.Sprintf("the whole number of %d / %d", c.p, c.q), whole, code, big.NewInt(c.whole))
		if !slices.Equal(digits, c.digits) {
			t.Errorf("the digits of %d / %d: got %v, want %v", c.p, c.q, digits, c.digits)
		}
	}
}

func TestTermsValueOfDigits(t *testing.T) {
	value, code := impl.ValueOfDigits(impl.WideOf(-3), []int8{1, 0, -1, 1})
	wantWide(t, "ValueOfDigits", value, code, big.NewInt(-41))
	value, code = impl.ValueOfDigits(impl.WideOf(-3), nil)
	wantWide(t, "ValueOfDigits of none", value, code, big.NewInt(-3))
	value, code = impl.ValueOfDigits(impl.WideOf(1), make([]int8, impl.MaxPlaces))
	wantWide(t, "64 digits", value, code, pow2(64))
	value, code = impl.ValueOfDigits(impl.WideOf(1), make([]int8, impl.MaxPlaces+1))
	wantCode(t, "65 digits", value, code, impl.ErrRange)
	wrong := make([]int8, impl.MaxPlaces+2)
	wrong[impl.MaxPlaces+1] = 2
	value, code = impl.ValueOfDigits(impl.WideOf(1), wrong)
	wantCode(t, "66 digits, the last of which is none", value, code, impl.ErrInvalid)
	for _, digit := range []int8{-128, -2, 2, 127} {
		value, code = impl.ValueOfDigits(impl.WideOf(1), []int8{0, digit, 0})
		wantCode(t, "what is no digit", value, code, impl.ErrInvalid)
	}
	value, code = impl.ValueOfDigits(negativeZero, nil)
	wantCode(t, "what is not valid", value, code, impl.ErrInvalid)
	value, code = impl.ValueOfDigits(wide(t, power2(192, -1)), nil)
	wantWide(t, "the greatest one, without digits", value, code, bigOf(wide(t, power2(192, -1))))
	upper := new(big.Int).Sub(pow2(191), big.NewInt(1))
	wholes := map[string][]int8{upper.String(): {1}, "-" + upper.String(): {-1}}
	for text, digits := range wholes {
		value, code = impl.ValueOfDigits(wide(t, text), digits)
		want := new(big.Int).Lsh(bigOf(wide(t, text)), 1)
		wantWide(t, "at the limit", value, code, want.Add(want, big.NewInt(int64(digits[0]))))
		value, code = impl.ValueOfDigits(wide(t, text), append(digits, 0))
		wantCode(t, "behind the limit", value, code, impl.ErrLimit)
	}
	value, code = impl.ValueOfDigits(wide(t, power2(191, 0)), []int8{-1})
	wantCode(t, "doubled first, and too large then", value, code, impl.ErrLimit)
	value, code = impl.ValueOfDigits(wide(t, power2(191, 0)), []int8{-1, 2})
	wantCode(t, "too large, and no digit behind it", value, code, impl.ErrInvalid)
}

// A sign is decided by an approximation of 2, and not by one of 1.
func TestTermsSignsAtTheirBounds(t *testing.T) {
	for _, c := range []struct{ p, q, sign, places int64 }{
		{1, 1, 1, 1}, {-1, 1, -1, 1}, {2, 1, 1, 0}, {-2, 1, -1, 0}, {3, 2, 1, 0}, {-3, 2, -1, 1}, {-5, 4, -1, 1}, {5, 4, 1, 1},
		{3, 4, 1, 1}, {-3, 4, -1, 2}, {1, 3, 1, 3}, {impl.MaxRatio, 1, 1, 0}, {1, impl.MaxRatio, 1, 31}, {-1, impl.MaxRatio, -1, 31},
	} {
		x := term(ratio(c.p, c.q))
		for _, budget := range []int64{c.places, c.places + 1, impl.MaxPlaces} {
			if sign, places, code := impl.SignWithin(x, 0, budget); sign != c.sign || places != c.places || code != impl.OK {
				t.Errorf("SignWithin of %d / %d: got %d for %d with %d, want %d for %d", c.p, c.q, sign, places, code, c.sign, c.places)
			}
		}
		if c.places > 0 {
			if sign, places, code := impl.SignWithin(x, 0, c.places-1); sign != 0 || places != 0 || code != impl.ErrBudget {
				t.Errorf("SignWithin of %d / %d within too little: got %d for %d with %d", c.p, c.q, sign, places, code)
			}
		}
	}
}

// An order is decided by a difference of 3, and not by one of 2.
func TestTermsOrdersAtTheirBounds(t *testing.T) {
	x := term(ratio(0, 1), ratio(3, 4), ratio(1, 2), ratio(5, 8), ratio(-5, 8), ratio(-3, 4), ratio(1, 1000), ratio(11, 8))
	for _, c := range []struct {
		a, b   int64
		less   bool
		places int64
	}{
		{0, 1, true, 0}, {1, 0, false, 0}, {0, 2, true, 1}, {2, 0, false, 1}, {0, 3, true, 0}, {3, 0, false, 0}, // 5 / 8 is near 3
		{4, 0, true, 1}, {0, 4, false, 1}, {5, 0, true, 0}, {0, 5, false, 0}, {0, 6, true, 10}, {6, 0, false, 10}, {5, 4, true, 3}, {1, 7, true, 0}, {7, 1, false, 0},
	} {
		for _, budget := range []int64{c.places, impl.MaxPlaces} {
			less, places, code := impl.LessWithin(x, c.a, c.b, budget)
			if less != c.less || places != c.places || code != impl.OK {
				t.Errorf("LessWithin %d and %d: got %v for %d with %d, want %v for %d", c.a, c.b, less, places, code, c.less, c.places)
			}
		}
		if c.places > 0 {
			if less, places, code := impl.LessWithin(x, c.a, c.b, c.places-1); less || places != 0 || code != impl.ErrBudget {
				t.Errorf("LessWithin %d and %d within too little: got %v for %d with %d", c.a, c.b, less, places, code)
			}
		}
		if _, _, code := impl.LessWithin(x, c.a, c.a, impl.MaxPlaces); code != impl.ErrBudget {
			t.Errorf("LessWithin %d and itself: got %d", c.a, code)
		}
	}
}

func TestTermsSidesAtTheirBounds(t *testing.T) {
	x := term(ratio(0, 1), ratio(1, 1), ratio(3, 4), ratio(1, 4), ratio(1, 2), ratio(7, 8), ratio(1, 8), ratio(-1, 1), ratio(2, 1))
	for _, c := range []struct{ a, b, c, side, places int64 }{
		{0, 1, 2, 1, 0}, {0, 1, 3, 2, 0}, {0, 1, 4, 1, 1}, {0, 1, 5, 1, 0}, {0, 1, 6, 2, 0}, {0, 1, 7, 2, 0}, {0, 1, 8, 1, 0}, {0, 1, 0, 2, 0}, {0, 1, 1, 1, 0},
		{1, 0, 4, 0, 0}, {0, 0, 0, 0, 0}, {7, 8, 0, 1, 0}, {7, 8, 4, 1, 0}, {4, 4, 2, 1, 2}, {4, 4, 3, 2, 2}, {1, 0, 8, 1, 0}, {1, 0, 7, 2, 0},
	} {
		want := int64(impl.OK)
		if c.side == 0 {
			want = impl.ErrBudget
		}
		if side, places, code := impl.WhichSide(x, c.a, c.b, c.c, 20); side != c.side || places != c.places || code != want {
			t.Errorf("WhichSide %d, %d, %d: got %d for %d with %d, want %d for %d", c.a, c.b, c.c, side, places, code, c.side, c.places)
		}
	}
}

func TestTermsIsWithin(t *testing.T) {
	for _, c := range []struct {
		a, b, places, more int64
		want               bool
	}{
		{5, 5, 0, 0, true}, {5, 7, 0, 0, true}, {7, 5, 0, 0, true}, {5, 8, 0, 0, false}, {8, 5, 64, 0, false}, {-1, 1, 3, 0, true}, {-1, 2, 3, 0, false},
		{5, 13, 4, 1, true}, {5, 14, 4, 1, false}, {5, 7, 4, 1, true}, {5, 6, 4, 1, false}, {-5, -13, 4, 1, true}, {-5, -14, 4, 1, false},
		{0, 257, 4, 8, true}, {0, 258, 4, 8, false}, {0, -257, 4, 8, true}, {0, -258, 4, 8, false}, {1, 1 << 62, 64, 62, true},
	} {
		if got, code := impl.IsWithin(impl.WideOf(c.a), impl.WideOf(c.b), c.places, c.more); got != c.want || code != impl.OK {
			t.Errorf("IsWithin %d, %d, %d, %d: got %v with %d", c.a, c.b, c.places, c.more, got, code)
		}
	}
	top, low := wide(t, power2(192, -1)), wide(t, "-"+power2(192, -1))
	for _, c := range []struct {
		a, b         impl.Wide
		places, more int64
		want         bool
		code         int64
	}{
		{negativeZero, top, -1, 65, false, impl.ErrInvalid}, {top, negativeZero, 0, 0, false, impl.ErrInvalid},
		{top, top, -1, 0, false, impl.ErrRange}, {top, top, 65, 0, false, impl.ErrRange}, {top, top, 0, -1, false, impl.ErrRange}, {top, top, 0, 65, false, impl.ErrRange},
		{top, top, 0, 0, true, impl.OK}, {top, top, 64, 64, false, impl.ErrLimit}, {top, top, 0, 1, false, impl.ErrLimit}, {top, low, 0, 0, false, impl.ErrLimit},
		{top, impl.Wide{}, 0, 0, false, impl.OK}, {wide(t, power2(127, 0)), top, 64, 64, false, impl.OK}, {wide(t, power2(128, -1)), top, 64, 64, true, impl.OK},
		{wide(t, power2(128, 0)), top, 64, 64, false, impl.ErrLimit}, {impl.WideOf(-1), top, 0, 0, false, impl.ErrLimit},
	} {
		if got, code := impl.IsWithin(c.a, c.b, c.places, c.more); got != c.want || code != c.code {
			t.Errorf("IsWithin %v, %v, %d, %d: got %v with %d, want %v with %d", bigOf(c.a), bigOf(c.b), c.places, c.more, got, code, c.want, c.code)
		}
	}
}

func TestTermsInDecimal(t *testing.T) {
	for _, c := range []struct {
		node   impl.Node
		places int64
		want   string
	}{
		{ratio(1, 2), 0, "1"}, {ratio(-1, 2), 0, "0"}, {ratio(3, 2), 0, "2"}, {ratio(-3, 2), 0, "-1"}, {ratio(-2, 5), 0, "0"}, {ratio(-3, 5), 0, "-1"},
		{ratio(0, 1), 0, "0"}, {ratio(0, 1), 3, "0.000"}, {ratio(-12, 1), 0, "-12"}, {ratio(-12, 1), 1, "-12.0"}, {ratio(1, 8), 2, "0.13"}, {ratio(-1, 8), 2, "-0.12"},
		{ratio(1, 1000), 3, "0.001"}, {ratio(-1, 1000), 3, "-0.001"}, {ratio(-1, 1000), 2, "0.00"}, {ratio(-7, 1000), 2, "-0.01"}, {ratio(7, 1000), 2, "0.01"},
		{ratio(999, 1000), 2, "1.00"}, {ratio(-999, 1000), 2, "-1.00"}, {ratio(2, 3), 4, "0.6667"}, {ratio(-2, 3), 4, "-0.6667"},
		{ratio(impl.MaxRatio, 1), 15, "1000000000.000000000000000"}, {ratio(-impl.MaxRatio, 1), 15, "-1000000000.000000000000000"},
		{ratio(1, impl.MaxRatio), 9, "0.000000001"}, {pi, 0, "3"}, {pi, 15, "3.141592653589793"}, {euler, 15, "2.718281828459045"}, {euler, 0, "3"},
	} {
		if got, code := impl.DecimalOf(term(c.node), 0, c.places); got != c.want || code != impl.OK {
			t.Errorf("DecimalOf %v with %d places: got %q with %d, want %q", c.node, c.places, got, code, c.want)
		}
	}
	for _, places := range []int64{-1 << 63, -1, 16, 64, 65, 1<<63 - 1} {
		if got, code := impl.DecimalOf(term(pi), 0, places); got != "" || code != impl.ErrRange {
			t.Errorf("DecimalOf with %d places: got %q with %d", places, got, code)
		}
	}
}

func TestTermsReachAndPrune(t *testing.T) {
	x := term(ratio(1, 1), pi, two(impl.KdSum, 0, 0), euler, two(impl.KdProduct, 3, 1), one(impl.KdNeg, 4), two(impl.KdMax, 5, 3), one(impl.KdRoot, 2))
	for _, c := range []struct {
		node   int64
		reach  []int64
		pruned []impl.Node
	}{
		{0, []int64{0}, term(ratio(1, 1))}, {3, []int64{3}, term(euler)}, {2, []int64{0, 2}, term(ratio(1, 1), two(impl.KdSum, 0, 0))},
		{7, []int64{0, 2, 7}, term(ratio(1, 1), two(impl.KdSum, 0, 0), one(impl.KdRoot, 1))},
		{5, []int64{1, 3, 4, 5}, term(pi, euler, two(impl.KdProduct, 1, 0), one(impl.KdNeg, 2))},
		{6, []int64{1, 3, 4, 5, 6}, term(pi, euler, two(impl.KdProduct, 1, 0), one(impl.KdNeg, 2), two(impl.KdMax, 3, 1))},
	} {
		if got, code := impl.ReachOf(x, c.node); !slices.Equal(got, c.reach) || code != impl.OK {
			t.Errorf("ReachOf %d: got %v with %d", c.node, got, code)
		}
		if got, code := impl.PruneTerm(x, c.node); !slices.Equal(got, c.pruned) || code != impl.OK {
			t.Errorf("PruneTerm %d: got %v with %d", c.node, got, code)
		}
	}
}

func TestTermsJoinAndShare(t *testing.T) {
	x, y := term(pi, one(impl.KdNeg, 0)), term(ratio(1, 2), pi, two(impl.KdDiff, 1, 0))
	joined, code := impl.JoinTerms(x, y)
	if want := term(pi, one(impl.KdNeg, 0), ratio(1, 2), pi, two(impl.KdDiff, 3, 2)); !slices.Equal(joined, want) || code != impl.OK {
		t.Errorf("JoinTerms: got %v with %d", joined, code)
	}
	shared, index, code := impl.ShareTerm(joined)
	if want := term(pi, one(impl.KdNeg, 0), ratio(1, 2), two(impl.KdDiff, 0, 2)); !slices.Equal(shared, want) || !slices.Equal(index, []int64{0, 1, 2, 0, 3}) || code != impl.OK {
		t.Errorf("ShareTerm: got %v, %v with %d", shared, index, code)
	}
	// Alike by what they use then, and not by their values or by the order of what they use.
	z := term(ratio(1, 2), ratio(2, 4), ratio(1, 2), one(impl.KdNeg, 0), one(impl.KdNeg, 2), one(impl.KdNeg, 1), two(impl.KdSum, 0, 5), two(impl.KdSum, 5, 2), two(impl.KdSum, 2, 5), one(impl.KdAbs, 4))
	shared, index, code = impl.ShareTerm(z)
	want := term(ratio(1, 2), ratio(2, 4), one(impl.KdNeg, 0), one(impl.KdNeg, 1), two(impl.KdSum, 0, 3), two(impl.KdSum, 3, 0), one(impl.KdAbs, 2))
	if !slices.Equal(shared, want) || !slices.Equal(index, []int64{0, 1, 0, 2, 2, 3, 4, 5, 4, 6}) || code != impl.OK {
		t.Errorf("ShareTerm: got %v, %v with %d", shared, index, code)
	}
	full := repeated(term(pi), impl.MaxNodes-1, func(int16) impl.Node { return pi })
	shared, index, code = impl.ShareTerm(full)
	if !slices.Equal(shared, term(pi)) || slices.Max(index) != 0 || len(index) != impl.MaxNodes || code != impl.OK {
		t.Errorf("ShareTerm of nodes that are all alike: got %v, %v with %d", shared, index, code)
	}
	if joined, code := impl.JoinTerms(full[:20], full[20:]); !slices.Equal(joined, full) || code != impl.OK {
		t.Errorf("JoinTerms to MaxNodes: got %v with %d", joined, code)
	}
	if joined, code := impl.JoinTerms(full, term(pi)); len(joined) != 0 || code != impl.ErrLimit {
		t.Errorf("JoinTerms to one more: got %v with %d", joined, code)
	}
}

// A node that is used again and again is asked once for as many places: all ways to it would be 2 to the power 39.
func TestTermsWithMaxNodes(t *testing.T) {
	doubled := repeated(term(ratio(1, 1)), impl.MaxNodes-1, func(last int16) impl.Node { return two(impl.KdSum, last, last) })
	for _, places := range []int64{0, 1, impl.MaxPlaces} {
		got, code := impl.Approx(doubled, 39, places)
		wantWide(t, "2 to the power 39", got, code, pow2(39+places))
		if list, code := impl.AsksOf(doubled, 39, places); len(list) != impl.MaxNodes || list[39] != (impl.Ask{Places: int16(places + 78)}) || code != impl.OK {
			t.Errorf("AsksOf: got %v with %d", list, code)
		}
	}
	if text, code := impl.DecimalOf(doubled, 39, 3); text != "549755813888.000" || code != impl.OK {
		t.Errorf("DecimalOf: got %q with %d", text, code)
	}
	ones := repeated(term(ratio(1, 1)), impl.MaxNodes-1, func(last int16) impl.Node { return two(impl.KdProduct, last, last) })
	wantApprox(t, ones, 23, 0, 1) // the first node is asked for 92 places then, and with 96 its square is too large
	for node := int64(24); node < impl.MaxNodes; node++ {
		wantApproxCode(t, ones, node, 0, impl.ErrLimit)
	}
	zeros := repeated(term(ratio(0, 1)), impl.MaxNodes-1, func(last int16) impl.Node { return two(impl.KdQuotient, last, last) })
	wantApproxCode(t, zeros, 39, 0, impl.ErrBudget)
	quotients := repeated(term(pi), impl.MaxNodes-1, func(last int16) impl.Node { return two(impl.KdQuotient, last, last) })
	wantApprox(t, quotients, 14, 0, 1) // the second node is asked for 91 places then
	wantApproxCode(t, quotients, 15, 0, impl.ErrLimit)
	if back, code := impl.ReadTerm(impl.TermText(quotients)); !slices.Equal(back, quotients) || code != impl.OK {
		t.Errorf("ReadTerm: got %v with %d", back, code)
	}
	reached, code := impl.ReachOf(quotients, 39)
	if len(reached) != impl.MaxNodes || code != impl.OK {
		t.Errorf("ReachOf: got %v with %d", reached, code)
	}
}

func TestTermsTexts(t *testing.T) {
	x := term(ratio(-12, 1000000000), pi, euler, two(impl.KdSum, 0, 1), two(impl.KdDiff, 1, 0), two(impl.KdProduct, 2, 2), two(impl.KdQuotient, 3, 4), one(impl.KdNeg, 6), one(impl.KdAbs, 7), two(impl.KdMin, 8, 0), two(impl.KdMax, 0, 9), one(impl.KdRoot, 10))
	text := "ratio -12 1000000000\npi\neuler\nsum 0 1\ndiff 1 0\nproduct 2 2\nquotient 3 4\nneg 6\nabs 7\nmin 8 0\nmax 0 9\nroot 10\n"
	if got := impl.TermText(x); got != text {
		t.Errorf("TermText: got %q", got)
	}
	if back, code := impl.ReadTerm(text); !slices.Equal(back, x) || code != impl.OK {
		t.Errorf("ReadTerm: got %v with %d", back, code)
	}
	for _, text := range []string{
		"", "\n", " ", "pi", "pi\r\n", "pi\n\n", "\npi\n", " pi\n", "pi \n", "pi\n ", "pi\neuler", "pi 0\n", "pi 1\n", "Pi\n", "PI\n", "pie\n", "p\n", "pi\x00\n", "pi\tpi\n",
		"ratio\n", "ratio 1\n", "ratio 1 0\n", "ratio 0 -1\n", "ratio 1 2 3\n", "ratio 1  2\n", "ratio 1\t2\n", "ratio +1 2\n", "ratio -0 2\n", "ratio 01 2\n", "ratio 1 02\n", "ratio 1 +2\n", "ratio 1_0 2\n", "ratio 0x1 2\n", "ratio 1.0 2\n", "ratio 1e1 2\n", "ratio 1/2\n", "ratio 1,2\n", "ratio a b\n", "ratio - 1\n",
		"ratio 1000000001 1\n", "ratio -1000000001 1\n", "ratio 1 1000000001\n", "ratio 9223372036854775808 1\n", "ratio 18446744073709551617 1\n", "ratio 1 99999999999999999999999\n",
		"neg 0\n", "pi\nneg\n", "pi\nneg 1\n", "pi\nneg -1\n", "pi\nneg 0 0\n", "pi\nneg 00\n", "pi\nneg -0\n", "pi\nneg 65536\n", "pi\nneg 4294967296\n", "pi\nneg 2\nneg 0\n",
		"sum 0 0\n", "pi\nsum 0\n", "pi\nsum 0 1\n", "pi\nsum 1 0\n", "pi\nsum 0 0 0\n", "pi\nsum 0 65536\n", "pi\nsum  0 0\n", "pi\nsum 0 0 \n", "pi\nsum0 0\n",
		"\n" + strings.Repeat("pi\n", 40), strings.Repeat("pi\n", 41), strings.Repeat("pi\n", 40) + " ", strings.Repeat("pi\n", 39) + "pi", "pi\u00a0\n", "\ufeffpi\n", "π\n", "pi\vpi\n", "\xff\n",
		"0\n", "1 2\n", " 0 0\n", "12\n", "kind\n", "-1\n", "pi\npi pi\n", "root\n",
	} {
		if back, code := impl.ReadTerm(text); len(back) != 0 || code != impl.ErrSyntax {
			t.Errorf("ReadTerm of %q: got %v with %d", text, back, code)
		}
	}
	if back, code := impl.ReadTerm(strings.Repeat("pi\n", 40)); len(back) != impl.MaxNodes || code != impl.OK {
		t.Errorf("ReadTerm of MaxNodes lines: got %v with %d", back, code)
	}
}
