package tests

import (
	"fmt"
	"slices"
	"strings"
	"testing"

	"loop.example/g01242/impl"
)

// termArgs are arguments for the functions of chapter 2, of which each takes those it needs.
type termArgs struct {
	t, u           []impl.Node
	a, b, c        int64
	places, budget int64
	text           string
	digits         []int8
	whole          impl.Wide
}

// termCalls calls each function of chapter 2 and returns, by name, all that it returns; the code is the last one.
func termCalls(x termArgs) map[string][]any {
	all := func(list ...any) []any { return list }
	return map[string][]any{
		"ValidTerm":     all(impl.ValidTerm(x.t), int64(impl.OK)),
		"SameTerm":      all(impl.SameTerm(x.t, x.u), int64(impl.OK)),
		"Approx":        all(impl.Approx(x.t, x.a, x.places)),
		"GrowthOf":      all(impl.GrowthOf(x.t, x.a)),
		"AwayFrom":      all(impl.AwayFrom(x.t, x.a)),
		"AsksOf":        all(impl.AsksOf(x.t, x.a, x.places)),
		"IsWithin":      all(impl.IsWithin(x.whole, impl.WideOf(x.b), x.places, x.budget)),
		"TermDigits":    all(impl.TermDigits(x.t, x.a, x.places)),
		"ValueOfDigits": all(impl.ValueOfDigits(x.whole, x.digits)),
		"SignWithin":    all(impl.SignWithin(x.t, x.a, x.budget)),
		"LessWithin":    all(impl.LessWithin(x.t, x.a, x.b, x.budget)),
		"WhichSide":     all(impl.WhichSide(x.t, x.a, x.b, x.c, x.budget)),
		"DecimalOf":     all(impl.DecimalOf(x.t, x.a, x.places)),
		"ReachOf":       all(impl.ReachOf(x.t, x.a)),
		"PruneTerm":     all(impl.PruneTerm(x.t, x.a)),
		"JoinTerms":     all(impl.JoinTerms(x.t, x.u)),
		"ShareTerm":     all(impl.ShareTerm(x.t)),
		"TermText":      all(impl.TermText(x.t), int64(impl.OK)),
		"ReadTerm":      all(impl.ReadTerm(x.text)),
	}
}

// checkTermCalls is checkPurity of the functions of chapter 2.
func checkTermCalls(t *testing.T, x termArgs) map[string][]any {
	t.Helper()
	x.t, x.u, x.digits = spare(x.t, pi), spare(x.u, euler), spare(x.digits, 77)
	beforeT, beforeU, beforeDigits := whole(x.t), whole(x.u), whole(x.digits)
	intact := func() bool {
		return slices.Equal(whole(x.t), beforeT) && slices.Equal(whole(x.u), beforeU) && slices.Equal(whole(x.digits), beforeDigits)
	}
	return checkPurity(t, fmt.Sprint(x), func() map[string][]any { return termCalls(x) }, intact)
}

var someNumbers = []int64{-1 << 63, -1 << 32, -65536, -1, 0, 1, 2, 15, 16, 39, 40, 63, 64, 65, 160, 161, 65536, 1 << 32, 1<<63 - 1}

func TestPromise1TermsReturnTheSameForAll(t *testing.T) {
	d := draw(99)
	number := func(n int) int64 {
		if d.next()>>33%4 > 0 {
			return int64(d.next() >> 33 % uint64(n))
		}
		return someNumbers[d.next()>>33%uint64(len(someNumbers))]
	}
	list := append(someTerms(), nil, term(), term(impl.Node{}), term(two(impl.KdSum, 0, 0)))
	for i, x := range list {
		y := list[(i*7+3)%len(list)]
		for range 3 {
			checkTermCalls(t, termArgs{t: x, u: y, a: number(len(x) + 1), b: number(len(x) + 1), c: number(len(x) + 1), places: number(65), budget: number(65),
				text: impl.TermText(y), digits: []int8{1, 0, -1, int8(number(3))}, whole: d.wide()})
		}
	}
}

// invalidTerms returns terms that are not valid, each in one way only.
func invalidTerms() [][]impl.Node {
	behind := func(nodes ...impl.Node) []impl.Node { return append(term(ratio(1, 2), pi), nodes...) }
	list := [][]impl.Node{
		nil, {}, repeated(term(pi), impl.MaxNodes, func(int16) impl.Node { return pi }),
		behind(impl.Node{}), behind(one(-1, 0)), behind(one(13, 0)), behind(one(-128, 0)), behind(one(127, 0)), term(one(0, 0), pi),
		behind(ratio(impl.MaxRatio+1, 1)), behind(ratio(-impl.MaxRatio-1, 1)), behind(ratio(-1<<63, 1)), behind(ratio(1<<63-1, 1)),
		behind(ratio(1, 0)), behind(ratio(1, -1)), behind(ratio(0, 0)), behind(ratio(1, impl.MaxRatio+1)), behind(ratio(1, -1<<63)), behind(ratio(1, 1<<63-1)),
		behind(impl.Node{Kind: impl.KdRatio, A: 1, P: 1, Q: 1}), behind(impl.Node{Kind: impl.KdRatio, B: 1, P: 1, Q: 1}), behind(impl.Node{Kind: impl.KdRatio, A: -1, P: 1, Q: 1}),
		term(impl.Node{Kind: impl.KdRatio, A: 1, P: 1, Q: 1}, pi), behind(impl.Node{Kind: impl.KdPi, A: 1}, pi),
	}
	for _, kind := range []int8{impl.KdPi, impl.KdEuler, impl.KdNeg, impl.KdAbs, impl.KdRoot, impl.KdSum, impl.KdDiff, impl.KdProduct, impl.KdQuotient, impl.KdMin, impl.KdMax} {
		list = append(list, behind(impl.Node{Kind: kind, P: 1}), behind(impl.Node{Kind: kind, Q: 1}), behind(impl.Node{Kind: kind, P: -1, Q: 1}))
		if isLeaf(kind) {
			list = append(list, behind(one(kind, 1)), behind(two(kind, 0, 1)), behind(two(kind, 0, -1)))
			continue
		}
		list = append(list, term(two(kind, 0, 0)), behind(one(kind, 2)), behind(one(kind, 3)), behind(one(kind, -1)), behind(one(kind, -32768)), behind(one(kind, 32767)))
		list = append(list, term(one(kind, 1), pi), behind(two(kind, 0, 2)), behind(two(kind, 0, 3), pi), behind(two(kind, 0, -1)), behind(two(kind, 0, 32767)))
		if isUnary(kind) {
			list = append(list, behind(two(kind, 0, 1)))
		}
	}
	return list
}

func TestPromise1TermsThatAreNotValid(t *testing.T) {
	for _, x := range someTerms() {
		if !impl.ValidTerm(x) {
			t.Errorf("%v is valid", x)
		}
	}
	if full := repeated(term(pi), impl.MaxNodes-1, func(last int16) impl.Node { return one(impl.KdNeg, last) }); !impl.ValidTerm(full) {
		t.Errorf("%v is valid", full)
	}
	edges := term(ratio(impl.MaxRatio, impl.MaxRatio), ratio(-impl.MaxRatio, 1), ratio(0, impl.MaxRatio), two(impl.KdMin, 2, 2))
	if !impl.ValidTerm(edges) {
		t.Errorf("%v is valid", edges)
	}
	noTerm := []string{"ValidTerm", "SameTerm", "IsWithin", "ValueOfDigits", "TermText", "ReadTerm"}
	for _, x := range invalidTerms() {
		if impl.ValidTerm(x) || impl.TermText(x) != "" {
			t.Errorf("%v is not valid, and has no text", x)
		}
		// ErrInvalid comes first: also where nodes, places and budgets are not in their range.
		for _, n := range []int64{0, -1, 65} {
			for name, got := range checkTermCalls(t, termArgs{t: x, u: term(pi), a: n, b: n, c: n, places: n, budget: n}) {
				if code := got[len(got)-1].(int64); !slices.Contains(noTerm, name) && code != impl.ErrInvalid {
					t.Errorf("%s of %v and %d: got %d", name, x, n, code)
				}
			}
		}
		if got, code := impl.JoinTerms(term(pi), x); len(got) != 0 || code != impl.ErrInvalid {
			t.Errorf("JoinTerms with %v: got %v with %d", x, got, code)
		}
		full := repeated(term(pi), impl.MaxNodes-1, func(int16) impl.Node { return pi })
		if got, code := impl.JoinTerms(full, x); len(got) != 0 || code != impl.ErrInvalid {
			t.Errorf("JoinTerms of many and %v: got %v with %d", x, got, code)
		}
	}
}

func TestPromise1TermArgumentsOutOfRange(t *testing.T) {
	// The node 1 is ErrBudget when it is asked: ErrRange comes ahead of it.
	x := term(ratio(0, 1), two(impl.KdQuotient, 0, 0), pi)
	hasNode := map[string]string{"Approx": "a", "GrowthOf": "a", "AwayFrom": "a", "AsksOf": "a", "TermDigits": "a", "SignWithin": "a", "LessWithin": "ab", "WhichSide": "abc", "DecimalOf": "a", "ReachOf": "a", "PruneTerm": "a"}
	hasPlaces := []string{"Approx", "AsksOf", "TermDigits", "DecimalOf"}
	hasBudget := []string{"SignWithin", "LessWithin", "WhichSide"}
	fine := termArgs{t: x, u: x, a: 1, b: 1, c: 1, places: 3, budget: 3}
	for name, got := range termCalls(fine) {
		if code := got[len(got)-1].(int64); code == impl.ErrRange {
			t.Errorf("%s of %v: got ErrRange", name, fine)
		}
	}
	check := func(args termArgs, of func(name string) bool) {
		t.Helper()
		for name, got := range checkTermCalls(t, args) {
			if code := got[len(got)-1].(int64); of(name) && code != impl.ErrRange {
				t.Errorf("%s of %v: got %d, want ErrRange", name, args, code)
			}
		}
	}
	for _, node := range []int64{-1 << 63, -65536, -1, 3, 4, 40, 65536, 65537, 1 << 32, 1<<63 - 1} {
		a, b, c := fine, fine, fine
		a.a, b.b, c.c = node, node, node
		check(a, func(name string) bool { return strings.Contains(hasNode[name], "a") })
		check(b, func(name string) bool { return strings.Contains(hasNode[name], "b") })
		check(c, func(name string) bool { return strings.Contains(hasNode[name], "c") })
	}
	for _, n := range []int64{-1 << 63, -1, 65, 160, 65536, 1 << 32, 1<<63 - 1} {
		places, budget := fine, fine
		places.places, budget.budget = n, n
		check(places, func(name string) bool { return slices.Contains(hasPlaces, name) })
		check(budget, func(name string) bool { return slices.Contains(hasBudget, name) })
	}
	// 0 and MaxPlaces are in the range.
	for _, n := range []int64{0, impl.MaxPlaces} {
		for name, got := range termCalls(termArgs{t: x, u: x, a: 2, b: 2, c: 2, places: n, budget: n}) {
			if code := got[len(got)-1].(int64); code == impl.ErrRange && !(name == "DecimalOf" && n > 15) {
				t.Errorf("%s for %d: got ErrRange", name, n)
			}
		}
	}
}

func TestPromise1SameTerm(t *testing.T) {
	x := term(ratio(1, 2), two(impl.KdSum, 0, 0))
	fields := []impl.Node{ratio(2, 2), ratio(1, 3), {Kind: impl.KdPi, P: 1, Q: 2}, {Kind: impl.KdRatio, A: 1, P: 1, Q: 2}, {Kind: impl.KdRatio, B: 1, P: 1, Q: 2}}
	for _, node := range fields {
		if y := term(node, two(impl.KdSum, 0, 0)); impl.SameTerm(x, y) || impl.SameTerm(y, x) || !impl.SameTerm(y, slices.Clone(y)) {
			t.Errorf("SameTerm of %v and %v", x, y)
		}
	}
	if impl.SameTerm(x, x[:1]) || impl.SameTerm(x[:1], x) || impl.SameTerm(x, nil) || !impl.SameTerm(x, slices.Clone(x)) {
		t.Errorf("SameTerm of %v and what is shorter, or as long", x)
	}
	if !impl.SameTerm(nil, nil) || !impl.SameTerm(nil, term()) || !impl.SameTerm(term(), nil) {
		t.Error("no nodes are no nodes, nil or not")
	}
}

// Terms, digits and texts with as many elements as there may be come to an end.
func TestPromise1LongTermArguments(t *testing.T) {
	long := slices.Repeat(term(pi), 1000000)
	for name, got := range termCalls(termArgs{t: long, u: long, text: strings.Repeat("pi\n", 300000), digits: make([]int8, 1000000)}) {
		want := map[string]int64{"ValidTerm": impl.OK, "SameTerm": impl.OK, "TermText": impl.OK, "IsWithin": impl.OK, "ValueOfDigits": impl.ErrRange, "ReadTerm": impl.ErrSyntax}
		code, ok := want[name]
		if !ok {
			code = impl.ErrInvalid
		}
		if got[len(got)-1] != code {
			t.Errorf("%s of what is long: got %v, want %d", name, got, code)
		}
	}
	for _, text := range []string{strings.Repeat("1", 1000000), strings.Repeat(" ", 1000000), strings.Repeat("\n", 1000000), strings.Repeat("1 ", 500000), "ratio " + strings.Repeat("1", 999994), "pi" + strings.Repeat("\x00", 999998)} {
		if got, code := impl.ReadTerm(text); len(got) != 0 || code != impl.ErrSyntax {
			t.Errorf("ReadTerm of a long text: got %v with %d", got, code)
		}
	}
}

// The terms that take the most work are answered, or refused, without asking anything twice.
func TestPromise1TermsThatTakeMuchWork(t *testing.T) {
	mixed := []int8{impl.KdQuotient, impl.KdSum, impl.KdProduct, impl.KdMax, impl.KdDiff, impl.KdRoot, impl.KdMin, impl.KdQuotient}
	for first := range mixed {
		x := term(pi, euler, ratio(1, 3))
		for i := first; len(x) < impl.MaxNodes; i++ {
			kind, at := mixed[i%len(mixed)], int16(len(x)-1)
			if isUnary(kind) {
				x = append(x, one(kind, at))
			} else {
				x = append(x, two(kind, at, at-int16(i%3)))
			}
		}
		checkTermCalls(t, termArgs{t: x, u: term(pi), a: 39, b: 38, c: 37, places: 64, budget: 64})
		for node := range int64(impl.MaxNodes) {
			checkTermCalls(t, termArgs{t: x, u: x, a: node, b: 2, c: 1, places: 15, budget: 64})
		}
	}
	// Two numbers that are equal are asked for more and more places, until the budget has run out.
	doubled := repeated(term(ratio(1, 1)), 19, func(last int16) impl.Node { return two(impl.KdSum, last, last) })
	both, code := impl.JoinTerms(doubled, doubled)
	wantTermCode(t, "JoinTerms", code, impl.OK)
	for node := range int64(20) {
		if less, places, code := impl.LessWithin(both, node, node+20, impl.MaxPlaces); less || places != 0 || code != impl.ErrBudget {
			t.Errorf("LessWithin of equal numbers: got %v for %d with %d", less, places, code)
		}
	}
}
