package tests

import (
	"math/big"
	"slices"
	"testing"

	"loop.example/g01242/impl"
)

var somePlaces = []int64{0, 1, 2, 3, 8, 21, 40, 63, 64}

// eachNode calls something for each node of all terms.
func eachNode(call func(t []impl.Node, node int16)) {
	for _, t := range someTerms() {
		for node := range t {
			call(t, int16(node))
		}
	}
}

// tally makes sure that a test has compared answers, and not errors alone.
type tally map[int64]int

func (n tally) want(t *testing.T, code int64, least int) {
	t.Helper()
	if n[code] < least {
		t.Errorf("%q was met %d times, want %d or more: %v", impl.CodeName(code), n[code], least, n)
	}
}

func TestPromise3ApproximationsAreMadeByTheRules(t *testing.T) {
	met := tally{}
	eachNode(func(x []impl.Node, node int16) {
		for _, places := range somePlaces {
			m := &termModel{term: x}
			var want *big.Int
			code := modelled(func() { want = m.ask(node, places) })
			met[code]++
			if code == int64(modelTooLong) {
				continue
			}
			got, gotCode := impl.Approx(x, int64(node), places)
			list, listCode := impl.AsksOf(x, int64(node), places)
			what := impl.TermText(x) + "asked for an approximation"
			wantTermCode(t, what, listCode, code)
			if code != impl.OK {
				wantCode(t, what, got, gotCode, code)
				if len(list) != 0 {
					t.Errorf("%s: got %v together with an error", what, list)
				}
				continue
			}
			wantWide(t, what, got, gotCode, want)
			if first := firstTimes(m.asked); !slices.Equal(list, first) {
				t.Errorf("AsksOf %d for %d places of\n%sgot %v, want %v", node, places, impl.TermText(x), list, first)
			}
		}
	})
	met.want(t, impl.OK, 8000)
	met.want(t, impl.ErrBudget, 200)
	met.want(t, impl.ErrLimit, 200)
}

func TestPromise3GrowthsAndAways(t *testing.T) {
	met := tally{}
	eachNode(func(x []impl.Node, node int16) {
		var growth, away int64
		code := modelled(func() { growth = (&termModel{term: x}).growth(node) })
		if code != int64(modelTooLong) {
			got, gotCode := impl.GrowthOf(x, int64(node))
			if got != growth || gotCode != code {
				t.Errorf("GrowthOf %d of\n%sgot %d with %d, want %d with %d", node, impl.TermText(x), got, gotCode, growth, code)
			}
		}
		code = modelled(func() { away = (&termModel{term: x}).away(node) })
		met[code]++
		if code != int64(modelTooLong) {
			got, gotCode := impl.AwayFrom(x, int64(node))
			if got != away || gotCode != code {
				t.Errorf("AwayFrom %d of\n%sgot %d with %d, want %d with %d", node, impl.TermText(x), got, gotCode, away, code)
			}
		}
	})
	met.want(t, impl.OK, 1000)
	met.want(t, impl.ErrBudget, 100)
	met.want(t, impl.ErrLimit, 5)
}

func TestPromise3ApproximationsAreAUnitAwayAtMost(t *testing.T) {
	eachNode(func(x []impl.Node, node int16) {
		number := numbersOf(x)[node]
		for places := range int64(impl.MaxPlaces + 1) {
			got, code := impl.Approx(x, int64(node), places)
			if code != impl.OK {
				continue
			}
			if number == nil {
				t.Errorf("Approx %d for %d places, of what is made with a quotient by 0: got %v\n%s", node, places, bigOf(got), impl.TermText(x))
			} else if !isUnitAway(bigOf(got), number, places) {
				t.Errorf("Approx %d for %d places of\n%sgot %v for %v", node, places, impl.TermText(x), bigOf(got), number.Text('g', 30))
			}
		}
	})
}

func TestPromise3ApproximationsOfOneNumberAreWithin(t *testing.T) {
	eachNode(func(x []impl.Node, node int16) {
		for _, places := range somePlaces {
			for _, all := range somePlaces {
				a, code := impl.Approx(x, int64(node), places)
				b, other := impl.Approx(x, int64(node), all)
				if all < places || code != impl.OK || other != impl.OK {
					continue
				}
				if fine, code := impl.IsWithin(a, b, places, all-places); !fine || code != impl.OK {
					t.Errorf("%v for %d and %v for %d places of the node %d are not within, with %d\n%s", bigOf(a), places, bigOf(b), all, node, code, impl.TermText(x))
				}
			}
		}
	})
}

func checkDigits(t *testing.T, x []impl.Node, node int16, count int64) int64 {
	t.Helper()
	var whole, last *big.Int
	var digits []int8
	m := &termModel{term: x}
	code := modelled(func() { whole, digits, last = m.digits(node, count) })
	if code == int64(modelTooLong) {
		return code
	}
	gotWhole, got, gotCode := impl.TermDigits(x, int64(node), count)
	if code != impl.OK {
		wantCode(t, "TermDigits of\n"+impl.TermText(x), gotWhole, gotCode, code)
		if len(got) != 0 {
			t.Errorf("TermDigits: got %v together with an error", got)
		}
		return code
	}
	wantWide(t, "the whole number of\n"+impl.TermText(x), gotWhole, gotCode, whole)
	if !slices.Equal(got, digits) {
		t.Errorf("TermDigits %d of\n%sgot %v, want %v", node, impl.TermText(x), got, digits)
	}
	value, valueCode := impl.ValueOfDigits(gotWhole, got)
	wantWide(t, "ValueOfDigits", value, valueCode, last)
	if number := numbersOf(x)[node]; number == nil || !isUnitAway(bigOf(value), number, count) {
		t.Errorf("%d digits of the node %d tell %v, for %v\n%s", count, node, bigOf(value), number, impl.TermText(x))
	}
	return code
}

func TestPromise3DigitsTellTheNumber(t *testing.T) {
	met := tally{}
	eachNode(func(x []impl.Node, node int16) {
		for _, count := range []int64{0, 1, 2, 5, 17, 64} {
			met[checkDigits(t, x, node, count)]++
		}
	})
	met.want(t, impl.OK, 5000)
	met.want(t, impl.ErrBudget, 100)
	met.want(t, impl.ErrLimit, 100)
}

func TestPromise3DigitsThatHaveBeenToldNeverChange(t *testing.T) {
	eachNode(func(x []impl.Node, node int16) {
		whole, digits, code := impl.TermDigits(x, int64(node), impl.MaxPlaces)
		if code != impl.OK {
			return
		}
		for _, count := range somePlaces {
			first, fewer, code := impl.TermDigits(x, int64(node), count)
			if code != impl.OK || first != whole || !slices.Equal(fewer, digits[:count]) {
				t.Errorf("%d digits of\n%sgot %v %v with %d, and of %d %v %v", count, impl.TermText(x), first, fewer, code, impl.MaxPlaces, whole, digits)
			}
		}
	})
}

// What is shared, pruned or joined is approximated as before.
func TestPromise3ChangedTermsAreApproximatedAsBefore(t *testing.T) {
	other := term(pi, ratio(1, 3), two(impl.KdSum, 0, 1))
	same := func(what string, x, y []impl.Node, from, to int64) {
		for _, places := range []int64{0, 5, 33} {
			want, code := impl.Approx(x, from, places)
			got, gotCode := impl.Approx(y, to, places)
			if got != want || gotCode != code {
				t.Errorf("%s: got %v with %d, want %v with %d\n%s", what, bigOf(got), gotCode, bigOf(want), code, impl.TermText(x))
			}
		}
	}
	eachNode(func(x []impl.Node, at int16) {
		node := int64(at)
		shared, index, code := impl.ShareTerm(x)
		if code != impl.OK || len(index) != len(x) || !impl.ValidTerm(shared) {
			t.Fatalf("ShareTerm: got %v, %v with %d", shared, index, code)
		}
		same("shared", x, shared, node, index[node])
		pruned, code := impl.PruneTerm(x, node)
		if code != impl.OK || !impl.ValidTerm(pruned) {
			t.Fatalf("PruneTerm: got %v with %d", pruned, code)
		}
		same("pruned", x, pruned, node, int64(len(pruned)-1))
		reached, code := impl.ReachOf(x, node)
		if code != impl.OK || len(reached) != len(pruned) || !slices.Equal(reached, reachModel(x, node)) {
			t.Errorf("ReachOf %d: got %v with %d\n%s", node, reached, code, impl.TermText(x))
		}
		before, code := impl.JoinTerms(x, other)
		wantTermCode(t, "JoinTerms", code, impl.OK)
		same("joined, in front", x, before, node, node)
		behind, code := impl.JoinTerms(other, x)
		wantTermCode(t, "JoinTerms", code, impl.OK)
		same("joined, behind", x, behind, node, node+int64(len(other)))
	})
}

// reachModel returns what ReachOf should, by following each use.
func reachModel(x []impl.Node, node int64) []int64 {
	list := []int64{node}
	if n := x[node]; !isLeaf(n.Kind) {
		list = append(list, reachModel(x, int64(n.A))...)
		if !isUnary(n.Kind) {
			list = append(list, reachModel(x, int64(n.B))...)
		}
	}
	slices.Sort(list)
	return slices.Compact(list)
}

// In the shared term no two nodes are alike, and nodes that are alike have one index.
func TestPromise3SharedNodesAreOne(t *testing.T) {
	for _, x := range someTerms() {
		double, code := impl.JoinTerms(x, x)
		wantTermCode(t, "JoinTerms", code, impl.OK)
		shared, index, code := impl.ShareTerm(double)
		wantTermCode(t, "ShareTerm", code, impl.OK)
		once, _, code := impl.ShareTerm(x)
		wantTermCode(t, "ShareTerm", code, impl.OK)
		if !impl.SameTerm(shared, once) || !slices.Equal(index[:len(x)], index[len(x):]) {
			t.Errorf("ShareTerm of a term twice: got %v with %v, and of it once %v", shared, index, once)
		}
		for i := range shared {
			if slices.Contains(shared[:i], shared[i]) {
				t.Errorf("ShareTerm has %v twice in %v", shared[i], shared)
			}
		}
		again, index, code := impl.ShareTerm(shared)
		if !impl.SameTerm(again, shared) || code != impl.OK || !slices.IsSorted(index) {
			t.Errorf("ShareTerm of what is shared: got %v, want %v", again, shared)
		}
	}
}

func TestPromise3TermsAreReadFromTheirTexts(t *testing.T) {
	for _, x := range someTerms() {
		back, code := impl.ReadTerm(impl.TermText(x))
		if code != impl.OK || !slices.Equal(back, x) {
			t.Errorf("ReadTerm of %q: got %v with %d", impl.TermText(x), back, code)
		}
	}
}
