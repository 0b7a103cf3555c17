package tests

import (
	"fmt"
	"math/big"
	"slices"
	"strings"
	"testing"

	"loop.example/g01242/impl"
)

// mostProof is for how many places a proof is at most.
const mostProof = impl.MaxPlaces - 2

// isLess reports whether the number of one line is less than that of another one; both lines must have one.
func isLess(numbers map[string]*big.Float, a, c string) bool {
	return numbers[a] != nil && numbers[c] != nil && numbers[a].Cmp(numbers[c]) < 0
}

// provedLess returns what ProveLess returns, from what chapter 2 tells of the term of a book.
func provedLess(b []impl.Line, a, c string, budget int64) (impl.Proof, int64) {
	nodes, index := termOf(b)
	less, places, code := impl.LessWithin(nodes, index[at(b, a)], index[at(b, c)], budget)
	switch {
	case code != impl.OK:
		return impl.Proof{}, code
	case !less:
		return impl.Proof{}, impl.ErrProof
	}
	return impl.Proof{A: a, B: c, Places: places}, impl.OK
}

// acceptedProof returns what CheckProof returns for a valid book.
func acceptedProof(b []impl.Line, p impl.Proof) (bool, int64) {
	if at(b, p.A) < 0 || at(b, p.B) < 0 {
		return false, impl.ErrNotFound
	}
	if p.Places < 0 || p.Places > mostProof {
		return false, impl.ErrRange
	}
	low, code := approxIn(b, p.A, p.Places+2)
	if code != impl.OK {
		return false, code
	}
	high, code := approxIn(b, p.B, p.Places+2)
	if code != impl.OK {
		return false, code
	}
	return orderModel(bigOf(low), bigOf(high)) > 0, impl.OK
}

// chained returns what CheckChain returns for a valid book.
func chained(b []impl.Line, list []impl.Proof) (int64, int64) {
	for i, p := range list {
		accepted, code := acceptedProof(b, p)
		switch {
		case code != impl.OK:
			return int64(i), code
		case !accepted:
			return int64(i), impl.ErrProof
		case i > 0 && list[i-1].B != p.A:
			return int64(i), impl.ErrState
		}
	}
	return int64(len(list)), impl.OK
}

// orderedLines returns what OrderOf returns for a valid book.
func orderedLines(b []impl.Line, budget int64) ([]string, []impl.Proof, int64) {
	var names []string
	for _, x := range b {
		place := len(names)
		for ; place > 0; place-- {
			_, code := provedLess(b, names[place-1], x.Name, budget)
			if code == impl.OK {
				break
			}
			if code != impl.ErrProof {
				return nil, nil, code
			}
		}
		names = slices.Insert(names, place, x.Name)
	}
	var proofs []impl.Proof
	for i := range names {
		if i > 0 {
			p, _ := provedLess(b, names[i-1], names[i], budget)
			proofs = append(proofs, p)
		}
	}
	return names, proofs, impl.OK
}

// alikeIn returns the groups of lines that are alike: at first all are taken to be that say the same but for the names, and
// each time those are told apart of which A or B have been.
func alikeIn(b []impl.Line) [][]string {
	apart := map[[2]string]bool{}
	for changed := true; changed; {
		changed = false
		for _, x := range b {
			for _, y := range b {
				differ := x.Kind != y.Kind || x.P != y.P || x.Q != y.Q || apart[[2]string{x.A, y.A}] || apart[[2]string{x.B, y.B}]
				if pair := [2]string{x.Name, y.Name}; differ && !apart[pair] {
					apart[pair], changed = true, true
				}
			}
		}
	}
	var groups [][]string
	for _, x := range b {
		i := slices.IndexFunc(groups, func(group []string) bool { return !apart[[2]string{group[0], x.Name}] })
		if i < 0 {
			groups = append(groups, nil)
			i = len(groups) - 1
		}
		groups[i] = append(groups[i], x.Name)
	}
	return groups
}

// proofBooks are valid books, with pairs of lines that are close together and far apart.
func proofBooks() [][]impl.Line {
	list := []([]impl.Line){
		book("a = ratio 1 2; b = ratio 500000001 1000000000; c = ratio 1 1000000000; d = product c c; e = sum a d; f = sum b d; g = diff b c; h = sum a c"),
		book("a = pi; b = ratio 355 113; c = ratio 22 7; d = ratio 314159265 100000000; e = root g; f = euler; g = ratio 9 1; h = quotient c f"),
		book("a = ratio 2 1; b = root a; c = product b b; d = ratio 1 1; e = sum c d; f = ratio 3 1; g = neg b"),
	}
	d := draw(1717)
	for i := range 60 {
		list = append(list, d.bookOf(d.mildTerm(1+i%12)))
	}
	return append(list, someBooks()[:60]...)
}

func TestPromise17ProofsAreRight(t *testing.T) {
	met := tally{}
	for i, b := range proofBooks() {
		numbers := numbersIn(b)
		for j, x := range b {
			for k, y := range b {
				budget := []int64{0, 1, 5, 20, 40, mostProof}[(i+j+k)%6]
				what := fmt.Sprintf("ProveLess %s, %s, %d of\n%s", x.Name, y.Name, budget, bookText(b))
				want, wantCode := provedLess(b, x.Name, y.Name, budget)
				p, code := impl.ProveLess(b, x.Name, y.Name, budget)
				met[code]++
				if p != want || code != wantCode {
					t.Errorf("%sgot %v with %d, want %v with %d", what, p, code, want, wantCode)
				}
				if code != impl.OK {
					continue
				}
				if accepted, code := impl.CheckProof(b, p); !accepted || code != impl.OK || !isLess(numbers, x.Name, y.Name) {
					t.Errorf("%sgot %v, which is %v with %d, of %v and %v", what, p, accepted, code, numbers[x.Name], numbers[y.Name])
				}
			}
		}
	}
	met.want(t, impl.OK, 1500)
	met.want(t, impl.ErrProof, 1500)
	met.want(t, impl.ErrBudget, 1000)
	met.want(t, impl.ErrLimit, 10)
}

// Proofs that nobody has proved: they are accepted just where the approximations for so many places tell it.
func TestPromise17ProofsThatAreAcceptedAreRight(t *testing.T) {
	met := map[string]int{}
	for i, b := range proofBooks() {
		numbers := numbersIn(b)
		for j, x := range b {
			for k, y := range b {
				p := impl.Proof{A: x.Name, B: y.Name, Places: []int64{0, 1, 2, 5, 9, 30, 50, mostProof - 1, mostProof, mostProof + 1}[(i+3*j+k)%10]}
				want, wantCode := acceptedProof(b, p)
				accepted, code := impl.CheckProof(b, p)
				met[fmt.Sprint(code, accepted)]++
				if accepted != want || code != wantCode {
					t.Errorf("CheckProof %v of\n%sgot %v with %d, want %v with %d", p, bookText(b), accepted, code, want, wantCode)
				}
				if accepted && !isLess(numbers, x.Name, y.Name) {
					t.Errorf("CheckProof %v of\n%sis accepted for %v and %v", p, bookText(b), numbers[x.Name], numbers[y.Name])
				}
			}
		}
	}
	for key, least := range map[string]int{"0 true": 1000, "0 false": 1000, "2 false": 200, "7 false": 20} {
		if met[key] < least {
			t.Errorf("%s was met %d times only: %v", key, met[key], met)
		}
	}
}

// chainOfProofs draws a chain that is right, but for what is spoilt in it.
func (d *draw) chainOfProofs(b []impl.Line, names []string, proofs []impl.Proof) []impl.Proof {
	var list []impl.Proof
	for i := range proofs {
		p := proofs[i]
		switch d.below(16) {
		case 0:
			p.B = names[d.below(int64(len(names)))]
		case 1:
			p.A = names[d.below(int64(len(names)))]
		case 2:
			p.Places = []int64{-1, 0, 1, 3, 20, mostProof, mostProof + 1}[d.below(7)]
		case 3:
			p.A, p.B = p.B, p.A
		case 4:
			p.B = d.name(nil)
		case 5:
			continue
		}
		list = append(list, p)
	}
	return list
}

func TestPromise17ChainsThatAreAcceptedAreRight(t *testing.T) {
	met := tally{}
	later := 0
	d := draw(171)
	for _, b := range proofBooks() {
		names, proofs, code := impl.OrderOf(b, mostProof)
		if code != impl.OK || len(proofs) == 0 {
			continue
		}
		numbers := numbersIn(b)
		for range 40 {
			list := d.chainOfProofs(b, names, proofs)
			from := d.below(int64(len(list) + 1))
			list = list[from:]
			want, wantCode := chained(b, list)
			count, code := impl.CheckChain(b, list)
			met[code]++
			if code != impl.OK && count > 0 {
				later++
			}
			if count != want || code != wantCode {
				t.Errorf("CheckChain %v of\n%sgot %d with %d, want %d with %d", list, bookText(b), count, code, want, wantCode)
			}
			if code == impl.OK && len(list) > 0 && !isLess(numbers, list[0].A, list[len(list)-1].B) {
				t.Errorf("CheckChain %v of\n%sis accepted for %v and %v", list, bookText(b), numbers[list[0].A], numbers[list[len(list)-1].B])
			}
		}
	}
	met.want(t, impl.OK, 500)
	met.want(t, impl.ErrProof, 30)
	met.want(t, impl.ErrState, 30)
	met.want(t, impl.ErrNotFound, 30)
	met.want(t, impl.ErrRange, 10)
	if later < 100 {
		t.Errorf("%d errors were met behind the first proof only", later)
	}
}

func TestPromise17OrdersAreRight(t *testing.T) {
	met := tally{}
	for i, b := range proofBooks() {
		numbers := numbersIn(b)
		for _, budget := range []int64{mostProof, int64(i) % 7} {
			what := fmt.Sprintf("OrderOf, %d, of\n%s", budget, bookText(b))
			names, proofs, code := impl.OrderOf(b, budget)
			wantOrder, wantProofs, wantCode := orderedLines(b, budget)
			met[code]++
			wantNames(t, what, names, code, wantOrder, wantCode)
			if !slices.Equal(proofs, wantProofs) {
				t.Errorf("%sgot %v, want %v", what, proofs, wantProofs)
			}
			if code != impl.OK {
				continue
			}
			if count, code := impl.CheckChain(b, proofs); count != max(int64(len(b))-1, 0) || count != int64(len(proofs)) || code != impl.OK {
				t.Errorf("%sthe chain %v is %d with %d", what, proofs, count, code)
			}
			for k := range proofs {
				if p := proofs[k]; p.A != names[k] || p.B != names[k+1] || !isLess(numbers, p.A, p.B) {
					t.Errorf("%sgot %v with the proof %v", what, names, p)
				}
			}
		}
	}
	met.want(t, impl.OK, 60)
	met.want(t, impl.ErrBudget, 60)
}

func TestPromise17LinesThatAreAlikeHaveTheSameApproximations(t *testing.T) {
	d := draw(172)
	books := append(someBooks()[1:], smallBooks()...)
	for range 60 {
		// Few kinds and few numbers: many lines are alike.
		nodes := term(ratio(1, 2), ratio(1, 2))
		for i := int64(2); i < impl.MaxLines; i++ {
			nodes = append(nodes, []impl.Node{ratio(1, 1+d.below(2)), pi, one(impl.KdNeg, int16(d.below(i))), two(impl.KdSum, int16(d.below(i)), int16(d.below(i)))}[d.below(4)])
		}
		books = append(books, d.bookOf(nodes))
	}
	several := 0
	for _, b := range books {
		if !isBook(b) || len(b) == 0 {
			continue
		}
		groups, code := impl.EqualLines(b)
		want := alikeIn(b)
		if fmt.Sprint(groups) != fmt.Sprint(want) || code != impl.OK {
			t.Errorf("EqualLines of\n%sgot %v with %d, want %v", bookText(b), groups, code, want)
		}
		for _, group := range groups {
			if len(group) == 1 {
				continue
			}
			several++
			first, firstCode := impl.ApproxIn(b, group[0], 11)
			for _, name := range group {
				if value, code := impl.ApproxIn(b, name, 11); value != first || code != firstCode {
					t.Errorf("ApproxIn of %s of\n%sgot %v and %v with %d and %d", strings.Join(group, ", "), bookText(b), bigOf(first), bigOf(value), firstCode, code)
				}
			}
		}
	}
	if several < 300 {
		t.Errorf("%d groups had several lines only", several)
	}
}
