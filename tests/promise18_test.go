package tests

import (
	"fmt"
	"math/big"
	"slices"
	"testing"

	"loop.example/g01242/impl"
)

// Promise 18 speaks of all chapters: here they are held against each other.

// checkTold checks digits that have been told of a number: fewer of them are the same ones, and tell the number for fewer
// places, within what approximations of it may differ; ask returns one of these.
func checkTold(t *testing.T, what string, tell func(count int64) (impl.Wide, []int8, int64), ask func(places int64) (impl.Wide, int64)) bool {
	t.Helper()
	whole, digits, code := tell(40)
	if code != impl.OK {
		return false
	}
	for _, count := range []int64{0, 1, 2, 7, 20, 39, 40} {
		first, fewer, code := tell(count)
		if first != whole || !slices.Equal(fewer, digits[:count]) || code != impl.OK {
			t.Errorf("%s: got %v %s with %d, and %v %s of more digits", what, bigOf(first), textOf(fewer), code, bigOf(whole), textOf(digits))
		}
		value, code := impl.ValueOfDigits(first, fewer)
		wantTermCode(t, what, code, impl.OK)
		for _, more := range []int64{0, 1, 2, 40 - count} {
			approx, code := ask(count + more)
			if within, withinCode := impl.IsWithin(value, approx, count, more); !within || code != impl.OK || withinCode != impl.OK {
				t.Errorf("%s: %s tell %v for %d places, and it is %v for %d more, with %d and %d", what, textOf(fewer), bigOf(value), count, bigOf(approx), more, code, withinCode)
			}
		}
	}
	return true
}

func TestPromise18DigitsOfLines(t *testing.T) {
	checked := 0
	for _, b := range someBooks()[1:] {
		nodes, index, code := impl.TermOfBook(b)
		wantTermCode(t, "TermOfBook", code, impl.OK)
		numbers := numbersIn(b)
		for i, x := range b {
			if i%3 > 0 {
				continue
			}
			k := keeping{b: b}
			tell := func(count int64) (impl.Wide, []int8, int64) { return impl.TermDigits(nodes, index[i], count) }
			ask := func(places int64) (impl.Wide, int64) {
				// What has been kept tells the number as well.
				value, list, _, code := impl.AskKept(k.b, k.list, x.Name, places)
				k.list = list
				return value, code
			}
			if !checkTold(t, x.Name+" of\n"+bookText(b), tell, ask) {
				continue
			}
			checked++
			k.isRight(t)
			whole, digits, _ := tell(33)
			value, _ := impl.ValueOfDigits(whole, digits)
			if !isUnitAway(bigOf(value), numbers[x.Name], 33) {
				t.Errorf("%s of\n%sis told as %v, and is %v", x.Name, bookText(b), bigOf(value), numbers[x.Name])
			}
		}
	}
	if checked < 600 {
		t.Errorf("%d lines were tried only", checked)
	}
}

func TestPromise18DigitsOfZerosAndLimits(t *testing.T) {
	checked := 0
	for i, p := range somePolys() {
		parts, code := impl.PartsOf(p)
		if code != impl.OK || i%3 > 0 {
			continue
		}
		for _, x := range parts {
			tell := func(count int64) (impl.Wide, []int8, int64) { return impl.ZeroDigits(p, x, count) }
			ask := func(places int64) (impl.Wide, int64) { return impl.ZeroApprox(p, x, places) }
			if checkTold(t, fmt.Sprint("the zero of ", p, " in ", partText(x)), tell, ask) {
				checked++
			}
		}
	}
	for _, s := range someSeries() {
		tell := func(count int64) (impl.Wide, []int8, int64) { return impl.SeriesDigits(s, count) }
		ask := func(places int64) (impl.Wide, int64) { return impl.SeriesApprox(s, places) }
		if !checkTold(t, fmt.Sprint("the limit of ", s), tell, ask) {
			t.Errorf("the limit of %v has no digits", s)
		}
	}
	if checked < 100 {
		t.Errorf("%d zeros were tried only", checked)
	}
}

// The digits of a machine, of its tree, and of that tree behind another one are those of one number.
func TestPromise18DigitsOfStreams(t *testing.T) {
	checked := 0
	d := draw(18)
	for _, m := range treeMachines() {
		x, code := impl.MoebiusTree(m)
		if code != impl.OK {
			continue
		}
		opposite, code := impl.ComposeTrees(impl.NegTree(), x)
		wantTermCode(t, "ComposeTrees", code, impl.OK)
		s := d.stream()
		value, _ := impl.ValueOf(s)
		image, code := impl.ApplyMoebius(m, value)
		if code != impl.OK {
			continue
		}
		all, _, code := impl.MoebiusDigits(m, s, 20)
		wantTermCode(t, "MoebiusDigits", code, impl.OK)
		for _, n := range []int64{0, 1, 3, 10, 20} {
			told, _, one := impl.MoebiusDigits(m, s, n)
			run, _, two := impl.RunTree(x, s, n)
			back, _, three := impl.RunTree(opposite, s, n)
			for i := range back {
				back[i] = -back[i]
			}
			if !slices.Equal(told, all[:n]) || !slices.Equal(run, told) || !slices.Equal(back, told) || one != impl.OK || two != impl.OK || three != impl.OK {
				t.Errorf("%v of %s: got %s, %s and %s of %s", m, streamText(s), textOf(told), textOf(run), textOf(back), textOf(all))
			}
			least, most, code := impl.BoundsOf(told)
			if code != impl.OK || ratOf(image).Cmp(ratOf(least)) < 0 || ratOf(image).Cmp(ratOf(most)) > 0 {
				t.Errorf("%v of %s: %s do not tell %v", m, streamText(s), textOf(told), image)
			}
		}
		checked++
	}
	if checked < 20 {
		t.Errorf("%d machines were tried only", checked)
	}
}

// Roots are lines, zeros and limits of convergents.
func TestPromise18RootsAreTheSameInAllChapters(t *testing.T) {
	for n := int64(2); n <= 60; n++ {
		if isSquare(n) {
			continue
		}
		b := []impl.Line{{Name: "root", Kind: impl.KdRoot, A: "n"}, {Name: "n", Kind: impl.KdRatio, P: n, Q: 1}}
		p := poly(-n, 0, 1)
		parts, code := impl.PartsOf(p)
		if code != impl.OK || len(parts) != 2 {
			t.Fatalf("PartsOf %v: got %v with %d", p, parts, code)
		}
		over, under, code := impl.RootConvergent(n, 30)
		wantTermCode(t, "RootConvergent", code, impl.OK)
		for _, places := range []int64{0, 1, 10, 30} {
			one, _ := impl.ApproxIn(b, "root", places)
			two, _ := impl.ZeroApprox(p, parts[1], places)
			raised, _ := impl.ShiftUp(over, places)
			three, _ := impl.DivNear(raised, under)
			for _, pair := range [][2]impl.Wide{{one, two}, {one, three}, {two, three}} {
				if within, code := impl.IsWithin(pair[0], pair[1], places, 0); !within || code != impl.OK {
					t.Errorf("the root of %d for %d places: got %v and %v", n, places, bigOf(pair[0]), bigOf(pair[1]))
				}
			}
		}
	}
}

// Ratios are lines, streams, continued fractions, zeros and limits.
func TestPromise18RatiosAreTheSameInAllChapters(t *testing.T) {
	for q := int64(2); q <= 11; q++ {
		for n := int64(1); n <= q/2; n++ {
			r, code := impl.MakeRatio(n, q)
			wantTermCode(t, "MakeRatio", code, impl.OK)
			list, one := impl.TermsOf(r)
			same, two := impl.RatioOf(list)
			s, three := impl.StreamOf(r)
			value, four := impl.ValueOf(s)
			if same != r || value != r || one != impl.OK || two != impl.OK || three != impl.OK || four != impl.OK {
				t.Errorf("%v: got %v and %v", r, same, value)
			}
			b := []impl.Line{{Name: "a", Kind: impl.KdRatio, P: n, Q: q}, {Name: "b", Kind: impl.KdRatio, P: q, Q: q - n}}
			parts, _ := impl.PartsOf(poly(-n, q))
			for _, places := range []int64{0, 3, 14} {
				line, _ := impl.ApproxIn(b, "a", places)
				zero, _ := impl.ZeroApprox(poly(-n, q), parts[0], places)
				digits, _ := impl.DigitsOf(s, places)
				told, _ := impl.ValueOfDigits(impl.Wide{}, digits)
				// The sum of all powers of n / q is q / (q - n).
				sum, _ := impl.ApproxIn(b, "b", places)
				limit, _ := impl.SeriesApprox(impl.Series{Num: n, Den: q, First: 1}, places)
				for _, pair := range [][2]impl.Wide{{line, zero}, {line, told}, {sum, limit}} {
					if within, code := impl.IsWithin(pair[0], pair[1], places, 0); !within || code != impl.OK {
						t.Errorf("%v for %d places: got %v and %v", r, places, bigOf(pair[0]), bigOf(pair[1]))
					}
				}
			}
		}
	}
}

// A chain of proofs of roots is right: the zeros of polynomials, whose order is known, tell it.
func TestPromise18ChainsOfRootsAreRight(t *testing.T) {
	d := draw(181)
	var nodes []impl.Node
	for n := range int64(impl.MaxLines / 2) {
		nodes = append(nodes, ratio(n*n+n+1, 1), one(impl.KdRoot, int16(2*n)))
	}
	b := d.bookOf(nodes)
	var roots []impl.Line
	for _, x := range b {
		if x.Kind == impl.KdRoot {
			roots = append(roots, x)
		}
	}
	// Roots are compared with each other alone: 1 is its own root.
	slices.SortFunc(roots, func(x, y impl.Line) int { return int(b[at(b, x.A)].P - b[at(b, y.A)].P) })
	for i := range roots {
		for k := i + 1; k < len(roots); k++ {
			var list []impl.Proof
			for m := i; m < k; m++ {
				p, code := impl.ProveLess(b, roots[m].Name, roots[m+1].Name, 40)
				wantTermCode(t, "ProveLess", code, impl.OK)
				list = append(list, p)
			}
			if count, code := impl.CheckChain(b, list); count != int64(k-i) || code != impl.OK {
				t.Errorf("CheckChain %v of\n%sgot %d with %d", list, bookText(b), count, code)
			}
			slices.Reverse(list)
			if count, code := impl.CheckChain(b, list); len(list) > 1 && (count != 1 || code != impl.ErrState) {
				t.Errorf("CheckChain %v of\n%sgot %d with %d", list, bookText(b), count, code)
			}
			p, q := poly(-b[at(b, roots[i].A)].P, 0, 1), poly(-b[at(b, roots[k].A)].P, 0, 1)
			if order := zeroOf(t, p).Cmp(zeroOf(t, q)); order >= 0 {
				t.Errorf("the zeros of %v and %v are in the order %d", p, q, order)
			}
		}
	}
}

// zeroOf returns the greatest zero for 40 places.
func zeroOf(t *testing.T, p []int64) *big.Int {
	t.Helper()
	parts, code := impl.PartsOf(p)
	wantTermCode(t, "PartsOf", code, impl.OK)
	zero, code := impl.ZeroApprox(p, parts[len(parts)-1], 40)
	wantTermCode(t, "ZeroApprox", code, impl.OK)
	return bigOf(zero)
}

// Proofs of one book are checked in others, in which a line has been written: what is accepted is right there as well.
func TestPromise18ChainsAreRightBehindALine(t *testing.T) {
	met := tally{}
	d := draw(182)
	for _, b := range proofBooks() {
		_, proofs, code := impl.OrderOf(b, mostProof)
		if code != impl.OK || len(proofs) == 0 {
			continue
		}
		for range 6 {
			changed := b[d.below(int64(len(b)))].Name
			after, code := impl.WriteLine(b, impl.Line{Name: changed, Kind: impl.KdRatio, P: d.below(2000) - 1000, Q: 1 + d.below(99)})
			wantTermCode(t, "WriteLine", code, impl.OK)
			numbers := numbersIn(after)
			count, code := impl.CheckChain(after, proofs)
			met[code]++
			if want, wantCode := chained(after, proofs); count != want || code != wantCode {
				t.Errorf("CheckChain %v of\n%sgot %d with %d, want %d with %d", proofs, bookText(after), count, code, want, wantCode)
			}
			for i := range count {
				if !isLess(numbers, proofs[0].A, proofs[i].B) {
					t.Errorf("%v of\n%sis accepted, of %v and %v", proofs[:i+1], bookText(after), numbers[proofs[0].A], numbers[proofs[i].B])
				}
			}
		}
	}
	met.want(t, impl.OK, 20)
	met.want(t, impl.ErrProof, 40)
}
