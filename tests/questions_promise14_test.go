package tests

import (
	"fmt"
	"slices"
	"testing"

	"loop.example/g01242/impl"
)

// checkComposed checks ComposeTrees against the model, and returns its code and how many pairs there are.
func checkComposed(t *testing.T, x, u impl.Tree) (impl.Tree, int, int64) {
	t.Helper()
	want, pairs, wantCode := composedTree(x, u)
	got, code := impl.ComposeTrees(x, u)
	wantTree(t, fmt.Sprint("ComposeTrees ", short(x), " and ", short(u)), got, code, want, wantCode)
	if code == impl.OK && !impl.ValidTree(got) {
		t.Errorf("ComposeTrees %s and %s: %s is not valid", short(x), short(u), short(got))
	}
	return got, pairs, code
}

// eachComposed calls something for pairs of trees: of small ones, and of all kinds.
func eachComposed(call func(x, u impl.Tree)) {
	small, all := smallTrees(), someTrees()
	d := draw(1400)
	for range 6000 {
		call(small[d.below(int64(len(small)))], small[d.below(int64(len(small)))])
	}
	for range 3000 {
		call(all[d.below(int64(len(all)))], all[d.below(int64(len(all)))])
	}
	for range 500 {
		// Trees of such sizes have about MaxForks pairs that are not silent.
		call(d.fruitful(5+d.below(20)), d.fruitful(5+d.below(20)))
		call(d.tree(10+d.below(20)), d.tree(10+d.below(20)))
	}
	named := namedTrees()
	for _, x := range named {
		for _, u := range named {
			call(x, u)
		}
	}
}

func TestPromise14ComposedTreesAreMadeByTheRules(t *testing.T) {
	met, late := tally{}, 0
	eachComposed(func(x, u impl.Tree) {
		_, pairs, code := checkComposed(t, x, u)
		met[code]++
		if code == impl.ErrState && pairs > impl.MaxForks {
			late++
		}
	})
	met.want(t, impl.OK, 4000)
	met.want(t, impl.ErrState, 1000)
	met.want(t, impl.ErrLimit, 300)
	if late < 20 {
		t.Errorf("silent pairs came back in a tree with too many nodes %d times only", late)
	}
}

func TestPromise14ComposedTreesTellWhatOneTellsOfTheOther(t *testing.T) {
	told := 0
	d := draw(141)
	eachComposed(func(x, u impl.Tree) {
		both, code := impl.ComposeTrees(x, u)
		if code != impl.OK {
			return
		}
		for _, n := range []int{1, 4, 11} {
			s := d.stream()
			want, count, ok := followBoth(x, u, unrolled(s, impl.MaxAsk), n)
			got, asked, code := impl.RunTree(both, s, int64(n))
			if !ok {
				wantTermCode(t, fmt.Sprint("RunTree of ", short(x), " behind ", short(u)), code, impl.ErrBudget)
				continue
			}
			if code != impl.OK || !slices.Equal(got, want) || asked != int64(count) {
				t.Errorf("RunTree of %s behind %s, of %s: got %s of %d with %d, want %s of %d", short(x), short(u), streamText(s), textOf(got), asked, code, textOf(want), count)
			}
			told++
		}
	})
	if told < 5000 {
		t.Errorf("%d runs were tried only", told)
	}
}

// What a tree tells of the stream of a machine's digits, it tells behind the tree of the machine.
func TestPromise14TreesBehindMachines(t *testing.T) {
	machines := []impl.Moebius{machine(1, 1, 0, 2), machine(-1, 0, 0, 1), machine(1, 0, 0, 3), machine(0, 1, 0, 3)}
	for _, m := range machines {
		for _, o := range machines {
			x, _ := impl.MoebiusTree(m)
			u, _ := impl.MoebiusTree(o)
			both, _, code := checkComposed(t, x, u)
			if code != impl.OK {
				continue
			}
			for _, text := range []string{":0", ":+", "+:-", ":+0-"} {
				s := stream(text)
				value := machineOf(m).at(machineOf(o).at(valueOf(s)))
				told, _, code := impl.RunTree(both, s, 20)
				off := minus(value, sumOf(told))
				if code != impl.OK || off.Abs(off).Cmp(half(20)) > 0 {
					t.Errorf("the trees of %v and %v tell %s of %s, with %d", m, o, textOf(told), text, code)
				}
			}
		}
	}
}

func TestPromise14ReachedTreesHaveAllThatIsReached(t *testing.T) {
	fewer := 0
	for _, x := range someTrees() {
		got, code := impl.ReachedTree(x)
		wantTree(t, "ReachedTree "+short(x), got, code, reachedOf(x), impl.OK)
		if code == impl.OK && !areAlike(x, 0, got, 0) {
			t.Errorf("ReachedTree %s: %s does something else", short(x), short(got))
		}
		if len(got.Nodes) < len(x.Nodes) {
			fewer++
		}
	}
	if fewer < 100 {
		t.Errorf("nodes were left out %d times only", fewer)
	}
}

func TestPromise14LeastTreesDoTheSame(t *testing.T) {
	fewer := map[bool]int{}
	for _, x := range someTrees() {
		got, code := impl.LeastTree(x)
		what := "LeastTree " + short(x)
		wantTree(t, what, got, code, leastOf(x), impl.OK)
		if code != impl.OK {
			continue
		}
		if !areAlike(x, 0, got, 0) {
			t.Errorf("%s: %s does something else", what, short(got))
		}
		for i := range got.Nodes {
			for k := range i {
				if areAlike(got, int16(i), got, int16(k)) {
					t.Errorf("%s: in %s the nodes %d and %d do the same", what, short(got), i, k)
				}
			}
		}
		again, code := impl.LeastTree(got)
		wantTree(t, what+" again", again, code, got, impl.OK)
		same, code := impl.DoTheSame(x, got)
		if !same || code != impl.OK {
			t.Errorf("%s: %s does not do the same: %d", what, short(got), code)
		}
		fewer[len(got.Nodes) < len(reachedOf(x).Nodes)]++
	}
	if fewer[true] < 100 || fewer[false] < 200 {
		t.Errorf("nodes were put together, or not, few times only: %v", fewer)
	}
}

// All streams, and not only some, are asked for and told the same.
func TestPromise14LeastTreesTellTheSame(t *testing.T) {
	d := draw(144)
	for _, x := range someTrees() {
		least, _ := impl.LeastTree(x)
		for _, s := range fewStreams(&d) {
			want, count, code := impl.RunTree(x, s, 20)
			got, asked, leastCode := impl.RunTree(least, s, 20)
			if leastCode != code || asked != count || !slices.Equal(got, want) {
				t.Errorf("RunTree of %s, the least tree of %s: got %s of %d with %d, want %s of %d with %d", short(least), short(x), textOf(got), asked, leastCode, textOf(want), count, code)
			}
		}
	}
}

func TestPromise14SmallTreesThatDoTheSame(t *testing.T) {
	counts := map[bool]int{}
	list := smallTrees()
	for i, x := range list {
		for k, u := range list {
			if (i+k)%3 > 0 && i != k {
				continue
			}
			want := areAlike(x, 0, u, 0)
			counts[want]++
			if got, code := impl.DoTheSame(x, u); got != want || code != impl.OK {
				t.Errorf("DoTheSame %s and %s: got %v with %d", short(x), short(u), got, code)
			}
		}
	}
	if counts[true] < 1000 || counts[false] < 1000 {
		t.Errorf("few trees did the same, or not: %v", counts)
	}
}

func TestPromise14TreesWithOtherNodesThatDoTheSame(t *testing.T) {
	counts := map[bool]int{}
	d := draw(14)
	for range 1500 {
		x := d.tree(1 + d.below(12))
		if d.below(2) == 0 {
			x = d.fruitful(1 + d.below(20))
		}
		u := d.copied(x, 20+int(d.below(41)))
		for range d.below(3) {
			u = d.changed(u)
		}
		want := areAlike(x, 0, u, 0)
		counts[want]++
		for _, pair := range [][2]impl.Tree{{x, u}, {u, x}} {
			if got, code := impl.DoTheSame(pair[0], pair[1]); got != want || code != impl.OK {
				t.Errorf("DoTheSame %s and %s: got %v with %d, want %v", short(pair[0]), short(pair[1]), got, code, want)
			}
		}
		one, _ := impl.LeastTree(x)
		other, _ := impl.LeastTree(u)
		if impl.SameTree(one, other) != want {
			t.Errorf("LeastTree %s and %s: got %s and %s", short(x), short(u), short(one), short(other))
		}
	}
	if counts[true] < 500 || counts[false] < 100 {
		t.Errorf("few trees did the same, or not: %v", counts)
	}
}

func TestPromise14DigitsApart(t *testing.T) {
	met, places := tally{}, map[int64]bool{}
	d := draw(149)
	list := someTrees()
	for i, x := range list {
		u := d.changed(x)
		if i%3 == 0 {
			u = list[d.below(int64(len(list)))]
		}
		for _, s := range fewStreams(&d) {
			for _, n := range []int64{0, 1, 5, impl.MaxDigits} {
				first, _, one := follow(x, unrolled(s, impl.MaxAsk), int(n))
				second, _, two := follow(u, unrolled(s, impl.MaxAsk), int(n))
				want, wantCode := int64(0), int64(impl.ErrNotFound)
				if !one || !two {
					wantCode = impl.ErrBudget
				} else {
					for k := n - 1; k >= 0; k-- {
						if first[k] != second[k] {
							want, wantCode = k, impl.OK
						}
					}
				}
				got, code := impl.FirstDigitApart(x, u, s, n)
				met[code]++
				places[got] = true
				if got != want || code != wantCode {
					t.Errorf("FirstDigitApart %s and %s of %s, %d: got %d with %d, want %d with %d", short(x), short(u), streamText(s), n, got, code, want, wantCode)
				}
			}
		}
	}
	met.want(t, impl.OK, 1000)
	met.want(t, impl.ErrNotFound, 1000)
	met.want(t, impl.ErrBudget, 1000)
	if len(places) < 5 {
		t.Errorf("trees differed at few digits: %v", places)
	}
}

func TestPromise14Constants(t *testing.T) {
	met := tally{}
	list := someTrees()
	d := draw(143)
	for range 1500 {
		// Trees that only tell, of a Head and a Loop that is told several times.
		head, loop := d.digitsOf(d.below(19)), d.digitsOf(1+d.below(16))
		digits := append(head, slices.Repeat(loop, 1+int(d.below(3)))...)
		if len(digits) > impl.MaxForks {
			continue
		}
		x := telling(digits, len(head))
		list = append(list, x, d.copied(x, len(digits)+int(d.below(int64(impl.MaxForks-len(digits)+1)))))
	}
	for _, x := range list {
		got, code := impl.ConstantOf(x)
		want, wantCode := constantOf(x)
		met[code]++
		wantStream(t, "ConstantOf "+short(x), got, code, want, wantCode)
		if code != impl.OK {
			continue
		}
		if normal, code := impl.NormalStream(got); code != impl.OK || !impl.SameStream(normal, got) {
			t.Errorf("ConstantOf %s: %s is not normal", short(x), streamText(got))
		}
		back, code := impl.StreamTree(got)
		same, sameCode := impl.DoTheSame(back, x)
		if !same || code != impl.OK || sameCode != impl.OK {
			t.Errorf("ConstantOf %s: the tree of %s does something else", short(x), streamText(got))
		}
	}
	met.want(t, impl.OK, 1000)
	met.want(t, impl.ErrState, 300)
	met.want(t, impl.ErrLimit, 200)
}

func TestPromise14TreesAreReadFromTheirTexts(t *testing.T) {
	for _, x := range someTrees() {
		text := impl.TreeText(x)
		if text != treeText(x) {
			t.Errorf("TreeText %s: got %q", short(x), text)
		}
		back, code := impl.ReadTree(text)
		wantTree(t, fmt.Sprintf("ReadTree %q", text), back, code, x, impl.OK)
	}
}

// Texts that differ from that of a tree in a byte or two are those of another one, or of none.
func TestPromise14OtherTextsOfTrees(t *testing.T) {
	met := tally{}
	check := func(text string) {
		want, wantCode := readTree(text)
		got, code := impl.ReadTree(text)
		met[code]++
		if code != wantCode || !slices.Equal(got.Nodes, want.Nodes) {
			t.Errorf("ReadTree %q: got %s with %d, want %s with %d", text, short(got), code, short(want), wantCode)
		}
	}
	const bytes = " \n\t\r+-.0129askitel_x\x00\xa0"
	for _, text := range []string{"tell + 0\n", "ask 0 0 0\n", "tell 0 1\nask 2 3 4\ntell - 1\ntell 0 1\ntell + 1\n", "ask 1 1 1\ntell - 0\n", treeText(telling(make([]int8, 12), 10))} {
		check(text)
		for i := range len(text) + 1 {
			for _, c := range []byte(bytes) {
				check(text[:i] + string([]byte{c}) + text[i:])
				if i < len(text) {
					check(text[:i] + string([]byte{c}) + text[i+1:])
				}
			}
			if i < len(text) {
				check(text[:i] + text[i+1:])
				check(text[:i] + text[i:i+1] + text[i:])
				check(text[i:])
			}
			check(text[:i])
		}
	}
	met.want(t, impl.OK, 100)
	met.want(t, impl.ErrSyntax, 3000)
}
