package tests

import (
	"fmt"
	"maps"
	"math/big"
	"regexp"
	"slices"
	"strconv"
	"strings"
	"testing"

	"loop.example/g01242/impl"
)

// The tests of trees hold them against a model, which gives them lists of digits, looks for nodes and pairs in lists from
// their beginning on, follows the states of machines in math/big, and holds two nodes to be alike as long as no way from
// both is found that comes to nodes which are not.

func asks(minus, zero, plus int16) impl.Fork {
	return impl.Fork{Kind: impl.NdAsk, Next: [3]int16{minus, zero, plus}}
}

func tells(digit int8, next int16) impl.Fork {
	return impl.Fork{Kind: impl.NdTell, Digit: digit, Next: [3]int16{next}}
}

// tree returns the tree with nodes that are written "? 1 2 3" if they ask, and "+ 0" if they tell, with commas between.
func tree(text string) impl.Tree {
	var t impl.Tree
	for _, node := range strings.Split(text, ",") {
		fields := strings.Fields(node)
		var next [3]int16
		for i, field := range fields[1:] {
			n, err := strconv.Atoi(field)
			if err != nil {
				panic(err)
			}
			next[i] = int16(n)
		}
		f := impl.Fork{Kind: impl.NdAsk, Next: next}
		if fields[0] != "?" {
			f = impl.Fork{Kind: impl.NdTell, Digit: digitList(fields[0])[0], Next: next}
		}
		t.Nodes = append(t.Nodes, f)
	}
	return t
}

// short returns the text that tree reads, of a valid tree.
func short(t impl.Tree) string {
	var nodes []string
	for _, f := range t.Nodes {
		if f.Kind == impl.NdAsk {
			nodes = append(nodes, fmt.Sprint("? ", f.Next[0], " ", f.Next[1], " ", f.Next[2]))
		} else {
			nodes = append(nodes, fmt.Sprint(textOf([]int8{f.Digit}), " ", f.Next[0]))
		}
	}
	return strings.Join(nodes, ", ")
}

// treeText returns the text of a valid tree, as the document tells it.
func treeText(t impl.Tree) string {
	var text strings.Builder
	for _, f := range t.Nodes {
		if f.Kind == impl.NdAsk {
			fmt.Fprintf(&text, "ask %d %d %d\n", f.Next[0], f.Next[1], f.Next[2])
		} else {
			fmt.Fprintf(&text, "tell %s %d\n", textOf([]int8{f.Digit}), f.Next[0])
		}
	}
	return text.String()
}

var treeLine = regexp.MustCompile(`^(?:ask (0|[1-9][0-9]?) (0|[1-9][0-9]?) (0|[1-9][0-9]?)|tell ([-0+]) (0|[1-9][0-9]?))$`)

// readTree returns the valid tree with a text, line by line.
func readTree(text string) (impl.Tree, int64) {
	lines := strings.Split(text, "\n")
	var t impl.Tree
	for _, line := range lines[:len(lines)-1] {
		parts := treeLine.FindStringSubmatch(line)
		if parts == nil {
			return impl.Tree{}, impl.ErrSyntax
		}
		number := func(k int) int16 {
			n, _ := strconv.Atoi(parts[k])
			return int16(n)
		}
		if parts[4] == "" {
			t.Nodes = append(t.Nodes, asks(number(1), number(2), number(3)))
		} else {
			t.Nodes = append(t.Nodes, tells(digitList(parts[4])[0], number(5)))
		}
	}
	if lines[len(lines)-1] != "" || !isTree(t) {
		return impl.Tree{}, impl.ErrSyntax
	}
	return t, impl.OK
}

// isTree reports whether a tree is valid.
func isTree(t impl.Tree) bool {
	count := int16(min(len(t.Nodes), 1000))
	if count == 0 || count > 60 {
		return false
	}
	for _, f := range t.Nodes {
		for _, next := range f.Next {
			if next < 0 || next >= count {
				return false
			}
		}
		isAsk := f.Kind == 1 && f.Digit == 0
		isTell := f.Kind == 2 && (f.Digit == -1 || f.Digit == 0 || f.Digit == 1) && f.Next[1] == 0 && f.Next[2] == 0
		if !isAsk && !isTell {
			return false
		}
	}
	return true
}

// waysFrom returns the nodes to which a node goes on, in order.
func waysFrom(f impl.Fork) []int16 {
	if f.Kind == impl.NdAsk {
		return f.Next[:]
	}
	return f.Next[:1]
}

// follow gives digits to a tree until it has told n; it is false if they do not suffice.
func follow(t impl.Tree, digits []int8, n int) ([]int8, int, bool) {
	var told []int8
	asked := 0
	for f := t.Nodes[0]; len(told) < n; {
		if f.Kind == impl.NdTell {
			told = append(told, f.Digit)
			f = t.Nodes[f.Next[0]]
			continue
		}
		if asked == len(digits) {
			return told, asked, false
		}
		f = t.Nodes[f.Next[1+digits[asked]]]
		asked++
	}
	return told, asked, true
}

// foundIn returns the nodes of a tree that are found from the node 0 on, in order.
func foundIn(t impl.Tree) []int16 {
	order := []int16{0}
	for i := 0; i < len(order); i++ {
		for _, next := range waysFrom(t.Nodes[order[i]]) {
			if !slices.Contains(order, next) {
				order = append(order, next)
			}
		}
	}
	return order
}

// only returns the tree that has some nodes alone, in this order, by standing for what they go on to.
func only(t impl.Tree, order []int16, standing func(int16) int16) impl.Tree {
	var u impl.Tree
	for _, node := range order {
		f := t.Nodes[node]
		for k := range waysFrom(f) {
			f.Next[k] = int16(slices.Index(order, standing(f.Next[k])))
		}
		u.Nodes = append(u.Nodes, f)
	}
	return u
}

func itself(node int16) int16 { return node }

func reachedOf(t impl.Tree) impl.Tree { return only(t, foundIn(t), itself) }

// areAlike reports whether two trees ask and tell the same from two nodes on: whether no way from both comes to nodes that
// do not.
func areAlike(t impl.Tree, node int16, u impl.Tree, other int16) bool {
	pairs := [][2]int16{{node, other}}
	seen := map[[2]int16]bool{pairs[0]: true}
	for i := 0; i < len(pairs); i++ {
		f, g := t.Nodes[pairs[i][0]], u.Nodes[pairs[i][1]]
		if f.Kind != g.Kind || f.Digit != g.Digit {
			return false
		}
		for k := range waysFrom(f) {
			if pair := [2]int16{f.Next[k], g.Next[k]}; !seen[pair] {
				seen[pair] = true
				pairs = append(pairs, pair)
			}
		}
	}
	return true
}

// leastOf follows LeastTree: of nodes that are alike, the first one that is found stands for all.
func leastOf(t impl.Tree) impl.Tree {
	t = reachedOf(t)
	standing := func(node int16) int16 {
		for first := range node {
			if areAlike(t, first, t, node) {
				return first
			}
		}
		return node
	}
	order := []int16{0}
	for i := 0; i < len(order); i++ {
		for _, next := range waysFrom(t.Nodes[order[i]]) {
			if first := standing(next); !slices.Contains(order, first) {
				order = append(order, first)
			}
		}
	}
	return only(t, order, standing)
}

// isFruitful reports whether a tree is productive: whether no way through nodes that ask alone, from one that is found, is
// longer than there are nodes.
func isFruitful(t impl.Tree) bool {
	now := foundIn(t)
	for range len(t.Nodes) + 1 {
		var next []int16
		for _, node := range now {
			if f := t.Nodes[node]; f.Kind == impl.NdAsk {
				next = append(next, f.Next[:]...)
			}
		}
		slices.Sort(next)
		now = slices.Compact(next)
	}
	return len(now) == 0
}

// askedIn returns the least and the greatest number of digits that a productive tree asks for: after how many some, and
// all, ways have come to the n-th digit that is told.
func askedIn(t impl.Tree, n int) (least, most int64) {
	least = -1
	now := [][2]int{{0, 0}}
	for count := int64(0); len(now) > 0; count++ {
		var next [][2]int
		var found [impl.MaxForks][impl.MaxDigits + 1]bool
		for _, at := range now {
			node, told := at[0], at[1]
			for told < n && t.Nodes[node].Kind == impl.NdTell {
				node = int(t.Nodes[node].Next[0])
				told++
			}
			if told == n {
				most = count
				if least < 0 {
					least = count
				}
				continue
			}
			for _, way := range t.Nodes[node].Next {
				if !found[way][told] {
					found[way][told] = true
					next = append(next, [2]int{int(way), told})
				}
			}
		}
		now = next
	}
	return least, most
}

// tableOf follows TableOf: each list of digits that does not suffice is tried with each further digit.
func tableOf(t impl.Tree, n int) ([]impl.Row, int64) {
	var rows []impl.Row
	lists := [][]int8{nil}
	for len(lists) > 0 {
		digits := lists[0]
		lists = lists[1:]
		told, _, ok := follow(t, digits, n)
		if ok {
			rows = append(rows, impl.Row{Asked: digits, Told: told})
			continue
		}
		// Each list that does not suffice begins some row, and no two that are open the same one.
		if len(rows)+len(lists)+3 > impl.MaxRows {
			return nil, impl.ErrLimit
		}
		for _, digit := range []int8{-1, 0, 1} {
			lists = append(lists, append(slices.Clone(digits), digit))
		}
	}
	slices.SortFunc(rows, func(x, y impl.Row) int { return slices.Compare(x.Asked, y.Asked) })
	return rows, impl.OK
}

// third returns 1 / 3 to the power n.
func third(n int) *big.Rat {
	return new(big.Rat).SetFrac(big.NewInt(1), new(big.Int).Exp(big.NewInt(3), big.NewInt(int64(n)), nil))
}

// meanOf follows MeanOf; it is false if a row is too long for it.
func meanOf(rows []impl.Row) (*big.Rat, bool) {
	mean, fits := new(big.Rat), true
	for _, row := range rows {
		mean = plus(mean, times(third(len(row.Asked)), sumOf(row.Told)))
		fits = fits && len(row.Asked) <= 12
	}
	return mean, fits
}

// rowsText returns the text of rows.
func rowsText(rows []impl.Row) string {
	var list []string
	for _, row := range rows {
		list = append(list, textOf(row.Asked)+":"+textOf(row.Told))
	}
	return strings.Join(list, " ")
}

func (m modelMachine) String() string {
	return fmt.Sprint(m[0], " ", m[1], " ", m[2], " ", m[3])
}

// machineTree follows MoebiusTree, and returns how many states have been found, up to some more than there may be.
func machineTree(start impl.Moebius) (impl.Tree, int, int64) {
	m := machineOf(start)
	if !m.isFrom(-2, 2) {
		return impl.Tree{}, 0, impl.ErrState
	}
	states := []modelMachine{m.divided()}
	names := []string{states[0].String()}
	var t impl.Tree
	large := false
	for i := 0; i < len(states) && i < 100; i++ {
		var f impl.Fork
		for k, digit := range []int8{-1, 0, 1} {
			turn, behind := states[i].turn(digit)
			behind = behind.divided()
			for _, number := range behind {
				large = large || number.CmpAbs(big.NewInt(impl.MaxState)) > 0
			}
			at := slices.Index(names, behind.String())
			if at < 0 {
				at = len(states)
				states, names = append(states, behind), append(names, behind.String())
			}
			f.Next[k] = int16(at)
			if f.Kind = impl.NdAsk; turn.Told {
				f.Kind, f.Digit = impl.NdTell, turn.Digit
				break
			}
		}
		t.Nodes = append(t.Nodes, f)
	}
	if large || len(states) > impl.MaxForks {
		return impl.Tree{}, len(states), impl.ErrLimit
	}
	return t, len(states), impl.OK
}

// awakeFrom follows silent pairs; it is false if one comes back.
func awakeFrom(t, u impl.Tree, pair [2]int16) ([2]int16, bool) {
	var silent [][2]int16
	for {
		f, g := t.Nodes[pair[0]], u.Nodes[pair[1]]
		if f.Kind == impl.NdTell || g.Kind == impl.NdAsk {
			return pair, true
		}
		if slices.Contains(silent, pair) {
			return pair, false
		}
		silent = append(silent, pair)
		pair = [2]int16{f.Next[1+g.Digit], g.Next[0]}
	}
}

// composedTree follows ComposeTrees, and returns how many pairs have been found that are not silent.
func composedTree(t, u impl.Tree) (impl.Tree, int, int64) {
	var both impl.Tree
	var pairs [][2]int16
	endless := false
	place := func(pair [2]int16) int16 {
		pair, ok := awakeFrom(t, u, pair)
		if !ok {
			endless = true
			return 0
		}
		if !slices.Contains(pairs, pair) {
			pairs = append(pairs, pair)
		}
		return int16(slices.Index(pairs, pair))
	}
	place([2]int16{})
	for i := 0; i < len(pairs); i++ {
		f, g := t.Nodes[pairs[i][0]], u.Nodes[pairs[i][1]]
		node := f
		if f.Kind == impl.NdTell {
			node.Next[0] = place([2]int16{f.Next[0], pairs[i][1]})
		} else {
			for k, next := range g.Next {
				node.Next[k] = place([2]int16{pairs[i][0], next})
			}
		}
		both.Nodes = append(both.Nodes, node)
	}
	switch {
	case endless:
		return impl.Tree{}, len(pairs), impl.ErrState
	case len(pairs) > impl.MaxForks:
		return impl.Tree{}, len(pairs), impl.ErrLimit
	}
	return both, len(pairs), impl.OK
}

// followBoth gives digits to u, and what it tells to t, only as far as both need them, until t has told n.
func followBoth(t, u impl.Tree, digits []int8, n int) ([]int8, int, bool) {
	var told []int8
	asked := 0
	f, g := t.Nodes[0], u.Nodes[0]
	for len(told) < n {
		switch {
		case f.Kind == impl.NdTell:
			told = append(told, f.Digit)
			f = t.Nodes[f.Next[0]]
		case g.Kind == impl.NdTell:
			f = t.Nodes[f.Next[1+g.Digit]]
			g = u.Nodes[g.Next[0]]
		case asked == len(digits):
			return told, asked, false
		default:
			g = u.Nodes[g.Next[1+digits[asked]]]
			asked++
		}
	}
	return told, asked, true
}

// constantOf follows ConstantOf: the stream is looked for that has the digits which are told.
func constantOf(t impl.Tree) (impl.Stream, int64) {
	told, _, ok := follow(t, nil, 300)
	if !ok {
		return impl.Stream{}, impl.ErrState
	}
	if s, ok := shortest(told, impl.MaxHead, impl.MaxLoop); ok {
		return s, impl.OK
	}
	return impl.Stream{}, impl.ErrLimit
}

// waiting returns a tree that asks for some digits before it tells one, again and again.
func waiting(asked int) impl.Tree {
	var t impl.Tree
	for i := range int16(asked) {
		t.Nodes = append(t.Nodes, asks(i+1, i+1, i+1))
	}
	t.Nodes = append(t.Nodes, tells(0, 0))
	return t
}

// spine returns a tree that asks on as long as the digits are -1, some times for each digit that it tells, and once more
// before them, if it is told to; for other digits it tells 0 only.
func spine(asked int, more bool) impl.Tree {
	var t impl.Tree
	begin := int16(0)
	if more {
		begin = 1
	}
	end := begin + int16(asked)
	for i := range end {
		t.Nodes = append(t.Nodes, asks(i+1, end+1, end+1))
	}
	t.Nodes = append(t.Nodes, tells(1, begin), tells(0, end+1))
	return t
}

// telling returns a tree that tells a list, and then from a place in it on again and again.
func telling(digits []int8, back int) impl.Tree {
	var t impl.Tree
	for i, digit := range digits {
		next := i + 1
		if next == len(digits) {
			next = back
		}
		t.Nodes = append(t.Nodes, tells(digit, int16(next)))
	}
	return t
}

// tree draws a valid tree with so many nodes, which may be anything.
func (d *draw) tree(nodes int64) impl.Tree {
	var t impl.Tree
	often := 1 + d.below(4)
	for range nodes {
		next := func() int16 { return int16(d.below(nodes)) }
		if d.below(5) < often {
			t.Nodes = append(t.Nodes, asks(next(), next(), next()))
		} else {
			t.Nodes = append(t.Nodes, tells(int8(d.below(3)-1), next()))
		}
	}
	return t
}

// fruitful draws a productive tree with so many nodes, whose nodes that ask go on to later ones.
func (d *draw) fruitful(nodes int64) impl.Tree {
	t := d.tree(nodes)
	for i := range t.Nodes {
		f := &t.Nodes[i]
		if int64(i) == nodes-1 {
			*f = tells(int8(d.below(3)-1), int16(d.below(nodes)))
		}
		if f.Kind != impl.NdAsk {
			continue
		}
		for k := range f.Next {
			f.Next[k] = int16(int64(i) + 1 + d.below(min(3, nodes-1-int64(i))))
		}
	}
	return t
}

// copied returns a tree with so many nodes that does the same as t, its nodes being those of t, in any order, and some of
// them several times. It has at least as many as t.
func (d *draw) copied(t impl.Tree, nodes int) impl.Tree {
	of := make([]int16, nodes)
	for i := range of {
		of[i] = int16(i)
		if i >= len(t.Nodes) {
			of[i] = int16(d.below(int64(len(t.Nodes))))
		}
	}
	for i := len(of) - 1; i > 1; i-- {
		j := 1 + d.below(int64(i))
		of[i], of[j] = of[j], of[i]
	}
	var u impl.Tree
	for _, node := range of {
		f := t.Nodes[node]
		for k := range waysFrom(f) {
			way := d.below(int64(nodes))
			for of[way] != f.Next[k] {
				way = (way + 1) % int64(nodes)
			}
			f.Next[k] = int16(way)
		}
		u.Nodes = append(u.Nodes, f)
	}
	return u
}

// changed returns a tree with one digit, or one way, of a node that is another one.
func (d *draw) changed(t impl.Tree) impl.Tree {
	u := impl.Tree{Nodes: slices.Clone(t.Nodes)}
	f := &u.Nodes[d.below(int64(len(u.Nodes)))]
	if f.Kind == impl.NdTell && d.below(3) > 0 {
		f.Digit = (f.Digit+2)%3 - 1
	} else {
		f.Next[d.below(int64(len(waysFrom(*f))))] = int16(d.below(int64(len(u.Nodes))))
	}
	return u
}

// smallTrees returns all trees with at most two nodes.
func smallTrees() []impl.Tree {
	var list []impl.Tree
	for _, nodes := range []int16{1, 2} {
		var forks []impl.Fork
		for a := range nodes {
			for _, digit := range []int8{-1, 0, 1} {
				forks = append(forks, tells(digit, a))
			}
			for b := range nodes {
				for c := range nodes {
					forks = append(forks, asks(a, b, c))
				}
			}
		}
		for _, f := range forks {
			if nodes == 1 {
				list = append(list, impl.Tree{Nodes: []impl.Fork{f}})
				continue
			}
			for _, g := range forks {
				list = append(list, impl.Tree{Nodes: []impl.Fork{f, g}})
			}
		}
	}
	return list
}

// namedTrees returns trees that the document names, in the order of what they are.
func namedTrees() []impl.Tree {
	named := map[string]impl.Tree{
		"echo": impl.EchoTree(), "neg": impl.NegTree(), "half": impl.HalfTree(),
		"only tells": tree("+ 0"), "only tells two": tree("+ 1, - 0"), "only asks": tree("? 0 0 0"), "only asks two": tree("? 1 0 1, ? 0 1 0"),
		"back to 0": tree("? 0 1 0, + 0"), "tells, and asks behind": tree("+ 1, ? 0 2 0, - 1"),
		"not reached": tree("+ 2, ? 1 1 1, - 0"), "not reached, for ever": tree("? 2 2 2, ? 1 2 1, 0 0"), "for ever behind one way": tree("? 1 1 2, 0 0, ? 2 1 1"),
		"for ever by two": tree("? 1 3 3, ? 3 2 3, ? 3 3 1, + 0"), "three ways, no digit": tree("? 1 1 1, + 0"),
		"waits for 39": waiting(39), "waits for 59": waiting(59), "spine 52": spine(52, false), "spine 52 and 1": spine(52, true), "spine 12": spine(12, false), "spine 13": spine(13, false),
		"tells 60": telling(slices.Repeat([]int8{1, 0, -1, -1}, 15), 0), "tells 60, from 30 on again": telling(slices.Repeat([]int8{1, 0}, 30), 30), "tells 60, no stream": telling(append(make([]int8, 59), 1), 0),
	}
	for _, text := range []string{":0", "+:0", "+0:-", "+-0+-0+-0+-0+-0+:+0-+0-+0-+0-+0"} {
		s := stream(text)
		named["tells "+text] = telling(append(slices.Clone(s.Head), s.Loop...), len(s.Head))
	}
	var list []impl.Tree
	for _, name := range slices.Sorted(maps.Keys(named)) {
		list = append(list, named[name])
	}
	return list
}

// someTrees returns valid trees: all small ones, named ones, and drawn ones.
func someTrees() []impl.Tree {
	list := append(smallTrees(), namedTrees()...)
	d := draw(606)
	for range 150 {
		list = append(list, d.tree(1+d.below(9)), d.fruitful(1+d.below(9)))
	}
	for range 40 {
		list = append(list, d.tree(1+d.below(60)), d.fruitful(1+d.below(60)), d.tree(60), d.fruitful(60))
		list = append(list, d.copied(d.tree(1+d.below(9)), 9+int(d.below(52))), d.copied(d.fruitful(1+d.below(20)), 20+int(d.below(41))))
	}
	return list
}

// wantTree checks a tree and a code against a model's.
func wantTree(t *testing.T, what string, got impl.Tree, code int64, want impl.Tree, wantCode int64) {
	t.Helper()
	if code != wantCode || !slices.Equal(got.Nodes, want.Nodes) {
		t.Errorf("%s: got %s with %q, want %s with %q", what, short(got), impl.CodeName(code), short(want), impl.CodeName(wantCode))
	}
}
