package tests

import (
	"fmt"
	"slices"
	"strings"
	"testing"

	"loop.example/g01242/impl"
)

// questionArgs are arguments for the functions of chapter 6, of which each takes those it needs.
type questionArgs struct {
	t, u impl.Tree
	s    impl.Stream
	m    impl.Moebius
	n    int64
	text string
}

// questionCalls calls each function of chapter 6 and returns, by name, all that it returns; the code is the last one.
func questionCalls(x questionArgs) map[string][]any {
	all := func(list ...any) []any { return list }
	return map[string][]any{
		"ValidTree":       all(impl.ValidTree(x.t), int64(impl.OK)),
		"SameTree":        all(impl.SameTree(x.t, x.u), int64(impl.OK)),
		"IsProductive":    all(impl.IsProductive(x.t)),
		"RunTree":         all(impl.RunTree(x.t, x.s, x.n)),
		"MostAsked":       all(impl.MostAsked(x.t, x.n)),
		"LeastAsked":      all(impl.LeastAsked(x.t, x.n)),
		"TableOf":         all(impl.TableOf(x.t, x.n)),
		"MeanOf":          all(impl.MeanOf(x.t, x.n)),
		"EchoTree":        all(impl.EchoTree(), int64(impl.OK)),
		"NegTree":         all(impl.NegTree(), int64(impl.OK)),
		"HalfTree":        all(impl.HalfTree(), int64(impl.OK)),
		"StreamTree":      all(impl.StreamTree(x.s)),
		"MoebiusTree":     all(impl.MoebiusTree(x.m)),
		"ComposeTrees":    all(impl.ComposeTrees(x.t, x.u)),
		"ReachedTree":     all(impl.ReachedTree(x.t)),
		"LeastTree":       all(impl.LeastTree(x.t)),
		"DoTheSame":       all(impl.DoTheSame(x.t, x.u)),
		"FirstDigitApart": all(impl.FirstDigitApart(x.t, x.u, x.s, x.n)),
		"ConstantOf":      all(impl.ConstantOf(x.t)),
		"TreeText":        all(impl.TreeText(x.t), int64(impl.OK)),
		"ReadTree":        all(impl.ReadTree(x.text)),
	}
}

// checkQuestionCalls is checkPurity of the functions of chapter 6; what they return, if it is something, is valid.
func checkQuestionCalls(t *testing.T, x questionArgs) map[string][]any {
	t.Helper()
	other := impl.Fork{Kind: 50, Digit: 51, Next: [3]int16{52, 53, 54}}
	x.t.Nodes, x.u.Nodes = spare(x.t.Nodes, other), spare(x.u.Nodes, other)
	x.s.Head, x.s.Loop = spare(x.s.Head, 55), spare(x.s.Loop, 56)
	beforeT, beforeU, beforeHead, beforeLoop := whole(x.t.Nodes), whole(x.u.Nodes), whole(x.s.Head), whole(x.s.Loop)
	intact := func() bool {
		return slices.Equal(whole(x.t.Nodes), beforeT) && slices.Equal(whole(x.u.Nodes), beforeU) && slices.Equal(whole(x.s.Head), beforeHead) && slices.Equal(whole(x.s.Loop), beforeLoop)
	}
	results := checkPurity(t, fmt.Sprint(x), func() map[string][]any { return questionCalls(x) }, intact)
	for name, got := range results {
		for _, result := range got[:len(got)-1] {
			if codeOf(got) == impl.OK && !isValidQuestion(result) {
				t.Errorf("%s of %v: got %v, which is not valid", name, x, result)
			}
		}
	}
	return results
}

func isValidQuestion(result any) bool {
	switch x := result.(type) {
	case impl.Tree:
		return isTree(x) && impl.ValidTree(x)
	case []impl.Row:
		return areRowsApart(x)
	}
	return isValid(result)
}

// areRowsApart reports whether no two lists of rows share memory.
func areRowsApart(rows []impl.Row) bool {
	var lists [][]int8
	for _, row := range rows {
		lists = append(lists, row.Asked[:cap(row.Asked)], row.Told[:cap(row.Told)])
	}
	kept := make([][]int8, len(lists))
	for i, list := range lists {
		kept[i] = slices.Clone(list)
		fill(list, int8(i%99))
	}
	apart := true
	for i, list := range lists {
		apart = apart && !slices.ContainsFunc(list, func(digit int8) bool { return digit != int8(i%99) })
		copy(list, kept[i])
	}
	return apart
}

// wantQuestionCodes checks the codes of all calls that are named.
func wantQuestionCodes(t *testing.T, x questionArgs, want int64, names ...string) {
	t.Helper()
	wantNamed(t, fmt.Sprint(x), checkQuestionCalls(t, x), want, names...)
}

// fineQuestions are such that every function returns OK.
func fineQuestions() questionArgs {
	return questionArgs{t: tree("+ 1, - 2, 0 1"), u: impl.EchoTree(), s: stream("+0:-"), m: machine(1, 1, 0, 2), n: 5, text: "ask 0 1 0\ntell + 0\n"}
}

var (
	withTree   = []string{"IsProductive", "RunTree", "MostAsked", "LeastAsked", "TableOf", "MeanOf", "ComposeTrees", "ReachedTree", "LeastTree", "DoTheSame", "FirstDigitApart", "ConstantOf"}
	withTrees  = []string{"ComposeTrees", "DoTheSame", "FirstDigitApart"}
	withCount  = []string{"RunTree", "MostAsked", "LeastAsked", "FirstDigitApart"}
	withFew    = []string{"TableOf", "MeanOf"}
	productive = []string{"MostAsked", "LeastAsked", "TableOf", "MeanOf"}
)

func TestPromise1QuestionsThatAreFine(t *testing.T) {
	for name, got := range checkQuestionCalls(t, fineQuestions()) {
		if codeOf(got) != impl.OK {
			t.Errorf("%s: got %d", name, codeOf(got))
		}
	}
}

func TestPromise1QuestionsReturnTheSameForAll(t *testing.T) {
	d := draw(66)
	numbers := []int64{-1 << 63, -1, 0, 1, 6, 7, 19, 20, 21, 59, 60, 61, 1 << 32, 1<<63 - 1}
	trees := append(someTrees(), invalidTrees()...)
	streams := append(someStreams(), impl.Stream{}, stream("+:"), impl.Stream{Loop: []int8{2}})
	machines := append(treeMachines(), impl.Moebius{}, machine(1, 0, 1, 1), machine(-1<<63, 0, 0, 1), machine(0, 0, -1<<63, 1<<63-1), machine(1<<63-1, 1<<63-1, 1<<63-1, 1<<63-1))
	for i, x := range trees {
		args := questionArgs{t: x, u: trees[d.below(int64(len(trees)))], s: streams[d.below(int64(len(streams)))], m: machines[d.below(int64(len(machines)))], n: numbers[i%len(numbers)], text: treeText(x)}
		if i%2 == 0 {
			args.n = d.below(21)
		}
		checkQuestionCalls(t, args)
	}
}

// invalidTrees returns trees that are not valid, each in one way only.
func invalidTrees() []impl.Tree {
	list := []impl.Tree{{}, {Nodes: []impl.Fork{}}, {Nodes: []impl.Fork{{}}}, telling(make([]int8, 61), 0), turns(61, 0), {Nodes: make([]impl.Fork, 1000)}}
	for _, bad := range []impl.Fork{
		{Kind: 0}, {Kind: 3}, {Kind: -1}, {Kind: 127}, {Kind: -128}, {Kind: 1, Digit: 1}, {Kind: 1, Digit: -1}, {Kind: 1, Digit: -128}, {Kind: 2, Digit: 2}, {Kind: 2, Digit: -2}, {Kind: 2, Digit: 127}, {Kind: 2, Digit: -128},
		asks(3, 0, 0), asks(0, 3, 0), asks(0, 0, 3), asks(-1, 0, 0), asks(0, -1, 0), asks(0, 0, -1), asks(32767, 0, 0), asks(0, -32768, 0), asks(0, 0, 256), tells(1, 3), tells(1, -1), tells(1, 32767), tells(1, -32768), tells(0, 256),
		{Kind: 2, Next: [3]int16{0, 1, 0}}, {Kind: 2, Next: [3]int16{0, 0, 1}}, {Kind: 2, Next: [3]int16{0, -1, 0}}, {Kind: 2, Next: [3]int16{0, 0, -1}}, {Kind: 2, Next: [3]int16{0, 5, 0}}, {Kind: 2, Next: [3]int16{1, 1, 1}},
	} {
		// The node is the first one, the last one, and one that is not reached.
		fine := tells(0, 2)
		list = append(list, impl.Tree{Nodes: []impl.Fork{bad, fine, fine}}, impl.Tree{Nodes: []impl.Fork{fine, fine, bad}}, impl.Tree{Nodes: []impl.Fork{fine, bad, fine}})
	}
	return list
}

func TestPromise1TreesThatAreValid(t *testing.T) {
	for _, x := range someTrees() {
		if !impl.ValidTree(x) || impl.TreeText(x) == "" {
			t.Errorf("%s is valid, and has a text", short(x))
		}
	}
	for _, x := range []impl.Tree{telling(make([]int8, 60), 59), turns(60, 0), waiting(59), tree("+ 0"), tree("? 0 0 0")} {
		if !impl.ValidTree(x) {
			t.Errorf("%s is valid", short(x))
		}
	}
}

func TestPromise1TreesThatAreNotValid(t *testing.T) {
	for _, bad := range invalidTrees() {
		if impl.ValidTree(bad) || impl.TreeText(bad) != "" {
			t.Errorf("%v is not valid, and has no text", bad)
		}
		// ErrInvalid comes first: also where a count is not in its range, and nothing is told.
		for _, n := range []int64{0, 5, -1, 21, 61, -1 << 63, 1<<63 - 1} {
			x := fineQuestions()
			x.t, x.n = bad, n
			wantQuestionCodes(t, x, impl.ErrInvalid, withTree...)
			x.u = bad
			wantQuestionCodes(t, x, impl.ErrInvalid, withTree...)
			x = fineQuestions()
			x.u, x.n = bad, n
			wantQuestionCodes(t, x, impl.ErrInvalid, withTrees...)
			x.t = tree("? 0 0 0")
			wantQuestionCodes(t, x, impl.ErrInvalid, withTrees...)
			wantQuestionCodes(t, x, impl.OK, "IsProductive", "ReachedTree", "LeastTree")
		}
		if one, two := impl.SameTree(bad, impl.EchoTree()), impl.SameTree(bad, impl.Tree{Nodes: slices.Clone(bad.Nodes)}); one || !two {
			t.Errorf("SameTree of %v: got %v and %v", bad, one, two)
		}
	}
}

func TestPromise1StreamsOfTreesThatAreNotValid(t *testing.T) {
	long := strings.Repeat("0", 17)
	for _, bad := range []impl.Stream{{}, stream("+:"), stream(long + ":0"), stream(":" + long[:15]), {Loop: []int8{2}}, {Loop: []int8{-2}}, {Head: []int8{3}, Loop: []int8{0}}, {Head: []int8{0, -128}, Loop: []int8{0}}, {Loop: []int8{0, 127}}} {
		for _, n := range []int64{0, 5, -1, 61} {
			x := fineQuestions()
			x.s, x.n = bad, n
			wantQuestionCodes(t, x, impl.ErrInvalid, "RunTree", "StreamTree", "FirstDigitApart")
			// Also where nothing is asked for, or for ever.
			x.t, x.u = tree("? 0 0 0"), tree("? 0 0 0")
			wantQuestionCodes(t, x, impl.ErrInvalid, "RunTree", "StreamTree", "FirstDigitApart")
			wantQuestionCodes(t, x, impl.OK, "ComposeTrees", "DoTheSame", "LeastTree")
		}
	}
}

func TestPromise1MachinesOfTreesThatAreNotValid(t *testing.T) {
	const entry = impl.MaxEntry
	for _, bad := range []impl.Moebius{{}, machine(1, 0, 0, 0), machine(1, 0, 1, 1), machine(1, 0, -1, 1), machine(0, 0, 2, 1), machine(0, 0, 0, -1), machine(1, 0, 0, entry+1), machine(entry+1, 0, 0, 1), machine(-entry-1, 0, 0, 1), machine(0, entry+1, 0, 1), machine(0, -entry-1, 0, entry),
		machine(0, 0, entry, entry), machine(0, 0, -entry, entry), machine(-1<<63, 0, 0, 1), machine(0, -1<<63, 0, 1), machine(0, 0, -1<<63, 1), machine(0, 0, 0, -1<<63), machine(1<<63-1, 0, 0, 1<<63-1)} {
		x := fineQuestions()
		x.m = bad
		wantQuestionCodes(t, x, impl.ErrInvalid, "MoebiusTree")
	}
	x := fineQuestions()
	for m, code := range map[impl.Moebius]int64{machine(entry, 0, 0, entry): impl.OK, machine(0, -entry, 0, entry): impl.OK, machine(entry, 0, 0, 1): impl.ErrState, machine(entry, entry, entry-1, entry): impl.ErrState, machine(entry, entry-1, entry-1, entry): impl.ErrLimit} {
		x.m = m
		wantQuestionCodes(t, x, code, "MoebiusTree")
	}
}

func TestPromise1QuestionCountsOutOfRange(t *testing.T) {
	for _, n := range []int64{-1, 61, 64, 400, 256, -1 << 32, 1 << 32, 1<<32 + 5, -1 << 63, 1<<63 - 1} {
		x := fineQuestions()
		x.n = n
		wantQuestionCodes(t, x, impl.ErrRange, append(slices.Clone(withCount), withFew...)...)
		// ErrRange comes ahead of ErrState, of ErrBudget, of ErrLimit and of ErrNotFound.
		x.t, x.u = tree("? 0 0 0"), tree("? 0 0 0")
		wantQuestionCodes(t, x, impl.ErrRange, append(slices.Clone(withCount), withFew...)...)
		x.t = waiting(59)
		wantQuestionCodes(t, x, impl.ErrRange, append(slices.Clone(withCount), withFew...)...)
		x.t, x.u = x.u, x.t
		wantQuestionCodes(t, x, impl.ErrRange, append(slices.Clone(withCount), withFew...)...)
	}
	for _, n := range []int64{21, 22, 59, 60} {
		x := fineQuestions()
		x.n = n
		wantQuestionCodes(t, x, impl.ErrRange, withFew...)
		wantQuestionCodes(t, x, impl.OK, "RunTree", "MostAsked", "LeastAsked", "FirstDigitApart")
		x.t = tree("? 0 0 0")
		wantQuestionCodes(t, x, impl.ErrRange, withFew...)
		wantQuestionCodes(t, x, impl.ErrState, "MostAsked", "LeastAsked")
		wantQuestionCodes(t, x, impl.ErrBudget, "RunTree", "FirstDigitApart")
	}
	for _, n := range []int64{0, 1, 19, 20} {
		x := fineQuestions()
		x.n = n
		wantQuestionCodes(t, x, impl.OK, append(slices.Clone(productive), "RunTree")...)
	}
	x := fineQuestions()
	x.n = 0
	wantQuestionCodes(t, x, impl.ErrNotFound, "FirstDigitApart")
}

func TestPromise1QuestionErrorsInOrder(t *testing.T) {
	// ErrState comes ahead of ErrLimit, for a table and for a mean, and a tree that is not productive is run nevertheless.
	x := fineQuestions()
	x.t = waiting(59)
	x.t.Nodes[30].Next[1] = 3
	for _, n := range []int64{0, 1, 6, 20} {
		x.n = n
		wantQuestionCodes(t, x, impl.ErrState, productive...)
	}
	x.t = waiting(59)
	wantQuestionCodes(t, x, impl.ErrLimit, withFew...)
	wantQuestionCodes(t, x, impl.OK, "MostAsked", "LeastAsked", "IsProductive", "ReachedTree", "LeastTree")
	wantQuestionCodes(t, x, impl.ErrState, "ConstantOf")
	wantQuestionCodes(t, x, impl.ErrBudget, "RunTree", "FirstDigitApart")
	// The errors of both trees come ahead of digits that are apart, those of the first one first.
	x.t, x.u, x.n = tree("+ 1, ? 1 1 1"), tree("- 0"), 2
	wantQuestionCodes(t, x, impl.ErrBudget, "FirstDigitApart")
	x.t, x.u = x.u, x.t
	wantQuestionCodes(t, x, impl.ErrBudget, "FirstDigitApart")
	x.t = x.u
	wantQuestionCodes(t, x, impl.ErrBudget, "FirstDigitApart")
	// A machine with values that are not all from -1 to 1 is ErrState, though its states have no end.
	x.m = machine(1, 2, 1, 2)
	wantQuestionCodes(t, x, impl.OK, "MoebiusTree")
	x.m = machine(2, 2, 1, 2)
	wantQuestionCodes(t, x, impl.ErrState, "MoebiusTree")
	x.m = machine(1, 1, 1, 2)
	wantQuestionCodes(t, x, impl.ErrLimit, "MoebiusTree")
}

// Trees and texts with as many elements as there may be come to an end.
func TestPromise1LongQuestionArguments(t *testing.T) {
	long := make([]int8, 500000)
	x := questionArgs{t: impl.Tree{Nodes: slices.Repeat([]impl.Fork{tells(1, 0)}, 200000)}, u: impl.Tree{Nodes: slices.Repeat([]impl.Fork{asks(0, 0, 0)}, 200000)}, s: impl.Stream{Head: long, Loop: long}, n: 5}
	for _, text := range []string{strings.Repeat("tell 0 0\n", 111111), strings.Repeat("tell 0 0 ", 111111), strings.Repeat("\n", 1000000), strings.Repeat(" ", 1000000), "ask 0 0 " + strings.Repeat("0", 999990) + "\n", strings.Repeat("\xff", 1000000), strings.Repeat("ask ", 250000)} {
		x.text = text
		results := questionCalls(x)
		wantNamed(t, "long arguments", results, impl.ErrInvalid, withTree...)
		wantNamed(t, "long arguments", results, impl.ErrInvalid, "StreamTree")
		wantNamed(t, "long arguments", results, impl.ErrSyntax, "ReadTree")
	}
	if impl.ValidTree(x.t) || impl.TreeText(x.t) != "" || !impl.SameTree(x.t, x.t) || impl.SameTree(x.t, x.u) {
		t.Error("long trees are not valid, and are told apart nevertheless")
	}
}

// What takes the most work is answered, or refused.
func TestPromise1QuestionsThatTakeMuchWork(t *testing.T) {
	d := draw(616)
	list := []impl.Tree{waiting(59), turns(60, 0), turns(0, 60), turns(59, 1), turns(1, 59), turns(30, 30), spine(57, true), spine(58, false), telling(append(make([]int8, 59), 1), 0), d.tree(60), d.tree(60), d.fruitful(60), d.fruitful(60), d.copied(impl.EchoTree(), 60)}
	for _, x := range list {
		for _, u := range list {
			for _, n := range []int64{0, 1, 20, 60} {
				checkQuestionCalls(t, questionArgs{t: x, u: u, s: d.stream(), m: d.machine(), n: n, text: treeText(u)})
			}
		}
	}
}
