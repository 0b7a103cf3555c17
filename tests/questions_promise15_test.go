package tests

import (
	"fmt"
	"math/big"
	"slices"
	"testing"

	"loop.example/g01242/impl"
)

// productiveOnes returns the productive ones of some trees, and more that ask for few digits.
func productiveOnes() []impl.Tree {
	list := slices.DeleteFunc(someTrees(), func(x impl.Tree) bool { return !isFruitful(x) })
	for _, asked := range []int{1, 2, 3, 4, 11, 26} {
		list = append(list, spine(asked, false), spine(asked, true), waiting(asked))
	}
	for _, m := range []impl.Moebius{machine(1, 1, 0, 2), machine(-1, 0, 0, 3), machine(1, 0, 0, 8), machine(0, 1, 0, 3), machine(1, 0, 0, 1), machine(1, 5, 0, 7)} {
		x, code := impl.MoebiusTree(m)
		if code == impl.OK {
			list = append(list, x)
		}
	}
	return list
}

func TestPromise15TablesHaveARowForEachListThatIsAskedFor(t *testing.T) {
	met, sizes := tally{}, map[int]bool{}
	for _, x := range productiveOnes() {
		for _, n := range []int{0, 1, 2, 3, 6, 7, 13, impl.MaxTold} {
			want, wantCode := tableOf(x, n)
			rows, code := impl.TableOf(x, int64(n))
			met[code]++
			sizes[len(rows)] = true
			if code != wantCode || rowsText(rows) != rowsText(want) {
				t.Errorf("TableOf %s, %d: got %s with %d, want %s with %d", short(x), n, rowsText(rows), code, rowsText(want), wantCode)
			}
		}
	}
	met.want(t, impl.OK, 1000)
	met.want(t, impl.ErrLimit, 200)
	if !sizes[1] || !sizes[3] || !sizes[impl.MaxRows] {
		t.Error("no table had 1 row, 3, or MaxRows")
	}
}

// A stream that begins with the digits of a row is told what the row has, however it goes on; each stream has just one row.
func TestPromise15RowsHaveWhatTheTreeTells(t *testing.T) {
	checked := 0
	for _, x := range productiveOnes() {
		for _, n := range []int64{0, 1, 3, 5, impl.MaxTold} {
			rows, code := impl.TableOf(x, n)
			if code != impl.OK {
				continue
			}
			share := new(big.Rat)
			for i, row := range rows {
				if i > 0 && slices.Compare(rows[i-1].Asked, row.Asked) >= 0 {
					t.Errorf("TableOf %s, %d: %s is not ahead of %s", short(x), n, textOf(rows[i-1].Asked), textOf(row.Asked))
				}
				share = plus(share, third(len(row.Asked)))
				told, asked, ok := follow(x, row.Asked, int(n))
				if !ok || asked != len(row.Asked) || !slices.Equal(told, row.Told) || int64(len(row.Told)) != n {
					t.Errorf("TableOf %s, %d: of %s it tells %s, not %s", short(x), n, textOf(row.Asked), textOf(told), textOf(row.Told))
				}
				if len(row.Asked) > impl.MaxHead {
					continue
				}
				for _, loop := range []string{"-", "0", "+", "+0-"} {
					told, asked, code := impl.RunTree(x, impl.Stream{Head: row.Asked, Loop: digitList(loop)}, n)
					if code != impl.OK || asked != int64(len(row.Asked)) || !slices.Equal(told, row.Told) {
						t.Errorf("RunTree %s of %s and %s: got %s of %d with %d, and in the table %s", short(x), textOf(row.Asked), loop, textOf(told), asked, code, textOf(row.Told))
					}
					checked++
				}
			}
			if share.Cmp(rat(1, 1)) != 0 {
				t.Errorf("TableOf %s, %d: the rows have a share of %s of all streams", short(x), n, share.RatString())
			}
		}
	}
	if checked < 20000 {
		t.Errorf("%d streams were tried only", checked)
	}
}

func TestPromise15MeansAreThoseOfTheRows(t *testing.T) {
	met, long, large := tally{}, 0, 0
	for _, x := range productiveOnes() {
		for _, n := range []int64{0, 1, 2, 3, 5, 6, 9, 12, 13, 17, impl.MaxTold} {
			what := fmt.Sprint("MeanOf ", short(x), ", ", n)
			rows, code := tableOf(x, int(n))
			got, gotCode := impl.MeanOf(x, n)
			met[gotCode]++
			if code != impl.OK {
				wantTermCode(t, what, gotCode, code)
				continue
			}
			mean, fits := meanOf(rows)
			if !fits {
				long++
				wantTermCode(t, what+" with many digits in a row", gotCode, impl.ErrLimit)
				continue
			}
			wantRatio(t, what, got, gotCode, mean)
			if gotCode == impl.ErrLimit {
				large++
			}
		}
	}
	met.want(t, impl.OK, 3000)
	met.want(t, impl.ErrLimit, 1000)
	if long < 100 || large < 10 {
		t.Errorf("rows were too long %d times, and ratios too large %d times only", long, large)
	}
}

func TestPromise15DigitsThatAreAskedForAtLeastAndAtMost(t *testing.T) {
	tables := 0
	for _, x := range productiveOnes() {
		for _, n := range someCounts {
			least, most := askedIn(x, n)
			gotLeast, one := impl.LeastAsked(x, int64(n))
			gotMost, two := impl.MostAsked(x, int64(n))
			if gotLeast != least || gotMost != most || one != impl.OK || two != impl.OK {
				t.Errorf("LeastAsked and MostAsked of %s, %d: got %d and %d with %d and %d, want %d and %d", short(x), n, gotLeast, gotMost, one, two, least, most)
			}
			if n > impl.MaxTold {
				continue
			}
			rows, code := impl.TableOf(x, int64(n))
			if code != impl.OK {
				continue
			}
			tables++
			inOrder := func(x, y impl.Row) int { return len(x.Asked) - len(y.Asked) }
			shortest, longest := slices.MinFunc(rows, inOrder), slices.MaxFunc(rows, inOrder)
			if int64(len(shortest.Asked)) != gotLeast || int64(len(longest.Asked)) != gotMost {
				t.Errorf("LeastAsked and MostAsked of %s, %d: got %d and %d, and in the table %s and %s", short(x), n, gotLeast, gotMost, textOf(shortest.Asked), textOf(longest.Asked))
			}
		}
	}
	if tables < 1000 {
		t.Errorf("%d tables were tried only", tables)
	}
}

func TestPromise15TreesThatAreNotProductive(t *testing.T) {
	count := 0
	for _, x := range someTrees() {
		if isFruitful(x) {
			continue
		}
		count++
		// Also if no digit has to be told, and none is asked for then.
		for _, n := range []int64{0, 1, impl.MaxTold} {
			rows, one := impl.TableOf(x, n)
			mean, two := impl.MeanOf(x, n)
			least, three := impl.LeastAsked(x, n)
			most, four := impl.MostAsked(x, n)
			if len(rows) != 0 || mean != (impl.Ratio{}) || least != 0 || most != 0 {
				t.Errorf("there is a result of %s, %d, together with an error", short(x), n)
			}
			for _, code := range []int64{one, two, three, four} {
				wantTermCode(t, fmt.Sprint(short(x), ", ", n), code, impl.ErrState)
			}
		}
	}
	if count < 200 {
		t.Errorf("%d trees were not productive only", count)
	}
}
