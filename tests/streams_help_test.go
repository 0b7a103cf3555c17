package tests

import (
	"math/big"
	"slices"
	"strings"
	"testing"

	"loop.example/g01242/impl"
)

// The tests of streams hold the program against a model, which writes digits out one by one, finds what comes again by
// trying all heads and loops, and calculates in math/big.

// stream returns the stream with a text, which the tests read themselves.
func stream(text string) impl.Stream {
	at := strings.IndexByte(text, ':')
	return impl.Stream{Head: digitList(text[:at]), Loop: digitList(text[at+1:])}
}

// digitList returns the digits with a text.
func digitList(text string) []int8 {
	var list []int8
	for _, c := range []byte(text) {
		list = append(list, map[byte]int8{'-': -1, '0': 0, '+': 1}[c])
	}
	return list
}

// textOf returns the text of digits, with "?" for what is none.
func textOf(digits []int8) string {
	var text strings.Builder
	for _, digit := range digits {
		text.WriteString(map[int8]string{-1: "-", 0: "0", 1: "+"}[digit])
		if digit < -1 || digit > 1 {
			text.WriteString("?")
		}
	}
	return text.String()
}

func streamText(s impl.Stream) string { return textOf(s.Head) + ":" + textOf(s.Loop) }

// unrolled returns the first n digits of a stream.
func unrolled(s impl.Stream, n int) []int8 {
	list := slices.Clone(s.Head)
	for len(list) < n {
		list = append(list, s.Loop...)
	}
	return list[:n]
}

// shortest returns the stream with some digits, of those with the shortest Head the one with the shortest Loop; false if
// none with at most so many digits in each has them. The digits have to go on for long enough.
func shortest(digits []int8, head, loop int) (impl.Stream, bool) {
	for h := range head + 1 {
		for l := range loop {
			if slices.Equal(digits[h+l+1:], digits[h:len(digits)-l-1]) {
				return impl.Stream{Head: digits[:h], Loop: digits[h : h+l+1]}, true
			}
		}
	}
	return impl.Stream{}, false
}

func frac(p, q int64) impl.Ratio { return impl.Ratio{P: p, Q: q} }

func rat(p, q int64) *big.Rat { return big.NewRat(p, q) }

func ratOf(r impl.Ratio) *big.Rat { return rat(r.P, r.Q) }

// ratioOf returns the ratio with a value, and ErrLimit if its parts are too large.
func ratioOf(x *big.Rat) (impl.Ratio, int64) {
	most := big.NewInt(1 << 31)
	if x.Num().CmpAbs(most) > 0 || x.Denom().Cmp(most) > 0 {
		return impl.Ratio{}, impl.ErrLimit
	}
	return impl.Ratio{P: x.Num().Int64(), Q: x.Denom().Int64()}, impl.OK
}

// half returns 1 / 2 to the power n.
func half(n int) *big.Rat { return new(big.Rat).SetFrac(big.NewInt(1), pow2(int64(n))) }

func plus(x, y *big.Rat) *big.Rat  { return new(big.Rat).Add(x, y) }
func minus(x, y *big.Rat) *big.Rat { return new(big.Rat).Sub(x, y) }
func times(x, y *big.Rat) *big.Rat { return new(big.Rat).Mul(x, y) }

// sumOf returns the value of some digits, with only 0 behind them.
func sumOf(digits []int8) *big.Rat {
	sum := new(big.Rat)
	for n, digit := range digits {
		sum.Add(sum, times(rat(int64(digit), 1), half(n+1)))
	}
	return sum
}

// valueOf returns the value of a stream: with v for the loop once, the loop again and again is v / (1 - 1 / 2 to the
// power of its length).
func valueOf(s impl.Stream) *big.Rat {
	around := new(big.Rat).Quo(sumOf(s.Loop), minus(rat(1, 1), half(len(s.Loop))))
	return plus(sumOf(s.Head), times(around, half(len(s.Head))))
}

// streamOf follows StreamOf, with a list of the rests.
func streamOf(x *big.Rat) (impl.Stream, int64) {
	var rests []*big.Rat
	var digits []int8
	for len(rests) < 40 {
		if first := slices.IndexFunc(rests, func(y *big.Rat) bool { return y.Cmp(x) == 0 }); first >= 0 {
			s := impl.Stream{Head: digits[:first], Loop: digits[first:]}
			if len(s.Head) > impl.MaxHead || len(s.Loop) > impl.MaxLoop {
				break
			}
			return s, impl.OK
		}
		rests = append(rests, x)
		digit := int64(0)
		if x.Cmp(rat(1, 2)) >= 0 {
			digit = 1
		}
		if x.Cmp(rat(-1, 2)) <= 0 {
			digit = -1
		}
		digits = append(digits, int8(digit))
		x = minus(plus(x, x), rat(digit, 1))
	}
	return impl.Stream{}, impl.ErrLimit
}

// enough is more than how many digits two streams, or a stream and an average, can share without being the same: the
// heads and both loops of two, an average having at most 5 * 14 * 13 states in a loop.
const enough = 2500

// averageOf follows AverageOf, digit by digit, and looks for the stream with these digits then.
func averageOf(s, t impl.Stream) (impl.Stream, []int8, int64) {
	x, y := unrolled(s, enough+1), unrolled(t, enough+1)
	c := x[0] + y[0]
	var digits []int8
	for i := 1; i <= enough; i++ {
		e := 2*c + x[i] + y[i]
		digit := int8(0)
		if e > 2 {
			digit = 1
		}
		if e < -2 {
			digit = -1
		}
		digits = append(digits, digit)
		c = e - 4*digit
	}
	if average, ok := shortest(digits, impl.MaxHead, impl.MaxLoop); ok {
		return average, digits, impl.OK
	}
	return impl.Stream{}, digits, impl.ErrLimit
}

// modelMachine is a machine with numbers of any size: a, b, c and d.
type modelMachine [4]*big.Int

func machineOf(m impl.Moebius) modelMachine {
	return modelMachine{big.NewInt(m.A), big.NewInt(m.B), big.NewInt(m.C), big.NewInt(m.D)}
}

func (m modelMachine) state() impl.Moebius {
	return impl.Moebius{A: m[0].Int64(), B: m[1].Int64(), C: m[2].Int64(), D: m[3].Int64()}
}

// divided returns the machine with its numbers divided by their greatest common divisor.
func (m modelMachine) divided() modelMachine {
	common := new(big.Int)
	for _, n := range m {
		common.GCD(nil, nil, common, new(big.Int).Abs(n))
	}
	if common.Sign() != 0 {
		for k, n := range m {
			m[k] = new(big.Int).Quo(n, common)
		}
	}
	return m
}

// at returns the value for x.
func (m modelMachine) at(x *big.Rat) *big.Rat {
	part := func(k int) *big.Rat {
		return plus(times(new(big.Rat).SetInt(m[k]), x), new(big.Rat).SetInt(m[k+1]))
	}
	return new(big.Rat).Quo(part(0), part(2))
}

// isFrom reports whether the values for -1 and 1 are low / 2 to high / 2.
func (m modelMachine) isFrom(low, high int64) bool {
	for _, x := range []int64{-1, 1} {
		if v := m.at(rat(x, 1)); v.Cmp(rat(low, 2)) < 0 || v.Cmp(rat(high, 2)) > 0 {
			return false
		}
	}
	return true
}

// mixed returns a * x + b * y.
func mixed(a int64, x *big.Int, b int64, y *big.Int) *big.Int {
	return new(big.Int).Add(new(big.Int).Mul(big.NewInt(a), x), new(big.Int).Mul(big.NewInt(b), y))
}

// turn returns what the machine does next, and the machine behind it, before it is divided.
func (m modelMachine) turn(next int8) (impl.Turn, modelMachine) {
	for _, e := range []int64{0, 1, -1} {
		if m.isFrom(e-1, e+1) {
			return impl.Turn{Told: true, Digit: int8(e)}, modelMachine{mixed(2, m[0], -e, m[2]), mixed(2, m[1], -e, m[3]), m[2], m[3]}
		}
	}
	d := int64(next)
	return impl.Turn{Digit: next}, modelMachine{m[0], mixed(d, m[0], 2, m[1]), m[2], mixed(d, m[2], 2, m[3])}
}

// turnsOf follows MoebiusTurns.
func turnsOf(start impl.Moebius, s impl.Stream, n int64) ([]impl.Turn, int64) {
	m := machineOf(start)
	if !m.isFrom(-2, 2) {
		return nil, impl.ErrState
	}
	m = m.divided()
	digits := unrolled(s, impl.MaxAsk+1)
	var turns []impl.Turn
	for taken, told := 0, int64(0); told < n; {
		turn, behind := m.turn(digits[taken])
		if turn.Told {
			told++
		} else if taken++; taken > impl.MaxAsk {
			return nil, impl.ErrBudget
		}
		m = behind.divided()
		for _, number := range m {
			if number.CmpAbs(big.NewInt(impl.MaxState)) > 0 {
				return nil, impl.ErrLimit
			}
		}
		turn.State = m.state()
		turns = append(turns, turn)
	}
	return turns, impl.OK
}

// composed follows ComposeMoebius.
func composed(m, n impl.Moebius) (impl.Moebius, int64) {
	var both modelMachine
	x, y := machineOf(m), machineOf(n)
	for k := range both {
		row, column := k/2*2, k%2
		both[k] = new(big.Int).Add(new(big.Int).Mul(x[row], y[column]), new(big.Int).Mul(x[row+1], y[column+2]))
	}
	both = both.divided()
	if both[3].Sign() < 0 {
		for k := range both {
			both[k] = new(big.Int).Neg(both[k])
		}
	}
	if both[3].CmpAbs(both[2]) <= 0 {
		return impl.Moebius{}, impl.ErrState
	}
	for _, number := range both {
		if number.CmpAbs(big.NewInt(impl.MaxEntry)) > 0 {
			return impl.Moebius{}, impl.ErrLimit
		}
	}
	return both.state(), impl.OK
}

// below draws a number from 0 to n - 1.
func (d *draw) below(n int64) int64 { return int64(d.next()>>1) % n }

// digitsOf draws so many digits.
func (d *draw) digitsOf(n int64) []int8 {
	var list []int8
	for range n {
		list = append(list, int8(d.below(3)-1))
	}
	return list
}

// stream draws a valid one.
func (d *draw) stream() impl.Stream {
	s := impl.Stream{Head: d.digitsOf(d.below(impl.MaxHead + 1)), Loop: d.digitsOf(1 + d.below(impl.MaxLoop))}
	if d.below(3) == 0 {
		s.Loop = slices.Repeat(d.digitsOf(1+d.below(3)), 1+int(d.below(4)))
	}
	return s
}

// machine draws a valid one, whose values for x from -1 to 1 are from -1 to 1, and often reach them.
func (d *draw) machine() impl.Moebius {
	for {
		div := 1 + d.below([]int64{4, 30, 1000, impl.MaxEntry}[d.below(4)])
		c := d.below(2*div-1) - div + 1
		switch d.below(6) {
		case 0:
			c = 0
		case 1:
			c = (div - 1) * (2*d.below(2) - 1)
		}
		// The values for 1 and -1 are drawn, in parts of what is divided by there.
		most := []int64{div + c, div - c}
		for k, end := range most {
			most[k] = d.below(2*end+1) - end
			if d.below(4) == 0 {
				most[k] = end * (d.below(3) - 1)
			}
		}
		if (most[0]+most[1])%2 == 0 {
			return impl.Moebius{A: (most[0] - most[1]) / 2, B: (most[0] + most[1]) / 2, C: c, D: div}
		}
	}
}

// digitLists returns all lists of at least and at most so many digits.
func digitLists(least, most int) [][]int8 {
	list := [][]int8{nil}
	for at := 0; len(list[at]) < most; at++ {
		for _, digit := range []int8{-1, 0, 1} {
			list = append(list, append(slices.Clone(list[at]), digit))
		}
	}
	return slices.DeleteFunc(list, func(digits []int8) bool { return len(digits) < least })
}

// smallStreams returns all streams with at most so many digits in Head and in Loop.
func smallStreams(head, loop int) []impl.Stream {
	var list []impl.Stream
	for _, h := range digitLists(0, head) {
		for _, l := range digitLists(1, loop) {
			list = append(list, impl.Stream{Head: h, Loop: l})
		}
	}
	return list
}

// someStreams returns valid streams: small ones, some at the limits, and drawn ones.
func someStreams() []impl.Stream {
	list := smallStreams(2, 3)
	full, around := strings.Repeat("+-", impl.MaxHead/2), strings.Repeat("+0", impl.MaxLoop/2)
	for _, text := range []string{full + ":-", full + ":" + around, ":" + around, "++++++++++++++++:++++++++++++++", "----------------:--------------",
		"0000000000000000:00000000000000", ":0000000000000+", "000000000000000-:+", full + ":0000000000000-", "+0+0+0+0+0+0+0+0:+0", ":+0-+0-+0-+0-"} {
		list = append(list, stream(text))
	}
	d := draw(303)
	for range 300 {
		list = append(list, d.stream())
	}
	return list
}

// wantStream checks a stream and a code against a model's.
func wantStream(t *testing.T, what string, got impl.Stream, code int64, want impl.Stream, wantCode int64) {
	t.Helper()
	if code != wantCode || streamText(got) != streamText(want) {
		t.Errorf("%s: got %s with %q, want %s with %q", what, streamText(got), impl.CodeName(code), streamText(want), impl.CodeName(wantCode))
	}
}

// wantRatio checks a ratio and a code against a number, whose parts may be too large.
func wantRatio(t *testing.T, what string, got impl.Ratio, code int64, want *big.Rat) {
	t.Helper()
	if r, wantCode := ratioOf(want); got != r || code != wantCode {
		t.Errorf("%s: got %v with %q, want %s", what, got, impl.CodeName(code), want.RatString())
	}
}
