package tests

import (
	"math/big"
	"slices"
	"testing"

	"loop.example/g01242/impl"
)

func TestPromise5ValuesLieWithinTheBoundsOfBeginnings(t *testing.T) {
	for _, s := range someStreams() {
		text := streamText(s)
		value, code := impl.ValueOf(s)
		wantRatio(t, "ValueOf "+text, value, code, valueOf(s))
		for n := range 31 {
			digits, code := impl.DigitsOf(s, int64(n))
			if code != impl.OK || !slices.Equal(digits, unrolled(s, n)) {
				t.Fatalf("DigitsOf %s and %d: got %s with %d", text, n, textOf(digits), code)
			}
			low, high, code := impl.BoundsOf(digits)
			begin := sumOf(digits)
			wantRatio(t, "BoundsOf (low) "+textOf(digits), low, code, minus(begin, half(n)))
			wantRatio(t, "BoundsOf (high) "+textOf(digits), high, code, plus(begin, half(n)))
			below, one := impl.CompareRatios(low, value)
			above, two := impl.CompareRatios(value, high)
			if below > 0 || above > 0 || one != impl.OK || two != impl.OK {
				t.Errorf("the value %v of %s is not within %v and %v, of %d digits", value, text, low, high, n)
			}
		}
	}
}

// The bounds are values of streams with the beginning: those that go on with -1, or with 1, alone.
func TestPromise5BoundsAreValues(t *testing.T) {
	for _, digits := range digitLists(0, 6) {
		low, high, code := impl.BoundsOf(digits)
		least, one := impl.ValueOf(impl.Stream{Head: digits, Loop: []int8{-1}})
		most, two := impl.ValueOf(impl.Stream{Head: digits, Loop: []int8{1}})
		if low != least || high != most || code != impl.OK || one != impl.OK || two != impl.OK {
			t.Errorf("BoundsOf %s: got %v and %v, want %v and %v", textOf(digits), low, high, least, most)
		}
	}
	for _, digits := range []string{"", "+", "-", "++++++++++++++++++++++++++++++", "------------------------------", "+-+-+-+-+-+-+-+-+-+-+-+-+-+-+-", "000000000000000000000000000000"} {
		list := digitList(digits)
		low, high, code := impl.BoundsOf(list)
		wantRatio(t, "BoundsOf (low) "+digits, low, code, minus(sumOf(list), half(len(list))))
		wantRatio(t, "BoundsOf (high) "+digits, high, code, plus(sumOf(list), half(len(list))))
	}
}

func TestPromise5DigitsAreThoseOfHeadAndLoop(t *testing.T) {
	for i, s := range someStreams() {
		digits := unrolled(s, impl.MaxAsk)
		got, code := impl.DigitsOf(s, impl.MaxAsk)
		if code != impl.OK || !slices.Equal(got, digits) {
			t.Errorf("DigitsOf %s: got %s with %d", streamText(s), textOf(got), code)
		}
		for n, want := range digits {
			if got, code := impl.DigitAt(s, int64(n)); got != want || code != impl.OK {
				t.Errorf("DigitAt %s and %d: got %d with %d, want %d", streamText(s), n, got, code, want)
			}
		}
		// Far away, the digit is one whole number of loops nearer.
		loop := int64(len(s.Loop))
		for _, n := range []int64{1000000000, 999999999, 1000000000 - loop, 65536, int64(1000 + i)} {
			near := n - (n-impl.MaxHead)/loop*loop
			if got, code := impl.DigitAt(s, n); got != digits[near] || code != impl.OK {
				t.Errorf("DigitAt %s and %d: got %d with %d, want %d", streamText(s), n, got, code, digits[near])
			}
		}
	}
}

// checkStreamOf checks StreamOf against the model, and its value.
func checkStreamOf(t *testing.T, r impl.Ratio) int64 {
	t.Helper()
	got, code := impl.StreamOf(r)
	want, wantCode := streamOf(ratOf(r))
	wantStream(t, "StreamOf "+ratOf(r).RatString(), got, code, want, wantCode)
	if code == impl.OK {
		if value, code := impl.ValueOf(got); value != r || code != impl.OK || !impl.ValidStream(got) {
			t.Errorf("StreamOf %v: got %s, with the value %v", r, streamText(got), value)
		}
		if normal, code := impl.NormalStream(got); code != impl.OK || !impl.SameStream(normal, got) {
			t.Errorf("StreamOf %v: got %s, which is not normal", r, streamText(got))
		}
	}
	return code
}

func TestPromise5StreamsOfRatiosHaveTheirValue(t *testing.T) {
	met := tally{}
	for q := int64(1); q <= 150; q++ {
		for p := -q; p <= q; p++ {
			if r, _ := ratioOf(rat(p, q)); r.Q == q {
				met[checkStreamOf(t, r)]++
			}
		}
	}
	for _, s := range someStreams() {
		r, _ := ratioOf(valueOf(s))
		met[checkStreamOf(t, r)]++
	}
	met.want(t, impl.OK, 3000)
	met.want(t, impl.ErrLimit, 3000)
}

// All that a loop of MaxLoop digits can tell is found, and no more.
func TestPromise5RatiosWithLongLoopsAndHeads(t *testing.T) {
	met := tally{}
	for _, around := range []int64{1<<14 - 1, 1<<13 - 1, 1<<15 - 1, 127, 43, 1} {
		for _, head := range []int64{1, 2, 1 << 15, 1 << 16, 1 << 17} {
			for _, p := range []int64{1, -1, 5, -7, around/2 + 1, around - 1, -around, around*head - 1, 1 - around*head, around * head / 3} {
				r, code := ratioOf(rat(p, around*head))
				if code == impl.OK && ratOf(r).Num().CmpAbs(ratOf(r).Denom()) <= 0 {
					met[checkStreamOf(t, r)]++
				}
			}
		}
	}
	met.want(t, impl.OK, 60)
	met.want(t, impl.ErrLimit, 60)
	for _, r := range []impl.Ratio{frac(1, impl.MaxPart), frac(impl.MaxPart-1, impl.MaxPart), frac(1-impl.MaxPart, impl.MaxPart), frac(1, impl.MaxPart-1), frac(impl.MaxPart-2, impl.MaxPart-1)} {
		if code := checkStreamOf(t, r); code != impl.ErrLimit {
			t.Errorf("StreamOf %v: got %d", r, code)
		}
	}
}

func TestPromise5NormalStreamsHaveTheSameDigits(t *testing.T) {
	list := append(someStreams(), smallStreams(3, 4)...)
	d := draw(55)
	for range 1000 {
		// A loop is written several times, and begins in the head already.
		loop := d.digitsOf(1 + d.below(4))
		s := impl.Stream{Loop: slices.Repeat(loop, 1+int(d.below(impl.MaxLoop/int64(len(loop)))))}
		begun := unrolled(s, int(d.below(12)))
		s.Head = append(d.digitsOf(d.below(5)), begun...)
		turned := len(begun) % len(s.Loop)
		s.Loop = append(slices.Clone(s.Loop[turned:]), s.Loop[:turned]...)
		list = append(list, s)
	}
	shorter := 0
	for _, s := range list {
		want, ok := shortest(unrolled(s, 200), impl.MaxHead, impl.MaxLoop)
		if !ok {
			t.Fatalf("the model finds no stream with the digits of %s", streamText(s))
		}
		got, code := impl.NormalStream(s)
		wantStream(t, "NormalStream of "+streamText(s), got, code, want, impl.OK)
		if again, code := impl.NormalStream(got); code != impl.OK || !impl.SameStream(again, got) {
			t.Errorf("NormalStream of %s, which is normal: got %s", streamText(got), streamText(again))
		}
		if len(got.Head) < len(s.Head) {
			shorter++
		}
	}
	if shorter < 500 {
		t.Errorf("the head was shortened %d times only", shorter)
	}
}

func TestPromise5OppositesAndHalves(t *testing.T) {
	for _, s := range someStreams() {
		text := streamText(s)
		neg, code := impl.NegStream(s)
		value, valueCode := impl.ValueOf(neg)
		wantRatio(t, "the value of NegStream "+text, value, valueCode, new(big.Rat).Neg(valueOf(s)))
		back, backCode := impl.NegStream(neg)
		if code != impl.OK || backCode != impl.OK || !impl.SameStream(back, s) || len(neg.Head) != len(s.Head) {
			t.Errorf("NegStream of %s: got %s, and of this %s", text, streamText(neg), streamText(back))
		}
		halved, code := impl.HalfStream(s)
		if len(s.Head) == impl.MaxHead {
			wantStream(t, "HalfStream of "+text, halved, code, impl.Stream{}, impl.ErrLimit)
			continue
		}
		wantStream(t, "HalfStream of "+text, halved, code, stream("0"+text), impl.OK)
		value, valueCode = impl.ValueOf(halved)
		wantRatio(t, "the value of HalfStream "+text, value, valueCode, times(valueOf(s), rat(1, 2)))
	}
}

func TestPromise5StreamsAreComparedByTheirValues(t *testing.T) {
	list := someStreams()
	for i, s := range list {
		for j, u := range list {
			if (i+j)%37 > 0 && streamText(s) != streamText(u) {
				continue
			}
			want := int64(valueOf(s).Cmp(valueOf(u)))
			if got, code := impl.CompareStreams(s, u); got != want || code != impl.OK {
				t.Errorf("CompareStreams of %s and %s: got %d with %d, want %d", streamText(s), streamText(u), got, code, want)
			}
		}
	}
}

func TestPromise5Ratios(t *testing.T) {
	ends := []int64{0, 1, -1, 2, -2, 3, 6, -6, 10, 1 << 30, 1<<31 - 1, 1 << 31, 1<<31 + 1, -1 << 31, -1<<31 - 1, 1 << 32, 3 << 31, 1<<62 - 1, 999999999999999999, 1000000000000000000, -1000000000000000000}
	d := draw(7)
	for range 40 {
		ends = append(ends, d.below(100)-50, (d.below(1<<32)-1<<31)*d.below(1000))
	}
	var made []impl.Ratio
	for _, p := range ends {
		for _, q := range ends {
			r, code := impl.MakeRatio(p, q)
			switch {
			case p < -1000000000000000000 || p > 1000000000000000000 || q > 1000000000000000000:
				wantTermCode(t, "MakeRatio of what is too large", code, impl.ErrLimit)
			case q == 0:
				wantTermCode(t, "MakeRatio by 0", code, impl.ErrState)
			default:
				wantRatio(t, "MakeRatio", r, code, rat(p, q))
			}
			if code == impl.OK {
				made = append(made, r)
			} else if r != (impl.Ratio{}) {
				t.Errorf("MakeRatio of %d and %d: got %v with %d", p, q, r, code)
			}
			if valid := q > 0 && q <= 1<<31 && code == impl.OK && r == frac(p, q); impl.ValidRatio(frac(p, q)) != valid {
				t.Errorf("ValidRatio of %d and %d: want %v", p, q, valid)
			}
		}
	}
	for i, r := range made {
		if !impl.ValidRatio(r) {
			t.Errorf("%v is valid", r)
		}
		s := made[(i*37+5)%len(made)]
		if got, code := impl.CompareRatios(r, s); got != int64(ratOf(r).Cmp(ratOf(s))) || code != impl.OK {
			t.Errorf("CompareRatios of %v and %v: got %d with %d", r, s, got, code)
		}
		if got, code := impl.CompareRatios(r, r); got != 0 || code != impl.OK {
			t.Errorf("CompareRatios of %v and itself: got %d with %d", r, got, code)
		}
	}
}

func TestPromise5StreamsAreReadFromTheirTexts(t *testing.T) {
	for _, s := range someStreams() {
		text := impl.StreamText(s)
		if text != streamText(s) {
			t.Errorf("StreamText of %v: got %q", s, text)
		}
		if back, code := impl.ReadStream(text); code != impl.OK || !impl.SameStream(back, s) {
			t.Errorf("ReadStream of %q: got %v with %d", text, back, code)
		}
	}
}
