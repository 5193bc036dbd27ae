package tests

import (
	"math"
	"strings"
	"testing"

	"loop.example/g01231/impl"
)

// roomy returns a copy of a list with spare capacity that is full of marks.
func roomy[T any](list []T, mark T) []T {
	room := append([]T(nil), list...)
	for range 5 {
		room = append(room, mark)
	}
	return room[:len(list)]
}

// whole shows a list together with its spare capacity.
func whole[T any](list []T) string {
	return show(list[:cap(list)])
}

func wildIntegers() []int64 {
	return []int64{0, 1, -1, 7, 64, 256, 65002, 65003, impl.MaxValue, impl.MaxValue + 1, -impl.MaxValue, -impl.MaxValue - 1,
		4294967295, 4294967296, nanBits, math.MaxInt64, math.MinInt64}
}

func wildLongs() []float64 {
	list := []float64{math.NaN(), math.Float64frombits(0x7ff0000000000001), math.Inf(1), math.Inf(-1), math.MaxFloat64, -math.MaxFloat64,
		5e-324, -5e-324, 1 << 52, -(1 << 52), 1<<52 - 0.5, 1 << 63, math.Copysign(0, -1), 0.1, -1e-20}
	for _, x := range someNumbers() {
		list = append(list, float64(x))
	}
	return list
}

func wildTexts() []string {
	return []string{"", "none", "3f800000", "7fc00000,ffffffff", "3f80000000000000", "1,2", "-5", "ring", ",", "\xff\x00\xc0", "äöü",
		strings.Repeat("3f800000,", 100000), strings.Repeat("9", 100000), strings.Repeat("\n", 1000), "1000000000000000"}
}

func wildNumberLists() [][]float32 {
	return [][]float32{nil, {}, {1}, {0.1, -3, num(0x80000000)}, someNumbers(), ones[float32](256), ones[float32](257), ones[float32](1000)}
}

func wildComplexLists() [][]complex64 {
	return [][]complex64{nil, {}, {1}, {complex(0.1, -3), cnum(0x80000000, 1)}, someComplex()[:200], ones[complex64](256), ones[complex64](257),
		ones[complex64](1000)}
}

func numbersTranscript() string {
	var b strings.Builder
	say := func(results ...any) { b.WriteString(show(results...)) }
	both := func(x any, ok bool) { say(x, ok) }
	for _, x := range someNumbers() {
		say(impl.IsFinite(x), impl.BitsOf(x), impl.IsSubnormal(x), impl.FlushNumber(x), impl.SineTurns(x), impl.RootNumber(x))
		both(impl.TenthsOf(x))
		for _, y := range someNumbers() {
			say(impl.SameNumber(x, y), impl.AngleTurns(x, y))
		}
	}
	for _, x := range wildLongs() {
		say(impl.NarrowNumber(x), impl.PhasorOf(x))
		for _, y := range wildLongs() {
			say(impl.NarrowComplex(complex(x, y)))
		}
	}
	for _, n := range wildIntegers() {
		both(impl.FromBits(n))
		say(impl.Decimal(n))
	}
	return b.String()
}

func complexTranscript() string {
	var b strings.Builder
	say := func(results ...any) { b.WriteString(show(results...)) }
	few := someComplex()
	for i, x := range few {
		say(impl.IsFiniteComplex(x), impl.ConjugateOf(x), impl.PowerOf(x), impl.LongOf(x), impl.AngleOf(x))
		for k := i % 7; k < len(few); k += 7 {
			y := few[k]
			say(impl.SameComplex(x, y), impl.MulComplex(x, y), impl.QuotientOf(x, y), impl.ScaleComplex(x, real(y)))
		}
	}
	return b.String()
}

func textsTranscript() string {
	var b strings.Builder
	both := func(x any, ok bool) { b.WriteString(show(x, ok)) }
	for _, s := range wildTexts() {
		both("name", impl.IsName(s))
		both(impl.ReadNumbers(s))
		both(impl.ReadComplex(s))
		both(impl.ReadDecimal(s))
		both(impl.ReadList(s))
		for _, n := range wildIntegers() {
			both(impl.CheckOf(n, s))
		}
	}
	return b.String()
}

func listsTranscript() string {
	var b strings.Builder
	both := func(x any, ok bool) { b.WriteString(show(x, ok)) }
	for _, x := range wildNumberLists() {
		both(impl.SumNumbers(x))
		both(impl.NumbersText(x))
		for _, y := range wildNumberLists() {
			both(impl.DotNumbers(x, y))
		}
	}
	for _, x := range wildComplexLists() {
		both(impl.SumComplex(x))
		both(impl.PowersOf(x))
		both(impl.ComplexText(x))
		for _, y := range wildComplexLists() {
			both(impl.DotComplex(x, y))
			both(impl.DotConjugate(x, y))
		}
	}
	for _, list := range [][]int64{nil, {}, wildIntegers(), ones[int64](64), ones[int64](65), ones[int64](1000)} {
		both(impl.ListText(list))
	}
	return b.String()
}

// areRepeated checks that functions of equal arguments return equal results.
func areRepeated(t *testing.T, transcripts ...func() string) {
	t.Helper()
	for _, transcript := range transcripts {
		first := transcript()
		if second := transcript(); first == "" || first != second {
			t.Errorf("equal arguments have different results: %.200s", second)
		}
	}
}

// A panic or a loop without an end fails these tests, too.
func TestEqualArgumentsHaveEqualResults(t *testing.T) {
	areRepeated(t, numbersTranscript, complexTranscript, textsTranscript, listsTranscript)
}

func TestListsOfNumbersAreNotModified(t *testing.T) {
	for _, list := range wildNumberLists() {
		a, b := roomy(list, 42), roomy(list, 43)
		before := whole(a) + whole(b)
		impl.SumNumbers(a)
		impl.DotNumbers(a, b)
		impl.NumbersText(a)
		if whole(a)+whole(b) != before {
			t.Errorf("a list of %d numbers was modified", len(list))
		}
	}
}

func TestListsOfComplexNumbersAreNotModified(t *testing.T) {
	for _, list := range wildComplexLists() {
		a, b := roomy(list, 42), roomy(list, 43)
		before := whole(a) + whole(b)
		impl.SumComplex(a)
		impl.DotComplex(a, b)
		impl.DotConjugate(a, b)
		impl.PowersOf(a)
		impl.ComplexText(a)
		if whole(a)+whole(b) != before {
			t.Errorf("a list of %d complex numbers was modified", len(list))
		}
	}
}

func TestListsOfIntegersAreNotModified(t *testing.T) {
	for _, list := range [][]int64{nil, wildIntegers(), {3, 1, 2}, ones[int64](64), ones[int64](65)} {
		a := roomy(list, 42)
		before := whole(a)
		impl.ListText(a)
		if whole(a) != before {
			t.Errorf("a list of %d integers was modified", len(list))
		}
	}
}

// spoil overwrites a result and its spare capacity.
func spoil[T any](list []T, mark T) {
	list = list[:cap(list)]
	for i := range list {
		list[i] = mark
	}
}

// isAlone checks that what is told is a list of its own each time.
func isAlone(t *testing.T, what string, tell func() ([]float32, bool)) {
	t.Helper()
	first, ok := tell()
	second, _ := tell()
	want := show(second)
	isShown(t, what, show(len(first) > 0, ok), "true;true;")
	spoil(first, 42)
	isShown(t, what, show(second), want)
	third, _ := tell()
	isShown(t, what, show(third), want)
}

func TestResultsShareNoMemory(t *testing.T) {
	a, _ := impl.ReadNumbers("3f800000,c0000000")
	b, _ := impl.ReadNumbers("3f800000,c0000000")
	spoil(a, 42)
	isShown(t, "ReadNumbers", show(b), show([]float32{1, -2}))

	c, _ := impl.ReadComplex("3f80000000000000,00000000c0000000")
	d, _ := impl.ReadComplex("3f80000000000000,00000000c0000000")
	spoil(c, 42)
	isShown(t, "ReadComplex", show(d), show([]complex64{1, complex(0, -2)}))

	e, _ := impl.ReadList("5,-6")
	f, _ := impl.ReadList("5,-6")
	spoil(e, 42)
	isShown(t, "ReadList", show(f), show([]int64{5, -6}))
}

func TestNilAndEmptyListsAreTheSame(t *testing.T) {
	for _, empty := range []bool{false, true} {
		var a []float32
		var b []complex64
		var c []int64
		if empty {
			a, b, c = []float32{}, []complex64{}, []int64{}
		}
		sum, one := impl.SumNumbers(a)
		dot, two := impl.DotNumbers(a, nil)
		csum, three := impl.SumComplex(b)
		powers, four := impl.PowersOf(b)
		con, five := impl.DotConjugate(nil, b)
		text, six := impl.NumbersText(a)
		ctext, seven := impl.ComplexText(b)
		list, eight := impl.ListText(c)
		got := show(sum, one, dot, two, csum, three, powers, four, con, five, text, six, ctext, seven, list, eight)
		zero, czero := float32(0), complex64(0)
		isShown(t, "empty lists", got, show(zero, true, zero, true, czero, true, zero, true, czero, true, "none", true, "none", true, "none", true))
	}
}
