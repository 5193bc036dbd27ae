package tests

import (
	"math"
	"strings"
	"testing"

	"loop.example/g01231/impl"
)

// wildTraces are traces and lists that are none.
func wildTraces() [][]float32 {
	lists := append(someTraces(), noTraces()...)
	return append(lists, []float32{0.5}, []float32{0.5, 0.2, -0.1}, filled(24, 0.3), filled(25, 0.3), filled(128, notNumber()), filled(64, infinite()))
}

func wildCounts() []int64 {
	return []int64{0, 1, 2, 16, 17, 24, 25, 127, 128, 129, -1, -128, -129, 2147483647, 2147483648, math.MaxInt64, math.MinInt64}
}

// tracesTranscript has the results of the functions with one trace.
func tracesTranscript() string {
	var b strings.Builder
	say := func(results ...any) { b.WriteString(show(results...)) }
	for _, a := range wildTraces() {
		say(impl.IsTrace(a), impl.AreCoefficients(a))
		say(impl.MirrorTrace(a))
		say(impl.EnergyOfTrace(a))
		say(impl.PeakOfTrace(a))
		say(impl.CoefficientsOf(a))
		for _, x := range someNumbers() {
			say(impl.ScaleTrace(a, x))
			say(impl.KeepTrace(a, x))
			say(impl.SpectrumAt(a, x))
			say(impl.HardnessOf(x, a))
			say(impl.AddSurface(a, x))
			say(impl.DropSurface(a, x))
		}
		for _, n := range wildCounts() {
			say(impl.ShiftTrace(a, n))
			say(impl.PrimariesOf(a, n))
		}
	}
	return b.String()
}

func pairsTranscript() string {
	var b strings.Builder
	say := func(results ...any) { b.WriteString(show(results...)) }
	for _, x := range wildTraces() {
		for _, y := range wildTraces() {
			say(impl.AddTraces(x, y))
			say(impl.LessTraces(x, y))
			say(impl.FoldTraces(x, y))
			say(impl.FoldAbout(x, y))
			say(impl.ShareOfSignal(x, y))
		}
	}
	return b.String()
}

func countsTranscript() string {
	var b strings.Builder
	say := func(results ...any) { b.WriteString(show(results...)) }
	for _, n := range wildCounts() {
		for _, x := range someNumbers() {
			say(impl.WaveletOf(n, x))
			for _, m := range wildCounts() {
				say(impl.PulseTrace(n, m, x))
				say(impl.NoiseTrace(n, m, x))
			}
			for _, a := range wildTraces() {
				say(impl.EchoesOf(a, x, n))
				say(impl.PeelTrace(a, x, n))
			}
		}
		for _, a := range wildTraces() {
			say(impl.SpectrumOfTrace(a, n))
		}
	}
	return b.String()
}

// A panic or a loop without an end fails this test, too.
func TestEqualTracesHaveEqualResults(t *testing.T) {
	areRepeated(t, tracesTranscript, pairsTranscript, countsTranscript)
}

// callWithTraces calls all functions with traces.
func callWithTraces(a, b []float32, n int64, x float32) {
	impl.IsTrace(a)
	impl.AddTraces(a, b)
	impl.LessTraces(a, b)
	impl.ScaleTrace(a, x)
	impl.ShiftTrace(a, n)
	impl.MirrorTrace(a)
	impl.FoldTraces(a, b)
	impl.FoldAbout(a, b)
	impl.EnergyOfTrace(a)
	impl.PeakOfTrace(a)
	impl.KeepTrace(a, x)
	impl.SpectrumAt(a, x)
	impl.SpectrumOfTrace(a, n)
	impl.AreCoefficients(a)
	impl.CoefficientsOf(a)
	impl.HardnessOf(x, a)
	impl.PrimariesOf(a, n)
	impl.EchoesOf(a, x, n)
	impl.PeelTrace(a, x, n)
	impl.AddSurface(a, x)
	impl.DropSurface(a, x)
	impl.ShareOfSignal(a, b)
}

func TestTracesAreNotModified(t *testing.T) {
	for _, list := range wildTraces() {
		for _, other := range [][]float32{list, {1}, {0.5, 1, 0.5}} {
			a, b := roomy(list, 42), roomy(other, 43)
			before := whole(a) + whole(b)
			for _, n := range []int64{0, 1, 3, 24, 128} {
				for _, x := range []float32{0, 0.5, -1, 1, 3} {
					callWithTraces(a, b, n, x)
				}
			}
			if whole(a)+whole(b) != before {
				t.Errorf("a list of %d numbers was modified", len(list))
			}
		}
	}
}

// tracesTold are all results of chapter 3 that are lists of numbers.
func tracesTold(a []float32) map[string]func() ([]float32, bool) {
	return map[string]func() ([]float32, bool){
		"PulseTrace":     func() ([]float32, bool) { return impl.PulseTrace(9, 4, 2) },
		"WaveletOf":      func() ([]float32, bool) { return impl.WaveletOf(4, 3) },
		"AddTraces":      func() ([]float32, bool) { return impl.AddTraces(a, a) },
		"LessTraces":     func() ([]float32, bool) { return impl.LessTraces(a, a) },
		"ScaleTrace":     func() ([]float32, bool) { return impl.ScaleTrace(a, 1) },
		"ShiftTrace":     func() ([]float32, bool) { return impl.ShiftTrace(a, 0) },
		"MirrorTrace":    func() ([]float32, bool) { return impl.MirrorTrace(a) },
		"FoldTraces":     func() ([]float32, bool) { return impl.FoldTraces(a, []float32{1}) },
		"FoldAbout":      func() ([]float32, bool) { return impl.FoldAbout(a, []float32{1}) },
		"KeepTrace":      func() ([]float32, bool) { return impl.KeepTrace(a, 1) },
		"CoefficientsOf": func() ([]float32, bool) { return impl.CoefficientsOf([]float32{1, 2, 1.5}) },
		"HardnessOf":     func() ([]float32, bool) { return impl.HardnessOf(1, a) },
		"PrimariesOf":    func() ([]float32, bool) { return impl.PrimariesOf(a, 20) },
		"EchoesOf":       func() ([]float32, bool) { return impl.EchoesOf(a, 1, 20) },
		"PeelTrace":      func() ([]float32, bool) { return impl.PeelTrace(a, 1, 3) },
		"AddSurface":     func() ([]float32, bool) { return impl.AddSurface(a, 0) },
		"DropSurface":    func() ([]float32, bool) { return impl.DropSurface(a, 0) },
		"NoiseTrace": func() ([]float32, bool) {
			noise, _, ok := impl.NoiseTrace(5, 9, 2)
			return noise, ok
		},
	}
}

func TestResultsOfTracesShareNoMemory(t *testing.T) {
	a := coefficientsUpTo(0.3, 9, 1)
	before := show(a)
	for what, tell := range tracesTold(a) {
		isAlone(t, what, tell)
		isShown(t, what, show(a), before)
	}
	first, _ := impl.SpectrumOfTrace(a, 5)
	second, _ := impl.SpectrumOfTrace(a, 5)
	want := show(second)
	spoil(first, 42)
	isShown(t, "SpectrumOfTrace", show(second), want)
}

func TestNilAndEmptyTracesAreTheSame(t *testing.T) {
	empty, full := []float32{}, []float32{0.5, 0.1}
	for _, n := range wildCounts() {
		for _, x := range []float32{0, 1, 0.5} {
			isShown(t, "EchoesOf", show(impl.EchoesOf(empty, x, n)), show(impl.EchoesOf(nil, x, n)))
			isShown(t, "PeelTrace", show(impl.PeelTrace(empty, x, n)), show(impl.PeelTrace(nil, x, n)))
		}
	}
	for _, other := range [][]float32{nil, empty, full} {
		isShown(t, "AddTraces", show(impl.AddTraces(empty, other)), show(impl.AddTraces(nil, other)))
		isShown(t, "FoldTraces", show(impl.FoldTraces(other, empty)), show(impl.FoldTraces(other, nil)))
		isShown(t, "FoldAbout", show(impl.FoldAbout(other, empty)), show(impl.FoldAbout(other, nil)))
		isShown(t, "ShareOfSignal", show(impl.ShareOfSignal(other, empty)), show(impl.ShareOfSignal(other, nil)))
	}
}
