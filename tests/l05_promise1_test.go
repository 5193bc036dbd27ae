package tests

import (
	"math"
	"strings"
	"testing"

	"loop.example/g01231/impl"
)

// wildFilters are traces, autos, filters, and what is none.
func wildFilters() [][]float32 {
	lists := append(wildTraces(), shortTraces()...)
	return append(lists, powersBy(2, 0.5), powersBy(23, 0.5), powersBy(24, 0.5), powersBy(25, 0.5), autoBy(24, 1), autoBy(7, 2))
}

func wildGaps() []int64 {
	return []int64{0, 1, 2, 12, 16, 17, 23, 24, 25, 128, 129, -1, -128, 1 << 32, math.MaxInt64, math.MinInt64}
}

// filtersTranscript has the results of the functions with one list.
func filtersTranscript() string {
	var b strings.Builder
	say := func(results ...any) { b.WriteString(show(results...)) }
	for _, a := range wildFilters() {
		say(impl.ReflectionsOf(a))
		say(impl.FilterOfReflections(a))
		say(impl.DifferTrace(a))
		say(impl.IntegrateTrace(a))
		for _, n := range wildGaps() {
			say(impl.AutoOf(a, n))
			say(impl.ErrorFilter(a, n))
			say(impl.InverseOf(a, n))
			say(impl.SmoothTrace(a, n))
			say(impl.RoughTrace(a, n))
			say(impl.TaperTrace(a, n))
			say(impl.GainTrace(a, n))
		}
		for _, x := range someNumbers() {
			say(impl.WhiteAuto(a, x))
			say(impl.NotchTrace(a, x))
		}
	}
	return b.String()
}

func filterPairsTranscript() string {
	var b strings.Builder
	say := func(results ...any) { b.WriteString(show(results...)) }
	for _, x := range wildFilters() {
		for _, y := range wildFilters() {
			say(impl.SolveToeplitz(x, y))
			say(impl.TimesToeplitz(x, y))
			say(impl.ApplyFilter(x, y))
			for _, n := range []int64{-1, 0, 1, 3, 24, math.MaxInt64} {
				say(impl.CrossOf(x, y, n))
				say(impl.ShapeFilter(x, y, n, 0.1))
				say(impl.BestShift(x, y, n))
			}
		}
	}
	return b.String()
}

func gapsTranscript() string {
	var b strings.Builder
	say := func(results ...any) { b.WriteString(show(results...)) }
	for _, a := range wildFilters() {
		for _, n := range wildGaps() {
			for _, x := range []float32{0, 0.1, -1, infinite(), notNumber(), math.MaxFloat32} {
				say(impl.SpikeFilter(a, n, x))
				for _, m := range []int64{0, 1, 3, 12, 24, -1, math.MaxInt64, math.MinInt64} {
					say(impl.PredictionOf(a, n, m, x))
					say(impl.DropPredicted(a, n, m, x))
					say(impl.PickFirst(a, m, n, x))
				}
			}
			for _, m := range wildGaps() {
				say(impl.MuteTrace(a, n, m))
			}
		}
	}
	return b.String()
}

// A panic or a loop without an end fails this test, too.
func TestEqualFiltersHaveEqualResults(t *testing.T) {
	areRepeated(t, filtersTranscript, filterPairsTranscript, gapsTranscript)
}

// callWithFilters calls all functions of chapter 5.
func callWithFilters(a, b []float32, n int64, x float32) {
	impl.AutoOf(a, n)
	impl.CrossOf(a, b, n)
	impl.WhiteAuto(a, x)
	impl.SolveToeplitz(a, b)
	impl.TimesToeplitz(a, b)
	impl.ReflectionsOf(a)
	impl.FilterOfReflections(a)
	impl.PredictionOf(a, n, 2, x)
	impl.ErrorFilter(a, n)
	impl.ApplyFilter(a, b)
	impl.DropPredicted(a, n, 2, x)
	impl.ShapeFilter(a, b, n, x)
	impl.SpikeFilter(a, n, x)
	impl.InverseOf(a, n)
	impl.SmoothTrace(a, n)
	impl.RoughTrace(a, n)
	impl.NotchTrace(a, x)
	impl.DifferTrace(a)
	impl.IntegrateTrace(a)
	impl.TaperTrace(a, n)
	impl.MuteTrace(a, 0, n)
	impl.GainTrace(a, n)
	impl.PickFirst(a, 1, n, x)
	impl.BestShift(a, b, n)
}

func TestFiltersAreNotModified(t *testing.T) {
	for _, list := range wildFilters() {
		for _, other := range [][]float32{list, {1}, {0.5, 1, 0.5}, wavy(24, 3), wavy(len(list), 4)} {
			a, b := roomy(list, 42), roomy(other, 43)
			before := whole(a) + whole(b)
			for _, n := range []int64{0, 1, 3, 16, 24, 128} {
				for _, x := range []float32{0, 0.5, 3, -1} {
					callWithFilters(a, b, n, x)
					callWithFilters(b, a, n, x)
				}
			}
			if whole(a)+whole(b) != before {
				t.Errorf("a list of %d numbers or one of %d was modified", len(list), len(other))
			}
		}
	}
}

// filtersTold are all results of chapter 5 that are lists of numbers.
func filtersTold(a []float32) map[string]func() ([]float32, bool) {
	return map[string]func() ([]float32, bool){
		"AutoOf":        func() ([]float32, bool) { return impl.AutoOf(a, 5) },
		"CrossOf":       func() ([]float32, bool) { return impl.CrossOf(a, a, 5) },
		"WhiteAuto":     func() ([]float32, bool) { return impl.WhiteAuto(a, 0) },
		"SolveToeplitz": func() ([]float32, bool) { return impl.SolveToeplitz(a, a) },
		"TimesToeplitz": func() ([]float32, bool) { return impl.TimesToeplitz(a, a) },
		"ReflectionsOf": func() ([]float32, bool) {
			list, _, ok := impl.ReflectionsOf(a)
			return list, ok
		},
		"FilterOfReflections": func() ([]float32, bool) { return impl.FilterOfReflections(a) },
		"FilterOfNone":        func() ([]float32, bool) { return impl.FilterOfReflections(nil) },
		"PredictionOf":        func() ([]float32, bool) { return impl.PredictionOf(a, 2, 3, 0.1) },
		"ErrorFilter":         func() ([]float32, bool) { return impl.ErrorFilter(a, 1) },
		"ApplyFilter":         func() ([]float32, bool) { return impl.ApplyFilter(a, []float32{1}) },
		"DropPredicted":       func() ([]float32, bool) { return impl.DropPredicted(a, 2, 3, 0.1) },
		"ShapeFilter":         func() ([]float32, bool) { return impl.ShapeFilter(a, a, 3, 0.1) },
		"SpikeFilter":         func() ([]float32, bool) { return impl.SpikeFilter(a, 3, 0.1) },
		"InverseOf":           func() ([]float32, bool) { return impl.InverseOf(a, 9) },
		"SmoothTrace 0":       func() ([]float32, bool) { return impl.SmoothTrace(a, 0) },
		"SmoothTrace":         func() ([]float32, bool) { return impl.SmoothTrace(a, 2) },
		"RoughTrace":          func() ([]float32, bool) { return impl.RoughTrace(a, 2) },
		"NotchTrace":          func() ([]float32, bool) { return impl.NotchTrace(a, 0.1) },
		"DifferTrace":         func() ([]float32, bool) { return impl.DifferTrace(a) },
		"IntegrateTrace":      func() ([]float32, bool) { return impl.IntegrateTrace(a) },
		"TaperTrace":          func() ([]float32, bool) { return impl.TaperTrace(a, 0) },
		"MuteTrace":           func() ([]float32, bool) { return impl.MuteTrace(a, 2, 2) },
		"GainTrace":           func() ([]float32, bool) { return impl.GainTrace(a, 3) },
	}
}

func TestResultsOfFiltersShareNoMemory(t *testing.T) {
	a := powersBy(9, 0.5)
	before := show(a)
	for what, tell := range filtersTold(a) {
		isAlone(t, what, tell)
		isShown(t, what, show(a), before)
	}
}

func TestNilAndEmptyFiltersAreTheSame(t *testing.T) {
	empty, full := []float32{}, []float32{1, 0.5}
	for _, n := range wildGaps() {
		isShown(t, "AutoOf", show(impl.AutoOf(empty, n)), show(impl.AutoOf(nil, n)))
		isShown(t, "ErrorFilter", show(impl.ErrorFilter(empty, n)), show(impl.ErrorFilter(nil, n)))
		isShown(t, "InverseOf", show(impl.InverseOf(empty, n)), show(impl.InverseOf(nil, n)))
		isShown(t, "SmoothTrace", show(impl.SmoothTrace(empty, n)), show(impl.SmoothTrace(nil, n)))
		isShown(t, "TaperTrace", show(impl.TaperTrace(empty, n)), show(impl.TaperTrace(nil, n)))
		isShown(t, "MuteTrace", show(impl.MuteTrace(empty, 0, n)), show(impl.MuteTrace(nil, 0, n)))
		isShown(t, "GainTrace", show(impl.GainTrace(empty, n)), show(impl.GainTrace(nil, n)))
		isShown(t, "PickFirst", show(impl.PickFirst(empty, n, n, -1)), show(impl.PickFirst(nil, n, n, -1)))
		isShown(t, "BestShift", show(impl.BestShift(empty, full, n)), show(impl.BestShift(nil, full, n)))
	}
	isShown(t, "WhiteAuto", show(impl.WhiteAuto(empty, 0)), show(impl.WhiteAuto(nil, 0)))
	isShown(t, "ReflectionsOf", show(impl.ReflectionsOf(empty)), show(impl.ReflectionsOf(nil)))
	isShown(t, "FilterOfReflections", show(impl.FilterOfReflections(empty)), show(impl.FilterOfReflections(nil)))
	for _, other := range [][]float32{nil, empty, full} {
		isShown(t, "SolveToeplitz", show(impl.SolveToeplitz(empty, other)), show(impl.SolveToeplitz(nil, other)))
		isShown(t, "SolveToeplitz", show(impl.SolveToeplitz(other, empty)), show(impl.SolveToeplitz(other, nil)))
		isShown(t, "TimesToeplitz", show(impl.TimesToeplitz(empty, other)), show(impl.TimesToeplitz(nil, other)))
		isShown(t, "ApplyFilter", show(impl.ApplyFilter(empty, other)), show(impl.ApplyFilter(nil, other)))
		isShown(t, "ShapeFilter", show(impl.ShapeFilter(empty, other, 1, 0)), show(impl.ShapeFilter(nil, other, 1, 0)))
	}
}
