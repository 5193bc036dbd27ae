package tests

import (
	"math"
	"strings"
	"testing"

	"loop.example/g01231/impl"
)

// wildGathers are gathers and what is none.
func wildGathers() []impl.Gather {
	list := append([]impl.Gather{zeroGather(), oddGather(), gatherBy(1, 1, 1), gatherBy(2, 3, 2), gatherBy(7, 16, 3), gatherBy(64, 2, 4)}, noGathers()...)
	return append(list, impl.Gather{Ticks: 3, Places: []float32{1, 2}, Traces: [][]float32{nil, {}}},
		impl.Gather{Ticks: math.MaxInt64, Places: make([]float32, 100), Traces: make([][]float32, 100)})
}

func wildLists() [][]float32 {
	return append(noLists(), []float32{1}, []float32{0, minusZero()}, []float32{0.3, -1, 2}, wavy(7, 1), someNumbers(), wavy(64, 2))
}

func wildTicks() []int64 {
	return []int64{0, 1, 6, 63, 64, 65, -1, -64, -65, math.MaxInt64, math.MinInt64}
}

func listsTranscriptOfGathers() string {
	var b strings.Builder
	say := func(results ...any) { b.WriteString(show(results...)) }
	for _, list := range wildLists() {
		for _, n := range wildTicks() {
			say(impl.FlatGather(n, list))
		}
		for _, x := range someNumbers() {
			say(impl.SampleBetween(list, x))
			say(impl.MoveTrace(list, x))
			for _, y := range someNumbers() {
				say(impl.CorrectTrace(list, x, y))
				say(impl.BendTrace(list, x, y))
				say(impl.StretchAt(float32(len(list)), x, y))
			}
		}
	}
	return b.String()
}

func gathersTranscript() string {
	var b strings.Builder
	say := func(results ...any) { b.WriteString(show(results...)) }
	for _, g := range wildGathers() {
		say(impl.ValidGather(g))
		say(impl.StackOf(g))
		say(impl.LiveStack(g))
		say(impl.SortGather(g))
		say(impl.NormGather(g))
		for _, x := range someNumbers() {
			say(impl.CorrectGather(g, x))
			say(impl.BendGather(g, x))
			say(impl.MuteGather(g, x))
			for _, y := range someNumbers() {
				say(impl.AddEvent(g, x, y, x))
				say(impl.MuteStretch(g, x, y))
				say(impl.KeepPlaces(g, x, y))
			}
		}
		for _, h := range wildGathers() {
			say(impl.SameGather(g, h))
			say(impl.MergeGathers(g, h))
		}
	}
	return b.String()
}

func scansTranscript() string {
	var b strings.Builder
	say := func(results ...any) { b.WriteString(show(results...)) }
	for _, g := range wildGathers() {
		for _, n := range wildTicks() {
			say(impl.ShiftGather(g, []int64{n}))
			say(impl.ShiftGather(g, []int64{n, -1, n}))
			for _, list := range wildLists() {
				say(impl.ShiftsOf(g, list, n))
			}
			for _, m := range wildTicks() {
				say(impl.SemblanceAt(g, n, m))
				for _, speeds := range [][]float32{nil, {1, 2}, {0.5, 0}, {notNumber()}, ones[float32](16), ones[float32](17)} {
					say(impl.ScanSpeeds(g, speeds, n, m))
					say(impl.BestSpeed(g, speeds, n, m))
				}
			}
		}
	}
	return b.String()
}

// A panic or a loop without an end fails this test, too.
func TestEqualGathersHaveEqualResults(t *testing.T) {
	areRepeated(t, listsTranscriptOfGathers, gathersTranscript, scansTranscript)
}

// roomyGather is a copy of a gather all of whose lists have spare capacity.
func roomyGather(g impl.Gather) impl.Gather {
	traces := make([][]float32, len(g.Traces))
	for i, trace := range g.Traces {
		traces[i] = roomy(trace, 42)
	}
	g.Places, g.Traces = roomy(g.Places, 43), roomy(traces, []float32{44, 45})
	return g
}

// wholeGather shows a gather together with the spare capacity of its lists.
func wholeGather(g impl.Gather) string {
	text := show(g.Ticks) + whole(g.Places)
	for _, trace := range g.Traces[:cap(g.Traces)] {
		text += whole(trace) + "/"
	}
	return text
}

// callWithGathers calls all functions with gathers.
func callWithGathers(g, h impl.Gather, list []float32, shifts []int64, x float32) {
	impl.ValidGather(g)
	impl.SameGather(g, h)
	impl.AddEvent(g, x, x, x)
	impl.CorrectGather(g, x)
	impl.BendGather(g, x)
	impl.MuteGather(g, x)
	impl.MuteStretch(g, x, x)
	impl.StackOf(g)
	impl.LiveStack(g)
	impl.SemblanceAt(g, 0, 2)
	impl.ScanSpeeds(g, list, 0, 2)
	impl.BestSpeed(g, list, 0, 2)
	impl.ShiftsOf(g, list, 2)
	impl.ShiftGather(g, shifts)
	impl.SortGather(g)
	impl.KeepPlaces(g, -x, x)
	impl.MergeGathers(g, h)
	impl.NormGather(g)
}

func TestGathersAreNotModified(t *testing.T) {
	for _, wild := range append(wildGathers(), someGathers()...) {
		for _, other := range []impl.Gather{wild, gatherBy(int(max(1, min(wild.Ticks, 64))), 2, 9)} {
			g, h := roomyGather(wild), roomyGather(other)
			list, shifts := roomy(ones[float32](int(max(0, min(wild.Ticks, 64)))), 46), roomy(ones[int64](len(wild.Traces)), 47)
			before := wholeGather(g) + wholeGather(h) + whole(list) + whole(shifts)
			for _, x := range []float32{0, 0.5, 1, 3, 100, infinite(), notNumber()} {
				callWithGathers(g, h, list, shifts, x)
			}
			if wholeGather(g)+wholeGather(h)+whole(list)+whole(shifts) != before {
				t.Errorf("a gather was modified: %.200s", showGather(wild))
			}
		}
	}
}

func TestListsOfGathersAreNotModified(t *testing.T) {
	for _, wild := range wildLists() {
		list := roomy(wild, 42)
		before := whole(list)
		for _, x := range []float32{0, 0.5, 1, 3, 100, -2, infinite(), notNumber()} {
			impl.FlatGather(3, list)
			impl.SampleBetween(list, x)
			impl.MoveTrace(list, x)
			impl.CorrectTrace(list, x, 1)
			impl.BendTrace(list, x, 1)
			impl.CorrectTrace(list, 1, x)
			impl.BendTrace(list, 1, x)
		}
		if whole(list) != before {
			t.Errorf("a list of %d numbers was modified", len(wild))
		}
	}
}

// gathersTold are all results of chapter 4 that are gathers.
func gathersTold(g impl.Gather) map[string]func() (impl.Gather, bool) {
	shifts := make([]int64, len(g.Traces))
	return map[string]func() (impl.Gather, bool){
		"FlatGather":    func() (impl.Gather, bool) { return impl.FlatGather(5, g.Places) },
		"AddEvent":      func() (impl.Gather, bool) { return impl.AddEvent(g, 1, 3, 2) },
		"AddEvent none": func() (impl.Gather, bool) { return impl.AddEvent(g, 1000, 3, 2) },
		"CorrectGather": func() (impl.Gather, bool) { return impl.CorrectGather(g, 3) },
		"BendGather":    func() (impl.Gather, bool) { return impl.BendGather(g, 3) },
		"MuteGather":    func() (impl.Gather, bool) { return impl.MuteGather(g, 3) },
		"MuteStretch":   func() (impl.Gather, bool) { return impl.MuteStretch(g, 3, 0.5) },
		"ShiftGather":   func() (impl.Gather, bool) { return impl.ShiftGather(g, shifts) },
		"SortGather":    func() (impl.Gather, bool) { return impl.SortGather(g) },
		"KeepPlaces":    func() (impl.Gather, bool) { return impl.KeepPlaces(g, -100, 100) },
		"MergeGathers":  func() (impl.Gather, bool) { return impl.MergeGathers(g, g) },
		"NormGather":    func() (impl.Gather, bool) { return impl.NormGather(g) },
	}
}

// spoilGather overwrites all that a gather reaches, one list after another, and
// reports whether no list has changed by what was written to another one.
func spoilGather(g impl.Gather) bool {
	lists := append([][]float32{g.Places}, g.Traces...)
	for i, list := range lists {
		spoil(list, float32(100+i))
	}
	alone := true
	for i, list := range lists {
		for _, x := range list[:cap(list)] {
			alone = alone && x == float32(100+i)
		}
	}
	spoil(g.Traces, nil)
	return alone
}

func TestResultsOfGathersShareNoMemory(t *testing.T) {
	g := gatherBy(9, 5, 1)
	g.Traces[3] = make([]float32, 9)
	before := show(g)
	for what, tell := range gathersTold(g) {
		first, ok := tell()
		second, _ := tell()
		want := show(second)
		isShown(t, what, show(len(first.Traces) > 0, ok), "true;true;")
		isShown(t, what, show(spoilGather(first)), "true;")
		isShown(t, what, show(second), want)
		third, _ := tell()
		isShown(t, what, show(third), want)
		isShown(t, what, show(g), before)
	}
}

func TestListsOfGathersShareNoMemory(t *testing.T) {
	g, list := gatherBy(9, 5, 1), wavy(9, 2)
	before := show(g, list)
	for what, tell := range map[string]func() ([]float32, bool){
		"MoveTrace":    func() ([]float32, bool) { return impl.MoveTrace(list, 0) },
		"CorrectTrace": func() ([]float32, bool) { return impl.CorrectTrace(list, 0, 1) },
		"BendTrace":    func() ([]float32, bool) { return impl.BendTrace(list, 0, 1) },
		"StackOf":      func() ([]float32, bool) { return impl.StackOf(g) },
		"LiveStack":    func() ([]float32, bool) { return impl.LiveStack(g) },
		"ScanSpeeds":   func() ([]float32, bool) { return impl.ScanSpeeds(g, []float32{1, 2, 3}, 1, 2) },
	} {
		isAlone(t, what, tell)
		isShown(t, what, show(g, list), before)
	}
	first, _ := impl.ShiftsOf(g, list, 3)
	second, _ := impl.ShiftsOf(g, list, 3)
	want := show(second)
	spoil(first, 42)
	isShown(t, "ShiftsOf", show(second), want)
}

func TestNilAndEmptyListsOfGathersAreTheSame(t *testing.T) {
	empty, none := impl.Gather{Places: []float32{}, Traces: [][]float32{}}, impl.Gather{}
	g := gatherBy(3, 2, 1)
	isShown(t, "ValidGather", show(impl.ValidGather(empty), impl.ValidGather(none)), "false;false;")
	isShown(t, "FlatGather", show(impl.FlatGather(1, []float32{})), show(impl.FlatGather(1, nil)))
	isShown(t, "SampleBetween", show(impl.SampleBetween([]float32{}, 0)), show(impl.SampleBetween(nil, 0)))
	isShown(t, "MoveTrace", show(impl.MoveTrace([]float32{}, 0)), show(impl.MoveTrace(nil, 0)))
	isShown(t, "ScanSpeeds", show(impl.ScanSpeeds(g, []float32{}, 0, 0)), show(impl.ScanSpeeds(g, nil, 0, 0)))
	isShown(t, "ShiftsOf", show(impl.ShiftsOf(g, []float32{}, 0)), show(impl.ShiftsOf(g, nil, 0)))
	isShown(t, "ShiftGather", show(impl.ShiftGather(g, []int64{})), show(impl.ShiftGather(g, nil)))
	isShown(t, "MergeGathers", show(impl.MergeGathers(g, empty)), show(impl.MergeGathers(g, none)))
}
