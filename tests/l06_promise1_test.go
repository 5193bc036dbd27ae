package tests

import (
	"math"
	"runtime"
	"slices"
	"strings"
	"sync"
	"testing"
	"time"

	"loop.example/g01231/impl"
)

// wildSections are sections and what is none.
func wildSections() []impl.Section {
	list := []impl.Section{oddSection(), zeroSection(), sectionBy(1, 1, 1), sectionBy(4, 3, 2), sectionBy(1, 16, 3), sectionBy(16, 16, 4), {},
		sectionOf(2, 2, 1, 2, 3), sectionOf(2, 2, 1, 2, 3, 4, 5), sectionOf(17, 1, ones[float32](17)...), sectionOf(-1, -1, 1)}
	return append(list, impl.Section{Wide: 1 << 32, Deep: 1 << 32}, impl.Section{Wide: math.MaxInt64, Deep: math.MinInt64, Values: ones[float32](3)})
}

func wildPaths() []impl.Path {
	return append(edgePaths()[:40:40], noPathsOfSections()[:12]...)
}

func wildPathLists() [][]impl.Path {
	return [][]impl.Path{nil, {}, pathsBy(1, 1), pathsBy(7, 2), pathsBy(32, 3), pathsBy(33, 4), edgePaths()[10:40], paths(pathOf(0, 0, 1, 1), pathOf(0, 0, 1001, 1)),
		paths(pathOf(0, 0, 1, notNumber()))}
}

func wildSides() []int64 {
	return []int64{0, 1, 2, 15, 16, 17, -1, 256, 1 << 32, math.MaxInt64, math.MinInt64}
}

func sectionsTranscript() string {
	var b strings.Builder
	say := func(results ...any) { b.WriteString(show(results...)) }
	for _, s := range wildSections() {
		say(impl.ValidSection(s))
		say(impl.EdgeSection(s))
		say(impl.StrongCell(s))
		for _, x := range someNumbers() {
			say(impl.ScaleSection(s, x))
			say(impl.SmoothSection(s, x))
			say(impl.SpreadSection(s, x))
			say(impl.GatherSection(s, x))
			say(impl.PutValue(s, 0, 0, x))
		}
		for _, other := range wildSections() {
			say(impl.SameSection(s, other))
			say(impl.AddSections(s, other))
			say(impl.SectionDot(s, other))
		}
		for _, n := range wildSides() {
			say(impl.FitSection(s, 1.3, n))
			say(impl.FitSection(s, num(1), n))
			for _, m := range wildSides() {
				say(impl.PutValue(s, n, m, 7))
				say(impl.FlatSection(n, m, 7))
			}
		}
	}
	return b.String()
}

func pathsTranscript() string {
	var b strings.Builder
	say := func(results ...any) { b.WriteString(show(results...)) }
	for _, p := range wildPaths() {
		say(impl.IsPath(p))
		for _, n := range wildSides() {
			say(impl.LengthsOf(n, 4, p, 9))
			say(impl.LengthsOf(4, n, p, 9))
			say(impl.LengthsOf(4, 4, p, n))
		}
		for _, s := range wildSections() {
			for _, parts := range []int64{-1, 0, 1, 9, 256, 257} {
				say(impl.TimeAlong(s, p, parts))
				say(impl.PullPath(s, p, 3, parts, 0.7))
			}
		}
	}
	return b.String()
}

func pathListsTranscript() string {
	var b strings.Builder
	say := func(results ...any) { b.WriteString(show(results...)) }
	for _, list := range wildPathLists() {
		for _, n := range wildSides() {
			for _, m := range wildSides() {
				say(impl.HitsOf(n, m, list, 9))
			}
		}
		for _, s := range wildSections() {
			for _, n := range []int64{-1, 0, 1, 9, 40, 41, 256, 257, math.MaxInt64, math.MinInt64} {
				say(impl.TimesAlong(s, list, n))
				for _, times := range [][]float32{nil, wavy(len(list), 1), wavy(len(list)+1, 1), filled(len(list), notNumber())} {
					say(impl.OffTimes(s, list, times, n))
					say(impl.PullPaths(s, list, times, n, 0.7, 2))
					say(impl.PullPaths(s, list, times, 9, 0.7, n))
				}
			}
		}
	}
	return b.String()
}

// A panic or a loop without an end fails this test, too.
func TestEqualPicturesHaveEqualResults(t *testing.T) {
	areRepeated(t, sectionsTranscript, pathsTranscript, pathListsTranscript)
}

// areSideBySide checks that calls that are made side by side have the results that
// they have alone.
func areSideBySide(t *testing.T, tell func() string) {
	t.Helper()
	alone := tell()
	var group sync.WaitGroup
	for range 16 {
		group.Add(1)
		go func() {
			defer group.Done()
			for range 10 {
				isShown(t, "side by side", tell(), alone)
			}
		}()
	}
	group.Wait()
}

func TestPicturesSideBySide(t *testing.T) {
	s, list, times := sectionBy(9, 9, 1), pathsBy(32, 2), wavy(32, 3)
	areSideBySide(t, func() string {
		return show(impl.TimesAlong(s, list, 40)) + show(impl.PullPaths(s, list, times, 40, 0.5, 3)) +
			show(impl.OffTimes(s, list, times, 40)) + show(impl.HitsOf(9, 9, list, 40)) + show(impl.FitSection(s, 1.3, 3))
	})
}

// endGoroutines checks that calls leave no goroutine behind them.
func endGoroutines(t *testing.T, calls func()) {
	t.Helper()
	before := runtime.NumGoroutine()
	calls()
	// One that has told all may take a moment to end.
	for range 200 {
		if runtime.NumGoroutine() <= before {
			return
		}
		time.Sleep(5 * time.Millisecond)
	}
	t.Errorf("got %d goroutines, and %d before", runtime.NumGoroutine(), before)
}

func TestPicturesEndTheirGoroutines(t *testing.T) {
	endGoroutines(t, func() {
		for range 100 {
			for _, list := range wildPathLists() {
				impl.TimesAlong(sectionBy(4, 4, 1), list, 5)
				impl.HitsOf(4, 4, list, 5)
				impl.OffTimes(sectionBy(4, 4, 1), list, make([]float32, len(list)), 5)
				impl.PullPaths(sectionBy(4, 4, 1), list, make([]float32, len(list)), 5, 1, 2)
			}
		}
	})
}

// callWithSections calls all functions with sections.
func callWithSections(s, other impl.Section, list []impl.Path, times []float32, x float32) {
	impl.ValidSection(s)
	impl.SameSection(s, other)
	impl.PutValue(s, 0, 0, x)
	impl.AddSections(s, other)
	impl.ScaleSection(s, x)
	impl.SectionDot(s, other)
	impl.SpreadSection(s, x)
	impl.GatherSection(s, x)
	impl.FitSection(s, x, 2)
	impl.EdgeSection(s)
	impl.SmoothSection(s, x)
	impl.StrongCell(s)
	for _, p := range list {
		impl.TimeAlong(s, p, 5)
		impl.PullPath(s, p, x, 5, 1)
	}
	impl.TimesAlong(s, list, 5)
	impl.PullPaths(s, list, times, 5, 1, 0)
	impl.PullPaths(s, list, times, 5, x, 2)
	impl.OffTimes(s, list, times, 5)
	impl.HitsOf(s.Wide, s.Deep, list, 5)
}

func TestSectionsAreNotModified(t *testing.T) {
	for _, wild := range append(wildSections(), someSections()...) {
		for _, other := range []impl.Section{wild, sectionBy(max(1, min(wild.Wide, 16)), max(1, min(wild.Deep, 16)), 9)} {
			for _, many := range wildPathLists() {
				s, o := wild, other
				s.Values, o.Values = roomy(wild.Values, 42), roomy(other.Values, 43)
				list, times := roomy(many, pathOf(44, 44, 44, 44)), roomy(wavy(len(many), 1), 45)
				before := whole(s.Values) + whole(o.Values) + whole(list) + whole(times)
				for _, x := range []float32{0.5, 1, -1, infinite()} {
					callWithSections(s, o, list, times, x)
				}
				if whole(s.Values)+whole(o.Values)+whole(list)+whole(times) != before {
					t.Errorf("a section, paths or times were modified: %.200s, %d paths", showSection(wild), len(many))
				}
			}
		}
	}
}

// sectionsTold are all results of chapter 6 that have lists of numbers.
func sectionsTold(s impl.Section) map[string]func() ([]float32, bool) {
	values := func(s impl.Section, ok bool) ([]float32, bool) { return s.Values, ok }
	crossing, outside := pathOf(0, 0.5, 3, 2.5), pathOf(50, 50, 60, 60)
	both := paths(crossing, outside)
	return map[string]func() ([]float32, bool){
		"FlatSection":   func() ([]float32, bool) { return values(impl.FlatSection(3, 3, 5)) },
		"PutValue":      func() ([]float32, bool) { return values(impl.PutValue(s, 1, 1, 5)) },
		"PutValue same": func() ([]float32, bool) { return values(impl.PutValue(s, 0, 0, s.Values[0])) },
		"AddSections":   func() ([]float32, bool) { return values(impl.AddSections(s, s)) },
		"ScaleSection":  func() ([]float32, bool) { return values(impl.ScaleSection(s, 1)) },
		"SpreadSection": func() ([]float32, bool) { return values(impl.SpreadSection(s, 1)) },
		"GatherSection": func() ([]float32, bool) { return values(impl.GatherSection(s, 1)) },
		"FitSection": func() ([]float32, bool) {
			found, _, ok := impl.FitSection(s, 1, 3)
			return found.Values, ok
		},
		"FitSection left": func() ([]float32, bool) {
			_, left, ok := impl.FitSection(s, 1, 3)
			return left, ok
		},
		"FitSection 0": func() ([]float32, bool) {
			found, _, ok := impl.FitSection(s, 1, 0)
			return found.Values, ok
		},
		"EdgeSection":        func() ([]float32, bool) { return values(impl.EdgeSection(s)) },
		"SmoothSection":      func() ([]float32, bool) { return values(impl.SmoothSection(s, 0)) },
		"LengthsOf":          func() ([]float32, bool) { return impl.LengthsOf(3, 3, crossing, 5) },
		"TimesAlong":         func() ([]float32, bool) { return impl.TimesAlong(s, both, 5) },
		"PullPath":           func() ([]float32, bool) { return values(impl.PullPath(s, crossing, 9, 5, 1)) },
		"PullPath outside":   func() ([]float32, bool) { return values(impl.PullPath(s, outside, 9, 5, 1)) },
		"PullPaths":          func() ([]float32, bool) { return values(impl.PullPaths(s, both, nums(1, 2), 5, 1, 3)) },
		"PullPaths 0":        func() ([]float32, bool) { return values(impl.PullPaths(s, both, nums(1, 2), 5, 1, 0)) },
		"PullPaths outside":  func() ([]float32, bool) { return values(impl.PullPaths(s, paths(outside), nums(1), 5, 1, 3)) },
		"PullPaths no share": func() ([]float32, bool) { return values(impl.PullPaths(s, both, nums(1, 2), 5, 0, 1)) },
	}
}

func TestResultsOfSectionsShareNoMemory(t *testing.T) {
	s := sectionBy(3, 3, 5)
	s.Values = slices.Clip(s.Values)
	before := show(s)
	for what, tell := range sectionsTold(s) {
		isAlone(t, what, tell)
		isShown(t, what, show(s), before)
	}
	found, left, _ := impl.FitSection(s, 1, 5)
	want := show(found)
	spoil(left, 42)
	isShown(t, "FitSection", show(found), want)
	list := paths(pathOf(0, 0.5, 3, 2.5))
	first, _ := impl.HitsOf(3, 3, list, 5)
	second, _ := impl.HitsOf(3, 3, list, 5)
	want = show(second)
	spoil(first, 42)
	isShown(t, "HitsOf", show(second), want)
}

func TestNilAndEmptySectionsAreTheSame(t *testing.T) {
	empty, none, s := impl.Section{Values: []float32{}}, impl.Section{}, sectionBy(2, 2, 1)
	isShown(t, "SameSection", show(impl.SameSection(empty, none), impl.ValidSection(empty), impl.ValidSection(none)), "true;false;false;")
	isShown(t, "AddSections", show(impl.AddSections(empty, none)), show(impl.AddSections(none, empty)))
	isShown(t, "TimesAlong", show(impl.TimesAlong(s, paths(), 5)), show(impl.TimesAlong(s, nil, 5)))
	isShown(t, "HitsOf", show(impl.HitsOf(2, 2, []impl.Path{}, 5)), show(impl.HitsOf(2, 2, nil, 5)))
	isShown(t, "OffTimes", show(impl.OffTimes(s, []impl.Path{}, nil, 5)), show(impl.OffTimes(s, nil, []float32{}, 5)))
	isShown(t, "PullPaths", show(impl.PullPaths(s, []impl.Path{}, nil, 5, 1, 1)), show(impl.PullPaths(s, nil, []float32{}, 5, 1, 1)))
	one := pathsBy(1, 1)
	isShown(t, "no times", show(impl.OffTimes(s, one, nil, 5)), show(impl.OffTimes(s, one, []float32{}, 5)))
	isShown(t, "no times", show(impl.PullPaths(s, one, nil, 5, 1, 1)), show(impl.PullPaths(s, one, []float32{}, 5, 1, 1)))
}
