package tests

import (
	"math"
	"slices"
	"strings"
	"testing"

	"loop.example/g01231/impl"
)

// wildFrames are frames and what is none.
func wildFrames() []impl.Frame {
	list := append(someFrames(), edgeFrames()...)
	list = append(list, noFramesAtAll()...)
	return append(list, frameOf(3, 4, someNumbers()...), frameOf(math.MaxInt64, math.MinInt64, 1), frameOf(math.MinInt64, math.MaxInt64, wavy(200, 1)...))
}

func wildFrameLists() [][]impl.Frame {
	list := append(someFrameLists()[:20:20], noFrameLists()[:30]...)
	return append(list, wildFrames(), edgeFrames(), frames(impl.Frame{}), make([]impl.Frame, 12), make([]impl.Frame, 13))
}

func wildSpans() []int64 {
	return []int64{0, 1, 7, 127, 128, 129, 200, 201, 100000, 100001, -1, 1 << 32, math.MaxInt64, math.MinInt64}
}

// wildBytes are bytes of blocks, traces and frames, and of nothing.
func wildBytes() []string {
	list := append(wildTexts(), "GRD1", strings.Repeat("GRD1", 1000), strings.Repeat("\x00", 17), strings.Repeat("\xff", 284), "\x01\x65\x00\x40")
	for body := range bodies() {
		list = append(list, body, sealed(body))
	}
	slices.Sort(list)
	for _, frames := range someFrameLists()[:20] {
		all, _ := impl.StoreFrames(frames)
		list = append(list, all, all+all, all[:len(all)/2])
	}
	for _, a := range keptTraces()[:20] {
		packed, _ := impl.PackTrace(a)
		block, _ := impl.PackBlock(a[:min(len(a), 8)])
		list = append(list, packed, packed[:len(packed)/2], block, block+block)
	}
	return list
}

func framesTranscript() string {
	var b strings.Builder
	say := func(results ...any) { b.WriteString(show(results...)) }
	for _, f := range wildFrames() {
		say(impl.ValidFrame(f))
		say(impl.StoreFrame(f))
		say(impl.ExponentOf(f.Trace))
		say(impl.PackBlock(f.Trace))
		say(impl.PackTrace(f.Trace))
		say(impl.RoundTrace(f.Trace))
		say(impl.WorstRound(f.Trace))
		for _, n := range wildSpans() {
			say(impl.SplitFrame(f, n))
		}
		for _, g := range wildFrames()[:60] {
			say(impl.SameFrame(f, g))
			say(impl.JoinFrames(f, g))
		}
	}
	return b.String()
}

func bytesTranscript() string {
	var b strings.Builder
	say := func(results ...any) { b.WriteString(show(results...)) }
	for _, s := range wildBytes() {
		say(impl.UnpackBlock(s))
		say(impl.UnpackTrace(s))
		say(impl.LoadFrame(s))
		say(impl.LoadFrames(s))
		say(impl.RecoverFrames(s))
	}
	return b.String()
}

func frameListsTranscript() string {
	var b strings.Builder
	say := func(results ...any) { b.WriteString(show(results...)) }
	for _, list := range wildFrameLists() {
		say(impl.AreFrames(list))
		say(impl.StoreFrames(list))
		say(impl.SortFrames(list))
		say(impl.StationsOf(list))
		say(impl.LateFrames(list))
		for _, n := range wildSpans() {
			say(impl.OfStation(list, n))
			say(impl.GapsOf(list, n))
			say(impl.SpanOf(list, n))
			for _, m := range wildSpans() {
				say(impl.FillFrames(list, 7, n, m))
				say(impl.FillFrames(list, n, 3, m))
				say(impl.SumStations(list, n, m))
			}
		}
	}
	return b.String()
}

// A panic or a loop without an end fails this test, too.
func TestEqualFramesHaveEqualResults(t *testing.T) {
	areRepeated(t, framesTranscript, bytesTranscript, frameListsTranscript)
}

func TestFramesSideBySide(t *testing.T) {
	list := framesBy(12, 3)
	stored, _ := impl.StoreFrames(list)
	areSideBySide(t, func() string {
		return show(impl.LoadFrames(stored)) + show(impl.RecoverFrames(stored+"GRD1")) + show(impl.RecoverFrames(stored[5:])) +
			show(impl.StoreFrames(list)) + show(impl.SumStations(list, 0, 40)) + show(impl.StationsOf(list)) + show(impl.LateFrames(list))
	})
}

// Goroutines end wherever bytes are bad.
func TestFramesEndTheirGoroutines(t *testing.T) {
	many, _ := impl.StoreFrames(framesBy(12, 1))
	endGoroutines(t, func() {
		for range 20 {
			for _, s := range append(wildBytes(), many, many+many, many+"x", many[1:]) {
				impl.LoadFrames(s)
				impl.RecoverFrames(s)
			}
		}
	})
}

// roomyFrames are copies of frames all of whose lists have spare capacity.
func roomyFrames(list []impl.Frame) []impl.Frame {
	list = roomy(list, frameOf(44, 45, 46, 47))
	for i, f := range list {
		list[i].Trace = roomy(f.Trace, 42)
	}
	return list
}

// wholeFrames shows frames together with the spare capacity of their lists.
func wholeFrames(list []impl.Frame) string {
	text := ""
	for _, f := range list[:cap(list)] {
		text += show(f.Station, f.Start, len(f.Trace)) + whole(f.Trace) + "/"
	}
	return text
}

// callWithFrames calls all functions with frames.
func callWithFrames(list []impl.Frame, n int64) {
	for _, f := range list {
		impl.ValidFrame(f)
		impl.StoreFrame(f)
		impl.ExponentOf(f.Trace)
		impl.PackBlock(f.Trace)
		impl.PackTrace(f.Trace)
		impl.RoundTrace(f.Trace)
		impl.WorstRound(f.Trace)
		impl.SplitFrame(f, n)
		for _, g := range list {
			impl.SameFrame(f, g)
			impl.JoinFrames(f, g)
		}
	}
	impl.AreFrames(list)
	impl.StoreFrames(list)
	impl.SortFrames(list)
	impl.OfStation(list, n)
	impl.StationsOf(list)
	impl.GapsOf(list, n)
	impl.FillFrames(list, n, 0, 40)
	impl.SpanOf(list, n)
	impl.LateFrames(list)
	impl.SumStations(list, n, 40)
}

func TestFramesAreNotModified(t *testing.T) {
	joined := frames(frameOf(1, 2, 3, 4), frameOf(1, 4, 5), frameOf(1, 5, 6, 7, 8))
	short := frames(frameOf(9, 9, wavy(8, 1)...), frameOf(0, 9, wavy(5, 1)...), frameOf(0, 0, 1))
	for _, wild := range append(wildFrameLists(), joined, short) {
		list := roomyFrames(wild)
		before := wholeFrames(list)
		for _, n := range []int64{0, 1, 2, 7, 200} {
			callWithFrames(list, n)
		}
		if wholeFrames(list) != before {
			t.Errorf("frames were modified: %.200s", show(wild))
		}
	}
}

// framesTold are all results of chapter 7 that have frames.
func framesTold(t *testing.T, list []impl.Frame) map[string]func() []impl.Frame {
	stored, _ := impl.StoreFrames(list)
	one, _ := impl.StoreFrame(list[0])
	f := frameOf(list[0].Station, list[0].Start+int64(len(list[0].Trace)), 9)
	told := func(list []impl.Frame, ok bool) []impl.Frame {
		isShown(t, "told", show(len(list) > 0, ok), "true;true;")
		return list
	}
	single := func(f impl.Frame, ok bool) []impl.Frame { return told(frames(f), ok) }
	return map[string]func() []impl.Frame{
		"LoadFrame":  func() []impl.Frame { return single(impl.LoadFrame(one)) },
		"LoadFrames": func() []impl.Frame { return told(impl.LoadFrames(stored)) },
		"RecoverFrames": func() []impl.Frame {
			list, _, ok := impl.RecoverFrames(stored)
			return told(list, ok)
		},
		"SortFrames": func() []impl.Frame { return told(impl.SortFrames(list)) },
		"OfStation":  func() []impl.Frame { return told(impl.OfStation(list, list[0].Station)) },
		"SplitFrame": func() []impl.Frame {
			first, second, ok := impl.SplitFrame(list[0], 2)
			return told(frames(first, second), ok)
		},
		"JoinFrames": func() []impl.Frame { return single(impl.JoinFrames(list[0], f)) },
	}
}

// Frames that functions return share no memory with one another, with arguments or
// with other results, though arguments share some.
func TestResultsOfFramesShareNoMemory(t *testing.T) {
	shared := wavy(5, 1)
	list := frames(frameOf(3, 4, shared...), frameOf(3, 2, shared...), frameOf(1, 4, shared[1:4]...), frameOf(3, 4, shared...))
	for i := range list {
		list[i].Trace = shared[:5-i%2]
	}
	before := wholeFrames(list)
	for what, tell := range framesTold(t, list) {
		got, want := tell(), show(tell())
		for i := range got {
			rest := show(append(slices.Clone(got[:i]), got[i+1:]...))
			spoil(got[i].Trace, 42)
			isShown(t, what, show(append(slices.Clone(got[:i]), got[i+1:]...)), rest)
		}
		isShown(t, what, wholeFrames(list), before)
		spoil(got, frameOf(5, 5, 5))
		isShown(t, what, wholeFrames(list), before)
		isShown(t, what, show(tell()), want)
	}
}

func TestListsOfFramesShareNoMemory(t *testing.T) {
	a := frameOf(3, 4, 1, 2, 3, 4, 5, 6, 7, 8)
	list := frames(a, frameOf(3, 40, 1), frameOf(3, 20, 1))
	block, _ := impl.PackBlock(a.Trace)
	trace, _ := impl.PackTrace(a.Trace)
	for what, tell := range map[string]func() ([]float32, bool){
		"UnpackBlock": func() ([]float32, bool) { return impl.UnpackBlock(block) },
		"UnpackTrace": func() ([]float32, bool) { return impl.UnpackTrace(trace) },
		"RoundTrace":  func() ([]float32, bool) { return impl.RoundTrace(a.Trace) },
		"FillFrames": func() ([]float32, bool) {
			numbers, _, ok := impl.FillFrames(list, 3, 4, 8)
			return numbers, ok
		},
		"SumStations": func() ([]float32, bool) {
			sums, _, ok := impl.SumStations(list, 4, 8)
			return sums, ok
		},
	} {
		before := wholeFrames(list)
		isAlone(t, what, tell)
		isShown(t, what, wholeFrames(list), before)
	}
	gaps, _ := impl.GapsOf(list, 3)
	isShown(t, "GapsOf", show(gaps), "[[12 20] [21 40]];")
	spoil(gaps[0], 42)
	isShown(t, "GapsOf", show(gaps[1]), "[21 40];")
	isShown(t, "GapsOf", show(impl.GapsOf(list, 3)), "[[12 20] [21 40]];true;")
	for range 2 {
		_, has, _ := impl.FillFrames(list, 3, 11, 2)
		_, counts, _ := impl.SumStations(list, 11, 2)
		stations, _ := impl.StationsOf(list)
		late, _ := impl.LateFrames(list)
		isShown(t, "others", show(has, counts, stations, late), "[true false];[1 0];[3];[2];")
		spoil(has, true)
		spoil(counts, 42)
		spoil(stations, 42)
		spoil(late, 42)
	}
}

func TestNilAndEmptyFramesAreTheSame(t *testing.T) {
	for _, list := range [][]impl.Frame{nil, {}} {
		isShown(t, "none", show(impl.AreFrames(list))+showBytes(impl.StoreFrames(list))+show(impl.SortFrames(list)), "true;;true;;true;")
		isShown(t, "none", show(impl.OfStation(list, 0))+show(impl.StationsOf(list))+show(impl.LateFrames(list)), ";true;[];true;[];true;")
		isShown(t, "none", show(impl.GapsOf(list, 0))+show(impl.SpanOf(list, 0)), "[];true;"+noSpan)
		isShown(t, "none", show(impl.FillFrames(list, 0, 0, 1))+show(impl.SumStations(list, 0, 1)), "00000000,;[false];true;00000000,;[0];true;")
	}
	for _, a := range [][]float32{nil, {}} {
		f := frameOf(1, 2, a...)
		f.Trace = a
		isShown(t, "empty", show(impl.ValidFrame(f), impl.SameFrame(f, frameOf(1, 2)))+show(impl.ExponentOf(a))+showBytes(impl.PackBlock(a)),
			"false;true;"+noInteger+noBytes)
		isShown(t, "empty", showBytes(impl.PackTrace(a))+show(impl.RoundTrace(a))+show(impl.WorstRound(a)), noBytes+noList+noNumber)
		isShown(t, "empty", showBytes(impl.StoreFrame(f))+show(impl.SplitFrame(f, 1)), noBytes+noPieces)
		isShown(t, "empty", show(impl.JoinFrames(f, frameOf(1, 2, 3)))+show(impl.JoinFrames(frameOf(1, 2, 3), f)), noFrame+noFrame)
	}
}
