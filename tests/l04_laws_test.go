package tests

import (
	"math"
	"slices"
	"testing"

	"loop.example/g01231/impl"
)

// hill is a wide wave about 30 ticks, which lists tell well between their numbers.
func hill(t float64) float64 {
	return math.Exp(-(t-30)*(t-30)/60) * math.Cos((t-30)/6)
}

// hillTrace is the trace at a place where the hill comes along curves of a speed.
func hillTrace(place, speed float64) []float32 {
	list := make([]float32, 64)
	for k := range list {
		if square := float64(k*k) - place*place/speed/speed; square >= 0 {
			list[k] = float32(hill(math.Sqrt(square)))
		}
	}
	return list
}

// hillGather has the hill at places from one side to the other.
func hillGather(speed float32, places ...float32) impl.Gather {
	g := impl.Gather{Ticks: 64, Places: places}
	for _, place := range places {
		g.Traces = append(g.Traces, hillTrace(float64(place), float64(speed)))
	}
	return g
}

func manyPlaces() []float32 {
	return []float32{-20, -13.5, -6, -1, 0, 2.5, 7, 11, 16.2, 20}
}

func TestCorrectedTracesStandLevel(t *testing.T) {
	straight := hillTrace(0, 1)
	for _, speed := range []float32{0.7, 1, 1.5, 4} {
		corrected, ok := impl.CorrectGather(hillGather(speed, manyPlaces()...), speed)
		isShown(t, "corrected", show(ok), "true;")
		for i, trace := range corrected.Traces {
			// What has come later than the last tick is not there.
			far := float64(manyPlaces()[i] / speed)
			end := int(math.Sqrt(63*63 - far*far))
			areNear(t, "level", trace[4:end], straight[4:end], 0.02)
		}
		stack, _ := impl.StackOf(corrected)
		areNear(t, "stack", stack[4:50], straight[4:50], 0.02)
	}
}

// Without a correction, far traces do not stand level, and neither do they with
// a speed that is wrong.
func TestOtherTracesDoNotStandLevel(t *testing.T) {
	g := hillGather(1, manyPlaces()...)
	wrong, _ := impl.CorrectGather(g, 3)
	right, _ := impl.CorrectGather(g, 1)
	var levels []float32
	for _, c := range []impl.Gather{g, wrong, right} {
		level, _ := impl.SemblanceAt(c, 30, 4)
		levels = append(levels, level)
	}
	if !(levels[0] < levels[1] && levels[1] < 0.9 && levels[2] > 0.999) {
		t.Errorf("got the semblances %v", levels)
	}
}

func TestBentTracesAreCorrectedAgain(t *testing.T) {
	straight := hillTrace(0, 1)
	for _, place := range manyPlaces() {
		for _, speed := range []float32{0.7, 1, 1.5, 4} {
			bent, one := impl.BendTrace(straight, place, speed)
			isShown(t, "bent", show(one), "true;")
			areNear(t, "as it comes", bent, hillTrace(float64(place), float64(speed)), 0.02)
			far := float64(place / speed)
			end := int(math.Sqrt(63*63 - far*far))
			back, two := impl.CorrectTrace(bent, place, speed)
			isShown(t, "back", show(two), "true;")
			areNear(t, "back", back[4:end], straight[4:end], 0.04)
		}
	}
}

// An event is put at the nearest number, so that at least half of it comes back
// to its start.
func TestEventsStandLevel(t *testing.T) {
	for start := range 30 {
		for _, speed := range []float32{0.7, 1, 1.5, 4} {
			flat, _ := impl.FlatGather(64, manyPlaces())
			event, one := impl.AddEvent(flat, float32(start), speed, 1)
			corrected, two := impl.CorrectGather(event, speed)
			isShown(t, "corrected", show(one, two), "true;true;")
			for i, trace := range corrected.Traces {
				sum, _ := impl.SumNumbers(event.Traces[i])
				isNumber(t, "one event", sum, 1)
				if !(trace[start] >= 0.4999) {
					t.Errorf("start %d, speed %v, place %v: got %v", start, speed, manyPlaces()[i], trace)
				}
			}
			stack, _ := impl.StackOf(corrected)
			if !(stack[start] >= 0.4999) {
				t.Errorf("start %d, speed %v: got the stack %v", start, speed, stack)
			}
		}
	}
}

func TestEventsComeAtTheirCurves(t *testing.T) {
	for start := range 40 {
		for _, speed := range []float32{0.7, 1, 3} {
			flat, _ := impl.FlatGather(64, manyPlaces())
			event, _ := impl.AddEvent(flat, float32(start)*1.3, speed, 1)
			for i, place := range manyPlaces() {
				time, _ := impl.CurveTime(float32(start)*1.3, place, speed)
				at, peak, _ := impl.PeakOfTrace(event.Traces[i])
				if nearest := math.Floor(float64(time + 0.5)); nearest < 64 {
					isShown(t, "event", show(at, peak), show(int64(nearest), float32(1)))
				} else {
					isShown(t, "beyond", show(event.Traces[i]), show(make([]float32, 64)))
				}
			}
		}
	}
}

func TestTheRightSpeedIsBest(t *testing.T) {
	speeds := []float32{0.6, 0.7, 0.8, 0.9, 1, 1.1, 1.3, 1.5, 1.8, 2.2, 2.7}
	for right, speed := range speeds {
		g := hillGather(speed, manyPlaces()...)
		scan, one := impl.ScanSpeeds(g, speeds, 30, 5)
		best, level, two := impl.BestSpeed(g, speeds, 30, 5)
		isShown(t, "best", show(one, two, best, level), show(true, true, right, scan[right]))
		if !(level > 0.99) {
			t.Errorf("speed %v: got the semblances %v", speed, scan)
		}
	}
}

// Near the source, nothing comes late, on whichever side it is.
func TestSidesOfPlaces(t *testing.T) {
	for _, list := range someLists() {
		for _, speed := range someSpeeds() {
			for _, place := range []float32{0, minusZero()} {
				isShown(t, "near", show(impl.CorrectTrace(list, place, speed)), show(list, true))
				isShown(t, "near", show(impl.BendTrace(list, place, speed)), show(list, true))
			}
			for _, place := range []float32{0.3, 7, 1e30} {
				isShown(t, "sides", show(impl.CorrectTrace(list, -place, speed)), show(impl.CorrectTrace(list, place, speed)))
				isShown(t, "sides", show(impl.BendTrace(list, -place, speed)), show(impl.BendTrace(list, place, speed)))
				isShown(t, "sides", show(impl.StretchAt(3, -place, speed)), show(impl.StretchAt(3, place, speed)))
			}
		}
	}
}

// A pilot is found where it is, and traces that are shifted so stand level with it.
func TestShiftsAreFound(t *testing.T) {
	for seed := range uint32(20) {
		pilot := slices.Concat(make([]float32, 16), wavy(32, seed), make([]float32, 16))
		g := impl.Gather{Ticks: 64, Places: wavy(16, seed)}
		var want []int64
		for i := range int64(16) {
			by := (i*7+int64(seed)*5)%33 - 16
			trace, _ := impl.ShiftTrace(pilot, by)
			g.Traces, want = append(g.Traces, trace), append(want, by)
		}
		for _, most := range []int64{16, 30, 64} {
			shifts, one := impl.ShiftsOf(g, pilot, most)
			isShown(t, "shifts", show(shifts, one), show(want, true))
			level, two := impl.ShiftGather(g, shifts)
			isShown(t, "level", show(level, two), show(sameTraces(g.Places, pilot), true))
			stack, _ := impl.StackOf(level)
			areNear(t, "stack", stack, pilot, 1e-6)
			again, _ := impl.ShiftsOf(level, pilot, most)
			isShown(t, "level again", show(again), show(make([]int64, 16)))
		}
	}
}

// With noise and other sizes, shifts are found as well.
func TestShiftsAreFoundInNoise(t *testing.T) {
	pilot := hillTrace(0, 1)
	for seed := range uint32(30) {
		g := impl.Gather{Ticks: 64, Places: wavy(16, seed)}
		var want []int64
		for i := range int64(16) {
			by := (i*5+int64(seed))%21 - 10
			trace, _ := impl.ShiftTrace(pilot, by)
			noise, _ := impl.ScaleTrace(wavy(64, seed+uint32(i)+7), 0.001)
			trace, _ = impl.AddTraces(trace, noise)
			trace, _ = impl.ScaleTrace(trace, float32(i+1)*0.3)
			g.Traces, want = append(g.Traces, trace), append(want, by)
		}
		shifts, ok := impl.ShiftsOf(g, pilot, 20)
		isShown(t, "shifts", show(shifts, ok), show(want, true))
	}
}

func TestShiftsThereAndBack(t *testing.T) {
	g := gatherBy(64, 16, 3)
	for i := range g.Traces {
		g.Traces[i] = slices.Concat(make([]float32, 10), wavy(44, uint32(i)), make([]float32, 10))
	}
	var there, back []int64
	for i := range int64(16) {
		there, back = append(there, i%21-10), append(back, 10-i%21)
	}
	shifted, _ := impl.ShiftGather(g, there)
	again, ok := impl.ShiftGather(shifted, back)
	isShown(t, "again", show(again, ok), show(g, true))
}

// Semblance is from 0 to 1, nearly, and 1 for traces that are all alike.
func TestSemblanceIsAShare(t *testing.T) {
	for k, g := range plainGathers() {
		same := sameTraces(g.Places, g.Traces[0])
		for tick := range g.Ticks {
			for _, reach := range []int64{0, 3, 64} {
				alike, _ := impl.SemblanceAt(g, tick, reach)
				if !(alike >= 0 && alike <= 1.00001) {
					t.Errorf("gather %d: got the semblance %v", k, alike)
				}
				whole, _ := impl.SemblanceAt(same, tick, reach)
				isNear(t, "alike", float64(whole), 1, 1e-5)
			}
		}
	}
	for _, trace := range someLists()[:8] {
		isShown(t, "alone", show(impl.SemblanceAt(gatherAt([]float32{1}, trace), 0, 64)), show(float32(1), true))
		against, _ := impl.ScaleTrace(trace, -1)
		isShown(t, "against", show(impl.SemblanceAt(gatherAt([]float32{1, 2}, trace, against), 0, 64)), show(float32(0), true))
	}
}

func TestStacksOfAlike(t *testing.T) {
	for _, g := range plainGathers() {
		same := sameTraces(g.Places, g.Traces[0])
		for _, stack := range []func(g impl.Gather) ([]float32, bool){impl.StackOf, impl.LiveStack} {
			mean, ok := stack(same)
			isShown(t, "mean", show(ok), "true;")
			areNear(t, "mean", mean, g.Traces[0], 2e-6)
		}
		isShown(t, "all live", show(impl.LiveStack(g)), show(impl.StackOf(g)))
	}
}

// Traces of zeros count for the stack, but not for the live one.
func TestLiveStacksLeaveZerosOut(t *testing.T) {
	for _, g := range plainGathers() {
		if len(g.Places) == 16 {
			continue
		}
		live, _ := impl.LiveStack(g)
		for _, zero := range []float32{0, minusZero()} {
			more, ok := impl.MergeGathers(g, gatherAt([]float32{3}, filled(int(g.Ticks), zero)))
			isShown(t, "merged", show(ok), "true;")
			isShown(t, "live", show(impl.LiveStack(more)), show(live, true))
		}
	}
}

func TestStrongMutesLeaveNothing(t *testing.T) {
	for _, g := range plainGathers() {
		for i := range g.Places {
			g.Places[i] += 40
		}
		flat, _ := impl.FlatGather(g.Ticks, g.Places)
		isShown(t, "muted", show(impl.MuteGather(g, 0.1)), show(flat, true))
		isShown(t, "stretched", show(impl.MuteStretch(g, 0.05, 1)), show(flat, true))
		isShown(t, "not muted", show(impl.MuteGather(g, math.MaxFloat32)), show(impl.MuteStretch(g, math.MaxFloat32, 1)))
	}
}

func TestNormsAreOne(t *testing.T) {
	for _, g := range plainGathers() {
		normed, ok := impl.NormGather(g)
		isShown(t, "normed", show(ok, normed.Places), show(true, g.Places))
		for i, trace := range normed.Traces {
			at, peak, _ := impl.PeakOfTrace(trace)
			from, before, _ := impl.PeakOfTrace(g.Traces[i])
			isShown(t, "peak", show(at, math.Abs(float64(peak)), peak < 0), show(from, 1, before < 0))
		}
		isShown(t, "again", show(impl.NormGather(normed)), show(normed, true))
	}
}

func TestSortedGathersStayAsTheyAre(t *testing.T) {
	for _, g := range someGathers() {
		sorted, ok := impl.SortGather(g)
		isShown(t, "sorted", show(ok, slices.IsSorted(sorted.Places)), "true;true;")
		isShown(t, "again", show(impl.SortGather(sorted)), show(sorted, true))
	}
}

// What is kept of both sides is, merged again, all of it.
func TestSidesAreMerged(t *testing.T) {
	inf := infinite()
	for _, g := range someGathers() {
		sorted, _ := impl.SortGather(g)
		isShown(t, "all", show(impl.KeepPlaces(g, -inf, inf)), show(g, true))
		for _, middle := range []float32{-10, 0, 3, 12} {
			low, one := impl.KeepPlaces(sorted, -inf, math.Nextafter32(middle, -inf))
			high, two := impl.KeepPlaces(sorted, middle, inf)
			switch {
			case one && two:
				isShown(t, "both", show(impl.MergeGathers(low, high)), show(sorted, true))
			case one:
				isShown(t, "low", show(low), show(sorted))
			default:
				isShown(t, "high", show(high), show(sorted))
			}
		}
	}
}
