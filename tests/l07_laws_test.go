package tests

import (
	"math"
	"slices"
	"testing"

	"loop.example/g01231/impl"
)

// greatTraces are traces of all sizes, which can be rounded.
func greatTraces() [][]float32 {
	list := keptTraces()
	for seed := range uint32(100) {
		list = append(list, spread(int(seed)+20, seed), sized(int(seed)%19+1, seed, int(seed)*2-102))
	}
	return list
}

// What is kept is off by half of the last place of its block at the most.
func TestRoundedNumbersAreNear(t *testing.T) {
	for _, a := range greatTraces() {
		rounded, ok := impl.RoundTrace(a)
		isShown(t, show(a), show(len(rounded), ok), show(len(a), true))
		worst := 0.0
		for at, x := range a {
			block := a[at/8*8 : min(at/8*8+8, len(a))]
			greatest := greatestIn(block)
			off := math.Abs(float64(x) - float64(rounded[at]))
			if off > math.Max(greatest/32767, math.Ldexp(1, -116)) {
				t.Errorf("%v: got %v, in a block of %v", x, rounded[at], greatest)
			}
			if rounded[at] == 0 && math.Signbit(float64(rounded[at])) {
				t.Errorf("%v: got a zero with a sign", x)
			}
			worst = math.Max(worst, off)
		}
		isShown(t, show(a), show(impl.WorstRound(a)), show(float32(worst), true))
	}
}

func TestRoundedTracesAreRoundedNoMore(t *testing.T) {
	for _, a := range greatTraces() {
		rounded, _ := impl.RoundTrace(a)
		isShown(t, show(a), show(impl.RoundTrace(rounded)), show(rounded, true))
		isShown(t, show(a), show(impl.WorstRound(rounded)), "00000000;true;")
		one, _ := impl.PackTrace(a)
		two, _ := impl.PackTrace(rounded)
		isShown(t, show(a), showBytes(one, true), showBytes(two, true))
	}
}

// A frame is read back with a trace that is rounded, and then to the last bit.
func TestFramesAreReadBack(t *testing.T) {
	for k, a := range greatTraces() {
		f := frameOf(int64(k*31%201), int64(k*7919%100001), a...)
		stored, one := impl.StoreFrame(f)
		loaded, two := impl.LoadFrame(stored)
		rounded, three := impl.RoundTrace(a)
		isShown(t, show(f), show(one, two, three), "true;true;true;")
		isShown(t, show(f), show(loaded), show(frameOf(f.Station, f.Start, rounded...)))
		again, ok := impl.StoreFrame(loaded)
		isShown(t, show(f), showBytes(again, ok), showBytes(stored, true))
		isShown(t, show(f), show(impl.SameFrame(loaded, f)), show(show(rounded) == show(a)))
	}
}

// Integers as they are in blocks are read back to the last bit.
func TestBlocksOfIntegersAreKept(t *testing.T) {
	for seed := range uint32(200) {
		list := wavy(int(seed)%128+1, seed)
		e := int(seed) - 100
		for k, x := range list {
			list[k] = float32(math.Ldexp(math.Round(float64(x)*19999), e-15))
		}
		if e > 98 || len(list) == 0 {
			continue
		}
		isShown(t, show(e), show(impl.RoundTrace(list)), show(list, true))
		isShown(t, show(e), show(impl.WorstRound(list)), "00000000;true;")
	}
}

// A block times a power of 2 has the same integers, and the opposite one has their
// opposites.
func TestBlocksOfOtherSizes(t *testing.T) {
	for seed := range uint32(100) {
		block := wavy(int(seed)%8+1, seed)
		s, _ := impl.PackBlock(block)
		e, _ := impl.ExponentOf(block)
		for by := -90; by <= 90; by += 9 {
			other := make([]float32, len(block))
			opposite := make([]float32, len(block))
			for k, x := range block {
				other[k] = float32(math.Ldexp(float64(x), by))
				opposite[k] = -other[k]
			}
			isShown(t, show(block, by), show(impl.ExponentOf(other)), show(e+int64(by), true))
			isShown(t, show(block, by), showBytes(impl.PackBlock(other)), showBytes(changed(s, 0, s[0]+byte(by)), true))
			kept, _ := impl.UnpackBlock(s)
			packed, _ := impl.PackBlock(opposite)
			keptOther, ok := impl.UnpackBlock(packed)
			isShown(t, show(block, by), show(len(keptOther), ok), show(len(kept), true))
			for k, x := range kept {
				if float64(keptOther[k]) != -math.Ldexp(float64(x), by) {
					t.Errorf("%v: got %v", x, keptOther[k])
				}
			}
		}
	}
}

func TestPartsOfFramesAreJoined(t *testing.T) {
	for _, f := range append(someFrames(), edgeFrames()...) {
		f.Start = min(f.Start, 99000)
		for at := 1; at < len(f.Trace); at++ {
			first, second, ok := impl.SplitFrame(f, int64(at))
			isShown(t, show(f, at), show(ok, impl.ValidFrame(first), impl.ValidFrame(second)), "true;true;true;")
			isShown(t, show(f, at), show(len(first.Trace), second.Start, second.Station), show(at, f.Start+int64(at), f.Station))
			isShown(t, show(f, at), show(impl.JoinFrames(first, second)), show(f, true))
			isShown(t, show(f, at), show(impl.JoinFrames(second, first)), noFrame)
			gaps, _ := impl.GapsOf(frames(second, first), f.Station)
			isShown(t, show(f, at), show(gaps), "[];")
		}
	}
}

// The sorted frames are those of all stations, one station after another.
func TestStationsHaveAllFrames(t *testing.T) {
	for _, list := range someFrameLists() {
		stations, _ := impl.StationsOf(list)
		var all []impl.Frame
		for _, station := range stations {
			own, ok := impl.OfStation(list, station)
			isShown(t, show(list), show(len(own) > 0, ok), "true;true;")
			all = append(all, own...)
		}
		isShown(t, show(list), show(impl.SortFrames(list)), show(all, true))
		isShown(t, show(list), show(impl.SortFrames(all)), show(all, true))
		isShown(t, show(list), show(impl.LateFrames(all)), "[];true;")
		isShown(t, show(list), show(slices.IsSorted(stations), len(stations) == len(slices.Compact(slices.Clone(stations)))), "true;true;")
	}
}

// Frames are late that would stand elsewhere if those of their station were sorted
// one by one as they come.
func TestLateFramesAreBehindOthers(t *testing.T) {
	for seed := range uint32(300) {
		list := framesBy(int(seed)%13, seed)
		late, ok := impl.LateFrames(list)
		isShown(t, show(list), show(ok), "true;")
		for i, f := range list {
			before, _ := impl.OfStation(list[:i+1], f.Station)
			isShown(t, show(list, i), show(slices.Contains(late, int64(i))), show(before[len(before)-1].Start > f.Start))
		}
	}
}

// Within its span, a station lacks numbers in its gaps only; each number that it has
// is that of the first frame with one.
func TestGapsAreWhereNumbersLack(t *testing.T) {
	for seed := range uint32(300) {
		list := framesBy(int(seed)%13, seed)
		for _, station := range []int64{0, 7, 200, 9} {
			from, to, ok := impl.SpanOf(list, station)
			gaps, _ := impl.GapsOf(list, station)
			numbers, has, _ := impl.FillFrames(list, station, 0, 128)
			own, _ := impl.OfStation(list, station)
			isShown(t, show(list), show(ok), show(len(own) > 0))
			want, wantHas := make([]float32, 128), make([]bool, 128)
			for time := range int64(128) {
				wantHas[time] = from <= time && time < to
				for _, gap := range gaps {
					wantHas[time] = wantHas[time] && (time < gap[0] || gap[1] <= time)
				}
				for _, f := range slices.Backward(own) {
					if f.Start <= time && time < f.Start+int64(len(f.Trace)) {
						want[time] = f.Trace[time-f.Start]
					}
				}
			}
			isShown(t, show(list, station), show(numbers, has), show(want, wantHas))
			for i, gap := range gaps {
				isShown(t, show(list), show(len(gap), from < gap[0] && gap[0] < gap[1] && gap[1] < to), "2;true;")
				isShown(t, show(list), show(i == 0 || gaps[i-1][1] < gap[0]), "true;")
			}
		}
	}
}

// Sums are those of the numbers of all stations, from any time on.
func TestSumsOfStations(t *testing.T) {
	for seed := range uint32(200) {
		list := framesBy(int(seed)%13, seed)
		stations, _ := impl.StationsOf(list)
		for _, from := range []int64{0, 1, 17, 47} {
			want, wantCounts := make([]float32, 40), make([]int64, 40)
			for _, station := range stations {
				numbers, has, _ := impl.FillFrames(list, station, from, 40)
				for k, x := range numbers {
					want[k] += x
					if has[k] {
						wantCounts[k]++
					}
				}
			}
			isShown(t, show(list, from), show(impl.SumStations(list, from, 40)), show(want, wantCounts, true))
		}
	}
}
