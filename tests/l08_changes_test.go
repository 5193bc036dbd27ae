package tests

import (
	"fmt"
	"math"
	"slices"
	"testing"

	"loop.example/g01231/impl"
)

// isGatherMade checks a line that makes another gather, or fails and changes
// nothing.
func isGatherMade(t *testing.T, d impl.Desk, line string, made impl.Gather, ok bool) {
	t.Helper()
	if ok {
		isCarried(t, d, line, "ok", deskOf(d.Ground, made))
	} else {
		isTold(t, d, line, "no")
	}
}

func TestGroundLine(t *testing.T) {
	for _, d := range someDesks() {
		for _, other := range someDesks() {
			isCarried(t, d, "ground "+groundWords(other.Ground), "ok", deskOf(other.Ground, d.Gather))
			isCarried(t, d, "gather "+gatherWords(other.Gather), "ok", deskOf(d.Ground, other.Gather))
			isTold(t, d, "ground "+gatherWords(other.Gather), "no")
			isTold(t, d, "gather "+groundWords(other.Ground), "no")
		}
	}
	d := deskOf(fourLayers(), gatherBy(3, 2, 1))
	for _, g := range invalidGrounds() {
		isTold(t, d, "ground "+groundWords(g), "no")
	}
	for _, g := range noGathers() {
		isTold(t, d, "gather "+gatherWords(g), "no")
	}
}

func TestFlatLine(t *testing.T) {
	lists := [][]float32{nil, {0}, {minusZero()}, {3, -1, 2}, {1, 1}, {math.MaxFloat32, num(1)}, {1, infinite()}, {notNumber()}, ones[float32](16), ones[float32](17),
		ones[float32](256), ones[float32](257)}
	for _, d := range someDesks()[:5] {
		for _, n := range []int64{1, 2, 63, 64, 65, 0, -1, 256, 1 << 32, 1e15, 1e15 + 1, math.MaxInt64, math.MinInt64} {
			for _, list := range lists {
				made, ok := impl.FlatGather(n, list)
				isGatherMade(t, d, fmt.Sprint("flat ", n, " ", wordsOf(list...)), made, ok)
			}
		}
	}
}

// isLayerSet checks a line that changes a number of a layer, or changes nothing.
func isLayerSet(t *testing.T, d impl.Desk, word string, n int64, x float32, numberOf func(l *impl.Layer) *float32) {
	t.Helper()
	after, output := d, "no"
	if 0 <= n && n < int64(len(d.Ground.Layers)) && x > 0 && x <= math.MaxFloat32 {
		after.Ground.Layers = slices.Clone(d.Ground.Layers)
		*numberOf(&after.Ground.Layers[n]) = x
		output = "ok"
	}
	isCarried(t, d, fmt.Sprint(word, " ", n, " ", wordsOf(x)), output, after)
}

func TestLayerLines(t *testing.T) {
	thick := func(l *impl.Layer) *float32 { return &l.Thick }
	speed := func(l *impl.Layer) *float32 { return &l.Speed }
	for _, d := range someDesks() {
		for _, n := range lineIndices(len(d.Ground.Layers)) {
			for _, x := range someNumbers() {
				isLayerSet(t, d, "thick", n, x, thick)
				isLayerSet(t, d, "speed", n, x, speed)
			}
		}
	}
}

func TestEventLine(t *testing.T) {
	for _, d := range someDesks() {
		for _, x := range someNumbers() {
			made, ok := impl.AddEvent(d.Gather, x, 3, 2)
			isGatherMade(t, d, "event "+word(x)+" 40400000 40000000", made, ok)
			made, ok = impl.AddEvent(d.Gather, 1, x, 2)
			isGatherMade(t, d, "event 3f800000 "+word(x)+" 40000000", made, ok)
			made, ok = impl.AddEvent(d.Gather, 1, 3, x)
			isGatherMade(t, d, "event 3f800000 40400000 "+word(x), made, ok)
		}
	}
}

func TestSpeedLines(t *testing.T) {
	for _, d := range someDesks() {
		for _, x := range append(someNumbers(), someSpeeds()...) {
			made, ok := impl.CorrectGather(d.Gather, x)
			isGatherMade(t, d, "correct "+word(x), made, ok)
			made, ok = impl.BendGather(d.Gather, x)
			isGatherMade(t, d, "bend "+word(x), made, ok)
			made, ok = impl.MuteGather(d.Gather, x)
			isGatherMade(t, d, "mute "+word(x), made, ok)
		}
	}
}

// Shifts are any list, which need not be increasing.
func TestShiftLine(t *testing.T) {
	sets := map[string][]int64{"none": nil, "0": {0}, "-1": {-1}, "65": {65}, "-65": {-65}, "64": {64}, "2,1": {2, 1}, "1,1": {1, 1}, "0,-1,2,-3,4": {0, -1, 2, -3, 4},
		"5,4,3,2,1": {5, 4, 3, 2, 1}, "1,1,1,1,1": ones[int64](5), "1000000000000000": {1e15}, "0,0,0,0,65": {0, 0, 0, 0, 65}, "0,0,0,-65,0": {0, 0, 0, -65, 0},
		"-1,-1,-2,-2,-5,-5,-9,-9,64,-64,3,1,0,0,7,-7": {-1, -1, -2, -2, -5, -5, -9, -9, 64, -64, 3, 1, 0, 0, 7, -7}}
	for _, d := range someDesks() {
		for set, shifts := range sets {
			made, ok := impl.ShiftGather(d.Gather, shifts)
			isGatherMade(t, d, "shift "+set, made, ok)
		}
	}
	made, _ := impl.ShiftGather(gatherBy(9, 5, 1), []int64{5, 4, 3, 2, 1})
	isCarried(t, deskOf(oneLayer(), gatherBy(9, 5, 1)), "shift 5,4,3,2,1", "ok", deskOf(oneLayer(), made))
}

func TestSortAndNormLines(t *testing.T) {
	for _, d := range someDesks() {
		made, ok := impl.SortGather(d.Gather)
		isGatherMade(t, d, "sort", made, ok)
		made, ok = impl.NormGather(d.Gather)
		isGatherMade(t, d, "norm", made, ok)
	}
}

// Lines that are carried out, but leave the desk as it was.
func TestLinesThatChangeNothing(t *testing.T) {
	for _, line := range []string{"ground 3f800000,3f800000,3f800000,00000000;3f800000,3f800000", "gather 1;00000000;00000000", "flat 1 00000000", "thick 0 3f800000",
		"speed 0 3f800000", "event 3f800000 3f800000 3f800000", "event 00000000 3f800000 00000000", "event 00000000 3f800000 80000000", "correct 3f800000",
		"bend 40000000", "mute 3f800000", "shift 0", "shift 64", "sort", "norm"} {
		isTold(t, newDesk(), line, "ok")
	}
	d := deskOf(fourLayers(), gatherAt([]float32{-2, 0, 0, 5}, wavy(4, 1), wavy(4, 2), wavy(4, 3), []float32{0, 0, 0, 1}))
	for _, line := range []string{"sort", "shift 0,0,0,0", "event 42c80000 3f800000 3f800000", "event 00000000 00000001 00000000"} {
		isTold(t, d, line, "ok")
	}
	same := fmt.Sprintf("thick 3 %s", word(fourLayers().Layers[3].Thick))
	isTold(t, d, same, "ok")
	isTold(t, d, "gather "+gatherWords(d.Gather), "ok")
}
