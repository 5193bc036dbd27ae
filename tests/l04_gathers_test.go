package tests

import (
	"math"
	"slices"
	"strings"
	"testing"

	"loop.example/g01231/impl"
)

func TestValidGather(t *testing.T) {
	for k, g := range someGathers() {
		isShown(t, show(k), show(impl.ValidGather(g)), "true;")
	}
	for k, g := range noGathers() {
		isShown(t, "none: "+show(k, g), show(impl.ValidGather(g)), "false;")
	}
}

func TestSizesOfGathers(t *testing.T) {
	for ticks := range 70 {
		for places := range 20 {
			want := ticks >= 1 && ticks <= 64 && places >= 1 && places <= 16
			isShown(t, show(ticks, places), show(impl.ValidGather(gatherOfSize(ticks, places))), show(want))
		}
	}
}

func TestPlacesOfGathers(t *testing.T) {
	for _, place := range someNumbers() {
		g := gatherAt([]float32{0, place, 0}, []float32{1}, []float32{2}, []float32{3})
		want := !math.IsNaN(float64(place)) && !math.IsInf(float64(place), 0)
		isShown(t, word(place), show(impl.ValidGather(g)), show(want))
		_, ok := impl.FlatGather(1, []float32{0, place})
		isShown(t, word(place), show(ok), show(want))
	}
	for _, x := range someNumbers() {
		isShown(t, word(x), show(impl.ValidGather(gatherAt([]float32{0}, []float32{1, x, 1}))), "true;")
	}
}

func TestSameGather(t *testing.T) {
	all := append(someGathers(), noGathers()...)
	for i, a := range all {
		for j, b := range all {
			want := showGather(a) == showGather(b) && len(a.Traces) == len(b.Traces)
			isShown(t, show(i, j), show(impl.SameGather(a, b)), show(want))
		}
	}
	empty := impl.Gather{Places: []float32{}, Traces: [][]float32{}}
	isShown(t, "empty", show(impl.SameGather(empty, impl.Gather{}), impl.SameGather(impl.Gather{}, empty)), "true;true;")
	one, two := impl.Gather{Traces: [][]float32{{}}}, impl.Gather{Traces: [][]float32{nil}}
	isShown(t, "empty trace", show(impl.SameGather(one, two), impl.SameGather(one, empty), impl.SameGather(empty, one)), "true;false;false;")
	parts, whole := impl.Gather{Traces: [][]float32{{1, 2}, {3}}}, impl.Gather{Traces: [][]float32{{1}, {2, 3}}}
	isShown(t, "other lengths", show(impl.SameGather(parts, whole)), "false;")
}

// All not-a-numbers are one value, and zeros have signs.
func TestSameGatherByNumber(t *testing.T) {
	for i, x := range someNumbers() {
		for j, y := range someNumbers() {
			want := show(word(x) == word(y))
			a, b := gatherAt([]float32{1, 2}, []float32{3, x}, []float32{4, 5}), gatherAt([]float32{1, 2}, []float32{3, y}, []float32{4, 5})
			isShown(t, "numbers "+show(i, j), show(impl.SameGather(a, b)), want)
			a, b = gatherAt([]float32{x}, []float32{3}), gatherAt([]float32{y}, []float32{3})
			isShown(t, "places "+show(i, j), show(impl.SameGather(a, b)), want)
		}
	}
}

func TestOtherGathersAreNotTheSame(t *testing.T) {
	change := []func(g *impl.Gather){
		func(g *impl.Gather) { g.Ticks++ },
		func(g *impl.Gather) { g.Ticks = -g.Ticks },
		func(g *impl.Gather) { g.Places[0]++ },
		func(g *impl.Gather) { g.Places[2]++ },
		func(g *impl.Gather) { g.Places = g.Places[:2] },
		func(g *impl.Gather) { g.Places = append(g.Places, 0) },
		func(g *impl.Gather) { g.Traces[0][0]++ },
		func(g *impl.Gather) { g.Traces[2][4]++ },
		func(g *impl.Gather) { g.Traces = g.Traces[:2] },
		func(g *impl.Gather) { g.Traces = append(g.Traces, g.Traces[0]) },
		func(g *impl.Gather) { g.Traces[1] = g.Traces[1][:4] },
		func(g *impl.Gather) { g.Traces[1] = append(g.Traces[1], 0) },
		func(g *impl.Gather) { g.Traces[0], g.Traces[1] = g.Traces[1], g.Traces[0] },
	}
	for k, c := range change {
		g, h := gatherBy(5, 3, 1), gatherBy(5, 3, 1)
		c(&h)
		isShown(t, show(k), show(impl.SameGather(g, h), impl.SameGather(h, g), impl.SameGather(g, g), impl.SameGather(h, h)), "false;false;true;true;")
	}
}

func TestFlatGather(t *testing.T) {
	minus, high := minusZero(), float32(math.MaxFloat32)
	for _, c := range []struct {
		ticks  int64
		places []float32
		want   string
	}{
		{1, []float32{0}, "1:00000000,:00000000,/;true;"},
		{1, []float32{minus}, "1:80000000,:00000000,/;true;"},
		{2, []float32{-3, 3}, "2:c0400000,40400000,:00000000,00000000,/00000000,00000000,/;true;"},
		{3, []float32{1.5, 1.5, -1.5}, "3:3fc00000,3fc00000,bfc00000,:00000000,00000000,00000000,/00000000,00000000,00000000,/00000000,00000000,00000000,/;true;"},
		{2, []float32{high, -high, num(1), -num(1)}, "2:7f7fffff,ff7fffff,00000001,80000001,:00000000,00000000,/00000000,00000000,/00000000,00000000,/00000000,00000000,/;true;"},
		{1, []float32{minus, 0}, "1:80000000,00000000,:00000000,/00000000,/;true;"},
	} {
		isShown(t, show(c.ticks, c.places), show(impl.FlatGather(c.ticks, c.places)), c.want)
	}
	for ticks := range int64(70) {
		for places := range 20 {
			g, ok := impl.FlatGather(ticks, wavy(places, 3))
			want := impl.Gather{Ticks: ticks, Places: wavy(places, 3), Traces: slices.Repeat([][]float32{make([]float32, ticks)}, places)}
			if ticks >= 1 && ticks <= 64 && places >= 1 && places <= 16 {
				isShown(t, show(ticks, places), show(g, ok, impl.SameGather(g, want)), show(want, true, true))
			} else {
				isShown(t, show(ticks, places), show(g, ok), noGather)
			}
		}
	}
}

func TestFlatGathersThatAreNone(t *testing.T) {
	for _, ticks := range []int64{0, -1, 65, 4294967297, math.MaxInt64, math.MinInt64} {
		isShown(t, show(ticks), show(impl.FlatGather(ticks, []float32{1})), noGather)
	}
	for _, places := range [][]float32{nil, {}, ones[float32](17), ones[float32](1000)} {
		isShown(t, show(len(places)), show(impl.FlatGather(1, places)), noGather)
	}
	for _, place := range noPlaces() {
		isShown(t, word(place), show(impl.FlatGather(3, []float32{place}))+show(impl.FlatGather(3, []float32{1, place}))+
			show(impl.FlatGather(3, []float32{place, 1})), noGather+noGather+noGather)
	}
}

// Each function with a gather fails for those that are not valid.
func TestGathersThatAreNone(t *testing.T) {
	good := gatherOfSize(3, 2)
	for k, g := range noGathers() {
		pilot := ones[float32](int(max(0, min(g.Ticks, 64))))
		shifts := make([]int64, len(g.Traces))
		got := show(impl.AddEvent(g, 1, 1, 1)) + show(impl.CorrectGather(g, 1)) + show(impl.BendGather(g, 1)) +
			show(impl.MuteGather(g, 1)) + show(impl.MuteStretch(g, 1, 1)) + show(impl.ShiftGather(g, shifts)) +
			show(impl.SortGather(g)) + show(impl.KeepPlaces(g, -10, 10)) + show(impl.MergeGathers(g, good)) +
			show(impl.MergeGathers(good, g)) + show(impl.MergeGathers(g, g)) + show(impl.NormGather(g))
		isShown(t, "gathers "+show(k), got, strings.Repeat(noGather, 12))
		got = show(impl.StackOf(g)) + show(impl.LiveStack(g)) + show(impl.ScanSpeeds(g, []float32{1}, 0, 0))
		isShown(t, "lists "+show(k), got, strings.Repeat(noList, 3))
		isShown(t, "SemblanceAt "+show(k), show(impl.SemblanceAt(g, 0, 0)), noNumber)
		isShown(t, "BestSpeed "+show(k), show(impl.BestSpeed(g, []float32{1}, 0, 0)), noFirst)
		isShown(t, "ShiftsOf "+show(k), show(impl.ShiftsOf(g, pilot, 1)), noShifts)
	}
}
