package tests

import (
	"math"
	"strings"
	"testing"

	"loop.example/g01231/impl"
)

func TestShiftsOf(t *testing.T) {
	minus, inf, nan := minusZero(), infinite(), notNumber()
	for _, c := range []struct {
		traces [][]float32
		pilot  []float32
		most   int64
		want   string
	}{
		{[][]float32{{0, 0, 5, 0}}, []float32{0, 1, 0, 0}, 2, "[1];true;"},
		{[][]float32{{0, 0, 5, 0}}, []float32{0, 1, 0, 0}, 0, "[0];true;"},
		{[][]float32{{0, 0, 5, 0}, {5, 0, 0, 0}, {0, 5, 0, 5}, {0, 0, 0, 0}}, []float32{0, 1, 0, 0}, 2, "[1 -1 0 -2];true;"},
		{[][]float32{{0, 0, 5, 0}, {5, 0, 0, 0}, {0, 5, 0, 5}, {0, 0, 0, 0}}, []float32{0, 1, 0, 0}, 64, "[1 -1 0 -64];true;"},
		{[][]float32{{0, 0, 5, 0}, {0, 0, 0, 5}}, []float32{0, 1, 0, 0}, 1, "[1 -1];true;"},
		{[][]float32{{1, 1, 1, 1}}, []float32{1, 1, 1, 1}, 3, "[0];true;"},
		{[][]float32{{1, 1, 1, 1}}, []float32{0, 1, 1, 0}, 3, "[-1];true;"},
		{[][]float32{{1, 1, 1, 1}}, []float32{-1, -1, -1, -1}, 3, "[-3];true;"},
		{[][]float32{{1, 1, 1, 1}}, []float32{-1, -1, -1, -1}, 4, "[-4];true;"},
		{[][]float32{{1, 1, 1, 1}}, []float32{-1, -1, -1, -1}, 5, "[-5];true;"},
		{[][]float32{{1, 1, 1, 1}}, []float32{-1, -1, -1, -1}, 0, "[0];true;"},
		{[][]float32{{0, 0, 0, 0}}, []float32{1, 2, 3, 4}, 64, "[-64];true;"},
		{[][]float32{{1, nan, 1, 1}}, []float32{1, 1, 1, 1}, 3, "[2];true;"},
		{[][]float32{{nan, nan, nan, nan}}, []float32{1, 1, 1, 1}, 3, "[-3];true;"},
		{[][]float32{{nan, nan, nan, nan}}, []float32{1, 1, 1, 1}, 0, "[0];true;"},
		{[][]float32{{nan, nan, nan, nan}}, []float32{1, 1, 1, 1}, 4, "[-4];true;"},
		{[][]float32{{nan, nan, nan, nan}}, make([]float32, 4), 64, "[-64];true;"},
		{[][]float32{{inf, 0, 0, 0}}, []float32{0, 0, 1, 0}, 2, "[-2];true;"},
		{[][]float32{{inf, 0, 0, 0}}, []float32{1, 1, 1, 1}, 3, "[-3];true;"},
		{[][]float32{{-inf, nan, nan, nan}}, []float32{1, 1, 1, 1}, 3, "[-3];true;"},
		{[][]float32{{-inf, 1, 1, 1}}, []float32{1, 1, 1, 1}, 1, "[1];true;"},
		{[][]float32{{inf, -inf, inf, 1}}, []float32{1, 1, 1, 1}, 2, "[2];true;"},
		{[][]float32{{7}}, []float32{1}, 0, "[0];true;"},
		{[][]float32{{7}}, []float32{1}, 1, "[0];true;"},
		{[][]float32{{7}}, []float32{-1}, 64, "[-64];true;"},
		{[][]float32{{7}, {-7}, {nan}, {minus}}, []float32{2}, 1, "[0 -1 -1 -1];true;"},
		{[][]float32{{7}, {-7}, {nan}, {minus}}, []float32{nan}, 1, "[-1 -1 -1 -1];true;"},
		{[][]float32{{minus, minus, minus}}, []float32{1, 1, 1}, 2, "[-2];true;"},
		{[][]float32{{1e+20, -1e+20, 1e+20}}, []float32{1e+20, 1e+20, 1e+20}, 2, "[-2];true;"},
		{[][]float32{{1e+08, 1, -1e+08}, {1, -1e+08, 1e+08}}, []float32{1, 1, 1}, 1, "[-1 0];true;"},
		{[][]float32{{3, -1, 2, 7, -2, 1}}, []float32{2, 7, -2, 1, 3, -1}, 5, "[2];true;"},
	} {
		g := gatherAt(wavy(len(c.traces), 1), c.traces...)
		isShown(t, show(g, c.pilot, c.most), show(impl.ShiftsOf(g, c.pilot, c.most)), c.want)
	}
	var all strings.Builder
	for k, g := range someGathers() {
		pilots := [][]float32{wavy(int(g.Ticks), uint32(k)), g.Traces[0], filled(int(g.Ticks), minus)}
		for _, pilot := range pilots {
			for _, most := range []int64{0, 1, 2, 7, 63, 64} {
				all.WriteString(show(impl.ShiftsOf(g, pilot, most)))
			}
		}
	}
	isShown(t, "some", digest(all.String()), "e2912dc2")
}

func TestShiftsThatAreNotFound(t *testing.T) {
	g := gatherOfSize(5, 2)
	for _, most := range []int64{-1, 65, -64, math.MaxInt64, math.MinInt64} {
		isShown(t, show(most), show(impl.ShiftsOf(g, ones[float32](5), most)), noShifts)
	}
	for _, count := range []int{0, 1, 4, 6, 64, 65, 1000} {
		isShown(t, show(count), show(impl.ShiftsOf(g, ones[float32](count), 1)), noShifts)
	}
	isShown(t, "nil", show(impl.ShiftsOf(g, nil, 0)), noShifts)
	for _, most := range []int64{0, 64} {
		got, ok := impl.ShiftsOf(g, ones[float32](5), most)
		isShown(t, show(most), show(got, ok), show([]int64{0, 0}, true))
	}
}

func TestShiftGather(t *testing.T) {
	minus, nan := minusZero(), notNumber()
	for _, c := range []struct {
		traces [][]float32
		shifts []int64
		want   string
	}{
		{[][]float32{{1, 2}, {3, 4}}, []int64{1, -1}, "2:3f800000,3f800000,:40000000,00000000,/00000000,40400000,/;true;"},
		{[][]float32{{1, 2, 3}}, []int64{0}, "3:3f800000,:3f800000,40000000,40400000,/;true;"},
		{[][]float32{{1, 2, 3}}, []int64{1}, "3:3f800000,:40000000,40400000,00000000,/;true;"},
		{[][]float32{{1, 2, 3}}, []int64{2}, "3:3f800000,:40400000,00000000,00000000,/;true;"},
		{[][]float32{{1, 2, 3}}, []int64{3}, "3:3f800000,:00000000,00000000,00000000,/;true;"},
		{[][]float32{{1, 2, 3}}, []int64{64}, "3:3f800000,:00000000,00000000,00000000,/;true;"},
		{[][]float32{{1, 2, 3}}, []int64{-1}, "3:3f800000,:00000000,3f800000,40000000,/;true;"},
		{[][]float32{{1, 2, 3}}, []int64{-2}, "3:3f800000,:00000000,00000000,3f800000,/;true;"},
		{[][]float32{{1, 2, 3}}, []int64{-3}, "3:3f800000,:00000000,00000000,00000000,/;true;"},
		{[][]float32{{1, 2, 3}}, []int64{-64}, "3:3f800000,:00000000,00000000,00000000,/;true;"},
		{[][]float32{{minus, nan, minus, 7}, {minus, nan, minus, 7}, {minus, nan, minus, 7}}, []int64{1, -2, 0}, "4:3f800000,3f800000,3f800000,:7fc00000,80000000,40e00000,00000000,/00000000,00000000,80000000,7fc00000,/80000000,7fc00000,80000000,40e00000,/;true;"},
		{[][]float32{{5}, {5}, {5}}, []int64{0, 1, -1}, "1:3f800000,3f800000,3f800000,:40a00000,/00000000,/00000000,/;true;"},
	} {
		g := gatherAt(ones[float32](len(c.traces)), c.traces...)
		isShown(t, show(g, c.shifts), show(impl.ShiftGather(g, c.shifts)), c.want)
	}
	var all strings.Builder
	for k, g := range someGathers() {
		for n := range 6 {
			var shifts []int64
			for i := range g.Traces {
				shifts = append(shifts, int64((k*31+i*17+n*29)%129-64)/int64(n+1))
			}
			all.WriteString(show(impl.ShiftGather(g, shifts)))
		}
	}
	isShown(t, "some", digest(all.String()), "f3d77fca")
}

func TestGathersThatAreNotShifted(t *testing.T) {
	g := gatherOfSize(5, 3)
	for _, by := range []int64{-65, 65, -128, 128, math.MaxInt64, math.MinInt64} {
		for _, shifts := range [][]int64{{by, 0, 0}, {0, by, 0}, {0, 0, by}} {
			isShown(t, show(shifts), show(impl.ShiftGather(g, shifts)), noGather)
		}
	}
	for _, count := range []int{0, 1, 2, 4, 16, 17, 100} {
		isShown(t, show(count), show(impl.ShiftGather(g, make([]int64, count))), noGather)
	}
	isShown(t, "nil", show(impl.ShiftGather(g, nil)), noGather)
	long := gatherBy(64, 3, 1)
	for _, by := range []int64{-64, 64} {
		flat, _ := impl.FlatGather(64, long.Places)
		isShown(t, show(by), show(impl.ShiftGather(long, []int64{by, by, by})), show(flat, true))
	}
	for _, by := range []int64{-63, 63} {
		shifted, ok := impl.ShiftGather(long, []int64{by, 0, -by})
		first, _ := impl.ShiftTrace(long.Traces[0], -by)
		third, _ := impl.ShiftTrace(long.Traces[2], by)
		isShown(t, show(by), show(shifted, ok), show(gatherAt(long.Places, first, long.Traces[1], third), true))
	}
}

func TestSortGather(t *testing.T) {
	minus, high := minusZero(), float32(math.MaxFloat32)
	for _, c := range []struct {
		places []float32
		want   string
	}{
		{[]float32{3, 1}, "1:3f800000,40400000,:3f800000,/00000000,/;true;"},
		{[]float32{1, 3}, "1:3f800000,40400000,:00000000,/3f800000,/;true;"},
		{[]float32{2}, "1:40000000,:00000000,/;true;"},
		{[]float32{minus, 0}, "1:80000000,00000000,:00000000,/3f800000,/;true;"},
		{[]float32{0, minus}, "1:00000000,80000000,:00000000,/3f800000,/;true;"},
		{[]float32{0, minus, 0, minus}, "1:00000000,80000000,00000000,80000000,:00000000,/3f800000,/40000000,/40400000,/;true;"},
		{[]float32{1, 0, minus, -1, 0}, "1:bf800000,00000000,80000000,00000000,3f800000,:40400000,/3f800000,/40000000,/40800000,/00000000,/;true;"},
		{[]float32{-3, 3, -3, 3}, "1:c0400000,c0400000,40400000,40400000,:00000000,/40000000,/3f800000,/40400000,/;true;"},
		{[]float32{2, 1, 2, 1, 2}, "1:3f800000,3f800000,40000000,40000000,40000000,:3f800000,/40400000,/00000000,/40000000,/40800000,/;true;"},
		{[]float32{high, -high, num(1), -num(1), minus}, "1:ff7fffff,80000001,80000000,00000001,7f7fffff,:3f800000,/40400000,/40800000,/40000000,/00000000,/;true;"},
		{[]float32{5, 4, 3, 2, 1, 0, -1, -2, -3, -4, -5, -6, -7, -8, -9, -10}, "1:c1200000,c1100000,c1000000,c0e00000,c0c00000,c0a00000,c0800000,c0400000,c0000000,bf800000,00000000,3f800000,40000000,40400000,40800000,40a00000,:41700000,/41600000,/41500000,/41400000,/41300000,/41200000,/41100000,/41000000,/40e00000,/40c00000,/40a00000,/40800000,/40400000,/40000000,/3f800000,/00000000,/;true;"},
		{[]float32{1.5, 1.5000001, 1.4999999}, "1:3fbfffff,3fc00000,3fc00001,:40000000,/00000000,/3f800000,/;true;"},
	} {
		g := impl.Gather{Ticks: 1, Places: c.places}
		for i := range c.places {
			g.Traces = append(g.Traces, []float32{float32(i)})
		}
		isShown(t, show(c.places), show(impl.SortGather(g)), c.want)
	}
	var all strings.Builder
	for _, g := range someGathers() {
		all.WriteString(show(impl.SortGather(g)))
	}
	isShown(t, "some", digest(all.String()), "481dc88b")
}

// Many places that are equal stay in order, too, where a sort that is not stable
// only keeps few of them.
func TestEqualPlacesStayInOrder(t *testing.T) {
	for _, kinds := range []int{1, 2, 3, 5} {
		g := impl.Gather{Ticks: 1}
		for i := range 16 {
			g.Places = append(g.Places, float32((i*7)%kinds)-1)
			g.Traces = append(g.Traces, []float32{float32(i)})
		}
		sorted, ok := impl.SortGather(g)
		isShown(t, show(kinds), show(ok, len(sorted.Places), len(sorted.Traces)), "true;16;16;")
		for i := range 16 {
			at := int(sorted.Traces[i][0])
			isNumber(t, "its place", sorted.Places[i], g.Places[at])
			if i > 0 && (sorted.Places[i-1] > sorted.Places[i] || sorted.Places[i-1] == sorted.Places[i] && int(sorted.Traces[i-1][0]) >= at) {
				t.Errorf("%d kinds: got the traces %v", kinds, sorted.Traces)
			}
		}
	}
}

func TestKeepPlaces(t *testing.T) {
	minus, inf, nan, high := minusZero(), infinite(), notNumber(), float32(math.MaxFloat32)
	for _, c := range []struct {
		places    []float32
		low, high float32
		want      string
	}{
		{[]float32{3, -1, 0, minus, 2.5, 3}, 2, 4, "1:40400000,40200000,40400000,:00000000,/40800000,/40a00000,/;true;"},
		{[]float32{3, -1, 0, minus, 2.5, 3}, 3, 3, "1:40400000,40400000,:00000000,/40a00000,/;true;"},
		{[]float32{3, -1, 0, minus, 2.5, 3}, 5, 6, "0::;false;"},
		{[]float32{3, -1, 0, minus, 2.5, 3}, -1, 0, "1:bf800000,00000000,80000000,:3f800000,/40000000,/40400000,/;true;"},
		{[]float32{3, -1, 0, minus, 2.5, 3}, minus, 0, "1:00000000,80000000,:40000000,/40400000,/;true;"},
		{[]float32{3, -1, 0, minus, 2.5, 3}, 0, minus, "1:00000000,80000000,:40000000,/40400000,/;true;"},
		{[]float32{3, -1, 0, minus, 2.5, 3}, -inf, inf, "1:40400000,bf800000,00000000,80000000,40200000,40400000,:00000000,/3f800000,/40000000,/40400000,/40800000,/40a00000,/;true;"},
		{[]float32{3, -1, 0, minus, 2.5, 3}, inf, -inf, "0::;false;"},
		{[]float32{3, -1, 0, minus, 2.5, 3}, 4, 2, "0::;false;"},
		{[]float32{3, -1, 0, minus, 2.5, 3}, 3, -1, "0::;false;"},
		{[]float32{3, -1, 0, minus, 2.5, 3}, nan, inf, "0::;false;"},
		{[]float32{3, -1, 0, minus, 2.5, 3}, -inf, nan, "0::;false;"},
		{[]float32{3, -1, 0, minus, 2.5, 3}, nan, nan, "0::;false;"},
		{[]float32{3, -1, 0, minus, 2.5, 3}, inf, inf, "0::;false;"},
		{[]float32{3, -1, 0, minus, 2.5, 3}, -inf, -inf, "0::;false;"},
		{[]float32{3, -1, 0, minus, 2.5, 3}, -inf, -1, "1:bf800000,:3f800000,/;true;"},
		{[]float32{3, -1, 0, minus, 2.5, 3}, 2.5000002, inf, "1:40400000,40400000,:00000000,/40a00000,/;true;"},
		{[]float32{3, -1, 0, minus, 2.5, 3}, 2.4999998, 2.9999998, "1:40200000,:40800000,/;true;"},
		{[]float32{3, -1, 0, minus, 2.5, 3}, num(1), inf, "1:40400000,40200000,40400000,:00000000,/40800000,/40a00000,/;true;"},
		{[]float32{3, -1, 0, minus, 2.5, 3}, -inf, -num(1), "1:bf800000,:3f800000,/;true;"},
		{[]float32{high, -high}, -inf, high, "1:7f7fffff,ff7fffff,:00000000,/3f800000,/;true;"},
		{[]float32{high, -high}, high, inf, "1:7f7fffff,:00000000,/;true;"},
		{[]float32{high, -high}, inf, inf, "0::;false;"},
		{[]float32{0}, 0, 0, "1:00000000,:00000000,/;true;"},
		{[]float32{minus}, 0, 0, "1:80000000,:00000000,/;true;"},
		{[]float32{1}, 2, inf, "0::;false;"},
	} {
		g := impl.Gather{Ticks: 1, Places: c.places}
		for i := range c.places {
			g.Traces = append(g.Traces, []float32{float32(i)})
		}
		isShown(t, show(c.places, c.low, c.high), show(impl.KeepPlaces(g, c.low, c.high)), c.want)
	}
	var all strings.Builder
	for _, g := range someGathers() {
		for _, low := range []float32{-20, 0, minus, 3, -inf, nan, inf} {
			for _, high := range []float32{20, 0, minus, 3, inf, nan, -inf} {
				all.WriteString(show(impl.KeepPlaces(g, low, high)))
			}
		}
	}
	isShown(t, "some", digest(all.String()), "c19d0024")
}

func TestMergeGathers(t *testing.T) {
	for many := 1; many <= 16; many++ {
		for more := 1; more <= 16; more++ {
			a, b := gatherBy(4, many, 3), gatherBy(4, more, 5)
			want := impl.Gather{Ticks: 4, Places: append(gatherBy(4, many, 3).Places, b.Places...), Traces: append(gatherBy(4, many, 3).Traces, b.Traces...)}
			if many+more <= 16 {
				isShown(t, show(many, more), show(impl.MergeGathers(a, b)), show(want, true))
			} else {
				isShown(t, show(many, more), show(impl.MergeGathers(a, b)), noGather)
			}
		}
	}
	for one := 1; one <= 64; one++ {
		for two := 1; two <= 64; two++ {
			_, ok := impl.MergeGathers(gatherOfSize(one, 2), gatherOfSize(two, 3))
			isShown(t, show(one, two), show(ok), show(one == two))
		}
	}
	odd := oddGather()
	twice := impl.Gather{Ticks: 24, Places: append(oddGather().Places, odd.Places...), Traces: append(oddGather().Traces, odd.Traces...)}
	isShown(t, "twice", show(impl.MergeGathers(odd, odd)), show(twice, true))
}

// Neither what is missing in one of both nor what is too much there is made good
// by the other one.
func TestGathersThatAreNotMerged(t *testing.T) {
	good, empty := gatherOfSize(3, 2), impl.Gather{Ticks: 3}
	place, trace := impl.Gather{Ticks: 3, Places: []float32{1}}, impl.Gather{Ticks: 3, Traces: [][]float32{{1, 2, 3}}}
	for _, g := range []impl.Gather{good, empty, place, trace} {
		for _, none := range []impl.Gather{empty, place, trace} {
			isShown(t, show(g, none), show(impl.MergeGathers(g, none))+show(impl.MergeGathers(none, g)), noGather+noGather)
		}
	}
}

func TestNormGather(t *testing.T) {
	minus, inf, nan, high := minusZero(), infinite(), notNumber(), float32(math.MaxFloat32)
	for _, c := range []struct {
		traces [][]float32
		want   string
	}{
		{[][]float32{{1, 2}, {3, 4}}, "2:3f800000,3f800000,:3f000000,3f800000,/3f400000,3f800000,/;true;"},
		{[][]float32{{-4, 2}, {0, 0}, {minus, minus}}, "2:3f800000,3f800000,3f800000,:bf800000,3f000000,/00000000,00000000,/80000000,80000000,/;true;"},
		{[][]float32{{minus, 0, -0.3}}, "3:3f800000,:80000000,00000000,bf800000,/;true;"},
		{[][]float32{{nan, nan}}, "2:3f800000,:7fc00000,7fc00000,/;true;"},
		{[][]float32{{nan, -2, 1}}, "3:3f800000,:7fc00000,bf800000,3f000000,/;true;"},
		{[][]float32{{inf, 1}, {-inf, 1}, {1, 2}}, "2:3f800000,3f800000,3f800000,:7f800000,3f800000,/ff800000,3f800000,/3f000000,3f800000,/;true;"},
		{[][]float32{{nan, inf, 3}}, "3:3f800000,:7fc00000,7f800000,40400000,/;true;"},
		{[][]float32{{nan, 0, minus}}, "3:3f800000,:7fc00000,00000000,80000000,/;true;"},
		{[][]float32{{high, 1, -high}}, "3:3f800000,:3f800000,00200000,bf800000,/;true;"},
		{[][]float32{{num(1), -num(1), minus}}, "3:3f800000,:3f800000,bf800000,80000000,/;true;"},
		{[][]float32{{num(1), num(3)}, {num(3), num(7)}}, "2:3f800000,3f800000,:3eaaaaab,3f800000,/3edb6db7,3f800000,/;true;"},
		{[][]float32{{1e-40, 1}}, "2:3f800000,:000116c2,3f800000,/;true;"},
		{[][]float32{{3, 1, 0.1}}, "3:3f800000,:3f800000,3eaaaaab,3d088889,/;true;"},
		{[][]float32{{-7, -0.7, 3.3}, {0.1, 0.3, 0.7}}, "3:3f800000,3f800000,:bf800000,bdcccccd,3ef15f16,/3e124925,3edb6db8,3f800000,/;true;"},
		{[][]float32{{5}}, "1:3f800000,:3f800000,/;true;"},
		{[][]float32{{-5}}, "1:3f800000,:bf800000,/;true;"},
		{[][]float32{{nan, num(5), num(1)}}, "3:3f800000,:7fc00000,3f800000,3e4ccccd,/;true;"},
	} {
		g := gatherAt(ones[float32](len(c.traces)), c.traces...)
		isShown(t, show(g), show(impl.NormGather(g)), c.want)
	}
	var all strings.Builder
	for _, g := range someGathers() {
		all.WriteString(show(impl.NormGather(g)))
	}
	isShown(t, "some", digest(all.String()), "fecdcbaf")
}
