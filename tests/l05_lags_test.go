package tests

import (
	"math"
	"strings"
	"testing"

	"loop.example/g01231/impl"
)

func TestAutoOf(t *testing.T) {
	minus, inf, nan, high := minusZero(), infinite(), notNumber(), float32(math.MaxFloat32)
	for _, c := range []struct {
		a     []float32
		count int64
		want  string
	}{
		{[]float32{1, 2}, 2, "40a00000,40000000,;true;"},
		{[]float32{1, 2}, 1, "40a00000,;true;"},
		{[]float32{1, 2}, 3, "40a00000,40000000,00000000,;true;"},
		{[]float32{1, 2}, 24, "40a00000,40000000,00000000,00000000,00000000,00000000,00000000,00000000,00000000,00000000,00000000,00000000,00000000,00000000,00000000,00000000,00000000,00000000,00000000,00000000,00000000,00000000,00000000,00000000,;true;"},
		{[]float32{3}, 1, "41100000,;true;"},
		{[]float32{-3}, 24, "41100000,00000000,00000000,00000000,00000000,00000000,00000000,00000000,00000000,00000000,00000000,00000000,00000000,00000000,00000000,00000000,00000000,00000000,00000000,00000000,00000000,00000000,00000000,00000000,;true;"},
		{[]float32{minus}, 2, "00000000,00000000,;true;"},
		{[]float32{0, minus, 0}, 3, "00000000,00000000,00000000,;true;"},
		{[]float32{minus, 1}, 2, "3f800000,00000000,;true;"},
		{[]float32{-1, 0}, 2, "3f800000,00000000,;true;"},
		{[]float32{4096, 1, 1}, 3, "4b800000,45800800,45800000,;true;"},
		{[]float32{1, 1, 4096}, 3, "4b800001,45800800,45800000,;true;"},
		{[]float32{4096, 1, 1, -4096}, 4, "4c000000,3f800000,00000000,cb800000,;true;"},
		{[]float32{0.1, -0.7, 0.3}, 3, "3f170a3d,be8f5c29,3cf5c290,;true;"},
		{[]float32{1.0000001, 1.0000001}, 2, "40000002,3f800002,;true;"},
		{[]float32{1.0000001, -1.0000001, 1}, 3, "40400002,c0000002,3f800001,;true;"},
		{[]float32{1e+20, 1}, 2, "7f800000,60ad78ec,;true;"},
		{[]float32{1e-23, 1e-23}, 2, "00000000,00000000,;true;"},
		{[]float32{inf, 1}, 2, "7f800000,7f800000,;true;"},
		{[]float32{inf, 0, 1}, 3, "7f800000,7fc00000,7f800000,;true;"},
		{[]float32{inf, -inf}, 2, "7f800000,ff800000,;true;"},
		{[]float32{1, nan, 1}, 3, "7fc00000,7fc00000,3f800000,;true;"},
		{[]float32{nan}, 2, "7fc00000,00000000,;true;"},
		{[]float32{high, 1}, 2, "7f800000,7f7fffff,;true;"},
		{[]float32{num(1), 1}, 2, "3f800000,00000001,;true;"},
		{[]float32{1, 2, 3, 4, 5}, 5, "425c0000,42200000,41d00000,41600000,40a00000,;true;"},
		{[]float32{1, -1, 1, -1, 1}, 6, "40a00000,c0800000,40400000,c0000000,3f800000,00000000,;true;"},
		{filled(128, 1), 24, "43000000,42fe0000,42fc0000,42fa0000,42f80000,42f60000,42f40000,42f20000,42f00000,42ee0000,42ec0000,42ea0000,42e80000,42e60000,42e40000,42e20000,42e00000,42de0000,42dc0000,42da0000,42d80000,42d60000,42d40000,42d20000,;true;"},
		{filled(24, 1), 24, "41c00000,41b80000,41b00000,41a80000,41a00000,41980000,41900000,41880000,41800000,41700000,41600000,41500000,41400000,41300000,41200000,41100000,41000000,40e00000,40c00000,40a00000,40800000,40400000,40000000,3f800000,;true;"},
		{filled(23, 1), 24, "41b80000,41b00000,41a80000,41a00000,41980000,41900000,41880000,41800000,41700000,41600000,41500000,41400000,41300000,41200000,41100000,41000000,40e00000,40c00000,40a00000,40800000,40400000,40000000,3f800000,00000000,;true;"},
	} {
		isShown(t, show(c.a, c.count), show(impl.AutoOf(c.a, c.count)), c.want)
	}
	var all strings.Builder
	for _, a := range append(someTraces(), shortTraces()...) {
		for _, count := range []int64{1, 2, 7, 24} {
			all.WriteString(show(impl.AutoOf(a, count)))
		}
	}
	isShown(t, "some", digest(all.String()), "93c43148")
}

func TestCrossOf(t *testing.T) {
	minus, inf, nan := minusZero(), infinite(), notNumber()
	for _, c := range []struct {
		a, b  []float32
		count int64
		want  string
	}{
		{[]float32{1, 2}, []float32{3}, 2, "40400000,40c00000,;true;"},
		{[]float32{3}, []float32{1, 2}, 2, "40400000,00000000,;true;"},
		{[]float32{1, 2, 3}, []float32{4, 5}, 1, "41600000,;true;"},
		{[]float32{1, 2, 3}, []float32{4, 5}, 2, "41600000,41b80000,;true;"},
		{[]float32{1, 2, 3}, []float32{4, 5}, 3, "41600000,41b80000,41400000,;true;"},
		{[]float32{1, 2, 3}, []float32{4, 5}, 4, "41600000,41b80000,41400000,00000000,;true;"},
		{[]float32{4, 5}, []float32{1, 2, 3}, 3, "41600000,40a00000,00000000,;true;"},
		{[]float32{4, 5}, []float32{1, 2, 3}, 24, "41600000,40a00000,00000000,00000000,00000000,00000000,00000000,00000000,00000000,00000000,00000000,00000000,00000000,00000000,00000000,00000000,00000000,00000000,00000000,00000000,00000000,00000000,00000000,00000000,;true;"},
		{[]float32{minus}, []float32{1}, 2, "00000000,00000000,;true;"},
		{[]float32{minus}, []float32{-1}, 1, "00000000,;true;"},
		{[]float32{minus, minus}, []float32{1, 0}, 2, "00000000,00000000,;true;"},
		{[]float32{4096, 1, 1}, []float32{4096, 1, 1}, 3, "4b800000,45800800,45800000,;true;"},
		{[]float32{1, 16777216.0, 1, 1}, []float32{1, 1, 1}, 2, "4b800000,4b800000,;true;"},
		{[]float32{1, 1, 16777216.0}, []float32{1, 1, 1}, 2, "4b800001,4b800000,;true;"},
		{[]float32{0.1, -0.7, 0.3}, []float32{0.3, 0.9}, 3, "bf19999a,3d75c290,3db851ec,;true;"},
		{[]float32{1.0000001, -1.0000001}, []float32{1.0000001, 1.0000001}, 2, "00000000,bf800002,;true;"},
		{[]float32{inf, 1}, []float32{0, 1}, 2, "7fc00000,00000000,;true;"},
		{[]float32{0, 1}, []float32{inf, 1}, 2, "7fc00000,7f800000,;true;"},
		{[]float32{1, nan}, []float32{1}, 2, "3f800000,7fc00000,;true;"},
		{[]float32{1}, []float32{1, nan}, 2, "3f800000,00000000,;true;"},
		{[]float32{1e+30, 1}, []float32{1e+30, 1e-30}, 2, "7f800000,7149f2ca,;true;"},
		{[]float32{num(1), 1}, []float32{0.5, 0.5}, 2, "3f000000,3f000000,;true;"},
		{[]float32{1, 2, 3, 4, 5}, []float32{1}, 5, "3f800000,40000000,40400000,40800000,40a00000,;true;"},
		{[]float32{1}, []float32{1, 2, 3, 4, 5}, 5, "3f800000,00000000,00000000,00000000,00000000,;true;"},
	} {
		isShown(t, show(c.a, c.b, c.count), show(impl.CrossOf(c.a, c.b, c.count)), c.want)
	}
	var all strings.Builder
	for _, a := range append(someTraces(), shortTraces()...) {
		for _, b := range append(someTraces(), shortTraces()...) {
			for _, count := range []int64{1, 5, 24} {
				all.WriteString(show(impl.CrossOf(a, b, count)))
			}
		}
	}
	isShown(t, "some", digest(all.String()), "0a5c9bda")
}

func TestLagsThatAreNotTold(t *testing.T) {
	for _, a := range noTraces() {
		isShown(t, show(a), show(impl.AutoOf(a, 1)), noList)
		isShown(t, show(a), show(impl.CrossOf(a, a, 1)), noList)
		isShown(t, show(a), show(impl.CrossOf(a, []float32{1}, 1)), noList)
		isShown(t, show(a), show(impl.CrossOf([]float32{1}, a, 1)), noList)
	}
	for _, count := range beyond(1, 24) {
		isShown(t, show(count), show(impl.AutoOf([]float32{1, 2}, count)), noList)
		isShown(t, show(count), show(impl.CrossOf([]float32{1, 2}, []float32{3}, count)), noList)
	}
}

// Of a trace of so many numbers 1, so many are still there at a lag.
func TestLagsOfOnes(t *testing.T) {
	for many := 1; many <= 128; many++ {
		for other := 1; other <= 128; other += 3 {
			cross, ok := impl.CrossOf(ones[float32](many), ones[float32](other), 24)
			want := make([]float32, 24)
			for k := range want {
				want[k] = float32(max(0, min(many-k, other)))
			}
			isShown(t, show(many, other), show(cross, ok), show(want, true))
		}
	}
}

func TestAutosAreOfTracesWithThemselves(t *testing.T) {
	for _, a := range append(someTraces(), shortTraces()...) {
		for count := int64(1); count <= 24; count++ {
			auto, ok := impl.AutoOf(a, count)
			isShown(t, "cross", show(impl.CrossOf(a, a, count)), show(auto, ok))
			energy, _ := impl.EnergyOfTrace(a)
			isNumber(t, "energy", auto[0], energy)
		}
	}
}

func TestWhiteAuto(t *testing.T) {
	minus, inf, nan, high := minusZero(), infinite(), notNumber(), float32(math.MaxFloat32)
	for _, c := range []struct {
		auto  []float32
		white float32
		want  string
	}{
		{[]float32{4, 1}, 0.5, "40c00000,3f800000,;true;"},
		{[]float32{4, 1}, 0, "40800000,3f800000,;true;"},
		{[]float32{4, 1}, minus, "40800000,3f800000,;true;"},
		{[]float32{4, 1}, 3, "41800000,3f800000,;true;"},
		{[]float32{3}, 1e-07, "40400002,;true;"},
		{[]float32{3}, 1e-08, "40400000,;true;"},
		{[]float32{3, 3}, 0.1, "40533334,40400000,;true;"},
		{[]float32{0.1, 0.1}, 0.7, "3e2e147b,3dcccccd,;true;"},
		{[]float32{minus, minus}, 0.5, "80000000,80000000,;true;"},
		{[]float32{0, 0, minus}, 1, "00000000,00000000,80000000,;true;"},
		{[]float32{-2, 1}, 0.5, "c0400000,3f800000,;true;"},
		{[]float32{inf, -inf}, 1, "7f800000,ff800000,;true;"},
		{[]float32{nan, 1, nan}, 0, "7fc00000,3f800000,7fc00000,;true;"},
		{[]float32{1, nan}, 0, "3f800000,7fc00000,;true;"},
		{[]float32{high, high}, 0, "7f7fffff,7f7fffff,;true;"},
		{[]float32{high, high}, 1e-07, "7f800000,7f7fffff,;true;"},
		{[]float32{high, 1}, high, "7f800000,3f800000,;true;"},
		{[]float32{1, 1}, high, "7f7fffff,3f800000,;true;"},
		{[]float32{0, 1}, high, "00000000,3f800000,;true;"},
		{[]float32{num(1), num(1)}, 0.5, "00000002,00000001,;true;"},
		{[]float32{num(1)}, 0.25, "00000001,;true;"},
		{[]float32{num(3), num(3)}, 0.5, "00000004,00000003,;true;"},
		{[]float32{1e-30, 2}, num(1), "0da24260,40000000,;true;"},
		{[]float32{7, 1}, 16777216.0, "4ce00000,3f800000,;true;"},
	} {
		isShown(t, show(c.auto, c.white), show(impl.WhiteAuto(c.auto, c.white)), c.want)
	}
	var all strings.Builder
	for _, auto := range append(someAutos(), oddLists()...) {
		for _, white := range []float32{0, 0.001, 0.1, 3.3, 1e30} {
			all.WriteString(show(impl.WhiteAuto(auto, white)))
		}
	}
	isShown(t, "some", digest(all.String()), "2352835f")
}

func TestAutosThatAreNotWhite(t *testing.T) {
	for _, white := range beyondWhite() {
		for _, auto := range [][]float32{{1}, {0, 1}, powersBy(24, 0.5)} {
			isShown(t, show(auto, white), show(impl.WhiteAuto(auto, white)), noList)
		}
	}
	for _, auto := range noAutos() {
		isShown(t, show(auto), show(impl.WhiteAuto(auto, 0)), noList)
		isShown(t, show(auto), show(impl.WhiteAuto(auto, 0.1)), noList)
	}
	for count := 1; count <= 24; count++ {
		for _, white := range []float32{0, minusZero()} {
			isShown(t, show(count), show(impl.WhiteAuto(autoBy(count, 3), white)), show(autoBy(count, 3), true))
		}
	}
}
