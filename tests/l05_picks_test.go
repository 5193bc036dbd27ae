package tests

import (
	"math"
	"strings"
	"testing"

	"loop.example/g01231/impl"
)

func TestPickFirst(t *testing.T) {
	minus, inf, nan, high := minusZero(), infinite(), notNumber(), float32(math.MaxFloat32)
	for _, c := range []struct {
		a           []float32
		short, long int64
		ratio       float32
		want        string
	}{
		{[]float32{0, 0, 1}, 1, 2, 1, "2;true;"},
		{[]float32{0, 0, 1}, 2, 1, 1, "0;false;"},
		{[]float32{0, 0, 1}, 2, 2, 1, "2;true;"},
		{[]float32{0, 0, 1}, 1, 1, 1, "2;true;"},
		{[]float32{0, 0, 1}, 1, 3, 1, "0;false;"},
		{[]float32{0, 0, 1}, 1, 3, -1, "0;false;"},
		{[]float32{1, 1, 1}, 1, 1, 1, "0;false;"},
		{[]float32{1, 1, 1}, 1, 1, 0.5, "1;true;"},
		{[]float32{1, 1, 1}, 1, 2, 0.5, "2;true;"},
		{[]float32{1, 1, 1}, 1, 2, 1, "0;false;"},
		{[]float32{1, 1, 1}, 1, 2, 0, "2;true;"},
		{[]float32{1, 1, 1}, 1, 2, minus, "2;true;"},
		{[]float32{1, 1, 1}, 1, 2, -1, "2;true;"},
		{[]float32{1, 1, 2}, 1, 1, 1, "2;true;"},
		{[]float32{1, 2, 4}, 1, 1, 2, "0;false;"},
		{[]float32{1, 2, 4.5}, 1, 1, 2, "2;true;"},
		{[]float32{1, -2, 4}, 1, 1, 1, "1;true;"},
		{[]float32{-1, -1, -3}, 1, 2, 2, "2;true;"},
		{[]float32{-1, -1, -3}, 2, 2, 1, "2;true;"},
		{[]float32{-1, -1, -3}, 2, 2, 2, "0;false;"},
		{[]float32{0, 0, 0}, 1, 1, 0, "0;false;"},
		{[]float32{0, 0, 0}, 1, 1, 1, "0;false;"},
		{[]float32{0, 0, 0}, 1, 1, -1, "0;false;"},
		{[]float32{minus, minus, minus}, 1, 1, -1, "0;false;"},
		{[]float32{0, 0, minus, 0}, 1, 2, 5, "0;false;"},
		{[]float32{0, 0, minus, num(1)}, 1, 2, high, "3;true;"},
		{[]float32{0, 0, 0, 5}, 1, 3, high, "3;true;"},
		{[]float32{0, 0, 0, 5}, 3, 3, high, "3;true;"},
		{[]float32{1, 0, 0, 0}, 1, 1, -1, "1;true;"},
		{[]float32{1, 0, 0, 0}, 1, 1, 0, "0;false;"},
		{[]float32{1, 0, 0, 0}, 2, 2, -0.5, "2;true;"},
		{[]float32{1, 2, 3, 4, 5, 6, 7, 8}, 2, 3, 1.5, "3;true;"},
		{[]float32{1, 2, 3, 4, 5, 6, 7, 8}, 2, 3, 1.6, "3;true;"},
		{[]float32{1, 2, 3, 4, 5, 6, 7, 8}, 1, 3, 1.8, "3;true;"},
		{[]float32{1, 2, 3, 4, 5, 6, 7, 8}, 3, 3, 1.5, "0;false;"},
		{[]float32{1, 1, 1, 1, 9, 1, 1}, 2, 4, 2, "4;true;"},
		{[]float32{1, 1, 1, 1, 9, 1, 1}, 2, 4, 5, "0;false;"},
		{[]float32{1, 1, 1, 1, 1, 9, 1}, 3, 4, 2, "5;true;"},
		{[]float32{nan, 1, 1, 1, 1}, 1, 1, 0.5, "2;true;"},
		{[]float32{nan, 1, 1, 1, 1}, 1, 2, 0.5, "3;true;"},
		{[]float32{1, nan, 1, 1, 1}, 2, 2, 0.5, "4;true;"},
		{[]float32{1, 1, 1, nan}, 1, 1, 0, "1;true;"},
		{[]float32{nan, nan, nan}, 1, 1, -5, "0;false;"},
		{[]float32{1, 1, inf, 1}, 1, 2, 3, "2;true;"},
		{[]float32{inf, 1, 1, 1}, 1, 1, 0, "2;true;"},
		{[]float32{inf, 1, 1, 1}, 1, 1, 0.5, "2;true;"},
		{[]float32{inf, 1, 1, 1}, 1, 1, -1, "1;true;"},
		{[]float32{inf, inf, inf}, 1, 1, 0.5, "0;false;"},
		{[]float32{inf, inf, inf}, 1, 1, -0.5, "1;true;"},
		{[]float32{high, high, 1}, 1, 1, 2, "0;false;"},
		{[]float32{high, high, high}, 2, 2, 0.5, "0;false;"},
		{[]float32{1e+30, 1e+30, 2e+30}, 1, 2, 1, "2;true;"},
		{[]float32{1e+38, 1e+38, 1e+38}, 1, 1, 5, "0;false;"},
		{[]float32{1e+38, 1e+38, 1e+38}, 1, 2, 0.75, "2;true;"},
		{[]float32{1e+38, 2e+38, 3e+38, 3.2e+38}, 1, 2, 1.7, "0;false;"},
		{[]float32{num(1), num(1), num(2)}, 1, 2, 1, "2;true;"},
		{[]float32{num(1), num(1), num(1)}, 1, 2, 1, "0;false;"},
		{[]float32{num(1), num(2), num(2)}, 2, 2, 0.5, "2;true;"},
		{filled(4, 1), 1, 3, 1, "0;false;"},
		{filled(4, 0.1), 1, 3, 1, "0;false;"},
		{filled(4, 0.1), 3, 3, 1, "0;false;"},
		{filled(4, 0.7), 3, 3, 1, "0;false;"},
		{[]float32{0.3, 0.1, 0.7, 0.37}, 1, 3, 1, "3;true;"},
		{[]float32{0.1, 0.2, 0.3, 0.7}, 1, 3, 3.5, "0;false;"},
		{[]float32{0.1, 0.2, 0.3, 0.7}, 1, 3, 3.5, "0;false;"},
		{[]float32{16777216.0, 1, 1, 16777216.0, 1}, 1, 3, 3, "0;false;"},
		{[]float32{1, 1, 16777216.0, 16777218.0, 1}, 1, 3, 3, "0;false;"},
		{[]float32{1}, 1, 1, -1, "0;false;"},
		{[]float32{1, 1}, 1, 1, -1, "1;true;"},
		{[]float32{1, 1}, 2, 2, -1, "0;false;"},
		{[]float32{1, 1}, 1, 2, -1, "0;false;"},
		{[]float32{0.418, 0.287, 0.187, 0.939, 0.889, 2.1379201}, 1, 5, 3.93, "5;true;"},
		{[]float32{0.984, 0.17, 0.894, 0.171, 0.297, 0.81015205}, 1, 5, 1.61, "0;false;"},
		{[]float32{0.99, 0.989, 0.916, 0.393, 0.306, 0.086256005}, 1, 5, 0.12, "0;false;"},
		{[]float32{0.425, 0.17, 0.959, 0.15, 0.271, 0.067, 0.57856673}, 1, 6, 1.7, "0;false;"},
		{[]float32{0.19, 0.493, 0.484, 0.722, 0.181, 0.059, 0.46838003}, 1, 6, 1.32, "6;true;"},
		{[]float32{0.973, 0.768, 0.367, 1.45452}, 1, 3, 2.07, "3;true;"},
		{[]float32{0.038, 0.444, 0.969, 0.094, 0.214, 0.349, 0.92400676}, 1, 6, 2.63, "6;true;"},
		{[]float32{0.941, 0.152, 0.349, 0.283, 0.947, 0.72, 1.5829333}, 1, 6, 2.8, "0;false;"},
		{[]float32{0.818, 0.081, 0.642, 0.153, 0.739, 1.7176981}, 1, 5, 3.53, "0;false;"},
		{[]float32{0.134, 0.75, 0.578, 0.973, 0.136, 1.660866}, 1, 5, 3.23, "0;false;"},
		{[]float32{0.11, 0.173, 0.445, 0.382, 0.153, 0.061, 0.866, 0.6757715}, 1, 7, 2.16, "7;true;"},
		{[]float32{0.145, 0.465, 0.945, 0.636, 0.873, 0.174, 1.4463068}, 1, 6, 2.68, "6;true;"},
	} {
		isShown(t, show(c.a, c.short, c.long, c.ratio), show(impl.PickFirst(c.a, c.short, c.long, c.ratio)), c.want)
	}
	var all strings.Builder
	for _, a := range append(someTraces(), shortTraces()...) {
		for _, n := range [][2]int64{{1, 1}, {1, 2}, {2, 2}, {1, 3}, {3, 3}, {2, 5}, {5, 16}, {16, 16}, {7, 30}} {
			for _, ratio := range []float32{0, 0.3, 0.7, 1, 1.3, 2, 5, -1} {
				all.WriteString(show(impl.PickFirst(a, n[0], n[1], ratio)))
			}
		}
	}
	isShown(t, "some", digest(all.String()), "abd64a9d")
}

// With a ratio below 0, anything is loud, and the first index with numbers before
// it is picked, if there is one.
func TestFirstIndexThatIsPicked(t *testing.T) {
	for _, length := range []int{1, 2, 3, 24, 127, 128} {
		a := ones[float32](length)
		for long := int64(1); long <= 128; long++ {
			for _, short := range []int64{1, (long + 1) / 2, long} {
				if long < int64(length) {
					isShown(t, show(length, short, long), show(impl.PickFirst(a, short, long, -1)), show(long, true))
				} else {
					isShown(t, show(length, short, long), show(impl.PickFirst(a, short, long, -1)), noInteger)
				}
			}
		}
	}
}

// A wave is loud when it comes, behind quiet of zeros, too.
func TestWavesArePicked(t *testing.T) {
	for at := 10; at <= 100; at++ {
		a := make([]float32, 128)
		copy(a[at:], wavy(20, uint32(at)))
		isShown(t, "quiet", show(impl.PickFirst(a, 1, 10, 3)), show(at, true))
		isShown(t, "quiet", show(impl.PickFirst(a, 3, 10, 3)), show(at, true))
		noise, _ := impl.ScaleTrace(wavy(128, uint32(at)+7), 0.001)
		a[at] = 1
		a, _ = impl.AddTraces(a, noise)
		isShown(t, "noise", show(impl.PickFirst(a, 1, 10, 20)), show(at, true))
	}
}

func TestWindowsThatAreNotPicked(t *testing.T) {
	a := wavy(100, 1)
	for _, c := range [][2]int64{{0, 1}, {0, 0}, {-1, 1}, {2, 1}, {128, 127}, {1, 129}, {129, 129}, {1, 0}, {1, -1}, {-3, -2}, {129, 128},
		{1, math.MaxInt64}, {math.MaxInt64, math.MaxInt64}, {math.MinInt64, 1}, {math.MinInt64, math.MinInt64}, {math.MinInt64, math.MaxInt64},
		{1, 1<<32 + 1}, {1<<32 + 1, 1<<32 + 1}, {math.MaxInt64, 1}, {1, math.MinInt64}} {
		isShown(t, show(c), show(impl.PickFirst(a, c[0], c[1], -1)), noInteger)
	}
	for _, ratio := range []float32{infinite(), -infinite(), notNumber()} {
		isShown(t, show(ratio), show(impl.PickFirst(a, 1, 2, ratio)), noInteger)
	}
	for _, list := range noTraces() {
		isShown(t, show(list), show(impl.PickFirst(list, 1, 1, -1)), noInteger)
	}
}

func TestBestShift(t *testing.T) {
	minus, inf, nan := minusZero(), infinite(), notNumber()
	for _, c := range []struct {
		a, b []float32
		most int64
		want string
	}{
		{[]float32{1, 0}, []float32{0, 1}, 1, "1;3f800000;true;"},
		{[]float32{0, 1}, []float32{1, 0}, 1, "-1;3f800000;true;"},
		{[]float32{1, 0}, []float32{0, 1}, 0, "0;00000000;true;"},
		{[]float32{1, 0}, []float32{1, 0}, 0, "0;3f800000;true;"},
		{[]float32{1, 0}, []float32{1, 0}, 128, "0;3f800000;true;"},
		{[]float32{1}, []float32{1}, 0, "0;3f800000;true;"},
		{[]float32{1}, []float32{1}, 1, "0;3f800000;true;"},
		{[]float32{1}, []float32{-1}, 0, "0;bf800000;true;"},
		{[]float32{1}, []float32{-1}, 1, "-1;00000000;true;"},
		{[]float32{-1}, []float32{-1}, 2, "0;3f800000;true;"},
		{[]float32{1, 1, 1}, []float32{1, 1, 1}, 3, "0;40400000;true;"},
		{[]float32{1, 1}, []float32{1, 1, 1}, 3, "0;40000000;true;"},
		{[]float32{1, 1, 1}, []float32{1, 1}, 3, "-1;40000000;true;"},
		{[]float32{1}, []float32{3, 1, 3}, 3, "0;40400000;true;"},
		{[]float32{3, 1, 3}, []float32{1}, 3, "-2;40400000;true;"},
		{[]float32{1}, []float32{3, 1, 3}, 1, "0;40400000;true;"},
		{[]float32{-1, -1}, []float32{1, 1}, 1, "-1;bf800000;true;"},
		{[]float32{-1, -1}, []float32{1, 1}, 2, "-2;00000000;true;"},
		{[]float32{-1, -1}, []float32{1, 1}, 0, "0;c0000000;true;"},
		{[]float32{0, 0}, []float32{1, 2}, 2, "-2;00000000;true;"},
		{[]float32{minus}, []float32{1}, 1, "-1;00000000;true;"},
		{[]float32{minus}, []float32{1}, 0, "0;00000000;true;"},
		{[]float32{minus, minus}, []float32{minus, minus}, 1, "-1;00000000;true;"},
		{[]float32{nan}, []float32{1}, 0, "0;00000000;false;"},
		{[]float32{nan}, []float32{1}, 1, "-1;00000000;true;"},
		{[]float32{nan, nan}, []float32{1, 1}, 1, "0;00000000;false;"},
		{[]float32{nan, nan}, []float32{1, 1}, 2, "-2;00000000;true;"},
		{[]float32{1, nan}, []float32{1, 1}, 1, "1;3f800000;true;"},
		{[]float32{1, nan}, []float32{1, 1}, 0, "0;00000000;false;"},
		{[]float32{nan, 1}, []float32{1, 1}, 1, "-1;3f800000;true;"},
		{[]float32{-1, nan}, []float32{1, 1}, 1, "1;bf800000;true;"},
		{[]float32{inf}, []float32{0}, 0, "0;00000000;false;"},
		{[]float32{inf}, []float32{0}, 1, "-1;00000000;true;"},
		{[]float32{inf, -inf}, []float32{1, 1}, 1, "1;7f800000;true;"},
		{[]float32{inf, -inf}, []float32{1, 1}, 0, "0;00000000;false;"},
		{[]float32{-inf}, []float32{1}, 0, "0;ff800000;true;"},
		{[]float32{-inf}, []float32{1}, 1, "-1;00000000;true;"},
		{[]float32{inf, 1}, []float32{1, 1}, 1, "0;7f800000;true;"},
		{[]float32{1, inf}, []float32{1, 1}, 1, "-1;7f800000;true;"},
		{[]float32{-inf, nan}, []float32{1, 1}, 1, "1;ff800000;true;"},
		{[]float32{16777216.0, 1, 1}, []float32{1, 1, 1}, 0, "0;4b800000;true;"},
		{[]float32{1, 1, 16777216.0}, []float32{1, 1, 1}, 0, "0;4b800001;true;"},
		{[]float32{1e+20}, []float32{1e+20}, 0, "0;7f800000;true;"},
		{[]float32{1e+20, -1e+20}, []float32{1e+20, 1e+20}, 1, "1;7f800000;true;"},
		{[]float32{num(1)}, []float32{0.5}, 0, "0;00000000;true;"},
		{[]float32{num(1)}, []float32{0.5}, 2, "-2;00000000;true;"},
		{[]float32{3, -1, 2, 7}, []float32{-1, 2, 7, 3}, 3, "-1;42580000;true;"},
		{[]float32{2, 7, -2, 1, 3, -1}, []float32{3, -1, 2, 7, -2, 1}, 5, "2;42680000;true;"},
		{[]float32{0.1, -0.7, 0.3}, []float32{0.3, 0.9, -0.1, 7}, 3, "1;4010a3d8;true;"},
		{[]float32{1, 2, 1}, []float32{0, 0, 0, 1, 2, 1}, 4, "3;40c00000;true;"},
		{[]float32{1, 2, 1}, []float32{0, 0, 0, 1, 2, 1}, 2, "2;40800000;true;"},
		{[]float32{0, 0, 0, 1, 2, 1}, []float32{1, 2, 1}, 4, "-3;40c00000;true;"},
		{[]float32{1.0000001, -1.0000001}, []float32{1.0000001, 1.0000001}, 0, "0;00000000;true;"},
		{[]float32{1, 1}, []float32{1, 1}, -1, "0;00000000;false;"},
		{[]float32{1, 1}, []float32{1, 1}, 129, "0;00000000;false;"},
	} {
		isShown(t, show(c.a, c.b, c.most), show(impl.BestShift(c.a, c.b, c.most)), c.want)
	}
	var all strings.Builder
	for _, a := range append(someTraces(), shortTraces()...) {
		for _, b := range append(someTraces(), shortTraces()...) {
			for _, most := range []int64{0, 1, 3, 20} {
				all.WriteString(show(impl.BestShift(a, b, most)))
			}
		}
		all.WriteString(show(impl.BestShift(a, wavy(128, 7), 128)))
	}
	isShown(t, "some", digest(all.String()), "b0e40873")
}

// The first number of one trace meets the last one of the other one at the
// greatest shifts.
func TestGreatestShifts(t *testing.T) {
	first, _ := impl.PulseTrace(128, 0, 2)
	last, _ := impl.PulseTrace(128, 127, 3)
	for _, most := range []int64{127, 128} {
		isShown(t, show(most), show(impl.BestShift(first, last, most)), show(int64(127), float32(6), true))
		isShown(t, show(most), show(impl.BestShift(last, first, most)), show(int64(-127), float32(6), true))
	}
	isShown(t, "126", show(impl.BestShift(first, last, 126)), show(int64(-126), float32(0), true))
	isShown(t, "nothing meets", show(impl.BestShift(filled(128, -1), ones[float32](128), 128)), show(int64(-128), float32(0), true))
}

func TestShiftsThatAreNotBest(t *testing.T) {
	for _, most := range beyond(0, 128) {
		isShown(t, show(most), show(impl.BestShift([]float32{1}, []float32{1}, most)), noShift)
		isShown(t, show(most), show(impl.BestShift(wavy(128, 1), wavy(128, 2), most)), noShift)
	}
	for _, list := range noTraces() {
		isShown(t, show(list), show(impl.BestShift(list, []float32{1}, 0)), noShift)
		isShown(t, show(list), show(impl.BestShift([]float32{1}, list, 0)), noShift)
		isShown(t, show(list), show(impl.BestShift(list, list, 0)), noShift)
	}
}
