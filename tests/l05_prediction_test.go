package tests

import (
	"math"
	"strings"
	"testing"

	"loop.example/g01231/impl"
)

func TestPredictionOf(t *testing.T) {
	minus, inf, nan, high := minusZero(), infinite(), notNumber(), float32(math.MaxFloat32)
	for _, c := range []struct {
		a          []float32
		gap, count int64
		white      float32
		ahead      string
		dropped    string
	}{
		{filled(4, 1), 1, 1, 0, "3f400000,;true;", "3f800000,3e800000,3e800000,3e800000,;true;"},
		{filled(4, 1), 2, 1, 0, "3f000000,;true;", "3f800000,3f800000,3f000000,3f000000,;true;"},
		{filled(4, 1), 1, 2, 0, "3f5b6db7,be124925,;true;", "3f800000,3e124924,3e924924,3e924924,;true;"},
		{filled(4, 1), 1, 1, 0.5, "3f000000,;true;", "3f800000,3f000000,3f000000,3f000000,;true;"},
		{filled(4, 1), 1, 1, minus, "3f400000,;true;", "3f800000,3e800000,3e800000,3e800000,;true;"},
		{filled(4, 1), 4, 2, 0, "00000000,00000000,;true;", "3f800000,3f800000,3f800000,3f800000,;true;"},
		{filled(4, 1), 3, 1, 1, "3e000000,;true;", "3f800000,3f800000,3f800000,3f600000,;true;"},
		{[]float32{1}, 1, 1, 0, "00000000,;true;", "3f800000,;true;"},
		{[]float32{-2}, 1, 2, 0, "00000000,00000000,;true;", "c0000000,;true;"},
		{[]float32{1}, 23, 1, 0, "00000000,;true;", "3f800000,;true;"},
		{[]float32{1}, 1, 23, 0, "00000000,00000000,00000000,00000000,00000000,00000000,00000000,00000000,00000000,00000000,00000000,00000000,00000000,00000000,00000000,00000000,00000000,00000000,00000000,00000000,00000000,00000000,00000000,;true;", "3f800000,;true;"},
		{[]float32{3, 1}, 1, 1, 0, "3e99999a,;true;", "40400000,3dccccc8,;true;"},
		{[]float32{1, -0.5}, 2, 2, 0, "00000000,00000000,;true;", "3f800000,bf000000,;true;"},
		{[]float32{0}, 1, 1, 0, ";false;", ";false;"},
		{[]float32{minus, minus}, 1, 1, 0, ";false;", ";false;"},
		{[]float32{0, 0, 0}, 1, 1, 5, ";false;", ";false;"},
		{[]float32{nan, 1}, 1, 1, 0, ";false;", ";false;"},
		{[]float32{inf, 1}, 1, 1, 0, "7fc00000,;true;", "7f800000,7fc00000,;true;"},
		{[]float32{1, inf}, 1, 1, 0, "7fc00000,;true;", "3f800000,7fc00000,;true;"},
		{[]float32{1, nan}, 1, 2, 0, ";false;", ";false;"},
		{[]float32{1e+20, 1}, 1, 1, 0, "00000000,;true;", "60ad78ec,3f800000,;true;"},
		{[]float32{1e-23, 1}, 1, 1, 0, "19416d9a,;true;", "19416d9a,3f800000,;true;"},
		{[]float32{1e-23, 1e-23}, 1, 1, 0, ";false;", ";false;"},
		{[]float32{1e-22, 1e-22}, 1, 1, 0, "3f000000,;true;", "1af1c901,1a71c901,;true;"},
		{[]float32{high}, 1, 1, 0, "00000000,;true;", "7f7fffff,;true;"},
		{[]float32{1, 0.5, 0.25, 0.125}, 1, 1, 0, "3efcfcfd,;true;", "3f800000,3bc0c0c0,3b40c0c0,3ac0c0c0,;true;"},
		{[]float32{1, 0.5, 0.25, 0.125}, 1, 2, 0, "3efff400,bc400300,;true;", "3f800000,38c00000,3c40c300,3bc0c300,;true;"},
		{[]float32{1, 0.5, 0.25, 0.125}, 2, 2, 0.1, "3e611a09,bc5800f5,;true;", "3f800000,3f000000,3cf72fb8,3ce79856,;true;"},
		{[]float32{8, 4, 2, 1}, 1, 1, 0, "3efcfcfd,;true;", "41000000,3d40c0c0,3cc0c0c0,3c40c0c0,;true;"},
		{[]float32{1, 0, 0, -0.5, 0, 0, 0.25}, 3, 1, 0, "bef3cf3d,;true;", "3f800000,00000000,00000000,bcc30c30,00000000,00000000,3c430c30,;true;"},
		{[]float32{1, 0, 0, -0.5, 0, 0, 0.25}, 3, 3, 0.001, "bef390e1,00000000,00000000,;true;", "3f800000,00000000,00000000,bcc6f1f0,00000000,00000000,3c46f1f0,;true;"},
		{[]float32{0, 0, 1, 0, 0}, 1, 1, 0, "00000000,;true;", "00000000,00000000,3f800000,00000000,00000000,;true;"},
		{[]float32{0, 0, 1, 0, minus}, 2, 3, 0, "00000000,00000000,00000000,;true;", "00000000,00000000,3f800000,00000000,00000000,;true;"},
		{[]float32{0.1, -0.7, 0.3, 0.9}, 1, 3, 0.01, "3c9c89a9,bed8f019,3d8cd297,;true;", "3dcccccd,bf33b06e,3eb6246f,3f173e70,;true;"},
		{[]float32{0.1, -0.7, 0.3, 0.9}, 2, 1, 0, "bedb6db9,;true;", "3dcccccd,bf333333,3eaf8af9,3f199998,;true;"},
		{[]float32{0.3, 0.1, 0.4, 0.1, 0.5}, 1, 4, 0, "3e54741c,3f3624e5,be1aac4c,be18131f,;true;", "3e99999a,3d1aa7de,3e29c81d,bc109834,3e8234f6,;true;"},
		{[]float32{1, 1}, 1, 1, high, "00000000,;true;", "3f800000,3f800000,;true;"},
		{[]float32{1, 1}, 1, 1, 1e+30, "0d224260,;true;", "3f800000,3f800000,;true;"},
		{[]float32{1, 1}, 1, 1, -1, ";false;", ";false;"},
		{[]float32{1, 1}, 1, 1, -0.001, ";false;", ";false;"},
		{[]float32{1, 1}, 1, 1, nan, ";false;", ";false;"},
		{[]float32{1, 1}, 1, 1, inf, ";false;", ";false;"},
		{[]float32{1, 1}, 0, 1, 0, ";false;", ";false;"},
		{[]float32{1, 1}, 1, 0, 0, ";false;", ";false;"},
		{[]float32{1, 1}, 12, 12, 0, "00000000,00000000,00000000,00000000,00000000,00000000,00000000,00000000,00000000,00000000,00000000,00000000,;true;", "3f800000,3f800000,;true;"},
		{[]float32{1, 1}, 12, 13, 0, ";false;", ";false;"},
		{[]float32{1, 1}, 13, 12, 0, ";false;", ";false;"},
		{[]float32{1, 1}, 24, 1, 0, ";false;", ";false;"},
		{[]float32{1, 1}, 1, 24, 0, ";false;", ";false;"},
		{[]float32{1, 1}, 24, 0, 0, ";false;", ";false;"},
		{[]float32{}, 1, 1, 0, ";false;", ";false;"},
	} {
		what := show(c.a, c.gap, c.count, c.white)
		isShown(t, what, show(impl.PredictionOf(c.a, c.gap, c.count, c.white)), c.ahead)
		isShown(t, what, show(impl.DropPredicted(c.a, c.gap, c.count, c.white)), c.dropped)
	}
}

func TestPredictionsOfSome(t *testing.T) {
	var ahead, dropped strings.Builder
	for _, a := range append(someTraces(), shortTraces()...) {
		for _, n := range [][2]int64{{1, 1}, {1, 2}, {2, 1}, {3, 5}, {1, 23}, {23, 1}, {12, 12}} {
			for _, white := range []float32{0, 0.01, 2} {
				ahead.WriteString(show(impl.PredictionOf(a, n[0], n[1], white)))
				dropped.WriteString(show(impl.DropPredicted(a, n[0], n[1], white)))
			}
		}
	}
	isShown(t, "PredictionOf", digest(ahead.String()), "b5403a91")
	isShown(t, "DropPredicted", digest(dropped.String()), "ce081d4c")
}

// A gap and a count are together at most 24.
func TestGapsAndCounts(t *testing.T) {
	a := wavy(100, 1)
	for gap := int64(-1); gap <= 30; gap++ {
		for count := int64(-1); count <= 30; count++ {
			ahead, one := impl.PredictionOf(a, gap, count, 0.1)
			dropped, two := impl.DropPredicted(a, gap, count, 0.1)
			if gap >= 1 && count >= 1 && gap+count <= 24 {
				isShown(t, show(gap, count), show(len(ahead), one, len(dropped), two), show(count, true, 100, true))
			} else {
				isShown(t, show(gap, count), show(ahead, one, dropped, two), ";false;;false;")
			}
		}
	}
}

func TestTracesThatAreNotToldAhead(t *testing.T) {
	for _, a := range append(noTraces(), make([]float32, 30), filled(30, minusZero()), filled(30, notNumber()), []float32{1e-30, 1e-30}) {
		isShown(t, show(a), show(impl.PredictionOf(a, 1, 2, 0)), noList)
		isShown(t, show(a), show(impl.DropPredicted(a, 1, 2, 0)), noList)
	}
	a := wavy(100, 1)
	for _, n := range beyond(1, 23) {
		for _, m := range []int64{1, 2, 23, n, -n} {
			isShown(t, show(n, m), show(impl.PredictionOf(a, n, m, 0)), noList)
			isShown(t, show(n, m), show(impl.DropPredicted(a, n, m, 0)), noList)
			isShown(t, show(n, m), show(impl.PredictionOf(a, m, n, 0)), noList)
			isShown(t, show(n, m), show(impl.DropPredicted(a, m, n, 0)), noList)
		}
	}
	for _, white := range beyondWhite() {
		isShown(t, show(white), show(impl.PredictionOf(a, 1, 2, white)), noList)
		isShown(t, show(white), show(impl.DropPredicted(a, 1, 2, white)), noList)
	}
	minus, one := impl.PredictionOf(a, 1, 2, minusZero())
	plain, two := impl.PredictionOf(a, 1, 2, 0)
	isShown(t, "-0", show(minus, one, two), show(plain, true, true))
}

func TestErrorFilter(t *testing.T) {
	minus, inf, nan := minusZero(), infinite(), notNumber()
	for _, c := range []struct {
		f    []float32
		gap  int64
		want string
	}{
		{[]float32{0.75}, 2, "3f800000,00000000,bf400000,;true;"},
		{[]float32{0.75}, 1, "3f800000,bf400000,;true;"},
		{[]float32{0.75}, 3, "3f800000,00000000,00000000,bf400000,;true;"},
		{[]float32{1, -2, 3}, 1, "3f800000,bf800000,40000000,c0400000,;true;"},
		{[]float32{1, -2, 3}, 4, "3f800000,00000000,00000000,00000000,bf800000,40000000,c0400000,;true;"},
		{[]float32{0, minus}, 2, "3f800000,00000000,80000000,00000000,;true;"},
		{[]float32{inf, -inf, nan}, 1, "3f800000,ff800000,7f800000,7fc00000,;true;"},
		{[]float32{num(1), -num(2)}, 2, "3f800000,00000000,80000001,00000002,;true;"},
		{[]float32{5}, 24, "3f800000,00000000,00000000,00000000,00000000,00000000,00000000,00000000,00000000,00000000,00000000,00000000,00000000,00000000,00000000,00000000,00000000,00000000,00000000,00000000,00000000,00000000,00000000,00000000,c0a00000,;true;"},
		{[]float32{1}, 0, ";false;"},
		{[]float32{1}, -1, ";false;"},
		{filled(24, 1), 1, "3f800000,bf800000,bf800000,bf800000,bf800000,bf800000,bf800000,bf800000,bf800000,bf800000,bf800000,bf800000,bf800000,bf800000,bf800000,bf800000,bf800000,bf800000,bf800000,bf800000,bf800000,bf800000,bf800000,bf800000,bf800000,;true;"},
		{filled(24, 1), 24, "3f800000,00000000,00000000,00000000,00000000,00000000,00000000,00000000,00000000,00000000,00000000,00000000,00000000,00000000,00000000,00000000,00000000,00000000,00000000,00000000,00000000,00000000,00000000,00000000,bf800000,bf800000,bf800000,bf800000,bf800000,bf800000,bf800000,bf800000,bf800000,bf800000,bf800000,bf800000,bf800000,bf800000,bf800000,bf800000,bf800000,bf800000,bf800000,bf800000,bf800000,bf800000,bf800000,bf800000,;true;"},
		{[]float32{}, 1, "3f800000,;true;"},
		{[]float32{}, 3, "3f800000,00000000,00000000,;true;"},
		{[]float32{1}, 103, "3f800000,00000000,00000000,00000000,00000000,00000000,00000000,00000000,00000000,00000000,00000000,00000000,00000000,00000000,00000000,00000000,00000000,00000000,00000000,00000000,00000000,00000000,00000000,00000000,00000000,00000000,00000000,00000000,00000000,00000000,00000000,00000000,00000000,00000000,00000000,00000000,00000000,00000000,00000000,00000000,00000000,00000000,00000000,00000000,00000000,00000000,00000000,00000000,00000000,00000000,00000000,00000000,00000000,00000000,00000000,00000000,00000000,00000000,00000000,00000000,00000000,00000000,00000000,00000000,00000000,00000000,00000000,00000000,00000000,00000000,00000000,00000000,00000000,00000000,00000000,00000000,00000000,00000000,00000000,00000000,00000000,00000000,00000000,00000000,00000000,00000000,00000000,00000000,00000000,00000000,00000000,00000000,00000000,00000000,00000000,00000000,00000000,00000000,00000000,00000000,00000000,00000000,00000000,bf800000,;true;"},
		{filled(104, 1), 24, "3f800000,00000000,00000000,00000000,00000000,00000000,00000000,00000000,00000000,00000000,00000000,00000000,00000000,00000000,00000000,00000000,00000000,00000000,00000000,00000000,00000000,00000000,00000000,00000000,bf800000,bf800000,bf800000,bf800000,bf800000,bf800000,bf800000,bf800000,bf800000,bf800000,bf800000,bf800000,bf800000,bf800000,bf800000,bf800000,bf800000,bf800000,bf800000,bf800000,bf800000,bf800000,bf800000,bf800000,bf800000,bf800000,bf800000,bf800000,bf800000,bf800000,bf800000,bf800000,bf800000,bf800000,bf800000,bf800000,bf800000,bf800000,bf800000,bf800000,bf800000,bf800000,bf800000,bf800000,bf800000,bf800000,bf800000,bf800000,bf800000,bf800000,bf800000,bf800000,bf800000,bf800000,bf800000,bf800000,bf800000,bf800000,bf800000,bf800000,bf800000,bf800000,bf800000,bf800000,bf800000,bf800000,bf800000,bf800000,bf800000,bf800000,bf800000,bf800000,bf800000,bf800000,bf800000,bf800000,bf800000,bf800000,bf800000,bf800000,bf800000,bf800000,bf800000,bf800000,bf800000,bf800000,bf800000,bf800000,bf800000,bf800000,bf800000,bf800000,bf800000,bf800000,bf800000,bf800000,bf800000,bf800000,bf800000,bf800000,bf800000,bf800000,bf800000,bf800000,;true;"},
		{filled(105, 1), 24, ";false;"},
	} {
		isShown(t, show(c.f, c.gap), show(impl.ErrorFilter(c.f, c.gap)), c.want)
	}
}

// Error filters have at most 128 numbers.
func TestLengthsOfErrorFilters(t *testing.T) {
	for count := 1; count <= 140; count++ {
		for gap := int64(-2); gap <= 140; gap++ {
			filter, ok := impl.ErrorFilter(ones[float32](count), gap)
			if gap >= 1 && int64(count)+gap <= 128 {
				want := make([]float32, gap)
				want[0] = 1
				want = append(want, filled(count, -1)...)
				isShown(t, show(count, gap), show(filter, ok), show(want, true))
			} else {
				isShown(t, show(count, gap), show(filter, ok), noList)
			}
		}
	}
	for _, f := range [][]float32{{1}, ones[float32](24), ones[float32](127), ones[float32](1000)} {
		for _, gap := range []int64{0, -1, 128, 129, math.MaxInt64, math.MaxInt64 - 1, math.MinInt64, 1 << 32, 1<<32 + 1, -1 << 32} {
			isShown(t, show(f, gap), show(impl.ErrorFilter(f, gap)), noList)
		}
	}
}

func TestApplyFilter(t *testing.T) {
	minus, inf, nan := minusZero(), infinite(), notNumber()
	for _, c := range []struct {
		a, f []float32
		want string
	}{
		{[]float32{1, 1, 1}, []float32{1, -0.75}, "3f800000,3e800000,3e800000,;true;"},
		{[]float32{1, 2, 3}, []float32{1}, "3f800000,40000000,40400000,;true;"},
		{[]float32{1, 2, 3}, []float32{-2}, "c0000000,c0800000,c0c00000,;true;"},
		{[]float32{3}, []float32{2}, "40c00000,;true;"},
		{[]float32{3}, []float32{2, 5, 7}, "40c00000,;true;"},
		{[]float32{1, 2}, []float32{1, 10, 100}, "3f800000,41400000,;true;"},
		{[]float32{1, 2, 3, 4}, []float32{0.1, -0.7}, "3dcccccd,bf000000,bf8ccccc,bfd99999,;true;"},
		{[]float32{1, 2, 3, 4}, []float32{0, 1}, "00000000,3f800000,40000000,40400000,;true;"},
		{[]float32{1, 2, 3, 4}, []float32{minus, 1}, "00000000,3f800000,40000000,40400000,;true;"},
		{[]float32{minus, minus}, []float32{1}, "00000000,00000000,;true;"},
		{[]float32{minus}, []float32{-1}, "00000000,;true;"},
		{[]float32{minus, 0}, []float32{1, minus}, "00000000,00000000,;true;"},
		{[]float32{1, 0, 0, 0, 0}, []float32{1, 2, 3}, "3f800000,40000000,40400000,00000000,00000000,;true;"},
		{[]float32{16777216.0, 1, 1, 1}, []float32{1, 1, 1}, "4b800000,4b800000,4b800001,40400000,;true;"},
		{[]float32{1, 1, 16777216.0, 1}, []float32{1, 1, 1}, "3f800000,40000000,4b800000,4b800000,;true;"},
		{[]float32{1.0000001, 1.0000001}, []float32{1.0000001, -1.0000001}, "3f800002,00000000,;true;"},
		{[]float32{inf, 1, 1}, []float32{1, 0}, "7f800000,7fc00000,3f800000,;true;"},
		{[]float32{1, inf, 1}, []float32{1, -1}, "3f800000,7f800000,ff800000,;true;"},
		{[]float32{1, 1, 1}, []float32{inf, 1}, "7f800000,7f800000,7f800000,;true;"},
		{[]float32{1, nan, 1, 1}, []float32{1, 1}, "3f800000,7fc00000,7fc00000,40000000,;true;"},
		{[]float32{1, 1}, []float32{0, nan}, "00000000,7fc00000,;true;"},
		{[]float32{1e+30, 1}, []float32{1e+30, 1e-30}, "7f800000,7149f2ca,;true;"},
		{[]float32{num(1), 1}, []float32{0.5, 0.5}, "00000000,3f000000,;true;"},
		{[]float32{0.1, -0.7, 0.3}, []float32{0.3, 0.9, -0.1, 7}, "3cf5c290,bdf5c291,bf0ccccc,;true;"},
	} {
		isShown(t, show(c.a, c.f), show(impl.ApplyFilter(c.a, c.f)), c.want)
	}
	var all strings.Builder
	for _, a := range append(someTraces(), shortTraces()...) {
		for _, f := range append(someTraces(), shortTraces()...) {
			all.WriteString(show(impl.ApplyFilter(a, f)))
		}
	}
	isShown(t, "some", digest(all.String()), "c8430687")
}

func TestFiltersThatAreNotApplied(t *testing.T) {
	for _, list := range noTraces() {
		for _, other := range append(noTraces(), []float32{1}, ones[float32](128)) {
			isShown(t, show(list, other), show(impl.ApplyFilter(list, other)), noList)
			isShown(t, show(other, list), show(impl.ApplyFilter(other, list)), noList)
		}
	}
	for _, c := range [][2]int{{1, 1}, {1, 128}, {128, 1}, {128, 128}, {3, 100}} {
		applied, ok := impl.ApplyFilter(ones[float32](c[0]), ones[float32](c[1]))
		isShown(t, show(c[0], c[1]), show(len(applied), ok), show(c[0], true))
		for k, x := range applied {
			isNumber(t, "so many meet", x, float32(min(k+1, c[1])))
		}
	}
}
