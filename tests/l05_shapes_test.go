package tests

import (
	"math"
	"strings"
	"testing"

	"loop.example/g01231/impl"
)

func TestSmoothTrace(t *testing.T) {
	minus, inf, nan, high := minusZero(), infinite(), notNumber(), float32(math.MaxFloat32)
	for _, c := range []struct {
		a             []float32
		rounds        int64
		smooth, rough string
	}{
		{[]float32{0, 4, 0}, 1, "3f800000,40000000,3f800000,;true;", "bf800000,40000000,bf800000,;true;"},
		{[]float32{0, 4, 0}, 0, "00000000,40800000,00000000,;true;", "00000000,00000000,00000000,;true;"},
		{[]float32{0, 4, 0}, 2, "3f800000,3fc00000,3f800000,;true;", "bf800000,40200000,bf800000,;true;"},
		{[]float32{0, 4, 0}, 16, "3de5e600,3e229010,3de5e600,;true;", "bde5e600,4075d6ff,bde5e600,;true;"},
		{[]float32{4}, 1, "40000000,;true;", "40000000,;true;"},
		{[]float32{4}, 2, "3f800000,;true;", "40400000,;true;"},
		{[]float32{-4}, 16, "b8800000,;true;", "c07fff00,;true;"},
		{[]float32{1, 2}, 1, "3f800000,3fa00000,;true;", "00000000,3f400000,;true;"},
		{[]float32{1, 2, 3}, 1, "3f800000,40000000,40000000,;true;", "00000000,00000000,3f800000,;true;"},
		{[]float32{0, 0, 0, 16, 0, 0, 0}, 2, "00000000,3f800000,40800000,40c00000,40800000,3f800000,00000000,;true;", "00000000,bf800000,c0800000,41200000,c0800000,bf800000,00000000,;true;"},
		{[]float32{0, 0, 0, 16, 0, 0, 0}, 3, "3e800000,3fc00000,40700000,40a00000,40700000,3fc00000,3e800000,;true;", "be800000,bfc00000,c0700000,41300000,c0700000,bfc00000,be800000,;true;"},
		{[]float32{minus}, 0, "80000000,;true;", "00000000,;true;"},
		{[]float32{minus}, 1, "00000000,;true;", "80000000,;true;"},
		{[]float32{minus, minus}, 1, "00000000,00000000,;true;", "80000000,80000000,;true;"},
		{[]float32{minus, minus, minus}, 1, "00000000,80000000,00000000,;true;", "80000000,00000000,80000000,;true;"},
		{filled(4, minus), 2, "00000000,00000000,00000000,00000000,;true;", "80000000,80000000,80000000,80000000,;true;"},
		{filled(4, minus), 0, "80000000,80000000,80000000,80000000,;true;", "00000000,00000000,00000000,00000000,;true;"},
		{[]float32{0.1, -0.7, 0.3}, 1, "be000000,be7fffff,bcccccc8,;true;", "3e666666,bee66666,3ea66666,;true;"},
		{[]float32{0.1, -0.7, 0.3, 0.9, 0.2}, 4, "bd5e6666,39cccd00,3e213333,3e8b6666,3e58cccc,;true;", "3e1e0000,bf334ccd,3e120001,3f20b333,bc3ffff0,;true;"},
		{[]float32{16777216.0, 1, 1}, 1, "4b000000,4a800000,3f400000,;true;", "4b000000,ca7ffffc,3e800000,;true;"},
		{[]float32{1, 1, 16777216.0}, 1, "3f400000,4a800002,4b000000,;true;", "3e800000,ca800000,4b000000,;true;"},
		{[]float32{1, 16777216.0, 1}, 1, "4a800001,4b000000,4a800000,;true;", "ca7ffffe,4b000000,ca7ffffc,;true;"},
		{[]float32{16777216.0, -8388608, 1}, 1, "4ac00000,3e800000,c9fffffc,;true;", "4b200000,cb000000,4a000002,;true;"},
		{[]float32{0, 16777216.0, 1, -16777216.0, -16777216.0}, 1, "4a800000,4b000000,00000000,cb400000,cb400000,;true;", "ca800000,4b000000,3f800000,ca800000,ca800000,;true;"},
		{[]float32{inf, 1, 1}, 1, "7f800000,7f800000,3f400000,;true;", "7fc00000,ff800000,3e800000,;true;"},
		{[]float32{1, 1, inf}, 1, "3f400000,7f800000,7f800000,;true;", "3e800000,ff800000,7fc00000,;true;"},
		{[]float32{inf, -inf}, 1, "7fc00000,7fc00000,;true;", "7fc00000,7fc00000,;true;"},
		{[]float32{nan, 1, 1, 1}, 1, "7fc00000,7fc00000,3f800000,3f400000,;true;", "7fc00000,7fc00000,00000000,3e800000,;true;"},
		{[]float32{nan, 1, 1, 1}, 2, "7fc00000,7fc00000,7fc00000,3f200000,;true;", "7fc00000,7fc00000,7fc00000,3ec00000,;true;"},
		{[]float32{1, nan}, 0, "3f800000,7fc00000,;true;", "00000000,7fc00000,;true;"},
		{[]float32{inf, 1}, 0, "7f800000,3f800000,;true;", "7fc00000,00000000,;true;"},
		{[]float32{high, 0, 0}, 1, "7f800000,7e7fffff,00000000,;true;", "ff800000,fe7fffff,00000000,;true;"},
		{[]float32{high}, 1, "7f800000,;true;", "ff800000,;true;"},
		{[]float32{high, -high}, 1, "7f800000,fe7fffff,;true;", "ff800000,ff3fffff,;true;"},
		{[]float32{num(1)}, 1, "00000000,;true;", "00000001,;true;"},
		{[]float32{num(2)}, 1, "00000001,;true;", "00000001,;true;"},
		{[]float32{num(3)}, 1, "00000002,;true;", "00000001,;true;"},
		{[]float32{num(1), num(1), num(1)}, 1, "00000001,00000001,00000001,;true;", "00000000,00000000,00000000,;true;"},
		{[]float32{1}, 16, "37800000,;true;", "3f7fff00,;true;"},
		{[]float32{1}, 17, ";false;", ";false;"},
		{[]float32{1}, -1, ";false;", ";false;"},
	} {
		isShown(t, show(c.a, c.rounds), show(impl.SmoothTrace(c.a, c.rounds)), c.smooth)
		isShown(t, show(c.a, c.rounds), show(impl.RoughTrace(c.a, c.rounds)), c.rough)
	}
	var smooth, rough strings.Builder
	for _, a := range append(someTraces(), shortTraces()...) {
		for rounds := range int64(17) {
			smooth.WriteString(show(impl.SmoothTrace(a, rounds)))
			rough.WriteString(show(impl.RoughTrace(a, rounds)))
		}
	}
	isShown(t, "SmoothTrace", digest(smooth.String()), "aaa6efda")
	isShown(t, "RoughTrace", digest(rough.String()), "d5390e0b")
}

func TestRounds(t *testing.T) {
	for _, rounds := range beyond(0, 16) {
		for _, a := range [][]float32{{1}, {1, 2, 3}, ones[float32](128)} {
			isShown(t, show(rounds), show(impl.SmoothTrace(a, rounds)), noList)
			isShown(t, show(rounds), show(impl.RoughTrace(a, rounds)), noList)
		}
	}
	for _, a := range append(someTraces(), shortTraces()...) {
		smooth, ok := impl.SmoothTrace(a, 0)
		isShown(t, "0 rounds", show(smooth, ok), show(a, true))
		for rounds := int64(1); rounds <= 16; rounds++ {
			smooth, ok = impl.SmoothTrace(smooth, 1)
			isShown(t, "one by one", show(smooth, ok), show(impl.SmoothTrace(a, rounds)))
			rough, ok := impl.RoughTrace(a, rounds)
			less, _ := impl.LessTraces(a, smooth)
			isShown(t, "rough", show(rough, ok), show(less, true))
		}
	}
}

func TestNotchTrace(t *testing.T) {
	minus, inf, nan, high := minusZero(), infinite(), notNumber(), float32(math.MaxFloat32)
	for _, c := range []struct {
		a     []float32
		turns float32
		want  string
	}{
		{[]float32{1, 1, 1}, 0, "3f800000,bf800000,00000000,;true;"},
		{[]float32{1, 1, 1}, minus, "3f800000,bf800000,00000000,;true;"},
		{[]float32{1, 1, 1}, 0.5, "3f800000,40400000,40800000,;true;"},
		{[]float32{1, 1, 1}, 0.25, "3f800000,3f800000,40000000,;true;"},
		{[]float32{1, 1, 1}, 0.75, "3f800000,3f800000,40000000,;true;"},
		{[]float32{1, 1, 1}, -0.25, "3f800000,3f800000,40000000,;true;"},
		{[]float32{1, 1, 1}, 0.125, "3f800000,bed413cc,3f15f61a,;true;"},
		{[]float32{1, 1, 1}, -0.125, "3f800000,bed413cc,3f15f61a,;true;"},
		{[]float32{1, 1, 1}, 1, "3f800000,bf800000,00000000,;true;"},
		{[]float32{1, 1, 1}, 1000.125, "3f800000,bed413cc,3f15f61a,;true;"},
		{[]float32{1, 1, 1}, 1e+30, "3f800000,3f800000,40000000,;true;"},
		{[]float32{1, 1, 1}, high, "3f800000,3f800000,40000000,;true;"},
		{[]float32{1, 1, 1}, -high, "3f800000,3f800000,40000000,;true;"},
		{[]float32{1, 1, 1}, num(1), "3f800000,bf800000,00000000,;true;"},
		{[]float32{1, 1, 1}, 16777216.0, "3f800000,3f800000,40000000,;true;"},
		{[]float32{1, 1, 1}, 8388607.5, "3f800000,3f800000,40000000,;true;"},
		{[]float32{1, 1, 1}, 0.1, "3f800000,bf1e377a,3ec3910c,;true;"},
		{[]float32{1, 2, 3, 4, 5}, 0.1, "3f800000,3ec3910c,3f43910c,3f92acc8,3fc3910c,;true;"},
		{[]float32{1, -1, 1, -1}, 0.5, "3f800000,3f800000,00000000,00000000,;true;"},
		{[]float32{3}, 0.3, "40400000,;true;"},
		{[]float32{minus}, 0, "00000000,;true;"},
		{[]float32{minus}, 0.5, "00000000,;true;"},
		{[]float32{minus, minus, minus}, 0, "00000000,00000000,00000000,;true;"},
		{[]float32{minus, minus, minus}, 0.5, "00000000,00000000,80000000,;true;"},
		{[]float32{0, minus, 0}, 0.25, "00000000,00000000,00000000,;true;"},
		{[]float32{inf, 1, 1, 1}, 0, "7f800000,ff800000,7f800000,00000000,;true;"},
		{[]float32{inf, 1, 1, 1}, high, "7f800000,7fc00000,7f800000,40000000,;true;"},
		{[]float32{1, 1, inf}, 0.1, "3f800000,bf1e377a,7f800000,;true;"},
		{[]float32{nan, 1, 1, 1}, 0, "7fc00000,7fc00000,7fc00000,00000000,;true;"},
		{[]float32{1, nan}, 0.25, "3f800000,7fc00000,;true;"},
		{[]float32{inf, inf, inf}, 0, "7f800000,7fc00000,7fc00000,;true;"},
		{[]float32{high, 1, 1}, 0, "7f7fffff,ff800000,7f7fffff,;true;"},
		{[]float32{16777216.0, 1, 1, 1}, 0, "4b800000,cc000000,4b7fffff,00000000,;true;"},
		{[]float32{num(1), num(1), num(1)}, 0.1, "00000001,80000001,00000000,;true;"},
		{[]float32{0.1, -0.7, 0.3, 0.9}, 0.2, "3dcccccd,bf43058c,3f5526d8,3c6f09c0,;true;"},
		{[]float32{1, 1.0000001, 1.0000001}, 0.15, "3f800000,be33c8b8,3f530dd0,;true;"},
		{[]float32{1, 1}, nan, ";false;"},
		{[]float32{1, 1}, inf, ";false;"},
		{[]float32{1, 1}, -inf, ";false;"},
	} {
		isShown(t, show(c.a, c.turns), show(impl.NotchTrace(c.a, c.turns)), c.want)
	}
	var all strings.Builder
	for _, a := range append(someTraces(), shortTraces()...) {
		for _, turns := range append(someNumbers(), 0.125, 0.3333, 0.5, 0.75, -0.25, 123.456) {
			all.WriteString(show(impl.NotchTrace(a, turns)))
		}
	}
	isShown(t, "some", digest(all.String()), "a5574906")
}

func TestDifferTrace(t *testing.T) {
	minus, inf, nan, high := minusZero(), infinite(), notNumber(), float32(math.MaxFloat32)
	for _, c := range []struct {
		a                 []float32
		differ, integrate string
	}{
		{[]float32{1, 3}, "3f800000,40000000,;true;", "3f800000,40800000,;true;"},
		{[]float32{3}, "40400000,;true;", "40400000,;true;"},
		{[]float32{minus}, "80000000,;true;", "00000000,;true;"},
		{[]float32{0}, "00000000,;true;", "00000000,;true;"},
		{[]float32{minus, minus}, "80000000,00000000,;true;", "00000000,00000000,;true;"},
		{[]float32{minus, 0}, "80000000,00000000,;true;", "00000000,00000000,;true;"},
		{[]float32{0, minus}, "00000000,80000000,;true;", "00000000,00000000,;true;"},
		{[]float32{1, 1, 1}, "3f800000,00000000,00000000,;true;", "3f800000,40000000,40400000,;true;"},
		{[]float32{1, -1, 1}, "3f800000,c0000000,40000000,;true;", "3f800000,00000000,3f800000,;true;"},
		{[]float32{0.1, -0.7, 0.3}, "3dcccccd,bf4ccccd,3f800000,;true;", "3dcccccd,bf199999,be999998,;true;"},
		{[]float32{16777216.0, 1, 1}, "4b800000,cb7fffff,00000000,;true;", "4b800000,4b800000,4b800000,;true;"},
		{[]float32{1, 1, 16777216.0}, "3f800000,00000000,4b7fffff,;true;", "3f800000,40000000,4b800001,;true;"},
		{[]float32{inf, inf}, "7f800000,7fc00000,;true;", "7f800000,7f800000,;true;"},
		{[]float32{inf, -inf, 1}, "7f800000,ff800000,7f800000,;true;", "7f800000,7fc00000,7fc00000,;true;"},
		{[]float32{nan, 1}, "7fc00000,7fc00000,;true;", "7fc00000,7fc00000,;true;"},
		{[]float32{1, nan, 1, 1}, "3f800000,7fc00000,7fc00000,00000000,;true;", "3f800000,7fc00000,7fc00000,7fc00000,;true;"},
		{[]float32{high, -high, high}, "7f7fffff,ff800000,7f800000,;true;", "7f7fffff,00000000,7f7fffff,;true;"},
		{[]float32{high, high, -high}, "7f7fffff,00000000,ff800000,;true;", "7f7fffff,7f800000,7f800000,;true;"},
		{[]float32{num(1), num(2)}, "00000001,00000001,;true;", "00000001,00000003,;true;"},
		{[]float32{1, 2, 3, 4, 5}, "3f800000,3f800000,3f800000,3f800000,3f800000,;true;", "3f800000,40400000,40c00000,41200000,41700000,;true;"},
		{[]float32{0.3, 0.1, 0.4, 0.1, 0.5}, "3e99999a,be4cccce,3e99999a,be99999a,3ecccccd,;true;", "3e99999a,3ecccccd,3f4ccccd,3f666667,3fb33334,;true;"},
		{[]float32{100000000.0, 1, -100000000.0, 1}, "4cbebc20,ccbebc20,ccbebc20,4cbebc20,;true;", "4cbebc20,4cbebc20,00000000,3f800000,;true;"},
	} {
		isShown(t, show(c.a), show(impl.DifferTrace(c.a)), c.differ)
		isShown(t, show(c.a), show(impl.IntegrateTrace(c.a)), c.integrate)
	}
	var differ, integrate strings.Builder
	for _, a := range append(someTraces(), shortTraces()...) {
		differ.WriteString(show(impl.DifferTrace(a)))
		integrate.WriteString(show(impl.IntegrateTrace(a)))
	}
	isShown(t, "DifferTrace", digest(differ.String()), "491fab32")
	isShown(t, "IntegrateTrace", digest(integrate.String()), "1f412a57")
}

func TestTaperTrace(t *testing.T) {
	minus, inf, nan, high := minusZero(), infinite(), notNumber(), float32(math.MaxFloat32)
	for _, c := range []struct {
		a     []float32
		count int64
		want  string
	}{
		{[]float32{4, 4}, 1, "40000000,40000000,;true;"},
		{[]float32{4, 4}, 0, "40800000,40800000,;true;"},
		{[]float32{4, 4}, 2, ";false;"},
		{[]float32{4, 4}, -1, ";false;"},
		{[]float32{4}, 0, "40800000,;true;"},
		{[]float32{4}, 1, ";false;"},
		{[]float32{6, 6, 6}, 1, "40400000,40c00000,40400000,;true;"},
		{[]float32{6, 6, 6}, 2, ";false;"},
		{filled(5, 6), 2, "40000000,40800000,40c00000,40800000,40000000,;true;"},
		{filled(5, 6), 3, ";false;"},
		{[]float32{1, 2, 3, 4}, 2, "3eaaaaab,3faaaaab,40000000,3faaaaab,;true;"},
		{[]float32{1, 2, 3, 4}, 3, ";false;"},
		{[]float32{1, 2, 3, 4, 5, 6, 7}, 3, "3e800000,3f800000,40100000,40800000,40700000,40400000,3fe00000,;true;"},
		{[]float32{1, 2, 3, 4, 5, 6, 7}, 1, "3f000000,40000000,40400000,40800000,40a00000,40c00000,40600000,;true;"},
		{[]float32{minus, 1, minus}, 1, "80000000,3f800000,80000000,;true;"},
		{[]float32{minus, minus}, 0, "80000000,80000000,;true;"},
		{[]float32{0.1, 0.7, 0.3, 0.9, -0.7, 0.1}, 2, "3d088889,3eeeeeef,3e99999a,3f666666,beeeeeef,3d088889,;true;"},
		{[]float32{0.1, 0.7, 0.3, 0.9, -0.7, 0.1}, 3, "3ccccccd,3eb33333,3e666667,3f2ccccc,beb33333,3ccccccd,;true;"},
		{[]float32{nan, 1, inf}, 1, "7fc00000,3f800000,7f800000,;true;"},
		{[]float32{inf, -inf, nan, 1}, 2, "7f800000,ff800000,7fc00000,3eaaaaab,;true;"},
		{filled(4, high), 2, "7eaaaaaa,7f800000,7f800000,7eaaaaaa,;true;"},
		{filled(4, high), 1, "7effffff,7f7fffff,7f7fffff,7effffff,;true;"},
		{[]float32{num(1), num(1), num(3), num(3)}, 2, "00000000,00000001,00000002,00000001,;true;"},
		{[]float32{num(1), num(2), num(2), num(3)}, 1, "00000000,00000002,00000002,00000002,;true;"},
		{[]float32{1e+38, 2e+38, 3e+38, 3e+38, 2e+38, 1e+38}, 3, "7d967699,7f800000,7f800000,7f800000,7f800000,7d967699,;true;"},
		{filled(12, 1), 6, "3e124925,3e924925,3edb6db7,3f124925,3f36db6e,3f5b6db7,3f5b6db7,3f36db6e,3f124925,3edb6db7,3e924925,3e124925,;true;"},
	} {
		isShown(t, show(c.a, c.count), show(impl.TaperTrace(c.a, c.count)), c.want)
	}
	var all strings.Builder
	for _, a := range append(someTraces(), shortTraces()...) {
		for count := range int64(len(a)/2 + 2) {
			all.WriteString(show(impl.TaperTrace(a, count)))
		}
	}
	isShown(t, "some", digest(all.String()), "21fad296")
}

// Both ends are at most half of a trace each, rounded down.
func TestEndsOfTapers(t *testing.T) {
	for length := 1; length <= 128; length++ {
		a := ones[float32](length)
		half := int64(length / 2)
		for _, count := range []int64{-1, half + 1, int64(length), int64(length) + 1, math.MaxInt64, math.MinInt64, 1 << 32, 1<<32 + 1} {
			if count != half {
				isShown(t, show(length, count), show(impl.TaperTrace(a, count)), noList)
			}
		}
		isShown(t, show(length), show(impl.TaperTrace(a, 0)), show(a, true))
		tapered, ok := impl.TaperTrace(a, half)
		isShown(t, show(length), show(len(tapered), ok), show(length, true))
		for k, x := range tapered {
			edge := min(k, length-1-k)
			want := float32(1)
			if int64(edge) < half {
				want = float32(edge+1) / float32(half+1)
			}
			isNumber(t, "end", x, want)
		}
	}
}

func TestMuteTrace(t *testing.T) {
	minus, inf, nan := minusZero(), infinite(), notNumber()
	for _, c := range []struct {
		a        []float32
		from, to int64
		want     string
	}{
		{[]float32{1, 2, 3}, 1, 2, "3f800000,00000000,40400000,;true;"},
		{[]float32{1, 2, 3}, 0, 3, "00000000,00000000,00000000,;true;"},
		{[]float32{1, 2, 3}, 0, 0, "3f800000,40000000,40400000,;true;"},
		{[]float32{1, 2, 3}, 3, 3, "3f800000,40000000,40400000,;true;"},
		{[]float32{1, 2, 3}, 1, 1, "3f800000,40000000,40400000,;true;"},
		{[]float32{1, 2, 3}, 2, 3, "3f800000,40000000,00000000,;true;"},
		{[]float32{1, 2, 3}, 0, 1, "00000000,40000000,40400000,;true;"},
		{[]float32{1, 2, 3}, 2, 1, ";false;"},
		{[]float32{1, 2, 3}, 3, 2, ";false;"},
		{[]float32{1, 2, 3}, 0, 4, ";false;"},
		{[]float32{1, 2, 3}, 4, 4, ";false;"},
		{[]float32{1, 2, 3}, -1, 2, ";false;"},
		{[]float32{1, 2, 3}, -1, -1, ";false;"},
		{[]float32{1}, 1, 0, ";false;"},
		{[]float32{1}, 0, 1, "00000000,;true;"},
		{[]float32{1}, 1, 1, "3f800000,;true;"},
		{[]float32{minus, minus, minus}, 1, 2, "80000000,00000000,80000000,;true;"},
		{[]float32{nan, inf, -inf, nan}, 1, 3, "7fc00000,00000000,00000000,7fc00000,;true;"},
		{[]float32{nan, minus}, 0, 1, "00000000,80000000,;true;"},
	} {
		isShown(t, show(c.a, c.from, c.to), show(impl.MuteTrace(c.a, c.from, c.to)), c.want)
	}
}

func TestEndsOfMutes(t *testing.T) {
	for _, length := range []int{1, 2, 7, 128} {
		a := ones[float32](length)
		for from := -2; from <= length+2; from++ {
			for to := -2; to <= length+2; to++ {
				muted, ok := impl.MuteTrace(a, int64(from), int64(to))
				if 0 <= from && from <= to && to <= length {
					want := ones[float32](length)
					copy(want[from:to], make([]float32, length))
					isShown(t, show(length, from, to), show(muted, ok), show(want, true))
				} else {
					isShown(t, show(length, from, to), show(muted, ok), noList)
				}
			}
		}
		for _, n := range beyond(0, int64(length)) {
			isShown(t, show(length, n), show(impl.MuteTrace(a, 0, n)), noList)
			isShown(t, show(length, n), show(impl.MuteTrace(a, n, int64(length))), noList)
			isShown(t, show(length, n), show(impl.MuteTrace(a, n, n)), noList)
		}
	}
}

func TestGainTrace(t *testing.T) {
	minus, inf, nan, high := minusZero(), infinite(), notNumber(), float32(math.MaxFloat32)
	for _, c := range []struct {
		a     []float32
		reach int64
		want  string
	}{
		{[]float32{3, -4, 0}, 0, "3f800000,bf800000,00000000,;true;"},
		{[]float32{3, -4, 0}, 1, "3f593924,bfb15cad,00000000,;true;"},
		{[]float32{3, -4, 0}, 2, "3f850582,bfb15cad,00000000,;true;"},
		{[]float32{3, -4, 0}, 128, "3f850582,bfb15cad,00000000,;true;"},
		{[]float32{3, -4, 0}, 129, ";false;"},
		{[]float32{3, -4, 0}, -1, ";false;"},
		{[]float32{5}, 0, "3f800000,;true;"},
		{[]float32{-5}, 128, "bf800000,;true;"},
		{[]float32{0}, 0, "00000000,;true;"},
		{[]float32{minus}, 0, "00000000,;true;"},
		{[]float32{minus, minus, minus}, 1, "00000000,00000000,00000000,;true;"},
		{[]float32{minus, minus, 1, minus, minus, minus}, 1, "00000000,80000000,3fddb3d8,80000000,00000000,00000000,;true;"},
		{[]float32{0, 0, 5, 0, 0, 0}, 2, "00000000,00000000,400f1bbd,00000000,00000000,00000000,;true;"},
		{filled(4, 1), 1, "3f800000,3f800000,3f800000,3f800000,;true;"},
		{filled(4, 2), 128, "3f800000,3f800000,3f800000,3f800000,;true;"},
		{[]float32{0.1, -0.7, 0.3, 0.9, 0.2}, 1, "3e4cccce,bfca0adf,3ee1a79e,3fcdcd42,3e9d130f,;true;"},
		{[]float32{0.1, -0.7, 0.3, 0.9, 0.2}, 2, "3e66e7da,bf9773a0,3f0f1bbe,3fc0ab8f,3eb6ef58,;true;"},
		{[]float32{1, 2, 3, 4, 5}, 1, "3f21e89b,3f6d028c,3f7703c5,3f7ad3e8,3f8d5a33,;true;"},
		{[]float32{inf, 1, 1, 1}, 1, "7fc00000,00000000,3f800000,3f800000,;true;"},
		{[]float32{inf, 1, 1, 1}, 0, "7fc00000,3f800000,3f800000,3f800000,;true;"},
		{[]float32{-inf, 1}, 1, "7fc00000,00000000,;true;"},
		{[]float32{nan, 1, 1, 1}, 1, "7fc00000,7fc00000,3f800000,3f800000,;true;"},
		{[]float32{nan, 1, 1, 1}, 0, "7fc00000,3f800000,3f800000,3f800000,;true;"},
		{[]float32{1, 1, nan}, 0, "3f800000,3f800000,7fc00000,;true;"},
		{[]float32{high, 1, 0}, 1, "00000000,00000000,00000000,;true;"},
		{[]float32{high}, 0, "00000000,;true;"},
		{[]float32{1e+20, 1, 1, 1}, 1, "00000000,00000000,3f800000,3f800000,;true;"},
		{[]float32{1e+19, 1e+19}, 1, "3f800000,3f800000,;true;"},
		{[]float32{1e-23, 1e-23}, 0, "00000000,00000000,;true;"},
		{[]float32{1e-23, 1e-23, 1}, 1, "00000000,19a78380,3fb504f3,;true;"},
		{[]float32{1e-23, -1e-23, 1e-22}, 0, "00000000,00000000,3f813d57,;true;"},
		{[]float32{1e-22, 0, 0, 0}, 1, "3faaf7cb,00000000,00000000,00000000,;true;"},
		{[]float32{num(1)}, 0, "00000000,;true;"},
		{[]float32{num(1), 1}, 1, "00000001,3fb504f3,;true;"},
		{[]float32{4096, 1, 1}, 1, "3fb504f3,39ddb3d8,3f800000,;true;"},
		{[]float32{1, 1, 4096}, 2, "39ddb3d6,39ddb3d6,3fddb3d6,;true;"},
		{[]float32{1, 4096, 1}, 2, "39ddb3d8,3fddb3d8,39ddb3d8,;true;"},
		{[]float32{2.646978e-23, 0}, 0, "00000000,00000000,;true;"},
		{[]float32{2.646978e-23, 0}, 1, "00000000,00000000,;true;"},
		{[]float32{3.743392e-23, 0, 0}, 2, "00000000,00000000,00000000,;true;"},
		{[]float32{5.293956e-23, 0}, 1, "3fb504f3,00000000,;true;"},
	} {
		isShown(t, show(c.a, c.reach), show(impl.GainTrace(c.a, c.reach)), c.want)
	}
	var all strings.Builder
	for _, a := range append(someTraces(), shortTraces()...) {
		for _, reach := range []int64{0, 1, 2, 5, 20, 127, 128} {
			all.WriteString(show(impl.GainTrace(a, reach)))
		}
	}
	isShown(t, "some", digest(all.String()), "92b23504")
}

func TestReachOfGain(t *testing.T) {
	for _, reach := range beyond(0, 128) {
		for _, a := range [][]float32{{1}, {1, 2, 3}, ones[float32](128)} {
			isShown(t, show(reach), show(impl.GainTrace(a, reach)), noList)
		}
	}
	for _, a := range append(someTraces(), shortTraces()...) {
		all, ok := impl.GainTrace(a, 128)
		isShown(t, "all", show(all, ok), show(impl.GainTrace(a, int64(len(a))-1)))
	}
}

func TestShapesOfNoTraces(t *testing.T) {
	for _, a := range noTraces() {
		for _, n := range []int64{0, 1} {
			isShown(t, "SmoothTrace", show(impl.SmoothTrace(a, n)), noList)
			isShown(t, "RoughTrace", show(impl.RoughTrace(a, n)), noList)
			isShown(t, "TaperTrace", show(impl.TaperTrace(a, n)), noList)
			isShown(t, "MuteTrace", show(impl.MuteTrace(a, 0, n)), noList)
			isShown(t, "GainTrace", show(impl.GainTrace(a, n)), noList)
			isShown(t, "NotchTrace", show(impl.NotchTrace(a, float32(n))), noList)
		}
		isShown(t, "DifferTrace", show(impl.DifferTrace(a)), noList)
		isShown(t, "IntegrateTrace", show(impl.IntegrateTrace(a)), noList)
	}
	for _, turns := range []float32{infinite(), -infinite(), notNumber(), num(0x7f800001)} {
		isShown(t, "NotchTrace", show(impl.NotchTrace([]float32{1, 2}, turns)), noList)
	}
}
