package tests

import (
	"math"
	"strings"
	"testing"

	"loop.example/g01231/impl"
)

func TestStacks(t *testing.T) {
	minus, inf, nan, high := minusZero(), infinite(), notNumber(), float32(math.MaxFloat32)
	for _, c := range []struct {
		traces      [][]float32
		stack, live string
	}{
		{[][]float32{{1, 2}, {3, 4}}, "40000000,40400000,;true;", "40000000,40400000,;true;"},
		{[][]float32{{0, 2}, {3, 0}}, "3fc00000,3f800000,;true;", "40400000,40000000,;true;"},
		{[][]float32{{0, minus}, {minus, minus}, {0, 0}}, "00000000,00000000,;true;", "00000000,00000000,;true;"},
		{[][]float32{{minus, 0, 1}, {minus, minus, minus}}, "00000000,00000000,3f000000,;true;", "00000000,00000000,3f800000,;true;"},
		{[][]float32{{nan, 0}, {0, 0}, {1, minus}}, "7fc00000,00000000,;true;", "7fc00000,00000000,;true;"},
		{[][]float32{{nan}, {nan}, {nan}}, "7fc00000,;true;", "7fc00000,;true;"},
		{[][]float32{{inf, inf, 1}, {1, -inf, 0}}, "7f800000,7fc00000,3f000000,;true;", "7f800000,7fc00000,3f800000,;true;"},
		{[][]float32{{high, 1}, {high, minus}, {-high, 0}}, "7f800000,3eaaaaab,;true;", "7f800000,3f800000,;true;"},
		{[][]float32{{1e+08}, {1}, {-1e+08}}, "00000000,;true;", "00000000,;true;"},
		{[][]float32{{1e+08}, {-1e+08}, {1}}, "3eaaaaab,;true;", "3eaaaaab,;true;"},
		{[][]float32{{0.1, 0.2, -0.3}, {0.7, 0.5, 0.3}, {0.3, -0.7, 0.11}}, "3ebbbbbc,00000000,3d162fc9,;true;", "3ebbbbbc,00000000,3d162fc9,;true;"},
		{[][]float32{{5, minus, nan}}, "40a00000,00000000,7fc00000,;true;", "40a00000,00000000,7fc00000,;true;"},
		{[][]float32{{1, 1}, {-1, 0}, {0, -1}}, "00000000,00000000,;true;", "00000000,00000000,;true;"},
		{[][]float32{{num(1)}, {0}, {0}}, "00000000,;true;", "00000001,;true;"},
		{[][]float32{{num(1), num(1)}, {num(1), 0}, {0, minus}, {-num(1), 0}}, "00000000,00000000,;true;", "00000000,00000001,;true;"},
		{[][]float32{{1}, {1}, {1}, {1}, {1}, {1}, {1}, {1}, {1}, {1}, {1}, {1}, {1}, {1}, {1}, {1}}, "3f800000,;true;", "3f800000,;true;"},
		{[][]float32{{1}, {1}, {1}, {1}, {1}, {1}, {1}, {1}, {1}, {1}, {1}, {1}, {1}, {1}, {1}, {0}}, "3f700000,;true;", "3f800000,;true;"},
	} {
		g := gatherAt(wavy(len(c.traces), 1), c.traces...)
		isShown(t, "StackOf "+show(g), show(impl.StackOf(g)), c.stack)
		isShown(t, "LiveStack "+show(g), show(impl.LiveStack(g)), c.live)
	}
	var stacks, lives strings.Builder
	for k, g := range someGathers() {
		stacks.WriteString(show(impl.StackOf(g)))
		lives.WriteString(show(impl.LiveStack(g)))
		g, _ = impl.MuteGather(g, float32(k%5+1)*0.4)
		lives.WriteString(show(impl.LiveStack(g)))
	}
	isShown(t, "StackOf", digest(stacks.String()), "9b8973e1")
	isShown(t, "LiveStack", digest(lives.String()), "3e119e53")
}

func TestSemblanceAt(t *testing.T) {
	minus, inf, nan, high := minusZero(), infinite(), notNumber(), float32(math.MaxFloat32)
	for _, c := range []struct {
		traces      [][]float32
		tick, reach int64
		want        string
	}{
		{[][]float32{{1, 2}, {1, 2}}, 0, 1, "3f800000;true;"},
		{[][]float32{{1, 2}, {1, 2}}, 0, 0, "3f800000;true;"},
		{[][]float32{{1, 2}, {1, 2}}, 1, 0, "3f800000;true;"},
		{[][]float32{{1, 2}, {1, 2}}, 1, 64, "3f800000;true;"},
		{[][]float32{{1, 2}, {3, 4}}, 0, 0, "3f4ccccd;true;"},
		{[][]float32{{1, 2}, {3, 4}}, 1, 0, "3f666666;true;"},
		{[][]float32{{1, 2}, {3, 4}}, 0, 1, "3f5dddde;true;"},
		{[][]float32{{1, 2, 3, 4, 5}, {5, 4, 3, 2, 1}, {0.1, -0.7, 0.3, 0.2, 0.9}}, 0, 0, "3ef42806;true;"},
		{[][]float32{{1, 2, 3, 4, 5}, {5, 4, 3, 2, 1}, {0.1, -0.7, 0.3, 0.2, 0.9}}, 4, 0, "3f178999;true;"},
		{[][]float32{{1, 2, 3, 4, 5}, {5, 4, 3, 2, 1}, {0.1, -0.7, 0.3, 0.2, 0.9}}, 0, 1, "3eefaad9;true;"},
		{[][]float32{{1, 2, 3, 4, 5}, {5, 4, 3, 2, 1}, {0.1, -0.7, 0.3, 0.2, 0.9}}, 4, 1, "3f1cbb9b;true;"},
		{[][]float32{{1, 2, 3, 4, 5}, {5, 4, 3, 2, 1}, {0.1, -0.7, 0.3, 0.2, 0.9}}, 2, 1, "3f1a9ff4;true;"},
		{[][]float32{{1, 2, 3, 4, 5}, {5, 4, 3, 2, 1}, {0.1, -0.7, 0.3, 0.2, 0.9}}, 2, 2, "3f124926;true;"},
		{[][]float32{{1, 2, 3, 4, 5}, {5, 4, 3, 2, 1}, {0.1, -0.7, 0.3, 0.2, 0.9}}, 1, 3, "3f124926;true;"},
		{[][]float32{{1, 2, 3, 4, 5}, {5, 4, 3, 2, 1}, {0.1, -0.7, 0.3, 0.2, 0.9}}, 0, 64, "3f124926;true;"},
		{[][]float32{{1, 2, 3, 4, 5}, {5, 4, 3, 2, 1}, {0.1, -0.7, 0.3, 0.2, 0.9}}, 4, 64, "3f124926;true;"},
		{[][]float32{{1, 2, 3, 4, 5}, {5, 4, 3, 2, 1}, {0.1, -0.7, 0.3, 0.2, 0.9}}, 3, 64, "3f124926;true;"},
		{[][]float32{{0, 1, 0}, {minus, 0, 0}}, 0, 0, "00000000;true;"},
		{[][]float32{{0, 1, 0}, {minus, 0, 0}}, 1, 0, "3f000000;true;"},
		{[][]float32{{0, 1, 0}, {minus, 0, 0}}, 2, 0, "00000000;true;"},
		{[][]float32{{0, 1, 0}, {minus, 0, 0}}, 0, 1, "3f000000;true;"},
		{[][]float32{{1, -1}, {-1, 1}}, 0, 0, "00000000;true;"},
		{[][]float32{{1, -1}, {-1, 1}}, 0, 1, "00000000;true;"},
		{[][]float32{{nan, 1}, {1, 1}}, 0, 0, "00000000;true;"},
		{[][]float32{{nan, 1}, {1, 1}}, 1, 0, "3f800000;true;"},
		{[][]float32{{nan, 1}, {1, 1}}, 0, 1, "00000000;true;"},
		{[][]float32{{nan, 1}, {1, 1}}, 1, 1, "00000000;true;"},
		{[][]float32{{inf, 1}, {1, 1}}, 0, 0, "7fc00000;true;"},
		{[][]float32{{inf, 1}, {1, 1}}, 1, 0, "3f800000;true;"},
		{[][]float32{{inf, 1}, {1, 1}}, 1, 1, "7fc00000;true;"},
		{[][]float32{{inf, 1}, {-inf, 1}}, 0, 0, "7fc00000;true;"},
		{[][]float32{{inf, 1}, {-inf, 1}}, 1, 0, "3f800000;true;"},
		{[][]float32{{1e+20, 1}, {1, 1}}, 0, 0, "7fc00000;true;"},
		{[][]float32{{1e+20, 1}, {1, 1}}, 1, 0, "3f800000;true;"},
		{[][]float32{{1e+19, 1}, {1, 1}}, 0, 0, "3f000000;true;"},
		{[][]float32{{1e+19, 0}, {-1e+19, 0}}, 0, 0, "00000000;true;"},
		{[][]float32{{1e+19, 0}, {-1e+19, 0}}, 1, 0, "00000000;true;"},
		{[][]float32{{1e-23}, {1e-23}}, 0, 0, "00000000;true;"},
		{[][]float32{{1e-22}, {1e-22}, {1e-22}}, 0, 0, "3f820821;true;"},
		{[][]float32{{num(1)}, {1}}, 0, 64, "3f000000;true;"},
		{[][]float32{{5}}, 0, 0, "3f800000;true;"},
		{[][]float32{{minus}}, 0, 0, "00000000;true;"},
		{[][]float32{{high}}, 0, 0, "7fc00000;true;"},
		{[][]float32{{1e+10, 1}, {1, 0.00001}, {-1e+10, 1}}, 0, 1, "1dfbdcb0;true;"},
		{[][]float32{{0.3, 0.1, 0.7}, {0.2, 0.2, 0.9}, {0.6, -0.5, 0.1}}, 1, 1, "3f283a84;true;"},
		{[][]float32{{0.3, 0.1, 0.7}, {0.2, 0.2, 0.9}, {0.6, -0.5, 0.1}}, 2, 1, "3f1b4bcb;true;"},
	} {
		g := gatherAt(wavy(len(c.traces), 1), c.traces...)
		isShown(t, show(g, c.tick, c.reach), show(impl.SemblanceAt(g, c.tick, c.reach)), c.want)
	}
}

func TestSemblanceOfSome(t *testing.T) {
	var all strings.Builder
	for _, g := range someGathers() {
		for tick := range g.Ticks {
			for _, reach := range []int64{0, 1, 2, 5, 30, 63, 64} {
				all.WriteString(show(impl.SemblanceAt(g, tick, reach)))
			}
		}
	}
	isShown(t, "some", digest(all.String()), "c72fd9e0")
}

func TestWindowsOfSemblance(t *testing.T) {
	for _, g := range plainGathers() {
		last := g.Ticks - 1
		for _, tick := range []int64{0, last} {
			one, first := impl.SemblanceAt(g, tick, last)
			two, second := impl.SemblanceAt(g, tick, 64)
			isShown(t, "all ticks", show(one, first), show(two, second))
		}
		single := impl.Gather{Ticks: 1, Places: g.Places}
		for _, trace := range g.Traces {
			single.Traces = append(single.Traces, trace[last:])
		}
		isShown(t, "reach 0", show(impl.SemblanceAt(g, last, 0)), show(impl.SemblanceAt(single, 0, 64)))
	}
}

func TestWindowsThatAreNone(t *testing.T) {
	g := gatherOfSize(5, 2)
	for _, c := range [][2]int64{
		{-1, 0}, {5, 0}, {6, 3}, {64, 64}, {math.MaxInt64, 0}, {math.MinInt64, 0}, {0, -1}, {0, 65}, {4, 65}, {2, math.MaxInt64}, {2, math.MinInt64},
		{math.MaxInt64, math.MaxInt64}, {math.MinInt64, math.MinInt64},
	} {
		isShown(t, show(c), show(impl.SemblanceAt(g, c[0], c[1])), noNumber)
		isShown(t, show(c), show(impl.ScanSpeeds(g, []float32{1, 2}, c[0], c[1])), noList)
		isShown(t, show(c), show(impl.BestSpeed(g, []float32{1, 2}, c[0], c[1])), noFirst)
	}
	for _, c := range [][2]int64{{0, 0}, {4, 0}, {0, 64}, {4, 64}} {
		isShown(t, show(c), show(impl.SemblanceAt(g, c[0], c[1])), show(float32(1), true))
	}
}

func TestScanSpeeds(t *testing.T) {
	var scans, bests strings.Builder
	for k, g := range someGathers() {
		for _, tick := range []int64{0, g.Ticks / 2, g.Ticks - 1} {
			for _, reach := range []int64{0, 2, 64} {
				scans.WriteString(show(impl.ScanSpeeds(g, someSpeeds(), tick, reach)))
				bests.WriteString(show(impl.BestSpeed(g, someSpeeds(), tick, reach)))
				scans.WriteString(show(impl.ScanSpeeds(g, []float32{float32(k+1) * 0.1, 3}, tick, reach)))
				bests.WriteString(show(impl.BestSpeed(g, []float32{float32(k+1) * 0.1, 3}, tick, reach)))
			}
		}
	}
	isShown(t, "ScanSpeeds", digest(scans.String()), "c5f060e9")
	isShown(t, "BestSpeed", digest(bests.String()), "0e877ca6")
	for _, g := range plainGathers() {
		var want []float32
		for _, speed := range someSpeeds() {
			corrected, _ := impl.CorrectGather(g, speed)
			alike, _ := impl.SemblanceAt(corrected, g.Ticks-1, 2)
			want = append(want, alike)
		}
		isShown(t, "one by one", show(impl.ScanSpeeds(g, someSpeeds(), g.Ticks-1, 2)), show(want, true))
	}
}

func TestNumbersOfSpeeds(t *testing.T) {
	g := gatherOfSize(3, 2)
	for count := range 40 {
		scan, ok := impl.ScanSpeeds(g, ones[float32](count), 0, 0)
		_, _, best := impl.BestSpeed(g, ones[float32](count), 0, 0)
		if count >= 1 && count <= 16 {
			isShown(t, show(count), show(len(scan), ok, best), show(count, true, true))
		} else {
			isShown(t, show(count), show(scan, ok), noList)
			isShown(t, show(count), show(impl.BestSpeed(g, ones[float32](count), 0, 0)), noFirst)
		}
	}
}

// With a place 3 and a speed v, the tick 0 is read at 3 / v, so that each speed
// tells what the trace has there.
func TestBestSpeed(t *testing.T) {
	inf, nan, high := infinite(), notNumber(), float32(math.MaxFloat32)
	for _, c := range []struct {
		other  []float32
		speeds []float32
		want   string
	}{
		{[]float32{0, 0, 1, 0}, []float32{1, 1.5, 3}, "1;3f800000;true;"},
		{[]float32{0, 1, 0, 1}, []float32{3, 1, 1.5}, "0;3f800000;true;"},
		{[]float32{0, 1, 1, 1}, []float32{1, 1.5, 3}, "0;3f800000;true;"},
		{[]float32{0, 1, 1, 1}, []float32{1.5}, "0;3f800000;true;"},
		{make([]float32, 4), []float32{1, 2}, "0;3f000000;true;"},
		{[]float32{0, 1, inf, 0}, []float32{1.5, 3}, "1;3f800000;true;"},
		{[]float32{0, 1, inf, 0}, []float32{3, 1.5}, "0;3f800000;true;"},
		{[]float32{0, 1, inf, 0}, []float32{1.5, 1, 3}, "2;3f800000;true;"},
		{[]float32{0, inf, inf, inf}, []float32{1, 1.5, 3}, "0;00000000;false;"},
		{[]float32{0, inf, inf, inf}, []float32{1.5}, "0;00000000;false;"},
		{[]float32{0, nan, inf, 1}, []float32{3, 1.5, 1}, "2;3f800000;true;"},
		{[]float32{0, nan, nan, nan}, []float32{3, 1.5, 1}, "0;00000000;true;"},
		{[]float32{0, -1, 0, 0}, []float32{3}, "0;00000000;true;"},
		{[]float32{0, -1, 0, 0}, []float32{3, 1}, "1;3f000000;true;"},
		{[]float32{0, -1, -1, -1}, []float32{1, 1.5, 3, 3}, "0;00000000;true;"},
		{[]float32{0, 0.5, 0.9, 0.8}, []float32{1, 1.5, 3, 2, 1.7, 1.4, 1.2}, "1;3f7f4af6;true;"},
		{[]float32{0, 1, 0, 0}, []float32{num(1), 3, 1e-30}, "1;3f800000;true;"},
		{[]float32{0, 1, 0, 0}, []float32{0.1, 0.2, 3, 3}, "2;3f800000;true;"},
		{[]float32{1, 1, 0, 0}, []float32{3, high}, "0;3f800000;true;"},
		{[]float32{1, 1, 0, 0}, []float32{1e+30, 3}, "0;3f800000;true;"},
		{[]float32{0, inf, -inf, nan}, []float32{2, 1.2, 3}, "0;00000000;true;"},
		{[]float32{0, inf, -inf, nan}, []float32{1.2, 2, 3}, "0;00000000;true;"},
	} {
		// At the place 0, the tick 0 is always 1.
		g := gatherAt([]float32{0, 3}, withNumber(make([]float32, len(c.other)), 0, 1), c.other)
		isShown(t, show(c.other, c.speeds), show(impl.BestSpeed(g, c.speeds, 0, 0)), c.want)
	}
}
