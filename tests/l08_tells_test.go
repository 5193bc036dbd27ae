package tests

import (
	"fmt"
	"math"
	"testing"

	"loop.example/g01231/impl"
)

// orNo is what a line outputs: a text, or no where its function fails.
func orNo(text string, ok bool) string {
	if !ok {
		return "no"
	}
	return text
}

func listOrNo(list []float32, ok bool) string {
	return orNo(wordsOf(list...), ok)
}

func numberOrNo(x float32, ok bool) string {
	return orNo(wordsOf(x), ok)
}

func pairOrNo(x, y float32, ok bool) string {
	return orNo(wordsOf(x, y), ok)
}

func placeOrNo(n int64, x float32, ok bool) string {
	return orNo(fmt.Sprint(n, " ", word(x)), ok)
}

func complexOrNo(x complex64, ok bool) string {
	return orNo(pair(x), ok)
}

// lineIndices are numbers of layers or traces, of which there are so many, and of
// none.
func lineIndices(count int) []int64 {
	return []int64{0, int64(count) / 2, int64(count) - 1, int64(count), int64(count) + 1, -1, -2, 1 << 32, 1e15, 1e15 + 1, math.MaxInt64, math.MinInt64}
}

func TestLinesWithoutWords(t *testing.T) {
	for _, d := range someDesks() {
		isTold(t, d, "show", groundWords(d.Ground))
		isTold(t, d, "traces", gatherWords(d.Gather))
		isTold(t, d, "depths", listOrNo(impl.DepthsOf(d.Ground)))
		isTold(t, d, "times", listOrNo(impl.TimesDown(d.Ground)))
		isTold(t, d, "means", listOrNo(impl.MeanSpeeds(d.Ground)))
		isTold(t, d, "roots", listOrNo(impl.RootSpeeds(d.Ground)))
		isTold(t, d, "echoes", listOrNo(impl.StraightEchoes(d.Ground)))
		isTold(t, d, "stack", listOrNo(impl.StackOf(d.Gather)))
		isTold(t, d, "live", listOrNo(impl.LiveStack(d.Gather)))
	}
}

// Functions of a valid ground fail where a number is not finite.
func TestLinesWhoseFunctionsFail(t *testing.T) {
	for _, line := range []string{"depths", "times", "means", "roots", "echoes", "ray 2 00000000", "shoot 2 00000000", "reflect 1 00000000", "first 7f7fffff"} {
		isTold(t, wildDesk(), line, "no")
	}
	isTold(t, wildDesk(), "first 00000000", "-1 00000000")
	odd := deskOf(oneLayer(), gatherAt([]float32{0}, []float32{notNumber(), 1}))
	for _, line := range []string{"best 3f800000 0 1", "best none 0 0", "alike 2 0", "alike 0 65", "trace 1", "energy 1", "flat 0 3f800000", "shift none", "shift 0,0", "mute 00000000"} {
		isTold(t, odd, line, map[bool]string{true: "0 00000000", false: "no"}[line == "best 3f800000 0 1"])
	}
	isTold(t, odd, "energy 0", "7fc00000")
	isTold(t, odd, "trace 0", "7fc00000,3f800000")
}

func TestLinesOfRays(t *testing.T) {
	for _, d := range someDesks() {
		for _, n := range lineIndices(len(d.Ground.Layers)) {
			for _, x := range append(someNumbers(), 0.2, 0.1, 0.05) {
				words := fmt.Sprint(n, " ", word(x))
				isTold(t, d, "ray "+words, pairOrNo(impl.EchoRay(d.Ground, n, x)))
				isTold(t, d, "shoot "+words, pairOrNo(impl.ShootRay(d.Ground, n, x)))
				isTold(t, d, "reflect "+words, complexOrNo(impl.ReflectAngle(d.Ground, n, x)))
			}
		}
		for _, x := range append(someNumbers(), 0.2, 20, 100, 1e6) {
			isTold(t, d, "first "+word(x), placeOrNo(impl.FirstTime(d.Ground, x)))
		}
	}
}

func TestLinesOfTraces(t *testing.T) {
	for _, d := range someDesks() {
		for _, n := range lineIndices(len(d.Gather.Traces)) {
			trace, energy := "no", "no"
			if 0 <= n && n < int64(len(d.Gather.Traces)) {
				trace = wordsOf(d.Gather.Traces[n]...)
				energy = numberOrNo(impl.EnergyOfTrace(d.Gather.Traces[n]))
			}
			isTold(t, d, fmt.Sprint("trace ", n), trace)
			isTold(t, d, fmt.Sprint("energy ", n), energy)
		}
	}
}

// isReadable leaves out numbers that no line can tell.
func isReadable(n int64) bool {
	return -1e15 <= n && n <= 1e15
}

func TestLinesOfSemblance(t *testing.T) {
	lists := [][]float32{nil, {1}, {0.5, 1, 2}, {2, 1, 0.5}, {1, 1, 1}, {7, notNumber()}, {0}, {1, -1}, {infinite()}, ones[float32](16), ones[float32](17), ones[float32](257)}
	for _, d := range someDesks() {
		for _, n := range lineIndices(int(d.Gather.Ticks)) {
			for _, k := range []int64{0, 1, 2, 63, 64, 65, -1, 1e15 + 1, math.MaxInt64} {
				alike, ok := impl.SemblanceAt(d.Gather, n, k)
				isTold(t, d, fmt.Sprint("alike ", n, " ", k), numberOrNo(alike, ok && isReadable(n) && isReadable(k)))
			}
			for _, list := range lists {
				isTold(t, d, fmt.Sprint("best ", wordsOf(list...), " ", n, " 2"), placeOrNo(impl.BestSpeed(d.Gather, list, n, 2)))
			}
		}
		for _, k := range []int64{0, 1, 63, 64, 65, -1, 1 << 40} {
			isTold(t, d, fmt.Sprint("best ", wordsOf(lists[2]...), " 0 ", k), placeOrNo(impl.BestSpeed(d.Gather, lists[2], 0, k)))
		}
	}
}
