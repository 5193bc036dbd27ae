package tests

import (
	"math"
	"strings"
	"testing"

	"loop.example/g01231/impl"
)

func TestIsTrace(t *testing.T) {
	for count, want := range map[int]bool{0: false, 1: true, 2: true, 127: true, 128: true, 129: false, 1000: false} {
		isShown(t, "zeros", show(impl.IsTrace(make([]float32, count))), show(want))
		isShown(t, "not-a-numbers", show(impl.IsTrace(filled(count, notNumber()))), show(want))
	}
	isShown(t, "nil", show(impl.IsTrace(nil)), "false;")
	isShown(t, "numbers of every kind", show(impl.IsTrace(someNumbers())), "true;")
}

func TestPulseTrace(t *testing.T) {
	for _, c := range []struct {
		count, at int64
		size      float32
		want      string
	}{
		{3, 1, 4, "00000000,40800000,00000000,;true;"},
		{5, 0, -0.1, "bdcccccd,00000000,00000000,00000000,00000000,;true;"},
		{5, 4, -0.1, "00000000,00000000,00000000,00000000,bdcccccd,;true;"},
		{1, 0, 1e-40, "000116c2,;true;"},
		{2, 1, minusZero(), "00000000,80000000,;true;"},
		{2, 0, -infinite(), "ff800000,00000000,;true;"},
		{2, 0, notNumber(), "7fc00000,00000000,;true;"},
	} {
		isShown(t, "PulseTrace", show(impl.PulseTrace(c.count, c.at, c.size)), c.want)
	}
	for _, at := range []int{0, 1, 64, 127} {
		isShown(t, "longest", show(impl.PulseTrace(128, int64(at), 3)), show(withNumber(make([]float32, 128), at, 3), true))
	}
}

func TestPulsesThatAreNone(t *testing.T) {
	for _, c := range [][2]int64{
		{0, 0}, {-1, 0}, {-1, -2}, {129, 0}, {129, 128}, {math.MaxInt64, 0}, {math.MinInt64, 0}, {3, -1}, {3, 3}, {3, 4}, {128, 128},
		{3, math.MaxInt64}, {3, math.MinInt64},
	} {
		isShown(t, show(c[0], c[1]), show(impl.PulseTrace(c[0], c[1], 1)), noList)
	}
}

func TestWaveletOf(t *testing.T) {
	for _, c := range []struct {
		reach int64
		bend  float32
		want  string
	}{
		{1, 3, "3e100000,3f800000,3e100000,;true;"},
		{1, 0, "3f100000,3f800000,3f100000,;true;"},
		{1, minusZero(), "3f100000,3f800000,3f100000,;true;"},
		{1, -0.7, "3f293333,3f800000,3f293333,;true;"},
		{2, 4.1, "be81ee71,3edc4055,3f800000,3edc4055,be81ee71,;true;"},
		{5, 5.3, "be802320,bed63615,be3b3335,3ea64fec,3f4e59e5,3f800000,3f4e59e5,3ea64fec,be3b3335,bed63615,be802320,;true;"},
		{1, math.MaxFloat32, "fe0fffff,3f800000,fe0fffff,;true;"},
		{2, -math.MaxFloat32, "7e0c7765,7db3cc07,3f800000,7db3cc07,7e0c7765,;true;"},
		{1, 1e-45, "3f100000,3f800000,3f100000,;true;"},
		{16, 3.3, "bccd6b82,bd9d9b37,be0348c5,be2425fb,be2614f2,be0411a2,bd7886fc,3d1f5043,3e271718,3e9b88e2,3ee71679,3f18a461,3f3ab402,3f579baa,3f6d975b,3f7b5414,3f800000,3f7b5414,3f6d975b,3f579baa,3f3ab402,3f18a461,3ee71679,3e9b88e2,3e271718,3d1f5043,bd7886fc,be0411a2,be2614f2,be2425fb,be0348c5,bd9d9b37,bccd6b82,;true;"},
	} {
		isShown(t, "WaveletOf", show(impl.WaveletOf(c.reach, c.bend)), c.want)
	}
	var all strings.Builder
	for reach := range int64(16) {
		for _, bend := range wavy(40, 5) {
			all.WriteString(show(impl.WaveletOf(reach+1, bend*3)))
		}
	}
	isShown(t, "all reaches", digest(all.String()), "377dce91")
}

// A wavelet is 1 in the middle, and the same to both sides.
func TestWaveletsAreEven(t *testing.T) {
	for reach := range int64(16) {
		for _, bend := range []float32{0, 1, 3, -2.7} {
			w, _ := impl.WaveletOf(reach+1, bend)
			if len(w) != int(2*reach+3) {
				t.Fatalf("a wavelet of the reach %d has %d numbers", reach+1, len(w))
			}
			isNumber(t, "middle", w[reach+1], 1)
			isShown(t, "mirror", show(impl.MirrorTrace(w)), show(w, true))
		}
	}
}

func TestWaveletsThatAreNone(t *testing.T) {
	for _, reach := range []int64{0, -1, 17, 128, math.MaxInt64, math.MinInt64} {
		isShown(t, "reach", show(impl.WaveletOf(reach, 1)), noList)
	}
	for _, bend := range []float32{infinite(), -infinite(), notNumber()} {
		isShown(t, "bend", show(impl.WaveletOf(1, bend))+show(impl.WaveletOf(16, bend)), noList+noList)
	}
}

// turned returns a list from an index on, and then what is before it.
func turned(list []float32, from int) []float32 {
	return append(append([]float32(nil), list[from:]...), list[:from]...)
}

func TestAddAndLessTraces(t *testing.T) {
	minus := minusZero()
	for _, c := range []struct {
		a, b      []float32
		sum, less string
	}{
		{[]float32{1, 2}, []float32{3, -1}, "40800000,3f800000,;true;", "c0000000,40400000,;true;"},
		{[]float32{minus, minus, 0, 0}, []float32{minus, 0, minus, 0}, "80000000,00000000,00000000,00000000,;true;", "00000000,80000000,00000000,00000000,;true;"},
		{[]float32{math.MaxFloat32}, []float32{math.MaxFloat32}, "7f800000,;true;", "00000000,;true;"},
		{[]float32{1 << 24, 0.1}, []float32{1, 0.2}, "4b800000,3e99999a,;true;", "4b7fffff,bdcccccd,;true;"},
	} {
		isShown(t, "AddTraces", show(impl.AddTraces(c.a, c.b)), c.sum)
		isShown(t, "LessTraces", show(impl.LessTraces(c.a, c.b)), c.less)
	}
	var sums, differences strings.Builder
	for from := range someNumbers() {
		sums.WriteString(show(impl.AddTraces(someNumbers(), turned(someNumbers(), from))))
		differences.WriteString(show(impl.LessTraces(someNumbers(), turned(someNumbers(), from))))
	}
	isShown(t, "sums of every kind", digest(sums.String()), "78b1c38b")
	isShown(t, "differences of every kind", digest(differences.String()), "79e95e9b")
	longest := wavy(128, 3)
	isShown(t, "longest", show(impl.LessTraces(longest, longest)), show(make([]float32, 128), true))
	isShown(t, "longest", show(impl.AddTraces(longest, make([]float32, 128))), show(longest, true))
}

func TestTracesOfDifferentLengths(t *testing.T) {
	for _, c := range [][2]int{{0, 0}, {0, 1}, {1, 0}, {1, 2}, {2, 1}, {127, 128}, {128, 127}, {128, 129}, {129, 128}, {129, 129}} {
		a, b := make([]float32, c[0]), make([]float32, c[1])
		isShown(t, show(c[0], c[1]), show(impl.AddTraces(a, b))+show(impl.LessTraces(a, b)), noList+noList)
	}
}

func TestScaleTrace(t *testing.T) {
	isShown(t, "half", show(impl.ScaleTrace([]float32{1, -2}, 0.5)), "3f000000,bf800000,;true;")
	isShown(t, "zero", show(impl.ScaleTrace([]float32{1, -2, minusZero(), infinite()}, 0)), "00000000,80000000,80000000,7fc00000,;true;")
	var all strings.Builder
	for _, by := range someNumbers() {
		all.WriteString(show(impl.ScaleTrace(someNumbers(), by)))
	}
	isShown(t, "products of every kind", digest(all.String()), "228d68fd")
	isShown(t, "longest", show(impl.ScaleTrace(ones[float32](128), -3)), show(filled(128, -3), true))
	for _, a := range noTraces() {
		isShown(t, "no trace", show(impl.ScaleTrace(a, 1)), noList)
	}
}

func TestShiftTrace(t *testing.T) {
	a := []float32{1, minusZero(), notNumber(), -4}
	for by, want := range map[int64]string{
		0: "3f800000,80000000,7fc00000,c0800000,;true;", 1: "00000000,3f800000,80000000,7fc00000,;true;", -1: "80000000,7fc00000,c0800000,00000000,;true;",
		3: "00000000,00000000,00000000,3f800000,;true;", -3: "c0800000,00000000,00000000,00000000,;true;",
		4: "00000000,00000000,00000000,00000000,;true;", -4: "00000000,00000000,00000000,00000000,;true;",
		128: "00000000,00000000,00000000,00000000,;true;", -128: "00000000,00000000,00000000,00000000,;true;",
	} {
		isShown(t, "ShiftTrace", show(impl.ShiftTrace(a, by)), want)
	}
	longest := wavy(128, 9)
	for _, by := range []int{0, 1, 64, 127, 128} {
		later := append(make([]float32, by), longest[:128-by]...)
		sooner := append(append([]float32(nil), longest[by:]...), make([]float32, by)...)
		isShown(t, "later", show(impl.ShiftTrace(longest, int64(by))), show(later, true))
		isShown(t, "sooner", show(impl.ShiftTrace(longest, int64(-by))), show(sooner, true))
	}
}

func TestShiftsThatAreNone(t *testing.T) {
	for _, by := range []int64{129, -129, math.MaxInt64, math.MinInt64, math.MinInt64 + 1} {
		for _, count := range []int{1, 4, 128} {
			isShown(t, "too far", show(impl.ShiftTrace(ones[float32](count), by)), noList)
		}
	}
	for _, a := range noTraces() {
		isShown(t, "no trace", show(impl.ShiftTrace(a, 0)), noList)
	}
}

func TestMirrorTrace(t *testing.T) {
	isShown(t, "three", show(impl.MirrorTrace([]float32{1, 2, 3})), "40400000,40000000,3f800000,;true;")
	isShown(t, "one", show(impl.MirrorTrace([]float32{minusZero()})), "80000000,;true;")
	isShown(t, "every kind", show(impl.MirrorTrace(someNumbers())), "7fc00000,7fc00000,7fc00000,ff800000,7f800000,00800000,007fffff,80000001,00000001,80000000,00000000,7f7fffff,d9800000,4b800000,7149f2ca,9e3ce508,1e3ce508,3dcccccd,c0f00000,40400000,bf000000,3e800000,bf800000,3f800000,;true;")
	for _, a := range someTraces() {
		mirror, _ := impl.MirrorTrace(a)
		isShown(t, "twice", show(impl.MirrorTrace(mirror)), show(a, true))
	}
	for _, a := range noTraces() {
		isShown(t, "no trace", show(impl.MirrorTrace(a)), noList)
	}
}
