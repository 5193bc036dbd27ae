package tests

import (
	"math"
	"strings"
	"testing"

	"loop.example/g01231/impl"
)

func TestFoldTraces(t *testing.T) {
	minus := minusZero()
	for _, c := range []struct {
		a, b []float32
		want string
	}{
		{[]float32{1, 2}, []float32{1, 1}, "3f800000,40400000,40000000,;true;"},
		{[]float32{3}, []float32{-2}, "c0c00000,;true;"},
		{[]float32{1, 2, 3}, []float32{0.1, -0.7}, "3dcccccd,bf000000,bf8ccccc,c0066666,;true;"},
		{[]float32{0.1, -0.7}, []float32{1, 2, 3}, "3dcccccd,bf000000,bf8ccccc,c0066666,;true;"},
		{[]float32{minus}, []float32{1, 0}, "00000000,00000000,;true;"},
		{[]float32{1 << 24, 1, 1}, []float32{1, 1, 1}, "4b800000,4b800000,4b800000,40000000,3f800000,;true;"},
		{[]float32{1, 1, 1 << 24}, []float32{1, 1, 1}, "3f800000,40000000,4b800001,4b800000,4b800000,;true;"},
		{[]float32{0, 1}, []float32{infinite(), 2}, "7fc00000,7f800000,40000000,;true;"},
		{[]float32{1, infinite()}, []float32{1, -1}, "3f800000,7f800000,ff800000,;true;"},
		{[]float32{1e30, 1}, []float32{1e30, 1e-30}, "7f800000,7149f2ca,0da24260,;true;"},
		{[]float32{notNumber(), 1}, []float32{0, 2}, "7fc00000,7fc00000,40000000,;true;"},
		{[]float32{-0x1.000004p0, 0x1.000002p0}, []float32{0x1.000002p0, 1}, "bf800003,00000000,3f800001,;true;"},
	} {
		isShown(t, "FoldTraces", show(impl.FoldTraces(c.a, c.b)), c.want)
	}
	var all strings.Builder
	for _, a := range someTraces() {
		for _, b := range someTraces() {
			all.WriteString(show(impl.FoldTraces(a, b)))
		}
	}
	isShown(t, "some traces", digest(all.String()), "bf923f09")
}

func TestLongestFolds(t *testing.T) {
	for _, c := range [][2]int{{1, 128}, {128, 1}, {2, 127}, {64, 65}, {65, 64}, {100, 29}} {
		a, b := ones[float32](c[0]), ones[float32](c[1])
		fold, ok := impl.FoldTraces(a, b)
		if !ok || len(fold) != 128 {
			t.Fatalf("%v: got %d numbers, %v", c, len(fold), ok)
		}
		for k, x := range fold {
			isNumber(t, "so many meet", x, float32(min(k+1, 128-k, c[0], c[1])))
		}
	}
	for _, c := range [][2]int{{2, 128}, {128, 2}, {65, 65}, {128, 128}, {0, 1}, {1, 0}, {0, 0}, {129, 1}, {1, 129}, {0, 129}, {129, 0}, {128, 0}} {
		isShown(t, show(c[0], c[1]), show(impl.FoldTraces(ones[float32](c[0]), ones[float32](c[1]))), noList)
	}
}

func TestFoldAbout(t *testing.T) {
	for _, c := range []struct {
		a, wavelet []float32
		want       string
	}{
		{[]float32{0, 1, 0}, []float32{0.5, 1, -0.25}, "3f000000,3f800000,be800000,;true;"},
		{[]float32{1, 2, 3, 4}, []float32{0.1, -0.7, 0.3}, "bf000000,bf4ccccb,bf8ccccc,bff33332,;true;"},
		{[]float32{1, 2, 3, 4}, []float32{-3}, "c0400000,c0c00000,c1100000,c1400000,;true;"},
		{[]float32{2}, []float32{1, 2, 3, 4, 5}, "40c00000,;true;"},
		{[]float32{minusZero()}, []float32{1}, "00000000,;true;"},
		{[]float32{1, notNumber(), 1, 1}, []float32{0, 1, 0}, "7fc00000,7fc00000,7fc00000,3f800000,;true;"},
	} {
		isShown(t, "FoldAbout", show(impl.FoldAbout(c.a, c.wavelet)), c.want)
	}
	var all strings.Builder
	for _, a := range someTraces() {
		for _, reach := range []int64{1, 2, 7, 16} {
			w, _ := impl.WaveletOf(reach, 3.1)
			all.WriteString(show(impl.FoldAbout(a, w)))
		}
	}
	isShown(t, "wavelets", digest(all.String()), "1dcd50d9")
}

func TestWaveletsAboutPulses(t *testing.T) {
	for _, reach := range []int64{1, 16} {
		w, _ := impl.WaveletOf(reach, 2.2)
		for at := range int64(40) {
			pulse, _ := impl.PulseTrace(40, at, 1)
			want := make([]float32, 40)
			for k, x := range w {
				if i := at - reach + int64(k); 0 <= i && i < 40 {
					want[i] = x
				}
			}
			isShown(t, "wavelet", show(impl.FoldAbout(pulse, w)), show(want, true))
		}
	}
}

func TestFoldsAboutNothing(t *testing.T) {
	for _, c := range [][2]int{{1, 0}, {1, 2}, {3, 4}, {3, 32}, {1, 128}, {0, 0}, {0, 1}, {0, 3}, {129, 1}, {1, 129}, {128, 3}, {127, 3}, {3, 127}, {96, 34}, {97, 33}} {
		isShown(t, show(c[0], c[1]), show(impl.FoldAbout(ones[float32](c[0]), ones[float32](c[1]))), noList)
	}
	for _, c := range [][2]int{{128, 1}, {126, 3}, {96, 33}, {2, 127}, {1, 127}} {
		got, ok := impl.FoldAbout(ones[float32](c[0]), ones[float32](c[1]))
		isShown(t, show(c[0], c[1]), show(len(got), ok), show(c[0], true))
	}
}

func TestEnergyOfTrace(t *testing.T) {
	for _, c := range []struct {
		a    []float32
		want string
	}{
		{[]float32{1, 2, 3}, "41600000;true;"}, {[]float32{-3}, "41100000;true;"}, {[]float32{minusZero()}, "00000000;true;"},
		{[]float32{4096, 1, 1}, "4b800000;true;"}, {[]float32{1, 1, 4096}, "4b800001;true;"},
		{[]float32{1e20, 1}, "7f800000;true;"}, {[]float32{1e-20, 1e-25}, "000116c2;true;"},
		{[]float32{infinite(), -infinite()}, "7f800000;true;"}, {[]float32{1, notNumber()}, "7fc00000;true;"},
		{[]float32{0x1.000002p0, -0x1.000002p0}, "40000002;true;"},
	} {
		isShown(t, "EnergyOfTrace", show(impl.EnergyOfTrace(c.a)), c.want)
	}
	var all strings.Builder
	for _, a := range someTraces() {
		all.WriteString(show(impl.EnergyOfTrace(a)))
	}
	isShown(t, "some traces", all.String(), "3b071490;true;4033c506;true;3f9ee918;true;40ff865e;true;40c27dde;true;400aa39b;true;417338af;true;41203c02;true;41e946e5;true;4279c2e9;true;429a8422;true;42db5c31;true;42c71014;true;7fc00000;true;00000000;true;00000000;true;")
	isShown(t, "longest", show(impl.EnergyOfTrace(filled(128, 2))), show(float32(512), true))
	for _, a := range noTraces() {
		isShown(t, "no trace", show(impl.EnergyOfTrace(a)), noNumber)
	}
}

// Zeros change no energy, wherever they are and however many.
func TestEnergyBesideZeros(t *testing.T) {
	for _, zero := range []float32{0, minusZero()} {
		for count := 1; count <= 128; count++ {
			isShown(t, "zeros alone", show(impl.EnergyOfTrace(filled(count, zero))), "00000000;true;")
			at := count * 37 % count
			for _, x := range []float32{3, -3} {
				isShown(t, "one number", show(impl.EnergyOfTrace(withNumber(filled(count, zero), at, x))), "41100000;true;")
			}
			last := withNumber(filled(count, zero), count-1, notNumber())
			isShown(t, "not-a-number at the end", show(impl.EnergyOfTrace(last)), "7fc00000;true;")
		}
	}
	for at := range 30 {
		two := withNumber(withNumber(make([]float32, 40), at, 0.1), at+10, 0.7)
		isShown(t, "two numbers", show(impl.EnergyOfTrace(two)), "3effffff;true;")
		isShown(t, "infinite", show(impl.EnergyOfTrace(withNumber(two, at, infinite()))), "7f800000;true;")
	}
}

func TestPeakOfTrace(t *testing.T) {
	inf, nan, minus := infinite(), notNumber(), minusZero()
	for _, c := range []struct {
		a    []float32
		want string
	}{
		{[]float32{1, -3, 2}, "1;c0400000;true;"}, {[]float32{7}, "0;40e00000;true;"}, {[]float32{1, -3, 3, -3}, "1;c0400000;true;"},
		{[]float32{3, -3}, "0;40400000;true;"}, {[]float32{minus, 0}, "0;80000000;true;"}, {[]float32{0, minus}, "0;00000000;true;"},
		{[]float32{minus, num(0x80000001), num(1)}, "1;80000001;true;"}, {[]float32{nan, 1, nan, -2, nan}, "3;c0000000;true;"},
		{[]float32{nan, minus}, "1;80000000;true;"}, {[]float32{0, nan}, "0;00000000;true;"}, {[]float32{math.MaxFloat32, -inf, inf}, "1;ff800000;true;"},
		{[]float32{nan, inf, -inf, nan}, "1;7f800000;true;"}, {[]float32{2, just(2, 1), just(2, -1)}, "1;40000001;true;"},
		{[]float32{nan}, noFirst}, {filled(128, nan), noFirst}, {[]float32{num(0x7f800001), num(0xffffffff)}, noFirst},
	} {
		isShown(t, show(c.a), show(impl.PeakOfTrace(c.a)), c.want)
	}
	for at := range 128 {
		isShown(t, "one peak", show(impl.PeakOfTrace(withNumber(ones[float32](128), at, -2))), show(int64(at), float32(-2), true))
		isShown(t, "one number", show(impl.PeakOfTrace(withNumber(filled(128, nan), at, 0))), show(int64(at), float32(0), true))
	}
	for _, a := range noTraces() {
		isShown(t, "no trace", show(impl.PeakOfTrace(a)), noFirst)
	}
}

func TestKeepTrace(t *testing.T) {
	inf, nan, minus := infinite(), notNumber(), minusZero()
	for _, c := range []struct {
		a    []float32
		keep float32
		want string
	}{
		{[]float32{1, 1, 1}, 0.5, "3f800000,3f000000,3e800000,;true;"}, {[]float32{3, 3, -3, 3}, 0.1, "40400000,3e99999a,bcf5c290,3b449ba6,;true;"},
		{[]float32{1, 1, 1}, -1, "3f800000,bf800000,3f800000,;true;"}, {[]float32{1, 2, -3}, 0, "3f800000,00000000,80000000,;true;"},
		{[]float32{1, 2, 3, 4}, minus, "3f800000,80000000,00000000,80000000,;true;"}, {[]float32{minus, nan, minus}, 1, "80000000,7fc00000,80000000,;true;"},
		{[]float32{2, 1, 0}, inf, "40000000,7f800000,7fc00000,;true;"}, {[]float32{2, 1, 0}, nan, "40000000,7fc00000,7fc00000,;true;"},
		{[]float32{inf, inf, inf}, 0, "7f800000,7fc00000,7fc00000,;true;"}, {[]float32{1, 1e-30, 1e-30, 1e-30}, 1e20, "3f800000,2edbe6ff,7f800000,7f800000,;true;"},
		{[]float32{-5}, nan, "c0a00000,;true;"},
	} {
		isShown(t, "KeepTrace", show(impl.KeepTrace(c.a, c.keep)), c.want)
	}
	var all strings.Builder
	for _, a := range someTraces() {
		for _, keep := range append(wavy(10, 4), someNumbers()...) {
			all.WriteString(show(impl.KeepTrace(a, keep)))
		}
	}
	isShown(t, "some traces", digest(all.String()), "c4609bc3")
	for _, a := range noTraces() {
		isShown(t, "no trace", show(impl.KeepTrace(a, 1)), noList)
	}
}

func TestSpectrumAt(t *testing.T) {
	minus, inf := minusZero(), infinite()
	for _, c := range []struct {
		a     []float32
		turns float32
		want  string
	}{
		{[]float32{1, 2}, 0, "4040000000000000;true;"}, {[]float32{1, 2}, minus, "4040000000000000;true;"},
		{[]float32{1, 2}, 0.25, "3f800000c0000000;true;"}, {[]float32{1, 2}, -0.25, "3f80000040000000;true;"},
		{[]float32{1, 2, 3}, 0.5, "4000000000000000;true;"}, {[]float32{1, -2, 0.3}, 0.1, "bf067bf53f63e7a8;true;"},
		{[]float32{minus, minus}, 0.3, "0000000000000000;true;"}, {[]float32{-1, -1}, 0, "c000000000000000;true;"},
		{[]float32{1, 2, 3}, 1e30, "40c0000000000000;true;"}, {[]float32{1, 2, 3}, -math.MaxFloat32, "40c0000000000000;true;"},
		{[]float32{1, 2, 3}, 1 << 51, "40c0000000000000;true;"}, {[]float32{inf, 1}, 0.1, "7f8000007fc00000;true;"},
		{[]float32{1, inf}, 0.1, "7f800000ff800000;true;"}, {[]float32{1, notNumber()}, 0.1, "7fc000007fc00000;true;"},
		{[]float32{1, 2}, 1e-45, "4040000000000000;true;"}, {[]float32{1, 1, 1, 1, 1, 1}, 12345.678, "bdab5f503e6aec24;true;"},
	} {
		isShown(t, "SpectrumAt", show(impl.SpectrumAt(c.a, c.turns)), c.want)
	}
	var all strings.Builder
	for _, a := range someTraces() {
		for _, turns := range append(wavy(20, 6), someNumbers()...) {
			all.WriteString(show(impl.SpectrumAt(a, turns)))
		}
	}
	isShown(t, "some traces", digest(all.String()), "3a9d511c")
}

func TestSpectraThatAreNone(t *testing.T) {
	for _, turns := range []float32{infinite(), -infinite(), notNumber()} {
		isShown(t, "turns", show(impl.SpectrumAt([]float32{1}, turns)), noComplex)
	}
	for _, a := range noTraces() {
		isShown(t, "no trace", show(impl.SpectrumAt(a, 0))+show(impl.SpectrumOfTrace(a, 1)), noComplex+noList)
	}
	for _, count := range []int64{0, -1, 129, math.MaxInt64, math.MinInt64} {
		isShown(t, "count", show(impl.SpectrumOfTrace([]float32{1, 2}, count)), noList)
	}
}

func TestSpectrumOfTrace(t *testing.T) {
	isShown(t, "one", show(impl.SpectrumOfTrace([]float32{1, 2}, 1)), "4040000000000000,;true;")
	isShown(t, "three", show(impl.SpectrumOfTrace([]float32{1, -2, 0.3, 0.7}, 3)), "0000000000000000,402333333ffef537,40233332bffef53a,;true;")
	isShown(t, "four", show(impl.SpectrumOfTrace([]float32{1, 2}, 4)), "4040000000000000,3f800000c0000000,bf80000000000000,3f80000040000000,;true;")
	var all strings.Builder
	for _, a := range someTraces() {
		for _, count := range []int64{2, 7, 24, 127, 128} {
			all.WriteString(show(impl.SpectrumOfTrace(a, count)))
		}
	}
	isShown(t, "some traces", digest(all.String()), "677ef9c6")
	for _, a := range someTraces() {
		spectrum, ok := impl.SpectrumOfTrace(a, 128)
		isShown(t, "128", show(len(spectrum), ok), "128;true;")
		for k, x := range spectrum {
			isShown(t, "as SpectrumAt", show(impl.SpectrumAt(a, float32(k)/128)), show(x, true))
		}
	}
}
