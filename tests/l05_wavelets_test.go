package tests

import (
	"math"
	"strings"
	"testing"

	"loop.example/g01231/impl"
)

func TestShapeFilter(t *testing.T) {
	minus, inf, nan, high := minusZero(), infinite(), notNumber(), float32(math.MaxFloat32)
	for _, c := range []struct {
		wavelet, wanted []float32
		count           int64
		white           float32
		want            string
	}{
		{[]float32{1}, []float32{3}, 1, 0, "40400000,;true;"},
		{[]float32{1}, []float32{3}, 1, 0.5, "40000000,;true;"},
		{[]float32{2}, []float32{3}, 1, 0, "3fc00000,;true;"},
		{[]float32{1, 0.5}, []float32{1}, 2, 0, "3f73cf3e,bec30c32,;true;"},
		{[]float32{1, 0.5}, []float32{1}, 3, 0, "3f7cfcfe,bef0f0f3,3e40c0c3,;true;"},
		{[]float32{1, 0.5}, []float32{0, 1}, 3, 0, "3cc0c0a4,3f70f0f3,bec0c0c3,;true;"},
		{[]float32{1, 0.5}, []float32{0, 0, 1}, 2, 0, "be430c32,3ef3cf3e,;true;"},
		{[]float32{1, 0.5}, []float32{1, 0.5}, 2, 0, "3f800000,00000000,;true;"},
		{[]float32{1, 0.5}, []float32{1, 0.5}, 2, 0.1, "3f652e53,3d1c09be,;true;"},
		{[]float32{0.5, 1}, []float32{1}, 3, 0, "3efcfcfe,be70f0f3,3dc0c0c3,;true;"},
		{[]float32{0.5, 1}, []float32{0, 1}, 3, 0.01, "3f3e9b8f,3df5b996,bd42a234,;true;"},
		{[]float32{0.5, 1}, []float32{0, 0, 0, 1}, 4, 0, "3e40300e,bef03c11,3f7c3f11,3bc02fcc,;true;"},
		{[]float32{1}, []float32{1, 2, 3}, 3, 0, "3f800000,40000000,40400000,;true;"},
		{[]float32{1}, []float32{1, 2, 3}, 2, 0, "3f800000,40000000,;true;"},
		{[]float32{1}, []float32{1, 2, 3}, 5, 0, "3f800000,40000000,40400000,00000000,00000000,;true;"},
		{[]float32{1, 2, 3}, []float32{1}, 1, 0, "3d924925,;true;"},
		{[]float32{3, 2, 1}, []float32{1}, 3, 0, "3ea7904a,be5f6b0d,3d5f6b0c,;true;"},
		{[]float32{1, 2, 1}, []float32{1, 2, 1}, 1, 0, "3f800000,;true;"},
		{[]float32{1, 2, 1}, []float32{4}, 3, 0.001, "3fcbb39b,bfcb36cc,3f4ad942,;true;"},
		{[]float32{1, -2, 1}, []float32{0, 1}, 3, 0.01, "bec6fe5a,bdb285df,3bd830fd,;true;"},
		{[]float32{1, 0.5}, []float32{minus}, 2, 0, "00000000,00000000,;true;"},
		{[]float32{1}, []float32{minus}, 1, 0, "00000000,;true;"},
		{[]float32{1}, []float32{minus, minus}, 2, 0, "00000000,00000000,;true;"},
		{[]float32{1, 0.5}, []float32{0}, 2, 0, "00000000,00000000,;true;"},
		{[]float32{0}, []float32{1}, 1, 0, ";false;"},
		{[]float32{minus, 0}, []float32{1}, 2, 1, ";false;"},
		{[]float32{nan}, []float32{1}, 1, 0, ";false;"},
		{[]float32{1}, []float32{nan}, 1, 0, "7fc00000,;true;"},
		{[]float32{1}, []float32{nan}, 2, 0, "7fc00000,7fc00000,;true;"},
		{[]float32{1}, []float32{0, nan}, 1, 0, "00000000,;true;"},
		{[]float32{1}, []float32{inf}, 1, 0, "7f800000,;true;"},
		{[]float32{inf}, []float32{1}, 1, 0, "7fc00000,;true;"},
		{[]float32{inf, 1}, []float32{1}, 1, 0, "7fc00000,;true;"},
		{[]float32{1, 1}, []float32{1, 1}, 1, high, "00000000,;true;"},
		{[]float32{1e+20}, []float32{1}, 1, 0, "00000000,;true;"},
		{[]float32{1e-20}, []float32{1}, 1, 0, "60ad7929,;true;"},
		{[]float32{1e-23}, []float32{1}, 1, 0, ";false;"},
		{[]float32{1e-22}, []float32{1e-22}, 1, 0, "3f800000,;true;"},
		{[]float32{high}, []float32{1}, 1, 0, "00000000,;true;"},
		{[]float32{0.1, -0.7, 0.3}, []float32{0.2, 0.9, -0.4, 0.1}, 4, 0.01, "bf9883bb,3d713e16,bdedb56a,bd26cbf2,;true;"},
		{[]float32{0.3, 0.1, 0.4, 0.1, 0.5}, []float32{1, 0.5}, 3, 0, "3f8bd6e9,3e3b595b,bf3fe66b,;true;"},
		{[]float32{1}, []float32{1}, 1, -1, ";false;"},
		{[]float32{1}, []float32{1}, 1, inf, ";false;"},
		{[]float32{1}, []float32{1}, 0, 0, ";false;"},
		{[]float32{1}, []float32{1}, 25, 0, ";false;"},
	} {
		isShown(t, show(c.wavelet, c.wanted, c.count, c.white), show(impl.ShapeFilter(c.wavelet, c.wanted, c.count, c.white)), c.want)
	}
	var all strings.Builder
	for _, wavelet := range append(someTraces(), shortTraces()...) {
		for _, wanted := range append(someTraces()[2:6], shortTraces()...) {
			for _, count := range []int64{1, 2, 5} {
				all.WriteString(show(impl.ShapeFilter(wavelet, wanted, count, 0.01)))
			}
		}
		all.WriteString(show(impl.ShapeFilter(wavelet, wavy(40, 9), 24, 0.1)))
		all.WriteString(show(impl.ShapeFilter(wavelet, wavy(128, 9), 9, 0)))
	}
	isShown(t, "some", digest(all.String()), "92832b10")
}

func TestSpikeFilter(t *testing.T) {
	minus, inf, nan, high := minusZero(), infinite(), notNumber(), float32(math.MaxFloat32)
	for _, c := range []struct {
		wavelet []float32
		count   int64
		white   float32
		want    string
	}{
		{[]float32{2}, 1, 0, "3f000000,;true;"},
		{[]float32{2}, 3, 0, "3f000000,00000000,00000000,;true;"},
		{[]float32{-2}, 2, 0.5, "beaaaaab,00000000,;true;"},
		{[]float32{1, 0.5}, 1, 0, "3f4ccccd,;true;"},
		{[]float32{1, 0.5}, 2, 0, "3f73cf3e,bec30c32,;true;"},
		{[]float32{1, 0.5}, 4, 0, "3f7f3fd1,befc3f12,3e703c12,bdc0300f,;true;"},
		{[]float32{1, 0.5}, 4, 0.1, "3f5c986f,bebd4664,3e1ea166,bd66bc38,;true;"},
		{[]float32{0.5, 1}, 4, 0, "3eff3fd1,be7c3f12,3df03c12,bd40300f,;true;"},
		{[]float32{1, -1}, 3, 0.001, "3f3f8da7,3efefac4,3e7eb98d,;true;"},
		{[]float32{1, -1}, 5, 0, "3f555556,3f2aaaab,3f000000,3eaaaaaa,3e2aaaaa,;true;"},
		{[]float32{1, -2, 1}, 3, 0.01, "3ec274af,3ebdeb04,3e3a8a41,;true;"},
		{[]float32{minus, 1}, 2, 0, "00000000,00000000,;true;"},
		{[]float32{0, 1}, 2, 0, "00000000,00000000,;true;"},
		{[]float32{0, 0}, 1, 0, ";false;"},
		{[]float32{nan}, 1, 0, ";false;"},
		{[]float32{1, nan}, 1, 0, ";false;"},
		{[]float32{inf}, 1, 0, "7fc00000,;true;"},
		{[]float32{1, inf}, 2, 0, ";false;"},
		{[]float32{1e-20}, 1, 0, "60ad7929,;true;"},
		{[]float32{1e+20}, 1, 0, "00000000,;true;"},
		{[]float32{1e-23}, 1, 1, ";false;"},
		{[]float32{1, 1}, 1, high, "00000000,;true;"},
		{[]float32{0.1, -0.7, 0.3}, 3, 0.01, "3e679cb8,3e04a251,3d4aa55a,;true;"},
		{[]float32{1}, 24, 0, "3f800000,00000000,00000000,00000000,00000000,00000000,00000000,00000000,00000000,00000000,00000000,00000000,00000000,00000000,00000000,00000000,00000000,00000000,00000000,00000000,00000000,00000000,00000000,00000000,;true;"},
		{[]float32{1}, 25, 0, ";false;"},
		{[]float32{1}, 0, 0, ";false;"},
	} {
		isShown(t, show(c.wavelet, c.count, c.white), show(impl.SpikeFilter(c.wavelet, c.count, c.white)), c.want)
	}
	var all strings.Builder
	for _, wavelet := range append(someTraces(), shortTraces()...) {
		for _, count := range []int64{1, 2, 9, 24} {
			for _, white := range []float32{0, 0.001, 1} {
				spike, ok := impl.SpikeFilter(wavelet, count, white)
				all.WriteString(show(spike, ok))
				isShown(t, "wanted 1", show(impl.ShapeFilter(wavelet, []float32{1}, count, white)), show(spike, ok))
			}
		}
	}
	isShown(t, "some", digest(all.String()), "d570e1d2")
}

func TestWaveletsThatAreNotShaped(t *testing.T) {
	good := []float32{1, 0.5}
	for _, list := range append(noTraces(), make([]float32, 5), filled(5, minusZero()), []float32{notNumber()}, []float32{1e-30}) {
		isShown(t, show(list), show(impl.ShapeFilter(list, good, 2, 0)), noList)
		isShown(t, show(list), show(impl.SpikeFilter(list, 2, 0)), noList)
	}
	for _, list := range noTraces() {
		isShown(t, show(list), show(impl.ShapeFilter(good, list, 2, 0)), noList)
		isShown(t, show(list), show(impl.ShapeFilter(list, list, 2, 0)), noList)
	}
	for _, count := range beyond(1, 24) {
		isShown(t, show(count), show(impl.ShapeFilter(good, good, count, 0)), noList)
		isShown(t, show(count), show(impl.SpikeFilter(good, count, 0)), noList)
	}
	for _, white := range beyondWhite() {
		isShown(t, show(white), show(impl.ShapeFilter(good, good, 2, white)), noList)
		isShown(t, show(white), show(impl.SpikeFilter(good, 2, white)), noList)
	}
	for count := int64(1); count <= 24; count++ {
		shape, one := impl.ShapeFilter(good, good, count, 0.1)
		spike, two := impl.SpikeFilter(good, count, minusZero())
		isShown(t, show(count), show(len(shape), one, len(spike), two), show(count, true, count, true))
	}
}

func TestInverseOf(t *testing.T) {
	minus, inf, nan, high := minusZero(), infinite(), notNumber(), float32(math.MaxFloat32)
	for _, c := range []struct {
		f     []float32
		count int64
		want  string
	}{
		{[]float32{1, 0.5}, 3, "3f800000,bf000000,3e800000,;true;"},
		{[]float32{1, 0.5}, 1, "3f800000,;true;"},
		{[]float32{2}, 3, "3f000000,80000000,80000000,;true;"},
		{[]float32{-2}, 3, "bf000000,00000000,00000000,;true;"},
		{[]float32{1}, 1, "3f800000,;true;"},
		{[]float32{3}, 2, "3eaaaaab,80000000,;true;"},
		{[]float32{-3, 0}, 4, "beaaaaab,00000000,00000000,00000000,;true;"},
		{[]float32{1, minus}, 3, "3f800000,80000000,80000000,;true;"},
		{[]float32{1, 0, minus}, 4, "3f800000,80000000,80000000,80000000,;true;"},
		{[]float32{-1, 0}, 3, "bf800000,00000000,00000000,;true;"},
		{[]float32{4, 2, 1}, 5, "3e800000,be000000,80000000,3d000000,bc800000,;true;"},
		{[]float32{0.1, -0.7, 0.3}, 5, "41200000,428c0000,43e60000,453c2000,4699d400,;true;"},
		{[]float32{3, 1, 1, 1}, 6, "3eaaaaab,bde38e39,bd97b427,bd4a4588,3da021b7,3c77388b,;true;"},
		{[]float32{7, 0.1, 0.7}, 4, "3e124925,bb05bf38,bc699459,39d5c6d9,;true;"},
		{[]float32{1, 2}, 6, "3f800000,c0000000,40800000,c1000000,41800000,c2000000,;true;"},
		{[]float32{1, -1}, 4, "3f800000,3f800000,3f800000,3f800000,;true;"},
		{[]float32{1, 0, 0, 0.5}, 8, "3f800000,80000000,80000000,bf000000,80000000,80000000,3e800000,80000000,;true;"},
		{[]float32{0, 1}, 3, ";false;"},
		{[]float32{minus, 1}, 3, ";false;"},
		{[]float32{0}, 1, ";false;"},
		{[]float32{minus}, 1, ";false;"},
		{[]float32{num(1)}, 2, "7f800000,80000000,;true;"},
		{[]float32{num(1), 1}, 3, "7f800000,ff800000,7f800000,;true;"},
		{[]float32{-num(1), num(1)}, 3, "ff800000,ff800000,ff800000,;true;"},
		{[]float32{num(4194304), 1}, 4, "7f000000,ff800000,7f800000,ff800000,;true;"},
		{[]float32{num(8388607)}, 2, "7e800001,80000000,;true;"},
		{[]float32{inf}, 2, "00000000,80000000,;true;"},
		{[]float32{inf, 1}, 3, "00000000,80000000,80000000,;true;"},
		{[]float32{-inf}, 2, "80000000,00000000,;true;"},
		{[]float32{-inf, 1}, 3, "80000000,00000000,00000000,;true;"},
		{[]float32{inf, inf}, 3, "00000000,7fc00000,7fc00000,;true;"},
		{[]float32{nan}, 2, "7fc00000,7fc00000,;true;"},
		{[]float32{nan, 1}, 3, "7fc00000,7fc00000,7fc00000,;true;"},
		{[]float32{1, inf}, 4, "3f800000,ff800000,7f800000,ff800000,;true;"},
		{[]float32{1, nan}, 3, "3f800000,7fc00000,7fc00000,;true;"},
		{[]float32{2, 0, nan}, 3, "3f000000,80000000,7fc00000,;true;"},
		{[]float32{2, 0, inf}, 4, "3f000000,80000000,ff800000,7fc00000,;true;"},
		{[]float32{high, 1}, 3, "00200000,80000000,80000000,;true;"},
		{[]float32{num(7136238), 1}, 3, "7e96769a,ff800000,7f800000,;true;"},
		{[]float32{1e+30, 1e+30}, 3, "0da24260,8da24260,0da24260,;true;"},
		{[]float32{1.0000001, 1.0000001, -1.0000001}, 4, "3f7ffffe,bf7ffffe,3ffffffe,c03fffff,;true;"},
		{[]float32{1, 16777216.0, 1}, 4, "3f800000,cb800000,57800000,e3800000,;true;"},
	} {
		isShown(t, show(c.f, c.count), show(impl.InverseOf(c.f, c.count)), c.want)
	}
	var all strings.Builder
	for _, f := range append(append(someTraces(), shortTraces()...), oddLists()...) {
		for _, count := range []int64{1, 2, 5} {
			all.WriteString(show(impl.InverseOf(f, count)))
		}
	}
	for _, f := range someTraces() {
		all.WriteString(show(impl.InverseOf(f, 128)))
	}
	isShown(t, "some", digest(all.String()), "0664470a")
}

func TestFiltersWithoutInverses(t *testing.T) {
	for _, f := range append(noTraces(), []float32{0}, []float32{minusZero()}, []float32{0, 1}, []float32{minusZero(), 1}) {
		isShown(t, show(f), show(impl.InverseOf(f, 1)), noList)
		isShown(t, show(f), show(impl.InverseOf(f, 128)), noList)
	}
	for _, count := range beyond(1, 128) {
		isShown(t, show(count), show(impl.InverseOf([]float32{1, 0.5}, count)), noList)
	}
	for count := int64(1); count <= 128; count++ {
		inverse, ok := impl.InverseOf([]float32{1, -1}, count)
		isShown(t, show(count), show(inverse, ok), show(ones[float32](int(count)), true))
	}
}
