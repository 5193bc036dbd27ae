package tests

import (
	"math"
	"strings"
	"testing"

	"loop.example/g01231/impl"
)

func TestNoiseTrace(t *testing.T) {
	for _, c := range []struct {
		seed, count int64
		size        float32
		want        string
	}{
		{0, 1, 2, "c0000000,;12345;true;"}, {2147483647, 1, 1, "bce38000,;1043980748;true;"}, {1, 8, 0.3, "3c083334,be473ccd,bdeb299a,3ca9a667,3e8980cd,be49b19a,3df8799a,be281800,;486256185;true;"},
		{2147483647, 5, -7.7, "3e5af800,40b417c0,40442b66,c09b69e6,4066bab3,;571035320;true;"}, {12345, 3, 0, "00000000,80000000,00000000,;1449466924;true;"}, {12345, 3, minusZero(), "80000000,00000000,80000000,;1449466924;true;"},
		{7, 2, infinite(), "7f800000,ff800000,;642666333;true;"}, {7, 2, notNumber(), "7fc00000,7fc00000,;642666333;true;"}, {7, 2, math.MaxFloat32, "7e46bfff,fecd8fff,;642666333;true;"},
		{7, 2, 1e-45, "00000000,80000000,;642666333;true;"},
	} {
		isShown(t, show(c.seed, c.count), show(impl.NoiseTrace(c.seed, c.count, c.size)), c.want)
	}
	var all strings.Builder
	for k := range int64(128) {
		all.WriteString(show(impl.NoiseTrace(k*16777259, k+1, 0.1)))
	}
	isShown(t, "some", digest(all.String()), "6685c5c5")
}

// The seed leads on: noise that is made at once or in two parts is the same.
func TestNoiseGoesOn(t *testing.T) {
	whole, end, _ := impl.NoiseTrace(99, 128, 1.5)
	for _, count := range []int64{1, 64, 127} {
		first, seed, _ := impl.NoiseTrace(99, count, 1.5)
		second, last, _ := impl.NoiseTrace(seed, 128-count, 1.5)
		isShown(t, "parts", show(append(first, second...), last), show(whole, end))
	}
	for _, x := range whole {
		if x < -1.5 || x >= 1.5 {
			t.Errorf("noise of the size 1.5 has %v", x)
		}
	}
}

// Where the seed is in the middle, noise of an infinite size is none of a number.
func TestNoiseThatIsZero(t *testing.T) {
	seed := int64(0)
	for _, next, _ := impl.NoiseTrace(seed, 1, 1); next>>16 != 16384; _, next, _ = impl.NoiseTrace(seed, 1, 1) {
		seed = next
	}
	for size, want := range map[float32]string{3: "00000000,", -3: "80000000,", infinite(): "7fc00000,"} {
		zero, _, ok := impl.NoiseTrace(seed, 1, size)
		isShown(t, "zero", show(zero, ok), want+";true;")
	}
}

func TestNoiseThatIsNone(t *testing.T) {
	for _, seed := range []int64{-1, 2147483648, math.MaxInt64, math.MinInt64} {
		isShown(t, "seed", show(impl.NoiseTrace(seed, 1, 1)), noNoise)
	}
	for _, count := range noCounts() {
		isShown(t, "count", show(impl.NoiseTrace(0, count, 1))+show(impl.NoiseTrace(2147483647, count, 1)), noNoise+noNoise)
	}
}

func TestShareOfSignal(t *testing.T) {
	inf, nan, minus := infinite(), notNumber(), minusZero()
	for _, c := range []struct {
		signal, noise []float32
		want          string
	}{
		{[]float32{1}, []float32{1}, "3f000000;true;"}, {[]float32{1, 2}, []float32{3}, "3eb6db6e;true;"},
		{[]float32{3}, []float32{1, 2, 0.1}, "3f247437;true;"}, {[]float32{0}, []float32{1}, "00000000;true;"},
		{[]float32{minus, 0}, []float32{-1}, "00000000;true;"}, {[]float32{-2}, []float32{minus}, "3f800000;true;"},
		{[]float32{1e-20}, []float32{0}, "3f800000;true;"}, {[]float32{1e20}, []float32{1}, "7fc00000;true;"},
		{[]float32{1}, []float32{1e20}, "00000000;true;"}, {[]float32{1}, []float32{-inf}, "00000000;true;"},
		{[]float32{inf}, []float32{1}, "7fc00000;true;"}, {[]float32{inf}, []float32{inf}, "7fc00000;true;"},
		{[]float32{1.5e19}, []float32{1.5e19}, "00000000;true;"}, {[]float32{1 << 12, 1}, []float32{1}, "3f800000;true;"},
		{[]float32{0}, []float32{0}, noNumber}, {[]float32{minus}, []float32{0, 0, 0}, noNumber}, {[]float32{1e-30}, []float32{1e-40}, noNumber},
		{[]float32{nan}, []float32{1}, noNumber}, {[]float32{1}, []float32{nan}, noNumber}, {[]float32{inf}, []float32{nan}, noNumber},
	} {
		isShown(t, show(c.signal, c.noise), show(impl.ShareOfSignal(c.signal, c.noise)), c.want)
	}
	var all strings.Builder
	for _, a := range someTraces() {
		for _, b := range someTraces() {
			all.WriteString(show(impl.ShareOfSignal(a, b)))
		}
	}
	isShown(t, "some", digest(all.String()), "bdaaa08d")
	for _, a := range noTraces() {
		isShown(t, "no trace", show(impl.ShareOfSignal(a, []float32{1}))+show(impl.ShareOfSignal([]float32{1}, a))+show(impl.ShareOfSignal(a, a)),
			noNumber+noNumber+noNumber)
	}
}
