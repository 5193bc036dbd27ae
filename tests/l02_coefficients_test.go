package tests

import (
	"math"
	"testing"

	"loop.example/g01231/impl"
)

func TestReflectStraight(t *testing.T) {
	isShown(t, "example", show(impl.ReflectStraight(oneLayer(), 0)), "3f000000;true;")
	for n, want := range []string{"3efb425d;true;", "bd93bf33;true;", "3ec9d4f7;true;", "3e453cb4;true;"} {
		isShown(t, "four layers", show(impl.ReflectStraight(fourLayers(), int64(n))), want)
	}
	for n, want := range []string{"3ed02d04;true;", "bd04210a;true;", "3e9ee584;true;", "bd285423;true;", "bdb464d1;true;", "3e978d4f;true;", "bd953120;true;", "bdf5c28f;true;", "3e99461c;true;", "bdc02bec;true;", "be1542d2;true;", "3edebaa9;true;"} {
		isShown(t, "twelve layers", show(impl.ReflectStraight(twelveLayers(), int64(n))), want)
	}
	for _, c := range []struct {
		above, below float32
		want         string
	}{
		{1, 1, "00000000;true;"}, {3, 1, "bf000000;true;"}, {1e-30, 1e30, "3f800000;true;"}, {1e30, 1e-30, "bf800000;true;"},
		{2e38, 3e38, "00000000;true;"}, {3e38, 2e38, "80000000;true;"},
	} {
		isShown(t, "ReflectStraight", show(impl.ReflectStraight(hardGround(c.above, c.below), 0)), c.want)
	}
}

func TestStraightEchoes(t *testing.T) {
	isShown(t, "example", show(impl.StraightEchoes(oneLayer())), "3f000000,;true;")
	isShown(t, "four layers", show(impl.StraightEchoes(fourLayers())), "3ef6425a,bd4edf6d,3e33ec7e,3d94813e,;true;")
	isShown(t, "twelve layers", show(impl.StraightEchoes(twelveLayers())), "3ed02d04,bcbec5b1,3e2980a1,bca24506,bd16270b,3db925a6,bca64b69,bcebaacc,3d5647ee,bc749588,bca2dbca,3d2feb1d,;true;")
	isShown(t, "nothing back", show(impl.StraightEchoes(plainLayers(12))), show(make([]float32, 12), true))

	g := fourLayers()
	for i := range g.Layers {
		g.Layers[i].Loss = 0
	}
	isShown(t, "no loss", show(impl.StraightEchoes(g)), "3efb425d,bd6054bf,3e986d90,3dfb9ef3,;true;")
	g.Layers[0].Loss = just(1, -1)
	isShown(t, "nearly all lost", show(impl.StraightEchoes(g)), "26fb425d,a56054bf,26986d90,25fb9ef3,;true;")
}

// Where both hardnesses are too small, their sum is zero, and where one is too
// great, it is none.
func TestCoefficientsThatAreNotFinite(t *testing.T) {
	great := groundOf(1e30, 1e30, impl.Layer{Thick: 1, Speed: 1, Density: 1}, impl.Layer{Thick: 1, Speed: 1, Density: 1})
	small := groundOf(1e-30, 1e-30, impl.Layer{Thick: 1, Speed: 1, Density: 1}, impl.Layer{Thick: 1, Speed: 1e-30, Density: 1e-30})
	for _, g := range []impl.Ground{great, small} {
		isShown(t, "straight", show(impl.ReflectStraight(g, 1))+show(impl.StraightEchoes(g)), noNumber+noList)
		isShown(t, "angles", show(impl.ReflectAngle(g, 1, 0))+show(impl.PassAngle(g, 1, 0)), noComplex+noComplex)
	}
	below := groundOf(1, 1, impl.Layer{Thick: 1, Speed: 1e30, Density: 1e30})
	isShown(t, "below great", show(impl.ReflectStraight(below, 0))+show(impl.StraightEchoes(below)), noNumber+noList)
	isShown(t, "below great", show(impl.ReflectAngle(below, 0, 0))+show(impl.PassAngle(below, 0, 0)), noComplex+noComplex)
	isShown(t, "above great", show(impl.ReflectStraight(great, 0))+show(impl.ReflectAngle(great, 0, 0)), "00000000;true;0000000000000000;true;")
	isShown(t, "above small", show(impl.ReflectStraight(small, 0))+show(impl.ReflectAngle(small, 0, 0)), "bf800000;true;bf80000000000000;true;")
	isShown(t, "sum", show(impl.ReflectAngle(hardGround(2e38, 3e38), 0, 0)), noComplex)

	fast := groundOf(1e30, 1e-20, impl.Layer{Thick: 1, Speed: 1, Density: 1})
	isShown(t, "square of the sine", show(impl.ReflectAngle(fast, 0, 0.5))+show(impl.PassAngle(fast, 0, 0.5)), noComplex+noComplex)
	fast.Speed = math.MaxFloat32
	isShown(t, "sine", show(impl.ReflectAngle(fast, 0, 0.99))+show(impl.PassAngle(fast, 0, 0.99)), noComplex+noComplex)
}

func TestAngles(t *testing.T) {
	for _, c := range []struct {
		g             impl.Ground
		n             int64
		p             float32
		back, through string
	}{
		{oneLayer(), 0, 0, "3f00000000000000;true;", "3fc0000000000000;true;"},
		{oneLayer(), 0, 0.1, "3f04007300000000;true;", "3fc2003a00000000;true;"},
		{oneLayer(), 0, 0.25, "3f21095f00000000;true;", "3fd084b000000000;true;"},
		{oneLayer(), 0, 0.3333, "3f7d73dc00000000;true;", "3ffeb9ee00000000;true;"},
		{oneLayer(), 0, 0.35, "3f7970a4be6653ec;true;", "3ffcb852be6653ec;true;"},
		{oneLayer(), 0, 0.6, "3ee147adbf65e32f;true;", "3fb851ebbf65e32f;true;"},
		{oneLayer(), 0, 0.999, "bf7ed93ebdc20577;true;", "3b936100bdc20577;true;"},
		{oneLayer(), 0, 1.5, noComplex, noComplex},
		{fourLayers(), 0, 0.2, "3f0479bb00000000;true;", "3fc23cde00000000;true;"},
		{fourLayers(), 0, 0.5, "3f5771a8bf0a4654;true;", "3febb8d4bf0a4654;true;"},
		{fourLayers(), 0, 0.66, "bf44cd7cbf23b8af;true;", "3e6cca10bf23b8af;true;"},
		{fourLayers(), 1, 0.19, "bdb8836400000000;true;", "3f68ef9400000000;true;"},
		{fourLayers(), 1, 0.43, "bf22fcd400000000;true;", "3eba065800000000;true;"},
		{fourLayers(), 2, 0.13, "3edf09a300000000;true;", "3fb7c26900000000;true;"},
		{fourLayers(), 2, 0.31, "3f5530e0bf0db94a;true;", "3fea9870bf0db94a;true;"},
		{fourLayers(), 2, 0.52, "bf691feebed38e0c;true;", "3db70090bed38e0c;true;"},
		{fourLayers(), 3, 0.07, "3e52efcd00000000;true;", "3f9a5dfa00000000;true;"},
		{fourLayers(), 3, 0.19, "3ef7f20a00000000;true;", "3fbdfc8200000000;true;"},
		{fourLayers(), 3, 0.24, "3dbe2b2ebf7ee4db;true;", "3f8be2b3bf7ee4db;true;"},
		{fourLayers(), 3, 0.5, noComplex, noComplex},
		{twelveLayers(), 0, 0.83, "3e805df7bf77d2cf;true;", "3fa0177ebf77d2cf;true;"},
		{twelveLayers(), 2, 0.41, "3eff545400000000;true;", "3fbfd51500000000;true;"},
		{twelveLayers(), 3, 0.43, "bf05e008bf5a347f;true;", "3ef43ff0bf5a347f;true;"},
		{twelveLayers(), 5, 0.29, "3f1194a500000000;true;", "3fc8ca5200000000;true;"},
		{twelveLayers(), 8, 0.23, "3f51283ebf139ca4;true;", "3fe8941fbf139ca4;true;"},
		{twelveLayers(), 8, 0.2421, "be5e0c26bf79e8aa;true;", "3f487cf6bf79e8aa;true;"},
		{twelveLayers(), 11, 0.03, "3edfb9e300000000;true;", "3fb7ee7900000000;true;"},
		{twelveLayers(), 11, 0.16, "3f3bf87e00000000;true;", "3fddfc3f00000000;true;"},
		{twelveLayers(), 11, 0.17, "3f66adb6bede058c;true;", "3ff356dbbede058c;true;"},
	} {
		isShown(t, "ReflectAngle", show(impl.ReflectAngle(c.g, c.n, c.p)), c.back)
		isShown(t, "PassAngle", show(impl.PassAngle(c.g, c.n, c.p)), c.through)
	}
}

// Behind the boundary of the example, the sine is three times that above it.
func TestAnglesAtTheSteepest(t *testing.T) {
	third := num(0x3eaaaaab)
	isShown(t, "sine 1", show(impl.ReflectAngle(oneLayer(), 0, third)), "3f80000000000000;true;")
	isShown(t, "sine 1", show(impl.PassAngle(oneLayer(), 0, third)), "4000000000000000;true;")
	isShown(t, "below", show(impl.ReflectAngle(oneLayer(), 0, just(third, -1))), "3f7ff00100000000;true;")
	isShown(t, "above", show(impl.ReflectAngle(oneLayer(), 0, just(third, 1))), "3f7fffffb9b504f4;true;")
	isShown(t, "last", show(impl.ReflectAngle(oneLayer(), 0, just(1, -1))), "bf7ffffcba3fffff;true;")
	isShown(t, "none", show(impl.ReflectAngle(oneLayer(), 0, 1)), noComplex)
}

// An imaginary part that is -0 becomes +0 when 0 is added to it.
func TestPassAngleOfZeros(t *testing.T) {
	g := groundOf(2, 1e-30, impl.Layer{Thick: 1, Speed: 1, Density: 1e30})
	isShown(t, "back", show(impl.ReflectAngle(g, 0, 0.75)), "bf80000080000000;true;")
	isShown(t, "through", show(impl.PassAngle(g, 0, 0.75)), "0000000000000000;true;")
}

func TestGradients(t *testing.T) {
	for _, c := range []struct {
		top, slope, way float32
		depth, slowness string
	}{
		{4, 1, 6, "3f800000;true;", "3e4ccccd;true;"},
		{1, 1, 0, "00000000;true;", "3f800000;true;"},
		{1.5, 0.3, 7, "3f8d3834;true;", "3f0bd0ca;true;"},
		{2.3, 0.17, 31.7, "40e9e8d8;true;", "3e90865a;true;"},
		{0.7, 1.9, 2.2, "3f4aa8b4;true;", "3ee84b18;true;"},
		{5.1, 0.61, 0.05, "381c0000;true;", "3e48c88e;true;"},
		{3.3, 2.7, 100, "42432bbe;true;", "3bf2a748;true;"},
		{1.7, 0.013, 900, "43a8ec56;true;", "3e2816d7;true;"},
		{1.1, 0.9, 1.3, "3e25fb90;true;", "3f4d7a0a;true;"},
		{2.9, 0.37, 14.9, "403e7314;true;", "3e7fef05;true;"},
	} {
		isShown(t, "GradientDepth", show(impl.GradientDepth(c.top, c.slope, c.way)), c.depth)
		isShown(t, "GradientSlowness", show(impl.GradientSlowness(c.top, c.slope, c.way)), c.slowness)
	}
}

func TestGradientsThatAreNotFinite(t *testing.T) {
	for _, c := range []struct {
		top, slope, way float32
		depth, slowness string
	}{
		{1, 1, math.MaxFloat32, noNumber, "00000000;true;"},
		{1e30, 1e-30, 1, noNumber, "00000000;true;"},
		{1e20, 1, 1, noNumber, "00000000;true;"},
		{1e-20, 1e-20, 1e-30, "00000000;true;", "60ad78ec;true;"},
		{1e-30, 1, 0, "8da24260;true;", noNumber},
		{num(1), 1e10, 0, "00000000;true;", noNumber},
	} {
		isShown(t, "GradientDepth", show(impl.GradientDepth(c.top, c.slope, c.way)), c.depth)
		isShown(t, "GradientSlowness", show(impl.GradientSlowness(c.top, c.slope, c.way)), c.slowness)
	}
}

func TestNoGradients(t *testing.T) {
	inf := float32(math.Inf(1))
	for _, bad := range []float32{-num(1), -1, inf, -inf, num(nanBits), num(0xff800001)} {
		isShown(t, "way", show(impl.GradientDepth(4, 1, bad))+show(impl.GradientSlowness(4, 1, bad)), noNumber+noNumber)
	}
	for _, bad := range []float32{0, num(0x80000000), -num(1), -1, inf, -inf, num(nanBits)} {
		isShown(t, "top", show(impl.GradientDepth(bad, 1, 6))+show(impl.GradientSlowness(bad, 1, 6)), noNumber+noNumber)
		isShown(t, "slope", show(impl.GradientDepth(4, bad, 6))+show(impl.GradientSlowness(4, bad, 6)), noNumber+noNumber)
	}
}
