package tests

import (
	"math"
	"testing"

	"loop.example/g01231/impl"
)

func TestCosineIn(t *testing.T) {
	for n, want := range []string{"3f778973;true;", "3f6b9eb9;true;", "3f724734;true;", "3f470409;true;", "3f0da34c;true;"} {
		isShown(t, "four layers", show(impl.CosineIn(fourLayers(), int64(n), 0.17)), want)
	}
	for n, want := range []string{"3f7bee29;true;", "3f78b80d;true;", "3f748732;true;", "3f6f4e6b;true;", "3f68fbfa;true;", "3f61782e;true;", "3f58a343;true;", "3f4e51f3;true;", "3f4247ad;true;", "3f342c1e;true;", "3f237676;true;", "3f0f3e56;true;", "3e5eff48;true;"} {
		isShown(t, "twelve layers", show(impl.CosineIn(twelveLayers(), int64(n), 0.16)), want)
	}
	isShown(t, "just below 1", show(impl.CosineIn(plainLayers(1), 0, just(1, -1))), "39b504f3;true;")
	isShown(t, "3/5", show(impl.CosineIn(oneLayer(), 0, 0.6)), "3f4ccccd;true;")
	for _, p := range []float32{0, num(0x80000000), num(1), 1e-10} {
		isShown(t, "straight down", show(impl.CosineIn(fourLayers(), 3, p)), "3f800000;true;")
	}
}

// The quotient of 1 and 41 is rounded down, so that its product with 41 is less
// than 1 again.
func TestSlownessJustOfASpeed(t *testing.T) {
	for _, speed := range []float32{1, 2, 3, 0.3, 4.9, 1e-20, 1e20} {
		g := groundOf(speed, 1, impl.Layer{Thick: 1, Speed: speed, Density: 1})
		p := 1 / speed
		isShown(t, "just", show(impl.CosineIn(g, 0, p))+show(impl.CosineIn(g, 1, p)), noNumber+noNumber)
		isShown(t, "no ray", show(impl.RayTo(g, 0, p))+show(impl.EchoRay(g, 0, p)), noPair+noPair)
		isShown(t, "no angle", show(impl.ReflectAngle(g, 0, p))+show(impl.PassAngle(g, 0, p)), noComplex+noComplex)
		isShown(t, "greater", show(impl.CosineIn(g, 0, just(p, 1)))+show(impl.RayTo(g, 0, just(p, 1))), noNumber+noPair)
		_, less := impl.CosineIn(g, 0, just(p, -2))
		_, _, ray := impl.RayTo(g, 0, just(p, -2))
		isShown(t, "less", show(less, ray), "true;true;")
	}
	g := groundOf(41, 1, impl.Layer{Thick: 1, Speed: 41, Density: 1})
	steepest, _ := impl.SteepestOf(g, 0)
	isShown(t, "41", show(impl.CosineIn(g, 0, steepest))+show(impl.CosineIn(g, 1, just(steepest, 1))), "39b504f3;true;"+noNumber)
	isShown(t, "ray in 41", show(impl.RayTo(g, 0, steepest)), "428d488c;453504f3;true;")
}

func TestNoSlowness(t *testing.T) {
	inf := float32(math.Inf(1))
	for _, g := range []impl.Ground{oneLayer(), fourLayers(), twelveLayers()} {
		for _, p := range []float32{-num(1), -0.1, -1e30, -inf, inf, num(nanBits), num(0xffc00001), math.MaxFloat32} {
			isShown(t, "cosine", show(impl.CosineIn(g, 0, p))+show(impl.CosineIn(g, 1, p)), noNumber+noNumber)
			isShown(t, "rays", show(impl.RayTo(g, 0, p))+show(impl.EchoRay(g, 0, p)), noPair+noPair)
			isShown(t, "angles", show(impl.ReflectAngle(g, 0, p))+show(impl.PassAngle(g, 0, p)), noComplex+noComplex)
		}
	}
}

func TestSteepestOf(t *testing.T) {
	for n, want := range []string{"3f2aaaab;true;", "3ede9bd4;true;", "3ede9bd4;true;", "3e8a60dd;true;"} {
		isShown(t, "four layers", show(impl.SteepestOf(fourLayers(), int64(n))), want)
	}
	for n := range 12 {
		isShown(t, "twelve layers", show(impl.SteepestOf(twelveLayers(), int64(n))), show(1/(float32(n+3)*0.37), true))
	}
	slow := groundOf(1, 1, impl.Layer{Thick: 1, Speed: 0x1p-128, Density: 1}, impl.Layer{Thick: 1, Speed: 0x1.000008p-128, Density: 1})
	isShown(t, "not finite", show(impl.SteepestOf(slow, 0))+show(impl.ShootRay(slow, 0, 0)), noNumber+noPair)
	isShown(t, "just finite", show(impl.SteepestOf(slow, 1)), "7f7ffff8;true;")
	slow.Layers[0].Speed = math.MaxFloat32
	isShown(t, "fast", show(impl.SteepestOf(slow, 1)), "00200000;true;")
}

func TestRays(t *testing.T) {
	for _, c := range []struct {
		g        impl.Ground
		n        int64
		p        float32
		to, echo string
	}{
		{oneLayer(), 0, 0, "40000000;00000000;true;", "40800000;00000000;true;"},
		{oneLayer(), 0, 0.6, "40200000;3fc00000;true;", "40a00000;40400000;true;"},
		{oneLayer(), 0, 0.99, "4162d799;416092e2;true;", "41e2d799;41e092e2;true;"},
		{fourLayers(), 0, 0.3, "3e6554fc;3e1acc91;true;", "3ee554fc;3e9acc91;true;"},
		{fourLayers(), 0, 0.61, "3efdcef9;3f2e2d13;true;", "3f7dcef9;3fae2d13;true;"},
		{fourLayers(), 1, 0.17, "3f099a46;3ec0c331;true;", "3f899a46;3f40c331;true;"},
		{fourLayers(), 1, 0.41, "3f958664;400deb77;true;", "40158664;408deb77;true;"},
		{fourLayers(), 2, 0.23, "3fd77cd3;3fbc2034;true;", "40577cd3;403c2034;true;"},
		{fourLayers(), 2, 0.434, "40e362ae;416ad6d1;true;", "416362ae;41ead6d1;true;"},
		{fourLayers(), 3, 0.11, "3fd627ed;3f56fe68;true;", "405627ed;3fd6fe68;true;"},
		{fourLayers(), 3, 0.26, "400c5196;40541d24;true;", "408c5196;40d41d24;true;"},
		{fourLayers(), 3, 0.2702, "40e36c2b;41ac750d;true;", "41636c2b;422c750d;true;"},
		{twelveLayers(), 0, 0.7, "3e3e8347;3e244fc4;true;", "3ebe8347;3ea44fc4;true;"},
		{twelveLayers(), 3, 0.33, "3f6ffee6;3f874ba5;true;", "3feffee6;40074ba5;true;"},
		{twelveLayers(), 7, 0.25, "3fd257db;402e8574;true;", "405257db;40ae8574;true;"},
		{twelveLayers(), 11, 0, "3fc8a6a9;00000000;true;", "4048a6a9;00000000;true;"},
		{twelveLayers(), 11, 0.05, "3fcae9c0;3f3353bc;true;", "404ae9c0;3fb353bc;true;"},
		{twelveLayers(), 11, 0.1, "3fd2912c;3fbea8cc;true;", "4052912c;403ea8cc;true;"},
		{twelveLayers(), 11, 0.15, "3fe402e0;40241168;true;", "406402e0;40a41168;true;"},
		{twelveLayers(), 11, 0.19, "400cddb3;409e118c;true;", "408cddb3;411e118c;true;"},
		{fourLayers(), 3, 0.5, noPair, noPair},
		{twelveLayers(), 11, 0.2, noPair, noPair},
	} {
		isShown(t, "RayTo", show(impl.RayTo(c.g, c.n, c.p)), c.to)
		isShown(t, "EchoRay", show(impl.EchoRay(c.g, c.n, c.p)), c.echo)
	}
}

// A ray comes to a boundary if it comes through all layers above it, however
// slow the one just above it is.
func TestRaysThatDoNotCome(t *testing.T) {
	g := fourLayers()
	for n, fastest := range []float32{1.5, 2.3, 2.3, 3.7} {
		for steps := -4; steps <= 4; steps++ {
			p := just(1/fastest, steps)
			comes := p*fastest < 1
			_, _, to := impl.RayTo(g, int64(n), p)
			_, _, echo := impl.EchoRay(g, int64(n), p)
			isShown(t, "comes", show(to, echo), show(comes, comes))
			if !comes {
				isShown(t, "does not come", show(impl.RayTo(g, int64(n), p))+show(impl.EchoRay(g, int64(n), p)), noPair+noPair)
			}
		}
	}
	isShown(t, "behind a fast layer", show(impl.RayTo(g, 2, 0.5)), noPair)
	isShown(t, "but in the slow one", show(impl.CosineIn(g, 2, 0.5)), "3e9fdf39;true;")
	isShown(t, "and above the fast one", show(impl.RayTo(g, 0, 0.5)), "3e9ad073;3eae2a82;true;")
}

func TestRaysThatAreNotFinite(t *testing.T) {
	deep := groundOf(1, 1, impl.Layer{Thick: 2e38, Speed: 1, Density: 1})
	isShown(t, "finite down", show(impl.RayTo(deep, 0, 0)), "7f167699;00000000;true;")
	isShown(t, "not finite back", show(impl.EchoRay(deep, 0, 0))+show(impl.ShootRay(deep, 0, 5)), noPair+noPair)
	isShown(t, "time and way", show(impl.RayTo(deep, 0, 0.9)), noPair)
	deep.Layers[0].Speed = 0.5
	isShown(t, "time", show(impl.RayTo(deep, 0, 0))+show(impl.RayTo(deep, 0, 0.1)), noPair+noPair)

	fast := groundOf(1, 1, impl.Layer{Thick: 2e38, Speed: 16, Density: 1})
	isShown(t, "finite", show(impl.EchoRay(fast, 0, 0.03125)), "7dadbd72;7f2dbd72;true;")
	isShown(t, "way back", show(impl.RayTo(fast, 0, 0.05))+show(impl.EchoRay(fast, 0, 0.05)), "7d7ac5ab;7f489e22;true;"+noPair)
	isShown(t, "way", show(impl.RayTo(fast, 0, 0.061)), noPair)
	// Rays that are not finite are too far for each way.
	isShown(t, "shot", show(impl.ShootRay(fast, 0, math.MaxFloat32)), "3d25e0bd;7dc58afb;true;")
}

func TestShootRay(t *testing.T) {
	isShown(t, "example", show(impl.ShootRay(oneLayer(), 0, 0)), "00000000;40800000;true;")
	for _, c := range []struct {
		g    impl.Ground
		n    int64
		way  float32
		want string
	}{
		{oneLayer(), 0, 3, "3f19999a;40a00000;true;"},
		{oneLayer(), 0, 4, "3f3504f3;40b504f3;true;"},
		{oneLayer(), 0, 0.001, "39831260;40800001;true;"},
		{oneLayer(), 0, 1000, "3f7fff79;4479464d;true;"},
		{oneLayer(), 0, num(0x7149f2ca), "3f7fffff;463504f3;true;"},
		{fourLayers(), 0, 0.5, "3eda8429;3f054b81;true;"},
		{fourLayers(), 0, 7, "3f2a0b0c;4095e13a;true;"},
		{fourLayers(), 1, 1.7, "3e9cd28d;3fa76c41;true;"},
		{fourLayers(), 1, 60, "3ede8c0d;41d32ba6;true;"},
		{fourLayers(), 2, 3.3, "3e80a4d0;405d0b17;true;"},
		{fourLayers(), 2, num(0x60ad78ec), "3ede9bd3;44dce186;true;"},
		{fourLayers(), 3, 2.9, "3e340107;40616ccc;true;"},
		{fourLayers(), 3, 11, "3e895cd4;40b17c0b;true;"},
		{fourLayers(), 3, num(0x7f61b1e6), "3e8a60dc;43fada92;true;"},
		{twelveLayers(), 0, 1.3, "3f6226e5;3f98e0e8;true;"},
		{twelveLayers(), 4, 6.1, "3eb9927e;405f17d8;true;"},
		{twelveLayers(), 8, 17, "3e7aa508;40c44990;true;"},
		{twelveLayers(), 11, 0.01, "39be8ef6;4048a6b0;true;"},
		{twelveLayers(), 11, 5.5, "3e2021e6;4067ab14;true;"},
		{twelveLayers(), 11, 31, "3e45a2c6;41078998;true;"},
		{twelveLayers(), 11, num(0x501502f9), "3e45aef2;4393527b;true;"},
	} {
		isShown(t, "ShootRay", show(impl.ShootRay(c.g, c.n, c.way)), c.want)
	}
	for _, bad := range []float32{-num(1), -1, float32(math.Inf(1)), float32(math.Inf(-1)), num(nanBits)} {
		isShown(t, "no way", show(impl.ShootRay(fourLayers(), 1, bad)), noPair)
	}
}

func TestShootRayStraightDown(t *testing.T) {
	for _, g := range append(someGrounds(), plainLayers(1), plainLayers(12)) {
		times, _ := impl.TimesDown(g)
		for n, time := range times {
			for _, way := range []float32{0, num(0x80000000)} {
				isShown(t, "straight down", show(impl.ShootRay(g, int64(n), way)), show(float32(0), 2*time, true))
			}
		}
	}
}

// The greatest slowness may be so great that it cannot be doubled: the sum of
// both bounds is not finite then, and neither is its half, which is no ray.
func TestShootRayWithoutSum(t *testing.T) {
	g := groundOf(1, 1, impl.Layer{Thick: 0x1p-126, Speed: 0x1.8p-128, Density: 1})
	isShown(t, "far", show(impl.ShootRay(g, 0, 1)), "7eaaaaab;40c511a5;true;")
	isShown(t, "near", show(impl.ShootRay(g, 0, 0x1p-127)), "7e25922d;40afeb51;true;")
}

func TestCurveTime(t *testing.T) {
	for _, c := range []struct {
		start, way, speed float32
		want              string
	}{
		{4, 3, 1, "40a00000;true;"}, {-4, 3, 1, "40a00000;true;"}, {4, -6, 2, "40a00000;true;"}, {0, 0, 1, "00000000;true;"},
		{num(0x80000000), num(0x80000000), 5, "00000000;true;"}, {1.1, 2.3, 1.7, "3fdf3130;true;"},
		{0.37, 5.9, 3.1, "3ff82c7d;true;"}, {0.1, 0.3, 0.7, "3ee152a1;true;"},
		{1.9, 0.73, 1.3, "3ffd9962;true;"}, {2.7, 9.1, 4.3, "405b8e0c;true;"},
		{1e-30, 1e-30, 1, "00000000;true;"}, {1, math.MaxFloat32, math.MaxFloat32, "3fb504f3;true;"},
		{1e30, 0, 1, noNumber}, {0, 1e30, 1e-30, noNumber}, {1, 1e20, 1, noNumber}, {0, 1, num(1), noNumber},
	} {
		isShown(t, "CurveTime", show(impl.CurveTime(c.start, c.way, c.speed)), c.want)
	}
	for _, bad := range []float32{float32(math.Inf(1)), float32(math.Inf(-1)), num(nanBits), num(0xff800001)} {
		isShown(t, "not finite", show(impl.CurveTime(bad, 1, 1))+show(impl.CurveTime(1, bad, 1))+show(impl.CurveTime(1, 1, bad)),
			noNumber+noNumber+noNumber)
	}
	for _, bad := range []float32{0, num(0x80000000), -1, -num(1)} {
		isShown(t, "no speed", show(impl.CurveTime(1, 1, bad))+show(impl.CurveTime(0, 0, bad)), noNumber+noNumber)
	}
}
