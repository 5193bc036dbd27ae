package tests

import (
	"math"
	"testing"

	"loop.example/g01231/impl"
)

func TestHeadTime(t *testing.T) {
	for _, c := range []struct {
		g    impl.Ground
		n    int64
		way  float32
		want string
	}{
		{oneLayer(), 0, 1.5, "4088adf8;true;"},
		{oneLayer(), 0, 8, "40ce034d;true;"},
		{oneLayer(), 0, 1000, "43a88d63;true;"},
		{fourLayers(), 0, 2.7, "3fbd12f4;true;"},
		{fourLayers(), 0, 9.1, "40884fdf;true;"},
		{fourLayers(), 2, 21, "4103bfac;true;"},
		{fourLayers(), 2, 5.3, "407f6d66;true;"},
		{fourLayers(), 3, 6.3, "40869f98;true;"},
		{fourLayers(), 3, 33, "411a7ed1;true;"},
		{fourLayers(), 3, num(0x7149f2ca), "7024db17;true;"},
		{fourLayers(), 1, 50, noNumber},
		{twelveLayers(), 0, 5, "406221bf;true;"},
		{twelveLayers(), 1, 7.7, "4091ee78;true;"},
		{twelveLayers(), 5, 23, "4107f7a1;true;"},
		{twelveLayers(), 10, 120, "41cd3633;true;"},
		{twelveLayers(), 11, 19, "40ba983f;true;"},
		{twelveLayers(), 11, 57, "4140f830;true;"},
		{twelveLayers(), 11, 0.001, noNumber},
	} {
		isShown(t, "HeadTime", show(impl.HeadTime(c.g, c.n, c.way)), c.want)
	}
}

// A ray that comes back only behind the way does not come along the boundary;
// one that comes back just there does.
func TestHeadTimeNear(t *testing.T) {
	for _, c := range []struct {
		g     impl.Ground
		n     int64
		comes uint32
		time  string
	}{
		{oneLayer(), 0, 0x3fb504f4, "4087c3b6;true;"},
		{fourLayers(), 0, 0x3f0424bb, "3f07147a;true;"},
		{fourLayers(), 2, 0x4069acf9, "4062e842;true;"},
		{fourLayers(), 3, 0x4064a031, "40699e92;true;"},
		{twelveLayers(), 0, 0x3e96f1a3, "3eb55061;true;"},
		{twelveLayers(), 6, 0x408779ea, "403a2a14;true;"},
		{twelveLayers(), 10, 0x40e9ae28, "40794ac9;true;"},
		{twelveLayers(), 11, 0x40c00d1e, "406cd015;true;"},
	} {
		isShown(t, "just there", show(impl.HeadTime(c.g, c.n, num(c.comes))), c.time)
		isShown(t, "just before", show(impl.HeadTime(c.g, c.n, num(c.comes-1))), noNumber)
		for _, way := range []float32{0, num(0x80000000), -1, num(c.comes) / 2, float32(math.Inf(1)), float32(math.Inf(-1)), num(nanBits)} {
			isShown(t, "no way", show(impl.HeadTime(c.g, c.n, way)), noNumber)
		}
	}
}

// Where a layer above is as fast as what is behind the boundary, or faster, no
// wave runs along it.
func TestNoHeadTime(t *testing.T) {
	isShown(t, "slower behind", show(impl.HeadTime(fourLayers(), 1, 1000)), noNumber)
	for n := range 12 {
		isShown(t, "equal", show(impl.HeadTime(plainLayers(12), int64(n), 1000)), noNumber)
	}
	for _, c := range []struct {
		speed float32
		is    bool
	}{{1.5, false}, {2, false}, {2.5, true}} {
		g := groundOf(c.speed, 1, impl.Layer{Thick: 1, Speed: 2, Density: 1}, impl.Layer{Thick: 1, Speed: 1, Density: 1})
		_, ok := impl.HeadTime(g, 1, 1000)
		isShown(t, "behind a fast layer", show(ok), show(c.is))
	}
	slow := groundOf(num(1), 1, impl.Layer{Thick: 1, Speed: num(1), Density: 1})
	isShown(t, "slowness not finite", show(impl.HeadTime(slow, 0, 1)), noNumber)
}

func TestHeadTimeThatIsNotFinite(t *testing.T) {
	g := groundOf(0x1p-10, 1, impl.Layer{Thick: 1, Speed: 0x1p-11, Density: 1})
	isShown(t, "finite", show(impl.HeadTime(g, 0, 0x1p117)), "7f000000;true;")
	isShown(t, "not finite", show(impl.HeadTime(g, 0, 0x1p118)), noNumber)

	thick := groundOf(2e-10, 1, impl.Layer{Thick: 1e30, Speed: 1e-10, Density: 1})
	isShown(t, "thick", show(impl.HeadTime(thick, 0, math.MaxFloat32)), noNumber)
	wide := groundOf(just(1, 1), 1, impl.Layer{Thick: 2e38, Speed: 1, Density: 1})
	isShown(t, "wide", show(impl.HeadTime(wide, 0, math.MaxFloat32)), noNumber)
}

func TestFirstTime(t *testing.T) {
	for _, c := range []struct {
		g    impl.Ground
		way  float32
		want string
	}{
		{oneLayer(), 0, "-1;00000000;true;"},
		{oneLayer(), 1, "-1;3f800000;true;"},
		{oneLayer(), 5.6, "-1;40b33333;true;"},
		{oneLayer(), 5.7, "0;40b57ac4;true;"},
		{oneLayer(), 100, "0;42146b15;true;"},
		{fourLayers(), 0, "-1;00000000;true;"},
		{fourLayers(), 0.4, "-1;3e888889;true;"},
		{fourLayers(), 1.9, "0;3f908d63;true;"},
		{fourLayers(), 4.1, "0;40057e58;true;"},
		{fourLayers(), 7.3, "0;405e897a;true;"},
		{fourLayers(), 12.1, "3;40ac803f;true;"},
		{fourLayers(), 100, "3;41baa2ac;true;"},
		{fourLayers(), num(0x7149f2ca), "3;7024db17;true;"},
		{twelveLayers(), 0, "-1;00000000;true;"},
		{twelveLayers(), 1.1, "0;3f65eec6;true;"},
		{twelveLayers(), 2.3, "1;3fd21ac0;true;"},
		{twelveLayers(), 4.7, "2;40342783;true;"},
		{twelveLayers(), 7.9, "7;4078c3d8;true;"},
		{twelveLayers(), 11.3, "11;40923387;true;"},
		{twelveLayers(), 17.7, "11;40b3c66b;true;"},
		{twelveLayers(), 25.1, "11;40da9841;true;"},
		{twelveLayers(), 40.3, "11;41152a8d;true;"},
		{twelveLayers(), 300, "11;424f962f;true;"},
	} {
		isShown(t, "FirstTime", show(impl.FirstTime(c.g, c.way)), c.want)
	}
	for _, bad := range []float32{-num(1), -1, float32(math.Inf(1)), float32(math.Inf(-1)), num(nanBits)} {
		isShown(t, "no way", show(impl.FirstTime(fourLayers(), bad)), noFirst)
	}
}

// At these ways, waves along both boundaries come at the same time, or one of
// them just before the other.
func TestSeveralFirstTimes(t *testing.T) {
	g := groundOf(4, 1, impl.Layer{Thick: 1, Speed: 1, Density: 1}, impl.Layer{Thick: 1, Speed: 2, Density: 1})
	for _, c := range []struct {
		way   uint32
		equal bool
		want  string
	}{
		{0x40890509, false, "0;4077def4;true;"},
		{0x4089050a, true, "0;4077def6;true;"},
		{0x4089050b, true, "0;4077def6;true;"},
		{0x4089050c, false, "1;4077def7;true;"},
		{0x4089050d, true, "0;4077def8;true;"},
		{0x4089050e, false, "1;4077def8;true;"},
		{0x4089050f, false, "1;4077def8;true;"},
		{0x40890510, false, "1;4077def9;true;"},
	} {
		one, _ := impl.HeadTime(g, 0, num(c.way))
		two, _ := impl.HeadTime(g, 1, num(c.way))
		isShown(t, "equal times", show(one == two), show(c.equal))
		isShown(t, "first", show(impl.FirstTime(g, num(c.way))), c.want)
	}
}

// A wave along a boundary that comes together with the one along the surface is
// not the first one.
func TestFirstTimeOnSurface(t *testing.T) {
	g := groundOf(4, 1, impl.Layer{Thick: 1, Speed: 1, Density: 1}, impl.Layer{Thick: 100, Speed: 2, Density: 1})
	way := num(0x405db3d6)
	isShown(t, "together", show(impl.HeadTime(g, 0, way)), show(way, true))
	isShown(t, "together", show(impl.FirstTime(g, way)), show(int64(-1), way, true))
	isShown(t, "before", show(impl.FirstTime(g, just(way, -8))), show(int64(-1), just(way, -8), true))
	isShown(t, "behind", show(impl.FirstTime(g, just(way, 8))), "0;405db3da;true;")
}

func TestFirstTimeThatIsNotFinite(t *testing.T) {
	slow := impl.Layer{Thick: 1, Speed: 1e-10, Density: 1}
	isShown(t, "below", show(impl.FirstTime(groundOf(1e10, 1, slow), 1e30)), "0;60ad78ec;true;")
	isShown(t, "none", show(impl.FirstTime(groundOf(1e-10, 1, slow), 1e30)), noFirst)
	isShown(t, "none in time", show(impl.FirstTime(groundOf(1e-9, 1, slow), 1e30)), noFirst)
}
