package tests

import (
	"math"
	"testing"

	"loop.example/g01231/impl"
)

func TestTimesDown(t *testing.T) {
	isShown(t, "one layer", show(impl.TimesDown(oneLayer())), "40000000,;true;")
	isShown(t, "four layers", show(impl.TimesDown(fourLayers())), "3e4ccccd,3f011cf0,3fc08e78,3fd01fc4,;true;")
	isShown(t, "twelve layers", show(impl.TimesDown(twelveLayers())), "3defdb19,3e95e8ef,3f00ec2a,3f3ce2f0,3f7d2232,3f84303c,3f8e2eb2,3f9bac9f,3fac0732,3fbec450,3fc239ef,3fc8a6a9,;true;")
}

func TestMeanSpeeds(t *testing.T) {
	isShown(t, "one layer", show(impl.MeanSpeeds(oneLayer())), "3f800000,;true;")
	isShown(t, "four layers", show(impl.MeanSpeeds(fourLayers())), "3fc00000,3ffdcb0a,3ff6c060,4003dc1c,;true;")
	isShown(t, "twelve layers", show(impl.MeanSpeeds(twelveLayers())), "3f8e147b,3faa7efa,3fc6404c,3fe18619,3ffc6d29,4000e6ee,4006d25e,400fa8f2,401ac3f2,402779c4,4029f9cb,402f25f5,;true;")
}

func TestRootSpeeds(t *testing.T) {
	isShown(t, "one layer", show(impl.RootSpeeds(oneLayer())), "3f800000,;true;")
	isShown(t, "four layers", show(impl.RootSpeeds(fourLayers())), "3fc00000,4001583c,3ff88025,4007eec4,;true;")
	isShown(t, "twelve layers", show(impl.RootSpeeds(twelveLayers())), "3f8e147b,3fac1143,3fc9b572,3fe717d8,4002238e,4005330c,400c4ffa,401721fc,4024ae5a,4033f726,403706b6,403d9788,;true;")
}

func TestTimesThatAreNotFinite(t *testing.T) {
	late := plainLayers(2)
	late.Layers[1].Thick, late.Layers[1].Speed = 1e30, 1e-30
	isShown(t, "depths", show(impl.DepthsOf(late)), "3f800000,7149f2ca,;true;")
	isShown(t, "late", show(impl.TimesDown(late))+show(impl.MeanSpeeds(late))+show(impl.RootSpeeds(late)), noList+noList+noList)

	sum := plainLayers(2)
	sum.Layers[0].Thick, sum.Layers[1].Thick = math.MaxFloat32, math.MaxFloat32
	sum.Layers[0].Speed, sum.Layers[1].Speed = 1.5, 1.5
	isShown(t, "sum", show(impl.TimesDown(sum)), noList)
	sum.Layers[0].Speed, sum.Layers[1].Speed = 2, 2
	isShown(t, "greatest sum", show(impl.TimesDown(sum)), "7effffff,7f7fffff,;true;")
}

func TestSpeedsThatAreNotFinite(t *testing.T) {
	fast := groundOf(1, 1, impl.Layer{Thick: 1e-30, Speed: 1e30, Density: 1})
	isShown(t, "no time", show(impl.TimesDown(fast))+show(impl.MeanSpeeds(fast))+show(impl.RootSpeeds(fast)), "00000000,;true;"+noList+noList)

	// Both speeds are multiplied first, whatever the time then makes of it.
	square := groundOf(1, 1, impl.Layer{Thick: 1, Speed: 1e20, Density: 1})
	isShown(t, "great square", show(impl.MeanSpeeds(square))+show(impl.RootSpeeds(square)), "60ad78ec,;true;"+noList)
	square.Layers[0].Speed = 1e-30
	isShown(t, "small square", show(impl.RootSpeeds(square)), "00000000,;true;")
	square.Layers = []impl.Layer{{Thick: 1, Speed: 1, Density: 1}, {Thick: 1e-10, Speed: 1e20, Density: 1}}
	isShown(t, "great square for a short time", show(impl.RootSpeeds(square)), noList)
}

func TestSpeedsOfRoots(t *testing.T) {
	for _, c := range []struct {
		roots, times []float32
		want         string
	}{
		{[]float32{1}, []float32{2}, "3f800000,;true;"},
		{[]float32{-3}, []float32{2}, "40400000,;true;"},
		{[]float32{1, 2}, []float32{1, 2}, "3f800000,402953fd,;true;"},
		{[]float32{1.1, 1.7, 2.3, 2.2}, []float32{0.3, 1.1, 1.6, 3.7}, "3f8ccccd,3ff02638,405012e7,4007b8ae,;true;"},
		{[]float32{0.7, 1.3}, []float32{2.9, 0.3}, "3f333333,3f17c8bd,;true;"},
		{[]float32{0, 0}, []float32{2, 1}, "00000000,80000000,;true;"},
		{[]float32{2}, []float32{-1}, "40000000,;true;"},
		{[]float32{0}, []float32{math.MaxFloat32}, "00000000,;true;"},
		{[]float32{0, 0}, []float32{-math.MaxFloat32, math.MaxFloat32}, "00000000,00000000,;true;"},
	} {
		isShown(t, "SpeedsOfRoots", show(impl.SpeedsOfRoots(c.roots, c.times)), c.want)
	}
	for _, c := range []struct {
		g    impl.Ground
		want string
	}{
		{fourLayers(), "3fc00000,40133334,3ff33333,406cccd2,;true;"},
		{twelveLayers(), "3f8e147b,3fbd70a4,3feccccf,400e147b,4025c290,403d709c,40551ebf,406cccc9,40823d70,408e147a,4099eb7c,40a5c298,;true;"},
	} {
		roots, _ := impl.RootSpeeds(c.g)
		times, _ := impl.TimesDown(c.g)
		isShown(t, "SpeedsOfRoots", show(impl.SpeedsOfRoots(roots, times)), c.want)
	}
}

func TestRootsWithoutSpeeds(t *testing.T) {
	inf, nan := float32(math.Inf(1)), num(nanBits)
	for _, c := range [][2][]float32{
		{nil, nil}, {{}, {}}, {{1}, nil}, {nil, {1}}, {{1, 2}, {1}}, {{1}, {1, 2}}, {ones[float32](13), ones[float32](13)},
		{{1}, {0}}, {{0}, {0}}, {{1, 2}, {3, 3}}, {{2, 1}, {1, 2}}, {{1, 2}, {2, 1}}, {{1, 1}, {1, nan}}, {{nan}, {1}}, {{1}, {nan}}, {{inf}, {1}},
		{{1}, {inf}}, {{0}, {inf}}, {{-inf}, {1}}, {{1}, {-inf}}, {{1e20}, {1}}, {{1e15}, {1e10}}, {{1, 1e18}, {1, 1.0000001}}, {{1, 1, nan}, {1, 2, 3}},
	} {
		isShown(t, show(c[0], c[1]), show(impl.SpeedsOfRoots(c[0], c[1])), noList)
	}
}

func TestNumbersOfRoots(t *testing.T) {
	roots, times, want := ones[float32](13), make([]float32, 13), ones[float32](13)
	for i := range times {
		times[i] = float32(i + 1)
	}
	for count := 1; count <= 12; count++ {
		isShown(t, "ones", show(impl.SpeedsOfRoots(roots[:count], times[:count])), show(want[:count], true))
	}
	isShown(t, "13", show(impl.SpeedsOfRoots(roots, times)), noList)
}
