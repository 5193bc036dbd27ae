package tests

import (
	"math"
	"testing"

	"loop.example/g01231/impl"
)

// The bits in the tests of chapter 2 were computed by another program, as the
// document tells.

// fieldsOf returns the numbers of a ground that are greater than 0 if it is valid.
func fieldsOf(g *impl.Ground) []*float32 {
	fields := []*float32{&g.Speed, &g.Density}
	for i := range g.Layers {
		l := &g.Layers[i]
		fields = append(fields, &l.Thick, &l.Speed, &l.Density)
	}
	return fields
}

// numbersOf returns all numbers of a layer.
func numbersOf(l *impl.Layer) []*float32 {
	return []*float32{&l.Thick, &l.Speed, &l.Density, &l.Loss}
}

// isDensity reports whether the field i of fieldsOf is a density.
func isDensity(i int) bool {
	return i%3 == 1
}

// invalidGrounds are valid but for one number, or for how many layers there are.
func invalidGrounds() []impl.Ground {
	list := []impl.Ground{{}, groundOf(1, 1), {Layers: []impl.Layer{}, Speed: 1, Density: 1}, plainLayers(13), plainLayers(1000)}
	inf := float32(math.Inf(1))
	for _, bad := range []float32{0, num(0x80000000), -1, -num(1), num(nanBits), num(0xff800001), inf, -inf} {
		for i := range fieldsOf(&impl.Ground{Layers: plainLayers(3).Layers}) {
			g := plainLayers(3)
			*fieldsOf(&g)[i] = bad
			list = append(list, g)
		}
	}
	for _, bad := range []float32{1, just(1, 1), -num(1), -0.5, 2, num(nanBits), inf, -inf} {
		for i := range 3 {
			g := plainLayers(3)
			g.Layers[i].Loss = bad
			list = append(list, g)
		}
	}
	return list
}

func TestValidGround(t *testing.T) {
	list := append(someGrounds(), plainLayers(1), plainLayers(2), plainLayers(11), plainLayers(12))
	for _, good := range []float32{num(1), 0x1p-126, 1e-20, 1e20, math.MaxFloat32} {
		for i := range fieldsOf(&impl.Ground{Layers: plainLayers(3).Layers}) {
			g := plainLayers(3)
			*fieldsOf(&g)[i] = good
			list = append(list, g)
		}
	}
	for _, good := range []float32{0, num(0x80000000), num(1), 0.5, just(1, -1)} {
		g := plainLayers(3)
		g.Layers[1].Loss, g.Layers[2].Loss = good, good
		list = append(list, g)
	}
	for _, g := range list {
		if !impl.ValidGround(g) {
			t.Errorf("ValidGround: %s is not valid", showGround(g))
		}
	}
}

func TestInvalidGrounds(t *testing.T) {
	for _, g := range invalidGrounds() {
		what := showGround(g)
		isShown(t, what, show(impl.ValidGround(g)), "false;")
		isShown(t, what, show(impl.DepthsOf(g))+show(impl.TimesDown(g))+show(impl.MeanSpeeds(g))+show(impl.RootSpeeds(g))+
			show(impl.StraightEchoes(g)), noList+noList+noList+noList+noList)
		isShown(t, what, show(impl.LayerAt(g, 0)), noInteger)
		isShown(t, what, show(impl.SpeedAt(g, 0))+show(impl.HardnessAt(g, 0))+show(impl.CosineIn(g, 0, 0))+show(impl.SteepestOf(g, 0))+
			show(impl.HeadTime(g, 0, 100))+show(impl.ReflectStraight(g, 0)), noNumber+noNumber+noNumber+noNumber+noNumber+noNumber)
		isShown(t, what, show(impl.RayTo(g, 0, 0))+show(impl.EchoRay(g, 0, 0))+show(impl.ShootRay(g, 0, 0)), noPair+noPair+noPair)
		isShown(t, what, show(impl.FirstTime(g, 1)), noFirst)
		isShown(t, what, show(impl.ReflectAngle(g, 0, 0))+show(impl.PassAngle(g, 0, 0)), noComplex+noComplex)
		isShown(t, what, show(impl.TurnGround(g, 1)), noGround)
	}
}

func TestSameGround(t *testing.T) {
	minus, nan := num(0x80000000), num(nanBits)
	for _, a := range append(someGrounds(), invalidGrounds()...) {
		same := groundOf(a.Speed, a.Density, append([]impl.Layer(nil), a.Layers...)...)
		isShown(t, "the same", show(impl.SameGround(a, same), impl.SameGround(same, a)), "true;true;")
		longer := groundOf(a.Speed, a.Density, append(same.Layers, impl.Layer{})...)
		isShown(t, "one more", show(impl.SameGround(a, longer), impl.SameGround(longer, a)), "false;false;")
	}
	for i := range 3 {
		for field := range 4 {
			for _, pair := range [][2]float32{{0, minus}, {1, just(1, 1)}, {nan, 0}, {nan, 1}} {
				a, b := plainLayers(3), plainLayers(3)
				*numbersOf(&a.Layers[i])[field], *numbersOf(&b.Layers[i])[field] = pair[0], pair[1]
				isShown(t, "different layers", show(impl.SameGround(a, b), impl.SameGround(b, a)), "false;false;")
			}
		}
	}
	for _, pair := range [][2]float32{{0, minus}, {1, 2}, {nan, 1}} {
		isShown(t, "Speed below", show(impl.SameGround(groundOf(pair[0], 1), groundOf(pair[1], 1))), "false;")
		isShown(t, "Density below", show(impl.SameGround(groundOf(1, pair[0]), groundOf(1, pair[1]))), "false;")
	}
	isShown(t, "not-a-numbers", show(impl.SameGround(groundOf(nan, num(0xffffffff), impl.Layer{Loss: nan}),
		groundOf(num(0x7f800001), nan, impl.Layer{Loss: num(0xff800001)}))), "true;")
	isShown(t, "nil", show(impl.SameGround(impl.Ground{}, impl.Ground{Layers: []impl.Layer{}})), "true;")
}

func TestDepthsOf(t *testing.T) {
	isShown(t, "one layer", show(impl.DepthsOf(oneLayer())), "40000000,;true;")
	isShown(t, "four layers", show(impl.DepthsOf(fourLayers())), "3e99999a,3f800000,4039999a,40566667,;true;")
	isShown(t, "twelve layers", show(impl.DepthsOf(twelveLayers())), "3e051eb8,3ec7ae14,3f47ae14,3fa66666,3ff99999,40051eb8,4015c28f,402eb852,40500000,4079999a,4080f5c3,408947ae,;true;")
}

func TestLayersAtDepths(t *testing.T) {
	for _, g := range append(someGrounds(), plainLayers(12)) {
		depths, _ := impl.DepthsOf(g)
		for n, depth := range depths {
			above, below := int64(n), int64(n+1)
			isShown(t, "just above", show(impl.LayerAt(g, just(depth, -1))), show(above, true))
			isShown(t, "boundary", show(impl.LayerAt(g, depth)), show(below, true))
			isShown(t, "just below", show(impl.LayerAt(g, just(depth, 1))), show(below, true))
			isShown(t, "speed above", show(impl.SpeedAt(g, just(depth, -1))), show(partSpeed(g, n), true))
			isShown(t, "speed below", show(impl.SpeedAt(g, depth)), show(partSpeed(g, n+1), true))
		}
		count := int64(len(depths))
		for _, deep := range []float32{1e10, math.MaxFloat32, float32(math.Inf(1))} {
			isShown(t, "below all", show(impl.LayerAt(g, deep)), show(count, true))
			isShown(t, "speed below all", show(impl.SpeedAt(g, deep)), show(g.Speed, true))
		}
		for _, top := range []float32{0, num(0x80000000), num(1)} {
			isShown(t, "top", show(impl.LayerAt(g, top))+show(impl.SpeedAt(g, top)), show(int64(0), true)+show(g.Layers[0].Speed, true))
		}
		for _, bad := range []float32{-num(1), -1, float32(math.Inf(-1)), num(nanBits), num(0xff800001)} {
			isShown(t, "no depth", show(impl.LayerAt(g, bad))+show(impl.SpeedAt(g, bad)), noInteger+noNumber)
		}
	}
}

// Layers whose depths are not finite can still be told apart by a depth, since
// no depth is returned.
func TestDepthsThatAreNotFinite(t *testing.T) {
	g := plainLayers(3)
	g.Layers[1].Thick, g.Layers[1].Speed = math.MaxFloat32, 2
	g.Layers[2].Thick, g.Layers[2].Speed = math.MaxFloat32, 2
	isShown(t, "depths", show(impl.DepthsOf(g))+show(impl.MeanSpeeds(g)), noList+noList)
	isShown(t, "times", show(impl.TimesDown(g)), "3f800000,7effffff,7f7fffff,;true;")
	isShown(t, "layer 1", show(impl.LayerAt(g, 1e30)), "1;true;")
	isShown(t, "layer 2", show(impl.LayerAt(g, math.MaxFloat32)), "2;true;")
	isShown(t, "below", show(impl.LayerAt(g, float32(math.Inf(1)))), "3;true;")
}

func TestHardnessAt(t *testing.T) {
	for n, want := range []string{"3fd33334;true;", "409a8f5b;true;", "4085c28f;true;", "4119eb85;true;", "41635c2a;true;"} {
		isShown(t, "four layers", show(impl.HardnessAt(fourLayers(), int64(n))), want)
	}
	for n, want := range []string{"3fd961e5;true;", "4080d1b7;true;", "40718937;true;", "40e5758e;true;", "40d35811;true;", "40b1205c;true;", "4123096b;true;", "410ce561;true;", "40dd6874;true;", "414d4e3c;true;", "412a14e4;true;", "40fd9ce1;true;", "41a10a3d;true;"} {
		isShown(t, "twelve layers", show(impl.HardnessAt(twelveLayers(), int64(n))), want)
	}
	isShown(t, "example", show(impl.HardnessAt(oneLayer(), 1)), "40400000;true;")

	g := groundOf(num(1), 0.25, impl.Layer{Thick: 1, Speed: 1e30, Density: 1e30})
	isShown(t, "too great", show(impl.HardnessAt(g, 0)), noNumber)
	isShown(t, "too small", show(impl.HardnessAt(g, 1)), "00000000;true;")
}

// Boundaries are one less than parts, which the number of layers also tells.
func TestNumbersOfLayers(t *testing.T) {
	for _, g := range append(someGrounds(), plainLayers(1), plainLayers(12)) {
		count := int64(len(g.Layers))
		for n := range count + 1 {
			_, hard := impl.HardnessAt(g, n)
			_, cosine := impl.CosineIn(g, n, 0)
			isShown(t, "parts", show(hard, cosine), "true;true;")
			_, steepest := impl.SteepestOf(g, n)
			_, _, ray := impl.RayTo(g, n, 0)
			_, _, echo := impl.EchoRay(g, n, 0)
			_, _, shot := impl.ShootRay(g, n, 0)
			_, straight := impl.ReflectStraight(g, n)
			_, back := impl.ReflectAngle(g, n, 0)
			_, through := impl.PassAngle(g, n, 0)
			is := n < count
			isShown(t, "boundaries", show(steepest, ray, echo, shot, straight, back, through), show(is, is, is, is, is, is, is))
		}
		for _, n := range []int64{count, count + 1, 13, -1, math.MinInt64, math.MaxInt64, 1 << 32} {
			if n != count {
				isShown(t, "no part", show(impl.HardnessAt(g, n))+show(impl.CosineIn(g, n, 0)), noNumber+noNumber)
			}
			isShown(t, "no boundary", show(impl.SteepestOf(g, n))+show(impl.HeadTime(g, n, 1e6))+show(impl.ReflectStraight(g, n)),
				noNumber+noNumber+noNumber)
			isShown(t, "no boundary", show(impl.RayTo(g, n, 0))+show(impl.EchoRay(g, n, 0))+show(impl.ShootRay(g, n, 0)), noPair+noPair+noPair)
			isShown(t, "no boundary", show(impl.ReflectAngle(g, n, 0))+show(impl.PassAngle(g, n, 0)), noComplex+noComplex)
		}
	}
}

func TestTurnGround(t *testing.T) {
	for _, by := range []float32{2, 0.7, 3.3, 1e-20} {
		for _, g := range someGrounds() {
			want := groundOf(g.Speed*by, g.Density)
			for _, l := range g.Layers {
				want.Layers = append(want.Layers, impl.Layer{Thick: l.Thick * by, Speed: l.Speed * by, Density: l.Density, Loss: l.Loss})
			}
			isShown(t, "TurnGround", show(impl.TurnGround(g, by)), show(want, true))
		}
	}
	isShown(t, "four layers", show(impl.TurnGround(fourLayers(), 0.7)), "3e570a3e,3f866666,3f8ccccd,3c23d70a/3efae147,3fce147a,40066666,3cf5c28f/3faa3d70,3faa3d70,400ccccd,3e4ccccd/3ea147ae,4025c28f,40266666,00000000/over 405b851f,4039999a;true;")
	inf := float32(math.Inf(1))
	for _, bad := range []float32{0, num(0x80000000), -1, -num(1), inf, -inf, num(nanBits)} {
		isShown(t, "no factor", show(impl.TurnGround(fourLayers(), bad)), noGround)
	}
}

func TestTurnGroundThatIsNotValid(t *testing.T) {
	for i := range fieldsOf(&impl.Ground{Layers: plainLayers(3).Layers}) {
		great, small := plainLayers(3), plainLayers(3)
		*fieldsOf(&great)[i], *fieldsOf(&small)[i] = 0x1p127, num(1)
		for _, c := range []struct {
			g  impl.Ground
			by float32
		}{{great, 2}, {small, 0.5}} {
			got, ok := impl.TurnGround(c.g, c.by)
			// Densities stay as they are, whatever the factor.
			if isDensity(i) {
				isShown(t, "a density", show(ok), "true;")
			} else {
				isShown(t, "out of range", show(got, ok), noGround)
			}
		}
		isShown(t, "just valid", show(impl.TurnGround(great, 1)), show(great, true))
	}
}
