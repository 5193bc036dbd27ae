package tests

import (
	"math"
	"strings"
	"testing"

	"loop.example/g01231/impl"
)

// wildGrounds are valid and invalid ones, of all sizes of numbers.
func wildGrounds() []impl.Ground {
	list := append(invalidGrounds()[:40], someGrounds()[:12]...)
	list = append(list, plainLayers(1), plainLayers(12), hardGround(2e38, 3e38))
	for _, x := range []float32{num(1), 1e-30, 0x1p-128, 1e20, math.MaxFloat32} {
		for i := range fieldsOf(&impl.Ground{Layers: plainLayers(2).Layers}) {
			g := plainLayers(2)
			*fieldsOf(&g)[i] = x
			list = append(list, g)
		}
	}
	return list
}

func wildBoundaries() []int64 {
	return []int64{0, 1, 2, 11, 12, -1, math.MaxInt64, math.MinInt64}
}

func groundsTranscript() string {
	var b strings.Builder
	say := func(results ...any) { b.WriteString(show(results...)) }
	for _, g := range wildGrounds() {
		say(impl.ValidGround(g))
		say(impl.DepthsOf(g))
		say(impl.TimesDown(g))
		say(impl.MeanSpeeds(g))
		say(impl.RootSpeeds(g))
		say(impl.StraightEchoes(g))
		for _, x := range someNumbers() {
			say(impl.LayerAt(g, x))
			say(impl.SpeedAt(g, x))
			say(impl.FirstTime(g, x))
			say(impl.TurnGround(g, x))
		}
		for _, h := range wildGrounds() {
			say(impl.SameGround(g, h))
		}
	}
	return b.String()
}

func raysTranscript() string {
	var b strings.Builder
	say := func(results ...any) { b.WriteString(show(results...)) }
	for _, g := range wildGrounds() {
		for _, n := range wildBoundaries() {
			say(impl.HardnessAt(g, n))
			say(impl.SteepestOf(g, n))
			say(impl.ReflectStraight(g, n))
			for _, x := range someNumbers() {
				say(impl.CosineIn(g, n, x))
				say(impl.RayTo(g, n, x))
				say(impl.EchoRay(g, n, x))
				say(impl.ShootRay(g, n, x))
				say(impl.HeadTime(g, n, x))
				say(impl.ReflectAngle(g, n, x))
				say(impl.PassAngle(g, n, x))
			}
		}
	}
	return b.String()
}

func curvesTranscript() string {
	var b strings.Builder
	say := func(results ...any) { b.WriteString(show(results...)) }
	for _, x := range someNumbers() {
		for _, y := range someNumbers() {
			for _, z := range someNumbers() {
				say(impl.CurveTime(x, y, z))
				say(impl.GradientDepth(x, y, z))
				say(impl.GradientSlowness(x, y, z))
			}
			say(impl.SpeedsOfRoots([]float32{x, y}, []float32{1, 2}))
			say(impl.SpeedsOfRoots([]float32{1, 2}, []float32{x, y}))
		}
	}
	for _, x := range wildNumberLists() {
		for _, y := range wildNumberLists() {
			say(impl.SpeedsOfRoots(x, y))
		}
	}
	return b.String()
}

// A panic or a loop without an end fails this test, too.
func TestEqualGroundsHaveEqualResults(t *testing.T) {
	areRepeated(t, groundsTranscript, raysTranscript, curvesTranscript)
}

// callAll calls all functions with a ground.
func callAll(g, h impl.Ground, n int64, x float32) {
	impl.ValidGround(g)
	impl.SameGround(g, h)
	impl.DepthsOf(g)
	impl.LayerAt(g, x)
	impl.SpeedAt(g, x)
	impl.HardnessAt(g, n)
	impl.TimesDown(g)
	impl.MeanSpeeds(g)
	impl.RootSpeeds(g)
	impl.CosineIn(g, n, x)
	impl.SteepestOf(g, n)
	impl.RayTo(g, n, x)
	impl.EchoRay(g, n, x)
	impl.ShootRay(g, n, x)
	impl.HeadTime(g, n, x)
	impl.FirstTime(g, x)
	impl.ReflectStraight(g, n)
	impl.StraightEchoes(g)
	impl.ReflectAngle(g, n, x)
	impl.PassAngle(g, n, x)
	impl.TurnGround(g, x)
}

func TestGroundsAreNotModified(t *testing.T) {
	mark := impl.Layer{Thick: 42, Speed: 42, Density: 42, Loss: 0.5}
	for _, g := range wildGrounds() {
		h := g
		g.Layers, h.Layers = roomy(g.Layers, mark), roomy(g.Layers, mark)
		before := whole(g.Layers) + whole(h.Layers)
		for _, n := range wildBoundaries() {
			for _, x := range []float32{0, 0.1, 1, 5, 1000} {
				callAll(g, h, n, x)
			}
		}
		if whole(g.Layers)+whole(h.Layers) != before {
			t.Errorf("a ground was modified: %s", showGround(g))
		}
	}
}

func TestRootsAreNotModified(t *testing.T) {
	for _, list := range [][]float32{{1, 2}, {1.1, 1.7, 2.3}, {2, 1}, ones[float32](12), ones[float32](13)} {
		roots, times := roomy(list, 42), roomy(list, 43)
		before := whole(roots) + whole(times)
		impl.SpeedsOfRoots(roots, times)
		if whole(roots)+whole(times) != before {
			t.Errorf("lists of %d numbers were modified", len(list))
		}
	}
}

func TestResultsOfGroundsShareNoMemory(t *testing.T) {
	g := twelveLayers()
	roots, _ := impl.RootSpeeds(g)
	times, _ := impl.TimesDown(g)
	for what, tell := range map[string]func() []float32{
		"DepthsOf":       func() []float32 { list, _ := impl.DepthsOf(g); return list },
		"TimesDown":      func() []float32 { list, _ := impl.TimesDown(g); return list },
		"MeanSpeeds":     func() []float32 { list, _ := impl.MeanSpeeds(g); return list },
		"RootSpeeds":     func() []float32 { list, _ := impl.RootSpeeds(g); return list },
		"StraightEchoes": func() []float32 { list, _ := impl.StraightEchoes(g); return list },
		"SpeedsOfRoots":  func() []float32 { list, _ := impl.SpeedsOfRoots(roots, times); return list },
	} {
		a, b, before := tell(), tell(), show(g, roots, times)
		want := show(b)
		spoil(a, 42)
		isShown(t, what, show(b), want)
		isShown(t, what, show(tell()), want)
		isShown(t, what, show(g, roots, times), before)
	}
	a, _ := impl.TurnGround(g, 1)
	b, _ := impl.TurnGround(g, 1)
	spoil(a.Layers, impl.Layer{})
	isShown(t, "TurnGround", show(b, g), show(twelveLayers(), twelveLayers()))
}
