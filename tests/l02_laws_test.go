package tests

import (
	"math"
	"math/cmplx"
	"testing"

	"loop.example/g01231/impl"
)

// slownesses returns some with which rays come to a boundary.
func slownesses(g impl.Ground, n int) []float32 {
	steepest, _ := impl.SteepestOf(g, int64(n))
	var list []float32
	for k := range 9 {
		list = append(list, steepest*float32(k)*0.12)
	}
	return list
}

// forRays calls see with rays to all boundaries of some grounds.
func forRays(see func(g impl.Ground, n int, p float32)) {
	for _, g := range someGrounds() {
		for n := range g.Layers {
			for _, p := range slownesses(g, n) {
				see(g, n, p)
			}
		}
	}
}

func TestRaysStraightDown(t *testing.T) {
	for _, g := range someGrounds() {
		times, _ := impl.TimesDown(g)
		for n, time := range times {
			isShown(t, "down", show(impl.RayTo(g, int64(n), 0)), show(time, float32(0), true))
			isShown(t, "and back", show(impl.EchoRay(g, int64(n), 0)), show(2*time, float32(0), true))
		}
	}
}

func TestLawOfSines(t *testing.T) {
	forRays(func(g impl.Ground, n int, p float32) {
		for k := range n + 1 {
			cosine, ok := impl.CosineIn(g, int64(k), p)
			sine := float64(p) * float64(g.Layers[k].Speed)
			if !ok {
				t.Errorf("a ray to the boundary %d does not come through the layer %d", n, k)
			}
			isNear(t, "sine and cosine", float64(cosine)*float64(cosine)+sine*sine, 1, 1e-6)
		}
	})
}

// Time less slowness times way is the same for all that moves with a ray.
func TestLawOfTimes(t *testing.T) {
	forRays(func(g impl.Ground, n int, p float32) {
		time, way, _ := impl.RayTo(g, int64(n), p)
		straight := 0.0
		for k, l := range g.Layers[:n+1] {
			cosine, _ := impl.CosineIn(g, int64(k), p)
			straight += float64(l.Thick) * float64(cosine) / float64(l.Speed)
		}
		isNear(t, "time", float64(time), straight+float64(p)*float64(way), 2e-6)
		both, back, _ := impl.EchoRay(g, int64(n), p)
		isShown(t, "twice", show(both, back), show(2*time, 2*way))
	})
}

// In a single layer, the ways and times of rays lie on a curve.
func TestLawOfCurves(t *testing.T) {
	for _, g := range someGrounds() {
		l := g.Layers[0]
		for _, p := range slownesses(g, 0) {
			time, way, _ := impl.EchoRay(g, 0, p)
			curve, _ := impl.CurveTime(2*l.Thick/l.Speed, way, l.Speed)
			isNear(t, "curve", float64(time), float64(curve), 2e-6)
		}
	}
}

func TestShotRaysHaveTheirWays(t *testing.T) {
	forRays(func(g impl.Ground, n int, p float32) {
		_, way, _ := impl.EchoRay(g, int64(n), p)
		shot, time, ok := impl.ShootRay(g, int64(n), way)
		both, back, _ := impl.EchoRay(g, int64(n), shot)
		isShown(t, "time of the shot ray", show(time, ok), show(both, true))
		if back > way {
			t.Errorf("the ray that is shot for %v has the way %v", way, back)
		}
		steepest, _ := impl.SteepestOf(g, int64(n))
		if math.Abs(float64(shot)-float64(p)) > 4e-7*float64(steepest) {
			t.Errorf("the slowness for %v is %v, not nearly %v", way, shot, p)
		}
	})
}

// For ways that no ray reaches, the ray that is nearest to them is told.
func TestShotRaysForFarWays(t *testing.T) {
	for _, g := range append(someGrounds(), plainLayers(1), plainLayers(12)) {
		for n := range g.Layers {
			steepest, _ := impl.SteepestOf(g, int64(n))
			for _, way := range []float32{1e10, 1e30, math.MaxFloat32} {
				shot, time, ok := impl.ShootRay(g, int64(n), way)
				_, back, _ := impl.EchoRay(g, int64(n), shot)
				if !ok || shot > steepest || shot < just(steepest, -2) || time <= 0 || back >= way {
					t.Errorf("ShootRay for %v: got %v, %v, %v, with the steepest %v", way, shot, time, ok, steepest)
				}
			}
		}
	}
}

// A wave along a boundary begins with the ray that comes there with its slowness.
func TestHeadsBeginWithRays(t *testing.T) {
	count := 0
	for _, g := range someGrounds() {
		for n := range g.Layers {
			speed := partSpeed(g, n+1)
			both, back, ok := impl.EchoRay(g, int64(n), 1/speed)
			if !ok {
				isShown(t, "no ray", show(impl.HeadTime(g, int64(n), 1e6)), noNumber)
				continue
			}
			count++
			head, ok := impl.HeadTime(g, int64(n), back)
			isShown(t, "begins", show(ok), "true;")
			isNear(t, "begins", float64(head), float64(both), 2e-6)
			later, _ := impl.HeadTime(g, int64(n), 3*back+10)
			isNear(t, "goes on", float64(later-head), float64(2*back+10)/float64(speed), 1e-5)
		}
	}
	if count < 100 {
		t.Errorf("only %d waves", count)
	}
}

func TestNothingComesBeforeTheFirst(t *testing.T) {
	seen := map[int64]bool{}
	for _, g := range someGrounds() {
		for k := range 60 {
			way := float32(k*k) * 0.11
			first, least := int64(-1), way/g.Layers[0].Speed
			for n := range g.Layers {
				if time, ok := impl.HeadTime(g, int64(n), way); ok && time < least {
					first, least = int64(n), time
				}
			}
			seen[first] = true
			isShown(t, "FirstTime", show(impl.FirstTime(g, way)), show(first, least, true))
		}
	}
	if len(seen) < 8 {
		t.Errorf("only waves along %v", seen)
	}
}

func TestRootsLeadBackToSpeeds(t *testing.T) {
	for _, g := range someGrounds() {
		roots, _ := impl.RootSpeeds(g)
		times, _ := impl.TimesDown(g)
		means, _ := impl.MeanSpeeds(g)
		speeds, ok := impl.SpeedsOfRoots(roots, times)
		isShown(t, "SpeedsOfRoots", show(ok), "true;")
		for n, speed := range speeds {
			isNear(t, "speed", float64(speed), float64(g.Layers[n].Speed), 1e-3)
			if float64(means[n]) > 1.000001*float64(roots[n]) {
				t.Errorf("the mean speed %v is greater than the root %v", means[n], roots[n])
			}
		}
	}
}

// What goes back and what goes through have the energy of what comes, where what
// goes through is worth its cosine, divided by its hardness.
func TestEnergyIsKept(t *testing.T) {
	forRays(func(g impl.Ground, n int, p float32) {
		back, _ := impl.ReflectAngle(g, int64(n), p)
		through, ok := impl.PassAngle(g, int64(n), p)
		isShown(t, "through", show(through, ok), show(1+back, true))
		power := func(x complex64) float64 { return math.Pow(cmplx.Abs(complex128(x)), 2) }
		behind, goes := impl.CosineIn(g, int64(n)+1, p)
		if !goes {
			isNear(t, "all goes back", power(back), 1, 1e-6)
			return
		}
		cosine, _ := impl.CosineIn(g, int64(n), p)
		above, _ := impl.HardnessAt(g, int64(n))
		below, _ := impl.HardnessAt(g, int64(n)+1)
		worth := float64(behind) * float64(above) / (float64(cosine) * float64(below))
		isNear(t, "energy", power(back)+worth*power(through), 1, 2e-6)
		isShown(t, "no imaginary part", show(imag(back), imag(through)), "00000000;00000000;")
	})
}

func TestStraightCoefficients(t *testing.T) {
	for _, g := range someGrounds() {
		echoes, _ := impl.StraightEchoes(g)
		left := 1.0
		for n, l := range g.Layers {
			r, _ := impl.ReflectStraight(g, int64(n))
			back, _ := impl.ReflectAngle(g, int64(n), 0)
			isNear(t, "straight", float64(real(back)), float64(r), 1e-6)
			left *= math.Pow(1-float64(l.Loss), 2)
			isNear(t, "echo", float64(echoes[n]), left*float64(r), 1e-5)
			left *= 1 - float64(r)*float64(r)
		}
	}
}

// A boundary that is met from below has the opposite coefficient.
func TestCoefficientsFromBelow(t *testing.T) {
	for _, above := range []float32{0.3, 1, 1.7, 5} {
		for _, below := range []float32{0.7, 1, 2.3} {
			down, _ := impl.ReflectStraight(hardGround(above, below), 0)
			up, _ := impl.ReflectStraight(hardGround(below, above), 0)
			isNumber(t, "from below", up, 0-down)
		}
	}
}

// Where a ray in a gradient turns, the speed is 1 divided by its slowness.
func TestGradientRaysTurn(t *testing.T) {
	for _, top := range []float32{0.5, 1.5, 4} {
		for _, slope := range []float32{0.1, 0.7, 2} {
			for _, way := range []float32{0, 0.5, 3, 40} {
				depth, one := impl.GradientDepth(top, slope, way)
				p, two := impl.GradientSlowness(top, slope, way)
				isShown(t, "turns", show(one, two), "true;true;")
				isNear(t, "turns", float64(p)*(float64(top)+float64(slope)*float64(depth)), 1, 1e-6)
			}
		}
	}
}

// A ground whose sizes and speeds are greater by the same factor has the same
// times and coefficients; those by a power of 2 are the same to the last bit.
func TestTurnedGroundsHaveTheSameTimes(t *testing.T) {
	for _, g := range someGrounds() {
		for _, by := range []float32{0.25, 2, 64} {
			turned, _ := impl.TurnGround(g, by)
			isShown(t, "times", show(impl.TimesDown(turned)), show(impl.TimesDown(g)))
			isShown(t, "echoes", show(impl.StraightEchoes(turned)), show(impl.StraightEchoes(g)))
			depths, _ := impl.DepthsOf(g)
			for i := range depths {
				depths[i] *= by
			}
			isShown(t, "depths", show(impl.DepthsOf(turned)), show(depths, true))
			back, _ := impl.TurnGround(turned, 1/by)
			isShown(t, "and back", show(impl.SameGround(g, back), impl.SameGround(g, turned)), "true;false;")
		}
	}
}
