package tests

import (
	"math"
	"testing"

	"loop.example/g01231/impl"
)

// areNear checks that the numbers of two lists differ by little.
func areNear(t *testing.T, what string, got, want []float32, by float64) {
	t.Helper()
	if len(got) != len(want) {
		t.Fatalf("%s: got %d numbers, want %d", what, len(got), len(want))
	}
	for i := range got {
		if !(math.Abs(float64(got[i])-float64(want[i])) <= by) {
			t.Errorf("%s: got %v at %d, want nearly %v", what, got[i], i, want[i])
		}
	}
}

// softCoefficients are lists of all lengths whose layers let much through.
func softCoefficients() [][]float32 {
	var lists [][]float32
	for k := range 48 {
		lists = append(lists, coefficientsUpTo([]float32{0.05, 0.2}[k/24], k%24+1, uint32(k+100)))
	}
	return lists
}

func TestTracesArePeeledToTheirLayers(t *testing.T) {
	for _, r := range softCoefficients() {
		for _, surface := range append(someSurfaces(), 0.9, -0.95) {
			for _, more := range []int64{0, 1, 50} {
				echoes, _ := impl.EchoesOf(r, surface, int64(len(r))+more)
				peeled, ok := impl.PeelTrace(echoes, surface, int64(len(r)))
				isShown(t, "peeled", show(ok), "true;")
				areNear(t, "peeled", peeled, r, 2e-5)
			}
		}
	}
}

// Behind the last layer, nothing is found.
func TestNothingIsBehindTheLastLayer(t *testing.T) {
	for _, r := range softCoefficients() {
		echoes, _ := impl.EchoesOf(r, 0.7, 24)
		peeled, ok := impl.PeelTrace(echoes, 0.7, 24)
		isShown(t, "peeled", show(ok), "true;")
		areNear(t, "behind", peeled[len(r):], make([]float32, 24-len(r)), 2e-5)
	}
}

// Few hard layers are found as well as many soft ones.
func TestHardLayersAreFound(t *testing.T) {
	for _, most := range []float32{0.7, 0.9} {
		for count := 1; count <= 4; count++ {
			for seed := range uint32(20) {
				r := coefficientsUpTo(most, count, seed)
				for _, surface := range someSurfaces() {
					echoes, _ := impl.EchoesOf(r, surface, int64(count))
					peeled, ok := impl.PeelTrace(echoes, surface, int64(count))
					isShown(t, "peeled", show(ok), "true;")
					areNear(t, "peeled", peeled, r, 1e-4)
				}
			}
		}
	}
}

func TestEchoesBeginWithTheFirstLayer(t *testing.T) {
	for _, r := range someCoefficients() {
		for _, surface := range someSurfaces() {
			echoes, _ := impl.EchoesOf(r, surface, 2)
			isNumber(t, "first", echoes[0], r[0])
			second := -surface * r[0] * r[0]
			if len(r) > 1 {
				second += (1 - r[0]*r[0]) * r[1]
			}
			areNear(t, "second", echoes[1:], []float32{second}, 1e-6)
		}
	}
}

// Where layers reflect little, nearly all of the echoes have come back once.
func TestEchoesAreNearPrimaries(t *testing.T) {
	for k := 1; k <= 24; k++ {
		r := coefficientsUpTo(0.001, k, uint32(k))
		echoes, _ := impl.EchoesOf(r, 0, 128)
		primaries, _ := impl.PrimariesOf(r, 128)
		areNear(t, "echoes", echoes, primaries, 1e-7)
	}
	for _, a := range []float32{0.5, -0.7, 0.1} {
		r := []float32{0, 0, a, 0}
		for _, tell := range []func() ([]float32, bool){
			func() ([]float32, bool) { return impl.EchoesOf(r, 0, 128) },
			func() ([]float32, bool) { return impl.PrimariesOf(r, 128) },
		} {
			got, ok := tell()
			isShown(t, "one layer", show(got, ok), show(withNumber(make([]float32, 128), 2, a), true))
		}
	}
}

// Without a surface, no more energy comes back than goes down.
func TestEchoesHaveNoMoreEnergy(t *testing.T) {
	for _, r := range someCoefficients() {
		echoes, _ := impl.EchoesOf(r, 0, 128)
		energy, _ := impl.EnergyOfTrace(echoes)
		if !(energy > 0 && energy <= 1.00001) {
			t.Errorf("the echoes of %v have the energy %v", r, energy)
		}
	}
}

// A surface that reflects all sends down again what comes up, so that the
// echoes of one layer go on as powers.
func TestSurfacesThatReflectAll(t *testing.T) {
	for _, surface := range []float32{1, -1} {
		for _, r := range []float32{0.5, -0.25} {
			want := make([]float32, 60)
			x := r
			for k := range want {
				want[k] = x
				x *= -surface * r
			}
			single := withNumber(make([]float32, 60), 0, r)
			isShown(t, "EchoesOf", show(impl.EchoesOf([]float32{r}, surface, 60)), show(want, true))
			isShown(t, "AddSurface", show(impl.AddSurface(single, surface)), show(want, true))
			isShown(t, "DropSurface", show(impl.DropSurface(want, surface)), show(single, true))
			peeled, ok := impl.PeelTrace(want, surface, 24)
			isShown(t, "PeelTrace", show(ok), "true;")
			areNear(t, "PeelTrace", peeled, single[:24], 0)
		}
	}
}

func TestEchoesOfTheSurface(t *testing.T) {
	for _, r := range softCoefficients() {
		plain, _ := impl.EchoesOf(r, 0, 128)
		for _, surface := range append(someSurfaces(), 0.9, -0.95) {
			all, _ := impl.EchoesOf(r, surface, 128)
			added, one := impl.AddSurface(plain, surface)
			dropped, two := impl.DropSurface(all, surface)
			isShown(t, "surface", show(one, two), "true;true;")
			areNear(t, "added", added, all, 1e-5)
			areNear(t, "dropped", dropped, plain, 1e-5)
		}
	}
}

func TestSurfacesAreAddedAndDropped(t *testing.T) {
	for _, a := range someTraces()[:13] {
		small, _ := impl.ScaleTrace(a, 0.02)
		for _, surface := range append(someSurfaces(), 0.9, -0.95) {
			added, _ := impl.AddSurface(small, surface)
			dropped, _ := impl.DropSurface(added, surface)
			areNear(t, "there and back", dropped, small, 1e-6)
			dropped, _ = impl.DropSurface(small, surface)
			added, _ = impl.AddSurface(dropped, surface)
			areNear(t, "back and there", added, small, 1e-6)
		}
		for _, surface := range []float32{0, minusZero()} {
			added, _ := impl.AddSurface(small, surface)
			dropped, _ := impl.DropSurface(small, surface)
			isShown(t, "without a surface", show(added, dropped), show(small, small))
		}
	}
}

func TestHardnessLeadsBackToCoefficients(t *testing.T) {
	for _, r := range softCoefficients() {
		hardness, one := impl.HardnessOf(2.7, r)
		back, two := impl.CoefficientsOf(hardness)
		isShown(t, "hardness", show(len(hardness), one, two), show(len(r)+1, true, true))
		isNumber(t, "first", hardness[0], 2.7)
		areNear(t, "back", back, r, 2e-7)
	}
}

// The coefficients of a ground (chapter 2) are those of its hardness.
func TestGroundsAndHardness(t *testing.T) {
	for _, g := range someGrounds() {
		var hardness, want []float32
		for n := range len(g.Layers) + 1 {
			h, _ := impl.HardnessAt(g, int64(n))
			hardness = append(hardness, h)
		}
		for n := range g.Layers {
			r, _ := impl.ReflectStraight(g, int64(n))
			want = append(want, r)
		}
		isShown(t, "coefficients", show(impl.CoefficientsOf(hardness)), show(want, true))
	}
}

// The energy of a trace is the mean power of its spectrum.
func TestSpectraKeepEnergy(t *testing.T) {
	for _, a := range someTraces()[:13] {
		energy, _ := impl.EnergyOfTrace(a)
		spectrum, _ := impl.SpectrumOfTrace(a, 128)
		powers, _ := impl.PowersOf(spectrum)
		isNear(t, "energy", float64(powers)/128, float64(energy), 1e-5)
	}
}

// The spectrum of a convolution is the product of both spectra.
func TestSpectraOfFolds(t *testing.T) {
	a, b := wavy(60, 1), wavy(69, 2)
	fold, _ := impl.FoldTraces(a, b)
	for _, turns := range wavy(30, 3) {
		x, _ := impl.SpectrumAt(a, turns)
		y, _ := impl.SpectrumAt(b, turns)
		z, _ := impl.SpectrumAt(fold, turns)
		if impl.LongOf(z-impl.MulComplex(x, y)) > 1e-3 {
			t.Errorf("at %v turns, got %v, want nearly %v times %v", turns, z, x, y)
		}
	}
}

func TestFoldsWithPulsesAreShifts(t *testing.T) {
	a := wavy(100, 7)
	for by := range int64(29) {
		pulse, _ := impl.PulseTrace(29, by, 1)
		long := append(append([]float32(nil), a...), make([]float32, 28)...)
		isShown(t, "shift", show(impl.FoldTraces(a, pulse)), show(impl.ShiftTrace(long, by)))
	}
}
