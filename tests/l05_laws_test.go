package tests

import (
	"math"
	"slices"
	"testing"

	"loop.example/g01231/impl"
)

// partNear checks that two lists differ by a small part of the greatest number of
// the second one only.
func partNear(t *testing.T, what string, got, want []float32, part float64) {
	t.Helper()
	areNear(t, what, got, want, part*max(greatestIn(want), 1e-30))
}

func TestSolutionsSolveTheirEquations(t *testing.T) {
	for k, auto := range someAutos() {
		for seed := range uint32(5) {
			right := wavy(len(auto), uint32(k)*7+seed)
			f, one := impl.SolveToeplitz(auto, right)
			again, two := impl.TimesToeplitz(auto, f)
			isShown(t, "solved", show(one, two), "true;true;")
			partNear(t, "right side", again, right, 2e-5)
			f, _ = impl.SolveToeplitz(auto, again)
			back, _ := impl.TimesToeplitz(auto, f)
			partNear(t, "again", back, again, 2e-5)
		}
	}
}

// The columns of equations are told by filters of one number 1.
func TestColumnsOfEquations(t *testing.T) {
	for _, auto := range someAutos() {
		for at := range auto {
			pulse, _ := impl.PulseTrace(int64(len(auto)), int64(at), 1)
			column, ok := impl.TimesToeplitz(auto, pulse)
			want := make([]float32, len(auto))
			for k := range want {
				want[k] = auto[max(k-at, at-k)]
			}
			isShown(t, "column", show(column, ok), show(want, true))
			f, ok := impl.SolveToeplitz(auto, want)
			isShown(t, "solved", show(ok), "true;")
			again, _ := impl.TimesToeplitz(auto, f)
			partNear(t, "solved", again, want, 2e-5)
		}
	}
}

// Where an auto is 1 and zeros behind it, its right side is the filter.
func TestPlainEquations(t *testing.T) {
	for count := 1; count <= 24; count++ {
		pulse, _ := impl.PulseTrace(int64(count), 0, 1)
		right := wavy(count, uint32(count))
		isShown(t, "solved", show(impl.SolveToeplitz(pulse, right)), show(right, true))
		isShown(t, "times", show(impl.TimesToeplitz(pulse, right)), show(right, true))
		list, left, ok := impl.ReflectionsOf(pulse)
		isShown(t, "reflections", show(list, left, ok), show(make([]float32, count-1), float32(1), true))
		isShown(t, "filter", show(impl.FilterOfReflections(list)), show(pulse, true))
	}
}

// The filter of an auto's reflections leaves what is left first, and then nothing.
func TestFiltersOfReflectionsLeaveNothing(t *testing.T) {
	for _, auto := range someAutos() {
		list, left, one := impl.ReflectionsOf(auto)
		filter, two := impl.FilterOfReflections(list)
		right, three := impl.TimesToeplitz(auto, filter)
		isShown(t, "filter", show(one, two, three), "true;true;true;")
		want := make([]float32, len(auto))
		want[0] = left
		areNear(t, "left", right, want, 1e-5*float64(auto[0]))
		pulse, _ := impl.PulseTrace(int64(len(auto)), 0, left)
		solved, _ := impl.SolveToeplitz(auto, pulse)
		partNear(t, "solved", solved, filter, 1e-4)
	}
}

// Each reflection of a trace's auto is from -1 to 1, and leaves no more than there was.
func TestReflectionsLeaveNoMore(t *testing.T) {
	for seed := range uint32(30) {
		for _, a := range [][]float32{wavy(100, seed), wavy(8, seed), hillTrace(0, 1)} {
			auto, _ := impl.AutoOf(a, 24)
			auto, _ = impl.WhiteAuto(auto, 0.01)
			before := auto[0]
			for count := 1; count <= 24; count++ {
				list, left, ok := impl.ReflectionsOf(auto[:count])
				product := float64(auto[0])
				for _, c := range list {
					product *= 1 - float64(c)*float64(c)
				}
				isShown(t, "reflections", show(len(list), ok), show(count-1, true))
				isNear(t, "product", float64(left), product, 1e-3)
				if !(left > 0 && left <= before && greatestIn(list) < 1) {
					t.Errorf("%d numbers: got the reflections %v, and %v left of %v", count, list, left, before)
				}
				before = left
			}
		}
	}
}

// The reflections of powers are the number, and then zeros, nearly.
func TestReflectionsOfPowers(t *testing.T) {
	for _, of := range []float32{0.5, -0.5, 0.25, 0.9, -0.75} {
		for count := 2; count <= 24; count++ {
			list, left, ok := impl.ReflectionsOf(powersBy(count, of))
			want := make([]float32, count-1)
			want[0] = of
			isShown(t, "reflections", show(ok), "true;")
			areNear(t, "reflections", list, want, 1e-5)
			isNear(t, "left", float64(left), float64(1-of*of), 1e-5)
		}
	}
}

// leftOf is the energy that a filter of the second kind leaves of what is wanted.
func leftOf(t *testing.T, wavelet, filter, wanted []float32) float64 {
	t.Helper()
	made, ok := impl.FoldTraces(wavelet, filter)
	if !ok {
		t.Fatal("no convolution")
	}
	left := make([]float32, max(len(made), len(wanted)))
	copy(left, made)
	for k, x := range wanted {
		left[k] -= x
	}
	return energyOf(left)
}

// A filter leaves no more of what is wanted than nothing would, which leaves all
// of it, and no other filter leaves less.
func TestShapesLeaveNoMoreThanNothing(t *testing.T) {
	for seed := range uint32(20) {
		for _, n := range [][3]int{{1, 1, 1}, {5, 3, 4}, {10, 30, 24}, {60, 7, 12}, {2, 100, 5}} {
			wavelet, wanted := wavy(n[0], seed), wavy(n[1], seed+99)
			filter, ok := impl.ShapeFilter(wavelet, wanted, int64(n[2]), 0)
			isShown(t, "filter", show(len(filter), ok), show(n[2], true))
			least, all := leftOf(t, wavelet, filter, wanted), energyOf(wanted)
			if !(least <= all*1.00001) {
				t.Errorf("seed %d, %v: %v is left of %v", seed, n, least, all)
			}
			for i := range filter {
				for _, by := range []float32{0.01, -0.01} {
					other := withNumber(filter, i, filter[i]+by)
					if left := leftOf(t, wavelet, other, wanted); !(left >= least-1e-5*all) {
						t.Errorf("seed %d, %v: %v is left, and %v by another filter", seed, n, least, left)
					}
				}
			}
		}
	}
}

func TestLongerFiltersLeaveNoMore(t *testing.T) {
	for seed := range uint32(20) {
		wavelet := wavy(20, seed)
		before := 1.0
		for count := int64(1); count <= 24; count++ {
			filter, _ := impl.SpikeFilter(wavelet, count, 0)
			left := leftOf(t, wavelet, filter, []float32{1})
			if !(left <= before*1.0001) {
				t.Errorf("seed %d, %d numbers: %v is left, and %v by fewer numbers", seed, count, left, before)
			}
			before = left
		}
	}
}

// What is told ahead and dropped was there: no more is left than there was.
func TestDroppedTracesHaveNoMoreEnergy(t *testing.T) {
	for seed := range uint32(20) {
		for _, a := range [][]float32{wavy(100, seed), wavy(128, seed), wavy(3, seed), wavy(1, seed), hillTrace(0, 1)} {
			for _, n := range [][2]int64{{1, 1}, {1, 5}, {1, 23}, {4, 8}, {12, 12}, {23, 1}} {
				for _, white := range []float32{0.001, 0.1, 3} {
					left, ok := impl.DropPredicted(a, n[0], n[1], white)
					isShown(t, "dropped", show(len(left), ok), show(len(a), true))
					if !(energyOf(left) <= energyOf(a)*1.00001) {
						t.Errorf("seed %d, %v: %v is left of %v", seed, n, energyOf(left), energyOf(a))
					}
					// What lies within the gap is not told ahead.
					first := min(len(a), int(n[0]))
					areNear(t, "before the gap", left[:first], a[:first], 0)
				}
			}
		}
	}
}

// White noise makes filters careful: more of it tells less ahead.
func TestWhiteNoiseMakesFiltersSmall(t *testing.T) {
	for seed := range uint32(20) {
		a := wavy(100, seed)
		before := math.Inf(1)
		for _, white := range []float32{0, 0.1, 1, 10, 1000} {
			ahead, ok := impl.PredictionOf(a, 2, 6, white)
			isShown(t, "ahead", show(ok), "true;")
			if !(energyOf(ahead) < before) {
				t.Errorf("seed %d, white %v: got a filter of %v after %v", seed, white, energyOf(ahead), before)
			}
			before = energyOf(ahead)
		}
		if before > 1e-5 {
			t.Errorf("seed %d: got a filter of %v", seed, before)
		}
	}
}

// Powers are told ahead by their number, and by its power for a gap.
func TestPowersAreToldAhead(t *testing.T) {
	for _, of := range []float32{0.5, -0.5, 0.8, -0.7} {
		a := powersBy(128, of)
		want := float32(1)
		for gap := int64(1); gap <= 20; gap++ {
			want *= of
			ahead, ok := impl.PredictionOf(a, gap, 3, 0)
			isShown(t, "ahead", show(ok), "true;")
			areNear(t, "ahead", ahead, []float32{want, 0, 0}, 1e-5)
			left, _ := impl.DropPredicted(a, gap, 1, 0)
			areNear(t, "left", left[gap:], make([]float32, 128-gap), 1e-5)
		}
	}
}

// Echoes of the surface that come back ever again are taken away, and the first
// ones are left.
func TestEchoesAreTakenAway(t *testing.T) {
	for gap := int64(4); gap <= 18; gap++ {
		for _, echo := range []float32{0.5, -0.5, 0.3, -0.6} {
			wavelet := []float32{1, -0.5, 0.2}
			a := make([]float32, 128)
			size := float32(1)
			for at := 0; at < len(a); at += int(gap) {
				for k, x := range wavelet[:min(3, len(a)-at)] {
					a[at+k] = float32(size * x)
				}
				size *= echo
			}
			left, ok := impl.DropPredicted(a, gap, 4, 0)
			isShown(t, "dropped", show(ok), "true;")
			want := make([]float32, 128)
			copy(want, wavelet)
			areNear(t, "left", left, want, 2e-3)
		}
	}
}

// A spike filter of a wavelet whose first number is great makes a pulse of it.
func TestWaveletsBecomeSpikes(t *testing.T) {
	for _, wavelet := range [][]float32{{1, 0.5}, {2, -0.8, 0.3}, {-3, 1, 0.5}, {1, 0.3, 0.2, 0.1}} {
		filter, ok := impl.SpikeFilter(wavelet, 24, 0)
		isShown(t, "spike", show(ok), "true;")
		made, _ := impl.FoldTraces(wavelet, filter)
		pulse, _ := impl.PulseTrace(int64(len(made)), 0, 1)
		areNear(t, "pulse", made, pulse, 1e-4)
		inverse, _ := impl.InverseOf(wavelet, 24)
		areNear(t, "inverse", filter, inverse, 1e-2)
	}
}

// What a wavelet has become is found again: a shape of it leads to the filter.
func TestFiltersAreFoundAgain(t *testing.T) {
	for seed := range uint32(20) {
		wavelet := append([]float32{4}, wavy(9, seed)...)
		for _, count := range []int{1, 2, 7, 24} {
			filter := wavy(count, seed+5)
			wanted, _ := impl.FoldTraces(wavelet, filter)
			found, ok := impl.ShapeFilter(wavelet, wanted, int64(count), 0)
			isShown(t, "found", show(ok), "true;")
			areNear(t, "found", found, filter, 1e-3)
		}
	}
}

func TestInversesTakeFiltersBack(t *testing.T) {
	for seed := range uint32(20) {
		f, _ := impl.ScaleTrace(wavy(12, seed), 0.05)
		f[0] = 1.5
		if seed%2 == 1 {
			f[0] = -1.5
		}
		inverse, one := impl.InverseOf(f, 128)
		made, two := impl.ApplyFilter(inverse, f)
		pulse, _ := impl.PulseTrace(128, 0, 1)
		isShown(t, "inverse", show(one, two), "true;true;")
		areNear(t, "pulse", made, pulse, 1e-6)
		a := wavy(128, seed+3)
		there, _ := impl.ApplyFilter(a, f)
		back, _ := impl.ApplyFilter(there, inverse)
		areNear(t, "back", back, a, 1e-5)
	}
}

// Filters are applied as traces are folded, as far as the trace is long.
func TestFiltersAreFolds(t *testing.T) {
	for count := 1; count <= 60; count++ {
		a, f := wavy(60, uint32(count)), wavy(count, 5)
		fold, _ := impl.FoldTraces(f, a)
		isShown(t, "fold", show(impl.ApplyFilter(a, f)), show(fold[:60], true))
		pulse, _ := impl.PulseTrace(60, 0, 1)
		want, _ := impl.ShiftTrace(append(slices.Clone(f), make([]float32, 60-count)...), 0)
		applied, _ := impl.ApplyFilter(pulse, f)
		areNear(t, "pulse", applied, want, 0)
	}
	for gap := int64(1); gap <= 24; gap++ {
		a := wavy(60, 3)
		filter, _ := impl.ErrorFilter([]float32{1}, gap)
		late, _ := impl.ShiftTrace(a, gap)
		left, _ := impl.LessTraces(a, late)
		applied, ok := impl.ApplyFilter(a, filter)
		isShown(t, "applied", show(ok), "true;")
		areNear(t, "less itself", applied, left, 1e-6)
	}
}

func TestSmoothAndRoughAreAll(t *testing.T) {
	for _, a := range someTraces()[:13] {
		for rounds := range int64(17) {
			smooth, _ := impl.SmoothTrace(a, rounds)
			rough, _ := impl.RoughTrace(a, rounds)
			all, _ := impl.AddTraces(smooth, rough)
			areNear(t, "all", all, a, 1e-6)
			if !(energyOf(smooth) <= energyOf(a)*1.00001) {
				t.Errorf("%d rounds: got %v of %v", rounds, energyOf(smooth), energyOf(a))
			}
		}
	}
	pulse, _ := impl.PulseTrace(41, 20, 1<<20)
	smooth, _ := impl.SmoothTrace(pulse, 8)
	sum, _ := impl.SumNumbers(smooth)
	isNumber(t, "nothing is lost", sum, 1<<20)
	isShown(t, "sides", show(impl.MirrorTrace(smooth)), show(smooth, true))
}

// A wave of the frequency of a notch is gone behind its first two numbers.
func TestNotchesTakeFrequenciesAway(t *testing.T) {
	for _, turns := range []float32{0, 0.05, 0.125, 0.25, 0.3, 0.5, -0.1, 1.2} {
		for _, late := range []float64{0, 0.1, 0.3} {
			a := make([]float32, 60)
			for k := range a {
				a[k] = float32(math.Sin(2 * math.Pi * (float64(turns)*float64(k) + late)))
			}
			left, ok := impl.NotchTrace(a, turns)
			isShown(t, "notch", show(ok), "true;")
			areNear(t, "left", left[2:], make([]float32, 58), 2e-6)
			other, _ := impl.NotchTrace(a, turns+0.27)
			if late == 0.1 && !(energyOf(other[2:]) > 1) {
				t.Errorf("%v turns: got %v of another frequency", turns, energyOf(other))
			}
		}
	}
}

func TestSumsAndDifferencesLeadBack(t *testing.T) {
	for _, a := range someTraces()[:13] {
		sums, _ := impl.IntegrateTrace(a)
		back, one := impl.DifferTrace(sums)
		isShown(t, "back", show(one), "true;")
		areNear(t, "back", back, a, 1e-5)
		differ, _ := impl.DifferTrace(a)
		again, two := impl.IntegrateTrace(differ)
		isShown(t, "again", show(two), "true;")
		areNear(t, "again", again, a, 1e-5)
		all, _ := impl.SumNumbers(a)
		isNumber(t, "last", sums[len(sums)-1], all)
	}
}

func TestTapersOnBothSides(t *testing.T) {
	for _, a := range someTraces() {
		mirror, _ := impl.MirrorTrace(a)
		for count := range int64(len(a)/2 + 1) {
			tapered, one := impl.TaperTrace(a, count)
			other, two := impl.TaperTrace(mirror, count)
			isShown(t, "tapered", show(one, two), "true;true;")
			isShown(t, "mirror", show(impl.MirrorTrace(other)), show(tapered, true))
			isShown(t, "middle", show(tapered[count:len(a)-int(count)]), show(a[count:len(a)-int(count)]))
		}
	}
}

func TestMutesStayAsTheyAre(t *testing.T) {
	for _, a := range someTraces() {
		end := int64(len(a))
		isShown(t, "none", show(impl.MuteTrace(a, end/2, end/2)), show(a, true))
		isShown(t, "all", show(impl.MuteTrace(a, 0, end)), show(make([]float32, end), true))
		once, _ := impl.MuteTrace(a, end/3, end/2)
		isShown(t, "again", show(impl.MuteTrace(once, end/3, end/2)), show(once, true))
		left, _ := impl.MuteTrace(a, 0, end/2)
		right, _ := impl.MuteTrace(a, end/2, end)
		isShown(t, "halves", show(left[end/2:], right[:end/2]), show(a[end/2:], a[:end/2]))
	}
}

// With a gain, waves that are less are as loud as others.
func TestGainsAreAsLoudEverywhere(t *testing.T) {
	for seed := range uint32(20) {
		less, _ := impl.KeepTrace(wavy(128, seed), 0.95)
		loud, ok := impl.GainTrace(less, 10)
		isShown(t, "gain", show(ok), "true;")
		for at := 0; at+32 <= 128; at += 8 {
			if power := energyOf(loud[at:at+32]) / 32; !(power > 0.4 && power < 2.5) {
				t.Errorf("seed %d: got the power %v at %d", seed, power, at)
			}
		}
		whole, _ := impl.GainTrace(less, 128)
		isNear(t, "mean", energyOf(whole)/128, 1, 1e-5)
	}
	for _, x := range []float32{1, 0.5, -2, 4096} {
		for _, reach := range []int64{0, 1, 30, 128} {
			loud, _ := impl.GainTrace(filled(50, x), reach)
			isShown(t, "even", show(loud), show(filled(50, float32(math.Copysign(1, float64(x))))))
		}
	}
}

// A trace that comes later is found where it is, and its products are its energy.
func TestBestShiftsAreFound(t *testing.T) {
	for seed := range uint32(20) {
		a := slices.Concat(make([]float32, 40), wavy(48, seed), make([]float32, 40))
		energy, _ := impl.EnergyOfTrace(a)
		for by := int64(-40); by <= 40; by += 5 {
			late, _ := impl.ShiftTrace(a, by)
			for _, most := range []int64{40, 77, 128} {
				isShown(t, "shift", show(impl.BestShift(a, late, most)), show(by, energy, true))
				isShown(t, "back", show(impl.BestShift(late, a, most)), show(-by, energy, true))
			}
		}
	}
}

// A shift of a trace is a lag of both.
func TestShiftsAreLags(t *testing.T) {
	for seed := range uint32(20) {
		a, b := wavy(50, seed), wavy(70, seed+50)
		cross, _ := impl.CrossOf(b, a, 24)
		for shift := range int64(24) {
			isShown(t, "lag", show(impl.BestShift(a, b[shift:], 0)), show(int64(0), cross[shift], true))
		}
	}
}
