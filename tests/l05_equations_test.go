package tests

import (
	"math"
	"slices"
	"strings"
	"testing"

	"loop.example/g01231/impl"
)

func TestSolveToeplitz(t *testing.T) {
	minus, inf, nan, high := minusZero(), infinite(), notNumber(), float32(math.MaxFloat32)
	for _, c := range []struct {
		auto, right []float32
		want        string
	}{
		{[]float32{2, 1}, []float32{1, 2}, "00000000,3f800000,;true;"},
		{[]float32{2}, []float32{1}, "3f000000,;true;"},
		{[]float32{2}, []float32{-3}, "bfc00000,;true;"},
		{[]float32{3}, []float32{minus}, "80000000,;true;"},
		{[]float32{3}, []float32{0}, "00000000,;true;"},
		{[]float32{0}, []float32{1}, ";false;"},
		{[]float32{minus}, []float32{1}, ";false;"},
		{[]float32{-2}, []float32{1}, ";false;"},
		{[]float32{nan}, []float32{1}, ";false;"},
		{[]float32{inf}, []float32{1}, "00000000,;true;"},
		{[]float32{inf}, []float32{inf}, "7fc00000,;true;"},
		{[]float32{inf}, []float32{-3}, "80000000,;true;"},
		{[]float32{-inf}, []float32{1}, ";false;"},
		{[]float32{1}, []float32{nan}, "7fc00000,;true;"},
		{[]float32{1}, []float32{inf}, "7f800000,;true;"},
		{[]float32{num(1)}, []float32{1}, "7f800000,;true;"},
		{[]float32{num(1)}, []float32{num(3)}, "40400000,;true;"},
		{[]float32{-num(1)}, []float32{1}, ";false;"},
		{[]float32{high}, []float32{num(1)}, "00000000,;true;"},
		{[]float32{high}, []float32{high}, "3f800000,;true;"},
		{[]float32{1, 0}, []float32{3, 4}, "40400000,40800000,;true;"},
		{[]float32{1, minus}, []float32{3, 4}, "40400000,40800000,;true;"},
		{[]float32{1, 0}, []float32{minus, minus}, "80000000,00000000,;true;"},
		{[]float32{1, minus}, []float32{minus, 0}, "00000000,00000000,;true;"},
		{[]float32{2, 1}, []float32{minus, minus}, "00000000,00000000,;true;"},
		{[]float32{2, -1}, []float32{minus, 0}, "00000000,00000000,;true;"},
		{[]float32{2, 1}, []float32{0, 0}, "00000000,00000000,;true;"},
		{[]float32{1, 1}, []float32{1, 1}, ";false;"},
		{[]float32{1, -1}, []float32{1, 1}, ";false;"},
		{[]float32{1, 2}, []float32{1, 1}, ";false;"},
		{[]float32{1, nan}, []float32{1, 1}, ";false;"},
		{[]float32{1, inf}, []float32{1, 1}, ";false;"},
		{[]float32{inf, 1}, []float32{1, 1}, "00000000,00000000,;true;"},
		{[]float32{inf, 1}, []float32{inf, 1}, "7fc00000,7fc00000,;true;"},
		{[]float32{inf, inf}, []float32{1, 1}, ";false;"},
		{[]float32{0, 1}, []float32{1, 1}, ";false;"},
		{[]float32{0, 0}, []float32{1, 1}, ";false;"},
		{[]float32{minus, minus}, []float32{0, 0}, ";false;"},
		{[]float32{-1, 0}, []float32{1, 1}, ";false;"},
		{[]float32{nan, 1}, []float32{1, 1}, ";false;"},
		{[]float32{1, 1e+30}, []float32{1, 1}, ";false;"},
		{[]float32{1, 0.9999999}, []float32{1, 1}, "3f000001,3f000000,;true;"},
		{[]float32{1, -0.9999999}, []float32{1, -1}, "3f000001,bf000000,;true;"},
		{[]float32{1, 0.99999994}, []float32{1, 1}, "3f000000,3f000000,;true;"},
		{[]float32{16777216.0, 16777215.0}, []float32{1, 2}, "befffffd,3f000000,;true;"},
		{[]float32{2, 1}, []float32{nan, 1}, "7fc00000,7fc00000,;true;"},
		{[]float32{2, 1}, []float32{1, nan}, "7fc00000,7fc00000,;true;"},
		{[]float32{2, 1}, []float32{inf, 1}, "7f800000,ff800000,;true;"},
		{[]float32{2, 1}, []float32{1, -inf}, "7f800000,ff800000,;true;"},
		{[]float32{2, 0}, []float32{1, inf}, "7fc00000,7f800000,;true;"},
		{[]float32{4, 2, 1}, []float32{1, 2, 3}, "00000000,3e2aaaaa,3f2aaaab,;true;"},
		{[]float32{1, 0.5, 0.25}, []float32{1, 0, 0}, "3faaaaab,bf2aaaab,00000000,;true;"},
		{[]float32{1, 0.5, 1}, []float32{1, 1, 1}, ";false;"},
		{[]float32{1, 0.5, -0.5}, []float32{1, 1, 1}, ";false;"},
		{[]float32{1, 0.5, 2}, []float32{1, 1, 1}, ";false;"},
		{[]float32{1, 0.5, nan}, []float32{1, 1, 1}, ";false;"},
		{[]float32{1, 0.5, 0.999999}, []float32{1, 2, 3}, "c970f0db,3fa9696a,4970f0f1,;true;"},
		{[]float32{1, 1, 1}, []float32{1, 1, 1}, ";false;"},
		{[]float32{1, 0, 1}, []float32{1, 1, 1}, ";false;"},
		{[]float32{1, 0, 0}, []float32{3, -4, minus}, "40400000,c0800000,00000000,;true;"},
		{[]float32{3, 2, 1}, []float32{0.1, -0.7, 0.3}, "3ee66668,bf666668,3f0cccce,;true;"},
		{[]float32{0.7, 0.3, -0.1}, []float32{0.1, 0.2, 0.3}, "3e555558,b3800000,3eeaaaac,;true;"},
		{[]float32{0.7, 0.3, -0.1, 0.05}, []float32{0.1, 0.2, 0.3, 0.4}, "bdf24c7c,3eeff47a,bda694a0,3f2e8340,;true;"},
		{[]float32{0.3, 0.1, 0.1, -0.1, 0.02}, []float32{1, -1, 2, -2, 3}, "c1700000,4177fffe,41000000,c1d7ffff,41b3ffff,;true;"},
		{[]float32{1e+30, 1e+29}, []float32{1e+30, 1}, "3f814afd,bdcede62,;true;"},
		{[]float32{1e-30, 1e-31}, []float32{1e-30, 1}, "efa330cb,714bfcff,;true;"},
		{[]float32{num(71362), num(7136)}, []float32{num(71362), num(71362)}, "3f68ba4c,3f68bab0,;true;"},
		{[]float32{1e+20, 1e+19, 1e+18}, []float32{1, 1, 1}, "1e2bb8f0,1e1a8cd8,1e2bb8f0,;true;"},
		{[]float32{5, 1, 1, 1, 1, 1}, []float32{1, 2, 3, 4, 5, 6}, "be8ccccb,bcccccc0,3e666668,3ef33331,3f399999,3f799999,;true;"},
		{[]float32{1}, []float32{1, 2}, ";false;"},
		{[]float32{1, 0.5}, []float32{1}, ";false;"},
		{[]float32{}, []float32{}, ";false;"},
		{[]float32{1}, []float32{}, ";false;"},
		{[]float32{}, []float32{1}, ";false;"},
	} {
		isShown(t, show(c.auto, c.right), show(impl.SolveToeplitz(c.auto, c.right)), c.want)
	}
	var all strings.Builder
	for k, auto := range someAutos() {
		all.WriteString(show(impl.SolveToeplitz(auto, wavy(len(auto), uint32(k)))))
	}
	isShown(t, "some", digest(all.String()), "e1a31b77")
}

func TestSolutionsOfOddAutos(t *testing.T) {
	var all strings.Builder
	for _, auto := range oddLists() {
		for _, right := range [][]float32{{1, -2, 0.5}, {minusZero(), minusZero(), minusZero()}, {0, infinite(), notNumber()}} {
			all.WriteString(show(impl.SolveToeplitz(auto, right[:len(auto)])))
		}
	}
	for _, right := range oddLists() {
		for _, auto := range [][]float32{{2, 1, 0.5}, {3, minusZero(), -1}} {
			all.WriteString(show(impl.SolveToeplitz(auto[:len(right)], right)))
		}
	}
	isShown(t, "odd", digest(all.String()), "fa38c8af")
}

// Both sides of equations have the same length, 1 to 24.
func TestLengthsOfEquations(t *testing.T) {
	for one := range 30 {
		for two := range 30 {
			auto, right := powersBy(one, 0.5), wavy(two, 3)
			f, first := impl.SolveToeplitz(auto, right)
			sums, second := impl.TimesToeplitz(auto, right)
			if one == two && 1 <= one && one <= 24 {
				isShown(t, show(one, two), show(len(f), first, len(sums), second), show(one, true, one, true))
			} else {
				isShown(t, show(one, two), show(f, first), noList)
				isShown(t, show(one, two), show(sums, second), noList)
			}
		}
	}
	for _, list := range noAutos() {
		isShown(t, show(list), show(impl.SolveToeplitz(list, list)), noList)
		isShown(t, show(list), show(impl.TimesToeplitz(list, list)), noList)
	}
}

func TestTimesToeplitz(t *testing.T) {
	minus, inf, nan := minusZero(), infinite(), notNumber()
	for _, c := range []struct {
		auto, f []float32
		want    string
	}{
		{[]float32{2, 1}, []float32{0, 1}, "3f800000,40000000,;true;"},
		{[]float32{2}, []float32{3}, "40c00000,;true;"},
		{[]float32{2}, []float32{minus}, "00000000,;true;"},
		{[]float32{minus}, []float32{1}, "00000000,;true;"},
		{[]float32{2, 1}, []float32{minus, minus}, "00000000,00000000,;true;"},
		{[]float32{2, 1, 0}, []float32{1, 0, 0}, "40000000,3f800000,00000000,;true;"},
		{[]float32{2, 1, 0.5}, []float32{0, 1, 0}, "3f800000,40000000,3f800000,;true;"},
		{[]float32{2, 1, 0.5}, []float32{0, 0, 1}, "3f000000,3f800000,40000000,;true;"},
		{[]float32{3, 2, 1}, []float32{1, 10, 100}, "42f60000,43680000,43a08000,;true;"},
		{[]float32{1, 0.1, 0.7}, []float32{0.3, -0.7, 0.9}, "3f5c28f6,bf147ae1,3f851eb8,;true;"},
		{[]float32{16777216.0, 1, 1}, []float32{1, 1, 1}, "4b800000,4b800000,4b800001,;true;"},
		{[]float32{1, 1, 16777216.0}, []float32{1, 1, 1}, "4b800001,40400000,4b800000,;true;"},
		{[]float32{1, 1.0000001}, []float32{1.0000001, -1.0000001}, "b4000000,34000000,;true;"},
		{[]float32{1, 0}, []float32{inf, 1}, "7f800000,7fc00000,;true;"},
		{[]float32{1, 1}, []float32{inf, -inf}, "7fc00000,7fc00000,;true;"},
		{[]float32{nan, 1}, []float32{0, 1}, "7fc00000,7fc00000,;true;"},
		{[]float32{1, nan}, []float32{0, 1}, "7fc00000,7fc00000,;true;"},
		{[]float32{inf, 1}, []float32{0, 1}, "7fc00000,7f800000,;true;"},
		{[]float32{1e+30, 1e+30}, []float32{1e+30, -1e+30}, "7fc00000,7fc00000,;true;"},
		{[]float32{num(1), num(2)}, []float32{0.5, 0.5}, "00000001,00000001,;true;"},
		{[]float32{-1, 0}, []float32{2, 3}, "c0000000,c0400000,;true;"},
		{[]float32{0, 0}, []float32{1, 1}, "00000000,00000000,;true;"},
		{[]float32{1, 2, 3, 4, 5}, []float32{5, 4, 3, 2, 1}, "420c0000,41f00000,42040000,42280000,425c0000,;true;"},
		{[]float32{1, 2, 3, 4, 5}, []float32{1, minus, 0, 0, 0}, "3f800000,40000000,40400000,40800000,40a00000,;true;"},
	} {
		isShown(t, show(c.auto, c.f), show(impl.TimesToeplitz(c.auto, c.f)), c.want)
	}
	var all strings.Builder
	for k, auto := range append(someAutos(), oddLists()...) {
		all.WriteString(show(impl.TimesToeplitz(auto, wavy(len(auto), uint32(k)))))
		all.WriteString(show(impl.TimesToeplitz(wavy(len(auto), uint32(k)), auto)))
	}
	isShown(t, "some", digest(all.String()), "919f108b")
}

func TestReflectionsOf(t *testing.T) {
	minus, inf, nan, high := minusZero(), infinite(), notNumber(), float32(math.MaxFloat32)
	for _, c := range []struct {
		auto []float32
		want string
	}{
		{[]float32{2, 1}, "3f000000,;3fc00000;true;"},
		{[]float32{1}, ";3f800000;true;"},
		{[]float32{0}, ";00000000;true;"},
		{[]float32{minus}, ";80000000;true;"},
		{[]float32{-3}, ";c0400000;true;"},
		{[]float32{nan}, ";7fc00000;true;"},
		{[]float32{inf}, ";7f800000;true;"},
		{[]float32{-inf}, ";ff800000;true;"},
		{[]float32{num(1)}, ";00000001;true;"},
		{[]float32{high}, ";7f7fffff;true;"},
		{[]float32{1, 0}, "00000000,;3f800000;true;"},
		{[]float32{1, minus}, "00000000,;3f800000;true;"},
		{[]float32{1, 1}, "3f800000,;00000000;true;"},
		{[]float32{1, -1}, "bf800000,;00000000;true;"},
		{[]float32{1, 2}, "40000000,;c0400000;true;"},
		{[]float32{1, nan}, "7fc00000,;7fc00000;true;"},
		{[]float32{1, inf}, "7f800000,;ff800000;true;"},
		{[]float32{1, 1e+30}, "7149f2ca,;ff800000;true;"},
		{[]float32{0, 0}, ";00000000;false;"},
		{[]float32{0, 1}, ";00000000;false;"},
		{[]float32{minus, 0}, ";00000000;false;"},
		{[]float32{-1, 0}, ";00000000;false;"},
		{[]float32{-1, 1}, ";00000000;false;"},
		{[]float32{nan, 1}, ";00000000;false;"},
		{[]float32{inf, 1}, "00000000,;7f800000;true;"},
		{[]float32{inf, inf}, "7fc00000,;7fc00000;true;"},
		{[]float32{1, 0.5, 0.25}, "3f000000,00000000,;3f400000;true;"},
		{[]float32{1, 0.5, 1}, "3f000000,3f800000,;00000000;true;"},
		{[]float32{1, 0.5, -0.5}, "3f000000,bf800000,;00000000;true;"},
		{[]float32{1, 0.5, 2}, "3f000000,40155555,;c0555554;true;"},
		{[]float32{1, 0.5, nan}, "3f000000,7fc00000,;7fc00000;true;"},
		{[]float32{1, 0.5, inf}, "3f000000,7f800000,;ff800000;true;"},
		{[]float32{1, 1, 1}, ";00000000;false;"},
		{[]float32{1, 0, 1}, "00000000,3f800000,;00000000;true;"},
		{[]float32{1, 0, 1, 0}, ";00000000;false;"},
		{[]float32{1, 0.5, 1, 0.5}, ";00000000;false;"},
		{[]float32{1, 0.5, 2, 0.5}, ";00000000;false;"},
		{[]float32{1, 0.5, nan, 0.5}, ";00000000;false;"},
		{[]float32{4, 2, 1, 3}, "3f000000,00000000,3f555555,;3f6aaaac;true;"},
		{[]float32{3, 2, 1}, "3f2aaaab,be4ccccf,;3fcccccc;true;"},
		{[]float32{0.7, 0.3, -0.1, 0.05}, "3edb6db8,becccccf,3ef5555a,;3ebd5552;true;"},
		{[]float32{1, 0.1, 0.1, 0.1, 0.1}, "3dcccccd,3dba2e8c,3daaaaab,3d9d89d9,;3f781f82;true;"},
		{[]float32{1, 0.9999999}, "3f7ffffe,;34800000;true;"},
		{[]float32{1, 0.99999994, 0.9999999}, "3f7fffff,00000000,;34000000;true;"},
		{[]float32{1e+30, 1e+29}, "3dcccccd,;7147edcd;true;"},
		{[]float32{num(71362), num(7136)}, "3dcccb55,;000113f8;true;"},
		{[]float32{1e+20, -1e+19, 1e+18, 5}, "bdcccccd,00000000,3a84655d,;60abbcca;true;"},
		{[]float32{1, minus, minus, 0, minus}, "00000000,00000000,00000000,00000000,;3f800000;true;"},
	} {
		isShown(t, show(c.auto), show(impl.ReflectionsOf(c.auto)), c.want)
	}
	var all strings.Builder
	for _, auto := range append(someAutos(), oddLists()...) {
		all.WriteString(show(impl.ReflectionsOf(auto)))
	}
	isShown(t, "some", digest(all.String()), "8dab1e22")
	for _, auto := range noAutos() {
		isShown(t, show(auto), show(impl.ReflectionsOf(auto)), noReflections)
	}
}

// What is left last divides a right side, but no reflection: an auto of one
// number more has one whose divisor it is.
func TestLastThatIsLeft(t *testing.T) {
	minus, nan := minusZero(), notNumber()
	for _, c := range []struct {
		auto []float32
		left float32
	}{
		{[]float32{0}, 0}, {[]float32{minus}, minus}, {[]float32{-3}, -3}, {[]float32{nan}, nan},
		{[]float32{1, 1}, 0}, {[]float32{1, -1}, 0}, {[]float32{1, 2}, -3}, {[]float32{1, nan}, nan}, {[]float32{1, -infinite()}, -infinite()},
		{[]float32{1, 0.5, 1}, 0}, {[]float32{1, 0.5, -0.5}, 0}, {[]float32{1, 0.5, 1.75}, -2.25}, {[]float32{1, 0.5, nan}, nan},
		{[]float32{1, 0, 0, 0, -1}, 0}, {[]float32{1, 0, 0, 0, 1.5}, -1.25},
	} {
		list, left, ok := impl.ReflectionsOf(c.auto)
		isShown(t, show(c.auto), show(len(list), left, ok), show(len(c.auto)-1, c.left, true))
		isShown(t, show(c.auto), show(impl.SolveToeplitz(c.auto, ones[float32](len(c.auto)))), noList)
		for _, next := range []float32{0, 1, 0.25} {
			longer := append(slices.Clone(c.auto), next)
			isShown(t, show(longer), show(impl.ReflectionsOf(longer)), noReflections)
			isShown(t, show(longer), show(impl.SolveToeplitz(longer, ones[float32](len(longer)))), noList)
		}
	}
}

// At any length, the first auto that leaves nothing is told, but not solved.
func TestNothingLeftAtAnyLength(t *testing.T) {
	for count := 2; count <= 24; count++ {
		for _, last := range []float32{1, -1, 1.5} {
			auto := make([]float32, count)
			auto[0], auto[count-1] = 1, last
			list, left, ok := impl.ReflectionsOf(auto)
			want := make([]float32, count-1)
			want[count-2] = last
			isShown(t, show(auto), show(list, left, ok), show(want, 1-last*last, true))
			isShown(t, show(auto), show(impl.SolveToeplitz(auto, ones[float32](count))), noList)
			if count < 24 {
				isShown(t, show(auto), show(impl.ReflectionsOf(append(auto, 0))), noReflections)
			}
		}
	}
}

func TestFilterOfReflections(t *testing.T) {
	minus, inf, nan := minusZero(), infinite(), notNumber()
	for _, c := range []struct {
		k    []float32
		want string
	}{
		{[]float32{}, "3f800000,;true;"},
		{[]float32{0.5}, "3f800000,bf000000,;true;"},
		{[]float32{-0.5}, "3f800000,3f000000,;true;"},
		{[]float32{0}, "3f800000,00000000,;true;"},
		{[]float32{minus}, "3f800000,00000000,;true;"},
		{[]float32{1}, "3f800000,bf800000,;true;"},
		{[]float32{-1}, "3f800000,3f800000,;true;"},
		{[]float32{2}, "3f800000,c0000000,;true;"},
		{[]float32{-3}, "3f800000,40400000,;true;"},
		{[]float32{inf}, "7fc00000,ff800000,;true;"},
		{[]float32{-inf}, "7fc00000,7f800000,;true;"},
		{[]float32{nan}, "7fc00000,7fc00000,;true;"},
		{[]float32{0.5, 0.25}, "3f800000,bec00000,be800000,;true;"},
		{[]float32{0.25, 0.5}, "3f800000,be000000,bf000000,;true;"},
		{[]float32{1, 1}, "3f800000,00000000,bf800000,;true;"},
		{[]float32{1, -1}, "3f800000,c0000000,3f800000,;true;"},
		{[]float32{-1, -1}, "3f800000,40000000,3f800000,;true;"},
		{[]float32{1, 1, 1}, "3f800000,3f800000,bf800000,bf800000,;true;"},
		{[]float32{2, -3, 0.5}, "3f800000,c1180000,40e00000,bf000000,;true;"},
		{[]float32{0.5, inf}, "7fc00000,7f800000,ff800000,;true;"},
		{[]float32{inf, 0.5}, "7fc00000,7fc00000,7fc00000,;true;"},
		{[]float32{nan, 0}, "7fc00000,7fc00000,7fc00000,;true;"},
		{[]float32{0, nan}, "7fc00000,7fc00000,7fc00000,;true;"},
		{[]float32{0, 0, 0}, "3f800000,00000000,00000000,00000000,;true;"},
		{[]float32{minus, minus}, "3f800000,00000000,00000000,;true;"},
		{[]float32{0.1, 0.2, 0.3}, "3f800000,bca3d708,be343958,be99999a,;true;"},
		{[]float32{0.3, 0.2, 0.1}, "3f800000,be6147af,be343958,bdcccccd,;true;"},
		{[]float32{0.1, -0.7, 0.3, 0.9}, "3f800000,bde147ac,3d99ce08,3d2c0828,bf666666,;true;"},
		{[]float32{1.0000001, -1.0000001}, "3f800000,c0000002,3f800001,;true;"},
		{[]float32{1e+30, 1e+30}, "3f800000,7f800000,f149f2ca,;true;"},
		{[]float32{num(1), 0.5}, "3f800000,80000001,bf000000,;true;"},
		{[]float32{1, 0, minus, 1}, "3f800000,bf800000,00000000,3f800000,bf800000,;true;"},
	} {
		isShown(t, show(c.k), show(impl.FilterOfReflections(c.k)), c.want)
	}
	var all strings.Builder
	for count := range 24 {
		all.WriteString(show(impl.FilterOfReflections(wavy(count, uint32(count)))))
	}
	for _, k := range oddLists() {
		all.WriteString(show(impl.FilterOfReflections(k)))
	}
	isShown(t, "some", digest(all.String()), "4cfb0504")
}

func TestNumbersOfReflections(t *testing.T) {
	for count := range 60 {
		filter, ok := impl.FilterOfReflections(filled(count, 0.25))
		if count < 24 {
			isShown(t, show(count), show(len(filter), ok), show(count+1, true))
		} else {
			isShown(t, show(count), show(filter, ok), noList)
		}
	}
	isShown(t, "none", show(impl.FilterOfReflections(nil)), show([]float32{1}, true))
}
