package tests

import (
	"math"
	"testing"

	"loop.example/g01231/impl"
)

// The tables and digests of chapter 5 were computed by another program, as the
// document tells: number by number, and without any short cut.

// What functions of chapter 5 return where they fail.
const (
	noReflections = ";00000000;false;"
	noShift       = "0;00000000;false;"
)

// beyond are numbers that are not from least to most, the nearest ones first.
func beyond(least, most int64) []int64 {
	return []int64{least - 1, most + 1, -most, most + 2, 1000, least + 1<<32, least - 1<<32, math.MaxInt64, math.MinInt64}
}

// beyondWhite are none of a white noise, the first one of them by the least.
func beyondWhite() []float32 {
	return []float32{-num(1), -0.5, -1, -2, infinite(), -infinite(), notNumber()}
}

// autoBy is the auto of a trace of a small rule, with a little white noise; it is
// computed here, so that equations are tested apart from lags.
func autoBy(count int, seed uint32) []float32 {
	a := wavy(50, seed)
	auto := make([]float32, count)
	for k := range auto {
		for i, x := range a[k:] {
			auto[k] += float32(x * a[i])
		}
	}
	auto[0] = float32(auto[0] * 1.01)
	return auto
}

// powersBy are the powers of a number from 1 on, an auto of waves that become less.
func powersBy(count int, of float32) []float32 {
	auto := make([]float32, count)
	x := float32(1)
	for k := range auto {
		auto[k] = x
		x = float32(x * of)
	}
	return auto
}

// someAutos are autos of all lengths of which equations are solved.
func someAutos() [][]float32 {
	var list [][]float32
	for count := 1; count <= 24; count++ {
		list = append(list, autoBy(count, uint32(count)), powersBy(count, 0.7), powersBy(count, -0.4))
	}
	return list
}

// noAutos are lists that are too short or too long for autos and filters.
func noAutos() [][]float32 {
	return [][]float32{nil, {}, powersBy(25, 0.5), make([]float32, 25), powersBy(128, 0.5), powersBy(1000, 0.5)}
}

// oddLists are all lists of two of some numbers, and of three of fewer ones.
func oddLists() [][]float32 {
	var list [][]float32
	few := []float32{1, 0.5, -1, 0, minusZero(), 2, infinite(), notNumber(), 1e30, num(1)}
	for _, x := range someNumbers() {
		list = append(list, []float32{x})
		for _, y := range someNumbers() {
			list = append(list, []float32{x, y})
		}
	}
	for _, x := range few {
		for _, y := range few {
			for _, z := range few {
				list = append(list, []float32{x, y, z})
			}
		}
	}
	return list
}

// shortTraces are traces of few numbers of every kind.
func shortTraces() [][]float32 {
	minus, inf, nan, high := minusZero(), infinite(), notNumber(), float32(math.MaxFloat32)
	return [][]float32{{1}, {minus}, {0}, {nan}, {inf}, {1, -2}, {minus, minus}, {0, minus, 0}, {1, 0, minus, 0, 3},
		{inf, -inf}, {1, inf, 1, 1}, {nan, 1, 1}, {1, 1, nan}, {high, high}, {num(1), num(3), -num(2)}, {4096, 1, 1, -4096},
		{1e20, -1e20, 1}, {1e-23, 1e-23, 0}, {0, 0, 0, 5, 0, 0}, {minus, 3, minus}}
}

// energyOf is the sum of squares, in 64-bit numbers.
func energyOf(list []float32) float64 {
	sum := 0.0
	for _, x := range list {
		sum += float64(x) * float64(x)
	}
	return sum
}

// greatestIn is the greatest absolute value of a list.
func greatestIn(list []float32) float64 {
	greatest := 0.0
	for _, x := range list {
		greatest = max(greatest, math.Abs(float64(x)))
	}
	return greatest
}

func TestLimitOfFilters(t *testing.T) {
	isShown(t, "limit", show(int64(impl.MaxFilter)), "24;")
}
