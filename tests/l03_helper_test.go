package tests

import (
	"fmt"
	"hash/fnv"
	"math"
	"testing"

	"loop.example/g01231/impl"
)

// The tables and digests of chapter 3 were computed by another program, as the
// document tells: number by number, and without any short cut.

const noNoise = ";0;false;"

func minusZero() float32 {
	return num(0x80000000)
}

func infinite() float32 {
	return float32(math.Inf(1))
}

func notNumber() float32 {
	return num(nanBits)
}

// digest is a short text of a long one.
func digest(text string) string {
	h := fnv.New32a()
	h.Write([]byte(text))
	return fmt.Sprintf("%08x", h.Sum32())
}

// wavy returns so many numbers of a small rule, between -1.64 and 1.64.
func wavy(count int, seed uint32) []float32 {
	list := make([]float32, count)
	for i := range list {
		seed = seed*1103515245 + 12345
		list[i] = float32(float32(seed>>16&0x7fff)*0.0001) - 1.6384
	}
	return list
}

// coefficientsUpTo returns so many numbers whose absolute values are less than most.
func coefficientsUpTo(most float32, count int, seed uint32) []float32 {
	list := wavy(count, seed)
	for i, x := range list {
		list[i] = float32(x*most) / 1.64
	}
	return list
}

// someCoefficients are lists of all lengths, of small ones and of great ones.
func someCoefficients() [][]float32 {
	most := []float32{0.05, 0.3, 0.6, 0.99}
	var lists [][]float32
	for k := range 40 {
		lists = append(lists, coefficientsUpTo(most[k%4], k%24+1, uint32(k+1)))
	}
	return lists
}

func someSurfaces() []float32 {
	return []float32{0, 1, -1, 0.5, -0.3, minusZero()}
}

// beyondSurfaces are none of a surface, the first two of them by the least.
func beyondSurfaces() []float32 {
	return []float32{just(1, 1), -just(1, 1), 2, -2, infinite(), -infinite(), notNumber()}
}

func filled(count int, x float32) []float32 {
	list := make([]float32, count)
	for i := range list {
		list[i] = x
	}
	return list
}

// someTraces are of many lengths, and the last ones of numbers of every kind, and
// of zeros of both signs.
func someTraces() [][]float32 {
	var list [][]float32
	for _, k := range []int{1, 2, 3, 7, 8, 9, 16, 17, 31, 64, 100, 127, 128} {
		list = append(list, wavy(k, uint32(k)))
	}
	return append(list, someNumbers(), make([]float32, 20), filled(20, minusZero()))
}

// noTraces are lists that are not traces.
func noTraces() [][]float32 {
	return [][]float32{nil, {}, make([]float32, 129), ones[float32](129), ones[float32](1000)}
}

// withNumber returns a copy of a list with another number.
func withNumber(list []float32, at int, x float32) []float32 {
	list = append([]float32(nil), list...)
	list[at] = x
	return list
}

func TestLimitsOfTraces(t *testing.T) {
	isShown(t, "limits", show(int64(impl.MaxEchoLayers), int64(impl.MaxTrace)), "24;128;")
}
