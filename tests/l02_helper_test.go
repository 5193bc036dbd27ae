package tests

import (
	"fmt"
	"math"
	"strings"
	"testing"

	"loop.example/g01231/impl"
)

// What functions of chapter 2 return where they fail.
const (
	noNumber  = "00000000;false;"
	noPair    = "00000000;00000000;false;"
	noComplex = "0000000000000000;false;"
	noList    = ";false;"
	noInteger = "0;false;"
	noFirst   = "0;00000000;false;"
	noGround  = "over 00000000,00000000;false;"
)

// just is the neighbour of a positive number, so many steps away from it.
func just(x float32, steps int) float32 {
	return num(uint32(int(math.Float32bits(x)) + steps))
}

func groundOf(speed, density float32, layers ...impl.Layer) impl.Ground {
	return impl.Ground{Layers: layers, Speed: speed, Density: density}
}

// oneLayer is the document's example.
func oneLayer() impl.Ground {
	return groundOf(3, 1, impl.Layer{Thick: 2, Speed: 1, Density: 1})
}

// fourLayers has a layer that is slower than the one above it.
func fourLayers() impl.Ground {
	return groundOf(4.9, 2.9,
		impl.Layer{Thick: 0.3, Speed: 1.5, Density: 1.1, Loss: 0.01},
		impl.Layer{Thick: 0.7, Speed: 2.3, Density: 2.1, Loss: 0.03},
		impl.Layer{Thick: 1.9, Speed: 1.9, Density: 2.2, Loss: 0.2},
		impl.Layer{Thick: 0.45, Speed: 3.7, Density: 2.6})
}

// twelveLayers has as many layers as there are at most.
func twelveLayers() impl.Ground {
	g := groundOf(6.1, 3.3)
	for k := range 12 {
		g.Layers = append(g.Layers, impl.Layer{
			Thick:   float32(k%5+1) * 0.13,
			Speed:   float32(k+3) * 0.37,
			Density: float32((k*7)%11+9) * 0.17,
			Loss:    float32(k%3) * 0.07,
		})
	}
	return g
}

// plainLayers has so many layers that are all alike.
func plainLayers(count int) impl.Ground {
	g := groundOf(1, 1)
	for range count {
		g.Layers = append(g.Layers, impl.Layer{Thick: 1, Speed: 1, Density: 1})
	}
	return g
}

// hardGround has one layer, and each hardness is the told one.
func hardGround(above, below float32) impl.Ground {
	return groundOf(1, below, impl.Layer{Thick: 1, Speed: 1, Density: above})
}

// someGrounds are those of a small rule, with speeds of both kinds: ever greater
// ones, and others.
func someGrounds() []impl.Ground {
	list := []impl.Ground{oneLayer(), fourLayers(), twelveLayers()}
	seed := uint32(7)
	next := func(low, high float32) float32 {
		seed = seed*1103515245 + 12345
		return low + (high-low)*float32(seed>>16&0x7fff)/32768
	}
	for k := range 36 {
		g := groundOf(next(1, 7), next(1, 3))
		for i := range k%12 + 1 {
			speed := next(1, 7)
			if k%2 == 0 {
				speed = next(0.9, 1) * float32(i+2) / 2
			}
			g.Layers = append(g.Layers, impl.Layer{Thick: next(0.1, 3), Speed: speed, Density: next(1, 3), Loss: next(0, 0.3)})
		}
		list = append(list, g)
	}
	return list
}

func partSpeed(g impl.Ground, n int) float32 {
	if n == len(g.Layers) {
		return g.Speed
	}
	return g.Layers[n].Speed
}

// showGround writes all numbers of a ground by their bits.
func showGround(g impl.Ground) string {
	var b strings.Builder
	for _, l := range g.Layers {
		fmt.Fprintf(&b, "%s,%s,%s,%s/", word(l.Thick), word(l.Speed), word(l.Density), word(l.Loss))
	}
	return b.String() + "over " + word(g.Speed) + "," + word(g.Density)
}

// isNear checks that two numbers differ by a small part of them only.
func isNear(t *testing.T, what string, got, want, part float64) {
	t.Helper()
	if !(math.Abs(got-want) <= part*math.Max(math.Abs(got), math.Abs(want))) {
		t.Errorf("%s: got %v, want nearly %v", what, got, want)
	}
}

func TestLimitsOfLayers(t *testing.T) {
	isShown(t, "MaxLayers", show(int64(impl.MaxLayers)), "12;")
}
