package tests

import (
	"fmt"
	"math"
	"slices"
	"strings"
	"testing"

	"loop.example/g01231/impl"
)

// The tables and digests of chapter 4 were computed by another program, as the
// document tells: number by number, and without any short cut.

// What functions of chapter 4 return where they fail.
const (
	noGather = "0::;false;"
	noShifts = "[];false;"
)

// showGather writes all numbers of a gather by their bits.
func showGather(g impl.Gather) string {
	var b strings.Builder
	fmt.Fprintf(&b, "%d:", g.Ticks)
	showWords(&b, g.Places)
	b.WriteString(":")
	for _, trace := range g.Traces {
		showWords(&b, trace)
		b.WriteString("/")
	}
	return b.String()
}

func showWords(b *strings.Builder, list []float32) {
	for _, x := range list {
		b.WriteString(word(x) + ",")
	}
}

// gatherAt has the given places and traces, and as many ticks as the first trace
// has numbers.
func gatherAt(places []float32, traces ...[]float32) impl.Gather {
	return impl.Gather{Ticks: int64(len(traces[0])), Places: places, Traces: traces}
}

// sameTraces has the same trace at all places.
func sameTraces(places []float32, trace []float32) impl.Gather {
	g := impl.Gather{Ticks: int64(len(trace)), Places: places}
	for range places {
		g.Traces = append(g.Traces, slices.Clone(trace))
	}
	return g
}

// gatherBy returns a gather of a small rule, with places from -33 to 33.
func gatherBy(ticks, places int, seed uint32) impl.Gather {
	g := impl.Gather{Ticks: int64(ticks)}
	for i, x := range wavy(places, seed) {
		g.Places = append(g.Places, float32(x*20))
		g.Traces = append(g.Traces, wavy(ticks, seed+uint32(i)+50))
	}
	return g
}

// oddGather has places and numbers of every kind.
func oddGather() impl.Gather {
	places := []float32{minusZero(), 0, 3, 3, -3, 1e30, -1e-40, math.MaxFloat32}
	g := impl.Gather{Ticks: 24, Places: places}
	for i := range places {
		list := someNumbers()
		g.Traces = append(g.Traces, append(list[5*i%24:], list[:5*i%24]...))
	}
	return g
}

// zeroGather has zeros of both signs.
func zeroGather() impl.Gather {
	minus := minusZero()
	return gatherAt([]float32{2, minus, 0, minus, 0}, []float32{0, minus, 0, minus}, []float32{0, minus, minus, 0},
		[]float32{0, minus, 0, minus}, []float32{minus, minus, minus, minus}, []float32{0, 0, 0, 0})
}

// plainGathers have finite numbers only.
func plainGathers() []impl.Gather {
	var list []impl.Gather
	for k, ticks := range []int{1, 2, 3, 5, 8, 16, 17, 33, 63, 64} {
		for j, places := range []int{1, 2, 5, 16} {
			list = append(list, gatherBy(ticks, places, uint32(10*k+j)))
		}
	}
	return list
}

// someGathers are valid gathers of many sizes.
func someGathers() []impl.Gather {
	return append(plainGathers(), zeroGather(), oddGather())
}

// gatherOfSize has so many ticks and places, and numbers that are all 1.
func gatherOfSize(ticks, places int) impl.Gather {
	g := impl.Gather{Ticks: int64(ticks), Places: ones[float32](places)}
	for range places {
		g.Traces = append(g.Traces, ones[float32](ticks))
	}
	return g
}

// noGathers are gathers that are not valid.
func noGathers() []impl.Gather {
	short, long := gatherOfSize(3, 2), gatherOfSize(3, 2)
	short.Traces[1], long.Traces[1] = short.Traces[1][:2], ones[float32](4)
	few, many := gatherOfSize(3, 2), gatherOfSize(3, 2)
	few.Traces, many.Traces = few.Traces[:1], append(many.Traces, ones[float32](3))
	list := []impl.Gather{{}, short, long, few, many,
		gatherOfSize(0, 1), gatherOfSize(65, 1), gatherOfSize(1000, 1), gatherOfSize(1, 0), gatherOfSize(1, 17), gatherOfSize(64, 17),
		{Ticks: 1, Places: ones[float32](1)}, {Ticks: 1, Traces: [][]float32{{1}}}}
	for _, ticks := range []int64{-1, 0, 2, 4, 64, 65, 4294967299, math.MaxInt64, math.MinInt64} {
		g := gatherOfSize(3, 2)
		g.Ticks = ticks
		list = append(list, g)
	}
	for _, place := range []float32{infinite(), -infinite(), notNumber()} {
		for at := range 3 {
			g := gatherOfSize(3, 3)
			g.Places[at] = place
			list = append(list, g)
		}
	}
	return list
}

// noLists are not lists of chapter 4, which have 1 to 64 numbers.
func noLists() [][]float32 {
	return [][]float32{nil, {}, make([]float32, 65), ones[float32](65), ones[float32](128), ones[float32](1000)}
}

// someLists are lists of many lengths and of numbers of every kind.
func someLists() [][]float32 {
	var list [][]float32
	for _, k := range []int{1, 2, 3, 7, 16, 31, 63, 64} {
		list = append(list, wavy(k, uint32(k)))
	}
	return append(list, someNumbers(), filled(20, minusZero()))
}

func someSpeeds() []float32 {
	return []float32{1, 0.5, 2.3, 7, 0.03, 1e-30, 1e30, num(1), math.MaxFloat32}
}

// noSpeeds are numbers that are not speeds.
func noSpeeds() []float32 {
	return []float32{0, minusZero(), -num(1), -1, -math.MaxFloat32, infinite(), -infinite(), notNumber()}
}

func noPlaces() []float32 {
	return []float32{infinite(), -infinite(), notNumber()}
}

func TestLimitsOfGathers(t *testing.T) {
	isShown(t, "limits", show(int64(impl.MaxPlaces), int64(impl.MaxTicks)), "16;64;")
}
