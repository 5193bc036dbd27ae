package tests

import (
	"math"
	"strings"
	"testing"

	"loop.example/g01231/impl"
)

func TestAddEvent(t *testing.T) {
	minus, inf, nan, high := minusZero(), infinite(), notNumber(), float32(math.MaxFloat32)
	for _, c := range []struct {
		places             []float32
		trace              []float32
		start, speed, size float32
		want               string
	}{
		{[]float32{0, 3}, make([]float32, 8), 4, 1, 2, "8:00000000,40400000,:00000000,00000000,00000000,00000000,40000000,00000000,00000000,00000000,/00000000,00000000,00000000,00000000,00000000,40000000,00000000,00000000,/;true;"},
		{[]float32{0, 3, -3}, []float32{1, 1, 1, 1, 1, 1, 1, 1}, 4, 1, -0.25, "8:00000000,40400000,c0400000,:3f800000,3f800000,3f800000,3f800000,3f400000,3f800000,3f800000,3f800000,/3f800000,3f800000,3f800000,3f800000,3f800000,3f400000,3f800000,3f800000,/3f800000,3f800000,3f800000,3f800000,3f800000,3f400000,3f800000,3f800000,/;true;"},
		{[]float32{3}, make([]float32, 8), 4, 0.5, 1, "8:40400000,:00000000,00000000,00000000,00000000,00000000,00000000,00000000,3f800000,/;true;"},
		{[]float32{0}, make([]float32, 8), 7, 1, 1, "8:00000000,:00000000,00000000,00000000,00000000,00000000,00000000,00000000,3f800000,/;true;"},
		{[]float32{0}, make([]float32, 8), 7.4, 1, 1, "8:00000000,:00000000,00000000,00000000,00000000,00000000,00000000,00000000,3f800000,/;true;"},
		{[]float32{0}, make([]float32, 8), 7.5, 1, 1, "8:00000000,:00000000,00000000,00000000,00000000,00000000,00000000,00000000,00000000,/;true;"},
		{[]float32{0}, make([]float32, 8), 7.49999, 1, 1, "8:00000000,:00000000,00000000,00000000,00000000,00000000,00000000,00000000,3f800000,/;true;"},
		{[]float32{0}, make([]float32, 8), 8, 1, 1, "8:00000000,:00000000,00000000,00000000,00000000,00000000,00000000,00000000,00000000,/;true;"},
		{[]float32{0}, make([]float32, 8), 2.5, 1, 1, "8:00000000,:00000000,00000000,00000000,3f800000,00000000,00000000,00000000,00000000,/;true;"},
		{[]float32{0}, make([]float32, 8), 3.5, 1, 1, "8:00000000,:00000000,00000000,00000000,00000000,3f800000,00000000,00000000,00000000,/;true;"},
		{[]float32{0}, make([]float32, 8), 2.4999998, 1, 1, "8:00000000,:00000000,00000000,3f800000,00000000,00000000,00000000,00000000,00000000,/;true;"},
		{[]float32{0}, make([]float32, 8), 0.5, 1, 1, "8:00000000,:00000000,3f800000,00000000,00000000,00000000,00000000,00000000,00000000,/;true;"},
		{[]float32{0}, make([]float32, 8), 0.49999997, 1, 1, "8:00000000,:00000000,3f800000,00000000,00000000,00000000,00000000,00000000,00000000,/;true;"},
		{[]float32{0}, make([]float32, 8), 0.49999994, 1, 1, "8:00000000,:3f800000,00000000,00000000,00000000,00000000,00000000,00000000,00000000,/;true;"},
		{[]float32{0}, make([]float32, 8), 0.25, 1, 1, "8:00000000,:3f800000,00000000,00000000,00000000,00000000,00000000,00000000,00000000,/;true;"},
		{[]float32{0, minus}, make([]float32, 8), 0, 1, 3, "8:00000000,80000000,:40400000,00000000,00000000,00000000,00000000,00000000,00000000,00000000,/40400000,00000000,00000000,00000000,00000000,00000000,00000000,00000000,/;true;"},
		{[]float32{0, minus}, make([]float32, 8), minus, 1, 3, "8:00000000,80000000,:40400000,00000000,00000000,00000000,00000000,00000000,00000000,00000000,/40400000,00000000,00000000,00000000,00000000,00000000,00000000,00000000,/;true;"},
		{[]float32{1e+30}, make([]float32, 8), 0, 1, 1, "8:7149f2ca,:00000000,00000000,00000000,00000000,00000000,00000000,00000000,00000000,/;true;"},
		{[]float32{1}, make([]float32, 8), 0, 1e-30, 1, "8:3f800000,:00000000,00000000,00000000,00000000,00000000,00000000,00000000,00000000,/;true;"},
		{[]float32{-1}, make([]float32, 8), 0, num(1), 1, "8:bf800000,:00000000,00000000,00000000,00000000,00000000,00000000,00000000,00000000,/;true;"},
		{[]float32{high}, make([]float32, 8), 0, high, 1, "8:7f7fffff,:00000000,3f800000,00000000,00000000,00000000,00000000,00000000,00000000,/;true;"},
		{[]float32{-high}, make([]float32, 8), 1, 1e+30, 1, "8:ff7fffff,:00000000,00000000,00000000,00000000,00000000,00000000,00000000,00000000,/;true;"},
		{[]float32{1e+10}, make([]float32, 8), 2, 1e+30, 1, "8:501502f9,:00000000,00000000,3f800000,00000000,00000000,00000000,00000000,00000000,/;true;"},
		{[]float32{1e-30}, make([]float32, 8), 2, high, 1, "8:0da24260,:00000000,00000000,3f800000,00000000,00000000,00000000,00000000,00000000,/;true;"},
		{[]float32{0}, make([]float32, 8), 1e+20, 1, 1, "8:00000000,:00000000,00000000,00000000,00000000,00000000,00000000,00000000,00000000,/;true;"},
		{[]float32{0}, make([]float32, 8), high, 1, 1, "8:00000000,:00000000,00000000,00000000,00000000,00000000,00000000,00000000,00000000,/;true;"},
		{[]float32{5, 2, 1}, []float32{0.5, minus, inf, nan, -inf}, 0, 1, 1, "5:40a00000,40000000,3f800000,:3f000000,80000000,7f800000,7fc00000,ff800000,/3f000000,80000000,7f800000,7fc00000,ff800000,/3f000000,3f800000,7f800000,7fc00000,ff800000,/;true;"},
		{[]float32{5, 2, 1, 0}, []float32{0.5, minus, inf, nan, -inf}, 3, 1, -inf, "5:40a00000,40000000,3f800000,00000000,:3f000000,80000000,7f800000,7fc00000,ff800000,/3f000000,80000000,7f800000,7fc00000,ff800000,/3f000000,80000000,7f800000,7fc00000,ff800000,/3f000000,80000000,7f800000,7fc00000,ff800000,/;true;"},
		{[]float32{0, 1}, []float32{minus, minus, minus}, 1, 1, minus, "3:00000000,3f800000,:80000000,80000000,80000000,/80000000,80000000,80000000,/;true;"},
		{[]float32{0}, []float32{0, 0, 0}, 1, 1, nan, "3:00000000,:00000000,7fc00000,00000000,/;true;"},
		{[]float32{1, 2}, []float32{1e+08, 1e+08, 1e+08}, 1, 1, 1, "3:3f800000,40000000,:4cbebc20,4cbebc20,4cbebc20,/4cbebc20,4cbebc20,4cbebc20,/;true;"},
		{[]float32{2.5, -1.7, 6.3, 4.4}, make([]float32, 8), 1.7, 1.3, 0.1, "8:40200000,bfd9999a,40c9999a,408ccccd,:00000000,00000000,00000000,3dcccccd,00000000,00000000,00000000,00000000,/00000000,00000000,3dcccccd,00000000,00000000,00000000,00000000,00000000,/00000000,00000000,00000000,00000000,00000000,3dcccccd,00000000,00000000,/00000000,00000000,00000000,00000000,3dcccccd,00000000,00000000,00000000,/;true;"},
		{[]float32{0}, []float32{0}, 0, 1, 1, "1:00000000,:3f800000,/;true;"},
		{[]float32{0}, []float32{0}, 0.5, 1, 1, "1:00000000,:00000000,/;true;"},
		{[]float32{3}, []float32{0, 0}, 0, 3, 1, "2:40400000,:00000000,3f800000,/;true;"},
		{[]float32{1.5}, make([]float32, 8), 2, 1, 1, "8:3fc00000,:00000000,00000000,00000000,3f800000,00000000,00000000,00000000,00000000,/;true;"},
	} {
		got := show(impl.AddEvent(sameTraces(c.places, c.trace), c.start, c.speed, c.size))
		isShown(t, show(c.places, c.start, c.speed, c.size), got, c.want)
	}
}

func TestAddSomeEvents(t *testing.T) {
	var all strings.Builder
	for _, g := range someGathers() {
		for _, speed := range someSpeeds() {
			for _, start := range []float32{0, minusZero(), 3, 12.3, 63.49, 1e10, 1e30} {
				all.WriteString(show(impl.AddEvent(g, start, speed, 0.7)))
			}
		}
		for _, size := range someNumbers() {
			all.WriteString(show(impl.AddEvent(g, 0.4, 3, size)))
		}
	}
	isShown(t, "some", digest(all.String()), "50ea2da1")
}

func TestEventsThatAreNone(t *testing.T) {
	g := gatherOfSize(5, 3)
	for _, start := range []float32{-num(1), -1, -1e30, infinite(), -infinite(), notNumber()} {
		isShown(t, show(start), show(impl.AddEvent(g, start, 1, 1)), noGather)
	}
	for _, size := range someNumbers() {
		_, ok := impl.AddEvent(g, minusZero(), 1, size)
		isShown(t, show(size), show(ok), "true;")
	}
}

func TestCorrectAndBendTrace(t *testing.T) {
	minus, inf, nan, high := minusZero(), infinite(), notNumber(), float32(math.MaxFloat32)
	for _, c := range []struct {
		list          []float32
		place, speed  float32
		correct, bend string
	}{
		{[]float32{0, 0, 0, 0, 0, 7}, 3, 1, "00000000,00000000,00000000,3fd967e8,40e00000,00000000,;true;", "00000000,00000000,00000000,00000000,00000000,00000000,;true;"},
		{[]float32{0, 0, 0, 0, 7, 0}, 3, 1, "00000000,3f91669c,4087a4bb,40a9a606,00000000,00000000,;true;", "00000000,00000000,00000000,00000000,00000000,40e00000,;true;"},
		{[]float32{1, 2, 3, 4}, 0, 1, "3f800000,40000000,40400000,40800000,;true;", "3f800000,40000000,40400000,40800000,;true;"},
		{[]float32{1, 2, 3, 4}, minus, 2, "3f800000,40000000,40400000,40800000,;true;", "3f800000,40000000,40400000,40800000,;true;"},
		{[]float32{1, 2, 3, 4}, -1.5, 1, "40200000,403360ad,40600000,00000000,;true;", "00000000,00000000,4014a9fe,406646e1,;true;"},
		{[]float32{1, 2, 3, 4}, 1.5, 1, "40200000,403360ad,40600000,00000000,;true;", "00000000,00000000,4014a9fe,406646e1,;true;"},
		{[]float32{1, 2, 3, 4}, 1, 2, "3fc00000,40078dde,4043f07b,00000000,;true;", "00000000,3feed9ec,403bef7b,407d5087,;true;"},
		{[]float32{1, 2, 3, 4}, 3, 1, "40800000,00000000,00000000,00000000,;true;", "00000000,00000000,00000000,3f800000,;true;"},
		{[]float32{1, 2, 3, 4}, 3.01, 1, "00000000,00000000,00000000,00000000,;true;", "00000000,00000000,00000000,00000000,;true;"},
		{[]float32{1, 2, 3, 4}, 100, 1, "00000000,00000000,00000000,00000000,;true;", "00000000,00000000,00000000,00000000,;true;"},
		{[]float32{5}, 0, 1, "40a00000,;true;", "40a00000,;true;"},
		{[]float32{5}, 1, 1, "00000000,;true;", "00000000,;true;"},
		{[]float32{5}, 1e-30, high, "40a00000,;true;", "40a00000,;true;"},
		{[]float32{5}, 1e-10, 1e+30, "40a00000,;true;", "40a00000,;true;"},
		{[]float32{1, 2, 3}, 1e+30, 1e-30, "00000000,00000000,00000000,;true;", "00000000,00000000,00000000,;true;"},
		{[]float32{1, 2, 3}, high, num(1), "00000000,00000000,00000000,;true;", "00000000,00000000,00000000,;true;"},
		{[]float32{1, 2, 3}, -high, 1, "00000000,00000000,00000000,;true;", "00000000,00000000,00000000,;true;"},
		{[]float32{1, 2, 3}, 1e-30, high, "3f800000,40000000,40400000,;true;", "3f800000,40000000,40400000,;true;"},
		{[]float32{1, 2, 3}, 1, num(1), "00000000,00000000,00000000,;true;", "00000000,00000000,00000000,;true;"},
		{[]float32{1, 2, 3}, 1e+19, 1, "00000000,00000000,00000000,;true;", "00000000,00000000,00000000,;true;"},
		{[]float32{1, 2, 3}, 1e+20, 1, "00000000,00000000,00000000,;true;", "00000000,00000000,00000000,;true;"},
		{[]float32{1, inf, 3, nan, 5}, 0, 1, "3f800000,7f800000,40400000,7fc00000,40a00000,;true;", "3f800000,7f800000,40400000,7fc00000,40a00000,;true;"},
		{[]float32{1, inf, 3, nan, 5}, 2, 1, "40400000,7fc00000,7fc00000,7fc00000,00000000,;true;", "00000000,00000000,3f800000,7fc00000,7fc00000,;true;"},
		{[]float32{1, inf, 3, nan, 5}, 1, 1.3, "7f800000,7fc00000,7fc00000,7fc00000,00000000,;true;", "00000000,7f800000,7fc00000,7fc00000,7fc00000,;true;"},
		{[]float32{nan, nan}, 0, 1, "7fc00000,7fc00000,;true;", "7fc00000,7fc00000,;true;"},
		{[]float32{0.3, -0.7, 0.1, 0.9, 0.2, -0.4}, 1.1, 0.7, "be78af86,bc222500,3f08e89d,3f211cd4,3caf9f98,00000000,;true;", "00000000,00000000,bf02a030,3f0b5e20,3ed9a97f,be7defdb,;true;"},
		{[]float32{0.3, -0.7, 0.1, 0.9, 0.2, -0.4}, 2.9, 2.3, "befb8c3c,be59acde,3ec8681f,3f38d919,3dab308d,00000000,;true;", "00000000,00000000,be841a36,3f2d8016,3eaf7c54,be9b28ce,;true;"},
		{[]float32{0.3, -0.7, 0.1, 0.9, 0.2, -0.4}, -4, 1, "3e4ccccd,3e0129fa,bdaa8f8e,becccccd,00000000,00000000,;true;", "00000000,00000000,00000000,00000000,3e99999a,3f666666,;true;"},
		{[]float32{minus, minus, minus}, 1, 1, "80000000,00000000,00000000,;true;", "00000000,80000000,00000000,;true;"},
	} {
		isShown(t, "CorrectTrace "+show(c.list, c.place, c.speed), show(impl.CorrectTrace(c.list, c.place, c.speed)), c.correct)
		isShown(t, "BendTrace "+show(c.list, c.place, c.speed), show(impl.BendTrace(c.list, c.place, c.speed)), c.bend)
	}
}

func TestCorrectAndBendSome(t *testing.T) {
	var corrected, bent strings.Builder
	for k, list := range someLists() {
		for _, place := range append(wavy(10, uint32(k)), 0, minusZero(), 7, -30, 1e30, -1e-40) {
			for _, speed := range someSpeeds() {
				corrected.WriteString(show(impl.CorrectTrace(list, place, speed)))
				bent.WriteString(show(impl.BendTrace(list, place, speed)))
			}
		}
	}
	isShown(t, "CorrectTrace", digest(corrected.String()), "ae7dc219")
	isShown(t, "BendTrace", digest(bent.String()), "dbc8c069")
	corrected.Reset()
	bent.Reset()
	for _, g := range someGathers() {
		for _, speed := range someSpeeds() {
			corrected.WriteString(show(impl.CorrectGather(g, speed)))
			bent.WriteString(show(impl.BendGather(g, speed)))
		}
	}
	isShown(t, "CorrectGather", digest(corrected.String()), "cc20228b")
	isShown(t, "BendGather", digest(bent.String()), "4db1720a")
}

func TestGathersAreCorrectedTraceByTrace(t *testing.T) {
	for _, g := range someGathers() {
		for _, speed := range someSpeeds() {
			corrected, one := impl.CorrectGather(g, speed)
			bent, two := impl.BendGather(g, speed)
			isShown(t, "both", show(one, two, corrected.Ticks, bent.Ticks), show(true, true, g.Ticks, g.Ticks))
			isShown(t, "places", show(corrected.Places, bent.Places), show(g.Places, g.Places))
			for i, trace := range g.Traces {
				isShown(t, "corrected", show(corrected.Traces[i], true), show(impl.CorrectTrace(trace, g.Places[i], speed)))
				isShown(t, "bent", show(bent.Traces[i], true), show(impl.BendTrace(trace, g.Places[i], speed)))
			}
		}
	}
}

func TestListsThatAreNotCorrected(t *testing.T) {
	for _, list := range noLists() {
		isShown(t, show(len(list)), show(impl.CorrectTrace(list, 1, 1))+show(impl.BendTrace(list, 1, 1)), noList+noList)
	}
	list := []float32{1, 2, 3}
	for _, place := range noPlaces() {
		isShown(t, show(place), show(impl.CorrectTrace(list, place, 1))+show(impl.BendTrace(list, place, 1))+show(impl.StretchAt(1, place, 1)),
			noList+noList+noNumber)
	}
}

// All functions with a speed fail for numbers that are none.
func TestSpeedsThatAreNone(t *testing.T) {
	g, list := gatherOfSize(5, 3), []float32{1, 2, 3}
	for _, speed := range noSpeeds() {
		got := show(impl.CorrectTrace(list, 1, speed)) + show(impl.BendTrace(list, 1, speed)) + show(impl.ScanSpeeds(g, []float32{speed}, 0, 0)) +
			show(impl.ScanSpeeds(g, []float32{1, speed}, 0, 0)) + show(impl.ScanSpeeds(g, []float32{speed, 1}, 0, 0))
		isShown(t, "lists "+show(speed), got, strings.Repeat(noList, 5))
		got = show(impl.AddEvent(g, 1, speed, 1)) + show(impl.CorrectGather(g, speed)) + show(impl.BendGather(g, speed)) +
			show(impl.MuteGather(g, speed)) + show(impl.MuteStretch(g, speed, 1))
		isShown(t, "gathers "+show(speed), got, strings.Repeat(noGather, 5))
		isShown(t, "stretch "+show(speed), show(impl.StretchAt(1, 1, speed)), noNumber)
		// Where there is no tick but the first, no stretch tells that a speed is none.
		isShown(t, "one tick "+show(speed), show(impl.MuteStretch(gatherOfSize(1, 2), speed, 1)), noGather)
		isShown(t, "best "+show(speed), show(impl.BestSpeed(g, []float32{1, speed}, 0, 0)), noFirst)
	}
	for _, speed := range someSpeeds() {
		_, one := impl.CorrectTrace(list, 1, speed)
		_, two := impl.BendTrace(list, 1, speed)
		_, three := impl.AddEvent(g, 1, speed, 1)
		_, four := impl.MuteGather(g, speed)
		_, five := impl.ScanSpeeds(g, []float32{speed}, 0, 0)
		isShown(t, show(speed), show(one, two, three, four, five), "true;true;true;true;true;")
	}
}
