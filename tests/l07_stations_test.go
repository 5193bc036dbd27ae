package tests

import (
	"math"
	"slices"
	"strings"
	"testing"

	"loop.example/g01231/impl"
)

// ramp is a frame of the station 7 with so many numbers, which tell their times.
func ramp(start int64, count int) impl.Frame {
	f := frameOf(7, start)
	for k := range count {
		f.Trace = append(f.Trace, float32(start+int64(k)))
	}
	return f
}

func TestSortFrames(t *testing.T) {
	a, b, c, d := frameOf(0, 5, 1), frameOf(0, 5, 2), frameOf(0, 5, 1, 0), frameOf(0, 4, 9)
	e, f, g := frameOf(1, 0, 3), frameOf(200, 0, 4), frameOf(1, 100000, 5)
	for _, r := range []struct{ list, want []impl.Frame }{
		{nil, nil},
		{frames(), nil},
		{frames(a), frames(a)},
		{frames(a, b, c), frames(a, b, c)},
		{frames(c, b, a), frames(c, b, a)},
		{frames(b, d, a, d, c), frames(d, d, b, a, c)},
		{frames(f, e, a), frames(a, e, f)},
		{frames(f, g, e, a), frames(a, e, g, f)},
		{frames(a, e, f), frames(a, e, f)},
		{frames(f, a, f, b, f, a, e, b, d, c, g, e), frames(d, a, b, a, b, c, e, e, g, f, f, f)},
		{slices.Repeat(frames(f, a), 6), append(slices.Repeat(frames(a), 6), slices.Repeat(frames(f), 6)...)},
	} {
		isShown(t, show(r.list), show(impl.SortFrames(r.list)), show(r.want, true))
	}
	var all strings.Builder
	for _, list := range someFrameLists() {
		all.WriteString(show(impl.SortFrames(list)))
	}
	isShown(t, "some", digest(all.String()), "baf125bc")
}

// Frames that are equal in Station and Start keep their order, however many there are.
func TestSortedFramesKeepTheirOrder(t *testing.T) {
	for seed := range uint32(300) {
		list := framesBy(12, seed)
		for i := range list {
			list[i].Start %= 3
			list[i].Trace = nums(float32(i))
		}
		sorted, ok := impl.SortFrames(list)
		isShown(t, show(seed), show(len(sorted), ok), "12;true;")
		for i, f := range sorted {
			isShown(t, show(seed), show(f), show(list[int(f.Trace[0])]))
			if i == 0 {
				continue
			}
			g := sorted[i-1]
			rises := g.Station < f.Station || g.Station == f.Station && (g.Start < f.Start || g.Start == f.Start && g.Trace[0] < f.Trace[0])
			isShown(t, show(list, i), show(rises), "true;")
		}
	}
}

func wildStations() []int64 {
	return []int64{0, 1, 6, 7, 8, 199, 200, -1, 201, 256, -256, 263, 7 + 1<<32, math.MaxInt64, math.MinInt64}
}

func TestOfStation(t *testing.T) {
	a, b, c := frameOf(0, 5, 1), frameOf(7, 5, 2), frameOf(7, 3, 4)
	list := frames(b, a, c, b)
	isShown(t, "0", show(impl.OfStation(list, 0)), show(frames(a), true))
	isShown(t, "7", show(impl.OfStation(list, 7)), show(frames(c, b, b), true))
	isShown(t, "all", show(impl.OfStation(frames(b, c), 7)), show(frames(c, b), true))
	for _, station := range []int64{1, 6, 8, 199, 200} {
		isShown(t, show(station), show(impl.OfStation(list, station)), ";true;")
		isShown(t, show(station), show(impl.OfStation(nil, station)), ";true;")
	}
	var all strings.Builder
	for _, list := range someFrameLists() {
		for _, station := range wildStations() {
			all.WriteString(show(impl.OfStation(list, station)))
		}
	}
	isShown(t, "some", digest(all.String()), "cd61bce7")
}

func TestStationsOf(t *testing.T) {
	for _, c := range []struct {
		list []impl.Frame
		want string
	}{
		{nil, "[];true;"},
		{frames(), "[];true;"},
		{frames(frameOf(0, 0, 1)), "[0];true;"},
		{frames(frameOf(200, 0, 1)), "[200];true;"},
		{frames(frameOf(200, 0, 1), frameOf(0, 5, 1)), "[0 200];true;"},
		{frames(frameOf(5, 0, 1), frameOf(5, 5, 1), frameOf(5, 0, 1)), "[5];true;"},
		{frames(frameOf(9, 0, 1), frameOf(5, 5, 1), frameOf(9, 0, 1), frameOf(6, 1, 1), frameOf(5, 1, 1)), "[5 6 9];true;"},
	} {
		isShown(t, show(c.list), show(impl.StationsOf(c.list)), c.want)
	}
	var list []impl.Frame
	for k := range int64(12) {
		list = append(list, frameOf(200-17*k, k, 1))
	}
	isShown(t, "twelve", show(impl.StationsOf(list)), "[13 30 47 64 81 98 115 132 149 166 183 200];true;")
	var all strings.Builder
	for _, list := range someFrameLists() {
		all.WriteString(show(impl.StationsOf(list)))
	}
	isShown(t, "some", digest(all.String()), "7e8d6001")
}

func TestSplitFrame(t *testing.T) {
	f := frameOf(3, 10, 1, minusZero(), 3, -4)
	for _, c := range []struct {
		f    impl.Frame
		at   int64
		want string
	}{
		{f, 1, show(frameOf(3, 10, 1), frameOf(3, 11, minusZero(), 3, -4), true)},
		{f, 2, show(frameOf(3, 10, 1, minusZero()), frameOf(3, 12, 3, -4), true)},
		{f, 3, show(frameOf(3, 10, 1, minusZero(), 3), frameOf(3, 13, -4), true)},
		{f, 0, noPieces},
		{f, 4, noPieces},
		{f, 5, noPieces},
		{f, -1, noPieces},
		{f, 1<<32 + 1, noPieces},
		{f, math.MaxInt64, noPieces},
		{f, math.MinInt64, noPieces},
		{frameOf(3, 10, 1), 0, noPieces},
		{frameOf(3, 10, 1), 1, noPieces},
		{frameOf(0, 99999, 1, 2, 3), 1, show(frameOf(0, 99999, 1), frameOf(0, 100000, 2, 3), true)},
		{frameOf(0, 99999, 1, 2, 3), 2, noPieces},
		{frameOf(0, 100000, 1, 2), 1, noPieces},
		{frameOf(200, 0, 1, 2), 1, show(frameOf(200, 0, 1), frameOf(200, 1, 2), true)},
	} {
		isShown(t, show(c.f, c.at), show(impl.SplitFrame(c.f, c.at)), c.want)
	}
	for start := int64(99873); start <= 100000; start++ {
		for _, at := range []int64{1, 2, 64, 126, 127, 128} {
			want := noPieces
			if start+at <= 100000 && at < 128 {
				a := wavy(128, 1)
				want = show(frameOf(5, start, a[:at]...), frameOf(5, start+at, a[at:]...), true)
			}
			isShown(t, show(start, at), show(impl.SplitFrame(frameOf(5, start, wavy(128, 1)...), at)), want)
		}
	}
}

func TestJoinFrames(t *testing.T) {
	f := frameOf(3, 10, 1, minusZero())
	most := just(twoTo(99), -1)
	for _, c := range []struct {
		a, b impl.Frame
		want string
	}{
		{f, frameOf(3, 12, 3), show(frameOf(3, 10, 1, minusZero(), 3), true)},
		{f, frameOf(3, 12, most, -most), show(frameOf(3, 10, 1, minusZero(), most, -most), true)},
		{f, frameOf(3, 11, 3), noFrame},
		{f, frameOf(3, 13, 3), noFrame},
		{f, frameOf(3, 10, 3), noFrame},
		{f, frameOf(3, 9, 3), noFrame},
		{f, frameOf(3, 0, wavy(10, 1)...), noFrame},
		{f, frameOf(4, 12, 3), noFrame},
		{f, frameOf(2, 12, 3), noFrame},
		{f, frameOf(0, 12, 3), noFrame},
		{f, f, noFrame},
		{frameOf(3, 12, 3), f, noFrame},
		{frameOf(0, 0, 5), frameOf(0, 1, 6), show(frameOf(0, 0, 5, 6), true)},
		{frameOf(200, 99999, 5), frameOf(200, 100000, 6, 7), show(frameOf(200, 99999, 5, 6, 7), true)},
		{frameOf(200, 100000, 5), frameOf(200, 100001, 6, 7), noFrame},
		{frameOf(1, 5, wavy(127, 1)...), frameOf(1, 132, 9), show(frameOf(1, 5, append(wavy(127, 1), 9)...), true)},
		{frameOf(1, 5, wavy(128, 1)...), frameOf(1, 133, 9), noFrame},
		{frameOf(1, 5, wavy(127, 1)...), frameOf(1, 132, 9, 9), noFrame},
		{frameOf(1, 5, 9), frameOf(1, 6, wavy(127, 1)...), show(frameOf(1, 5, append(nums(9), wavy(127, 1)...)...), true)},
		{frameOf(1, 5, 9), frameOf(1, 6, wavy(128, 1)...), noFrame},
		{frameOf(1, 5, wavy(64, 1)...), frameOf(1, 69, wavy(64, 2)...), show(frameOf(1, 5, append(wavy(64, 1), wavy(64, 2)...)...), true)},
		{frameOf(1, 5, wavy(64, 1)...), frameOf(1, 69, wavy(65, 2)...), noFrame},
		{frameOf(1, 5, wavy(128, 1)...), frameOf(1, 133, wavy(128, 2)...), noFrame},
	} {
		isShown(t, show(c.a, c.b), show(impl.JoinFrames(c.a, c.b)), c.want)
	}
}

func TestGapsAndSpans(t *testing.T) {
	other := frameOf(6, 3, 1, 2, 3)
	for _, c := range []struct {
		list       []impl.Frame
		gaps, span string
	}{
		{nil, "[];true;", noSpan},
		{frames(other), "[];true;", noSpan},
		{frames(ramp(0, 4)), "[];true;", "0;4;true;"},
		{frames(ramp(0, 4), ramp(7, 1)), "[[4 7]];true;", "0;8;true;"},
		{frames(ramp(7, 1), ramp(0, 4)), "[[4 7]];true;", "0;8;true;"},
		{frames(ramp(7, 1), other, ramp(0, 4)), "[[4 7]];true;", "0;8;true;"},
		{frames(ramp(3, 4), ramp(7, 1)), "[];true;", "3;8;true;"},
		{frames(ramp(3, 4), ramp(8, 1)), "[[7 8]];true;", "3;9;true;"},
		{frames(ramp(3, 4), ramp(5, 9)), "[];true;", "3;14;true;"},
		{frames(ramp(3, 9), ramp(5, 2)), "[];true;", "3;12;true;"},
		{frames(ramp(3, 9), ramp(5, 2), ramp(12, 1)), "[];true;", "3;13;true;"},
		{frames(ramp(3, 9), ramp(5, 2), ramp(13, 1)), "[[12 13]];true;", "3;14;true;"},
		{frames(ramp(3, 9), ramp(5, 2), ramp(9, 2), ramp(20, 3)), "[[12 20]];true;", "3;23;true;"},
		{frames(ramp(5, 1), ramp(5, 4), ramp(5, 2)), "[];true;", "5;9;true;"},
		{frames(ramp(5, 4), ramp(5, 1), ramp(10, 2)), "[[9 10]];true;", "5;12;true;"},
		{frames(ramp(30, 2), ramp(20, 2), ramp(10, 2), ramp(0, 2)), "[[2 10] [12 20] [22 30]];true;", "0;32;true;"},
		{frames(ramp(100000, 128), ramp(0, 1)), "[[1 100000]];true;", "0;100128;true;"},
		{frames(ramp(100000, 1), ramp(99872, 128)), "[];true;", "99872;100001;true;"},
		{frames(ramp(100000, 1), ramp(99871, 128)), "[[99999 100000]];true;", "99871;100001;true;"},
		{frames(ramp(100, 128), ramp(150, 20), ramp(228, 1), ramp(50, 50)), "[];true;", "50;229;true;"},
	} {
		isShown(t, show(c.list), show(impl.GapsOf(c.list, 7)), c.gaps)
		isShown(t, show(c.list), show(impl.SpanOf(c.list, 7)), c.span)
		for _, station := range []int64{0, 8, 199, 200} {
			isShown(t, show(c.list, station), show(impl.GapsOf(c.list, station)), "[];true;")
			isShown(t, show(c.list, station), show(impl.SpanOf(c.list, station)), noSpan)
		}
	}
	var all strings.Builder
	for _, list := range someFrameLists() {
		for _, station := range wildStations() {
			all.WriteString(show(impl.GapsOf(list, station)))
			all.WriteString(show(impl.SpanOf(list, station)))
		}
	}
	isShown(t, "some", digest(all.String()), "5bf1dbd0")
}

func TestFillFrames(t *testing.T) {
	minus := minusZero()
	a, b, c := frameOf(7, 3, 1, 2, minus), frameOf(7, 5, 8, 9, 10), frameOf(7, 3, 4)
	for _, r := range []struct {
		list                 []impl.Frame
		station, from, count int64
		want                 string
	}{
		{frames(a), 7, 3, 3, show(nums(1, 2, minus), "[true true true]", true)},
		{frames(a), 7, 2, 5, show(nums(0, 1, 2, minus, 0), "[false true true true false]", true)},
		{frames(a), 7, 4, 1, show(nums(2), "[true]", true)},
		{frames(a), 7, 6, 2, show(nums(0, 0), "[false false]", true)},
		{frames(a), 7, 0, 3, show(nums(0, 0, 0), "[false false false]", true)},
		{frames(a), 6, 3, 2, show(nums(0, 0), "[false false]", true)},
		{frames(a), 0, 3, 2, show(nums(0, 0), "[false false]", true)},
		{frames(a), 200, 3, 2, show(nums(0, 0), "[false false]", true)},
		{frames(a), -1, 3, 2, noFill},
		{frames(a), 201, 3, 2, noFill},
		{nil, 7, 3, 2, show(nums(0, 0), "[false false]", true)},
		{nil, -1, 3, 2, noFill},
		{frames(a, b), 7, 3, 6, show(nums(1, 2, minus, 9, 10, 0), "[true true true true true false]", true)},
		{frames(b, a), 7, 3, 6, show(nums(1, 2, minus, 9, 10, 0), "[true true true true true false]", true)},
		{frames(a, c), 7, 3, 2, show(nums(1, 2), "[true true]", true)},
		{frames(c, a), 7, 3, 2, show(nums(4, 2), "[true true]", true)},
		{frames(b, c, a), 7, 3, 4, show(nums(4, 2, minus, 9), "[true true true true]", true)},
		{frames(b, frameOf(8, 4, 5), c), 7, 3, 4, show(nums(4, 0, 8, 9), "[true false true true]", true)},
		{frames(b, frameOf(8, 4, 5), c), 8, 3, 3, show(nums(0, 5, 0), "[false true false]", true)},
		{frames(ramp(100000, 128)), 7, 100000, 2, show(nums(100000, 100001), "[true true]", true)},
		{frames(ramp(99990, 128)), 7, 100000, 2, show(nums(100000, 100001), "[true true]", true)},
		{frames(ramp(0, 2)), 7, 100000, 1, show(nums(0), "[false]", true)},
		{frames(ramp(100000, 2)), 7, 0, 1, show(nums(0), "[false]", true)},
	} {
		isShown(t, show(r.list, r.station, r.from, r.count), show(impl.FillFrames(r.list, r.station, r.from, r.count)), r.want)
	}
	numbers, has, ok := impl.FillFrames(frames(ramp(100000, 128)), 7, 100000, 128)
	isShown(t, "128", show(numbers, has, ok), show(ramp(100000, 128).Trace, slices.Repeat([]bool{true}, 128), true))
	var all strings.Builder
	for _, list := range someFrameLists() {
		for _, station := range []int64{0, 7, 200, 1, -1, 201} {
			for _, from := range []int64{0, 5, 30, 100000} {
				all.WriteString(show(impl.FillFrames(list, station, from, 20)))
			}
		}
	}
	isShown(t, "some", digest(all.String()), "74a29d19")
}

// What is no station fails, whatever the frames are; a station without a frame does
// so for its span only.
func TestStationsThatAreNone(t *testing.T) {
	ends := frames(frameOf(200, 0, 1, 2), frameOf(0, 0, 3, 4), frameOf(7, 5, 5), frameOf(0, 5, 6), frameOf(200, 5, 7), frameOf(1, 5, 8))
	lists := append(someFrameLists(), frames(), frames(frameOf(1, 0, 1, 2)), ends)
	for _, list := range lists {
		for _, station := range append(noStations(), -7, -249, 263, 7+1<<32) {
			isShown(t, show(list, station), show(impl.OfStation(list, station)), noList)
			isShown(t, show(list, station), show(impl.GapsOf(list, station)), noTimes)
			isShown(t, show(list, station), show(impl.SpanOf(list, station)), noSpan)
			for _, from := range []int64{0, 100000} {
				isShown(t, show(list, station), show(impl.FillFrames(list, station, from, 2)), noFill)
			}
		}
	}
	for _, list := range [][]impl.Frame{nil, frames(), frames(frameOf(1, 0, 1, 2))} {
		for _, station := range []int64{0, 2, 199, 200} {
			isShown(t, show(list, station), show(impl.OfStation(list, station)), ";true;")
			isShown(t, show(list, station), show(impl.GapsOf(list, station)), "[];true;")
			isShown(t, show(list, station), show(impl.SpanOf(list, station)), noSpan)
			isShown(t, show(list, station), show(impl.FillFrames(list, station, 0, 2)), show(nums(0, 0), "[false false]", true))
		}
	}
	for station, want := range map[int64]string{0: "[[2 5]];true;0;6;true;", 200: "[[2 5]];true;0;6;true;"} {
		isShown(t, show(station), show(impl.GapsOf(ends, station))+show(impl.SpanOf(ends, station)), want)
	}
	isShown(t, "0", show(impl.FillFrames(ends, 0, 1, 2)), show(nums(4, 0), "[true false]", true))
	isShown(t, "200", show(impl.FillFrames(ends, 200, 1, 2)), show(nums(2, 0), "[true false]", true))
}

func TestTimesThatAreNone(t *testing.T) {
	for _, list := range [][]impl.Frame{nil, frames(ramp(0, 4)), framesBy(12, 4)} {
		for _, from := range noStarts() {
			isShown(t, show(from), show(impl.FillFrames(list, 7, from, 4)), noFill)
			isShown(t, show(from), show(impl.SumStations(list, from, 4)), noFill)
		}
		for _, count := range beyond(1, 128) {
			isShown(t, show(count), show(impl.FillFrames(list, 7, 0, count)), noFill)
			isShown(t, show(count), show(impl.FillFrames(list, -1, 0, count)), noFill)
			isShown(t, show(count), show(impl.SumStations(list, 0, count)), noFill)
		}
		for _, from := range []int64{0, 1, 99999, 100000} {
			for _, count := range []int64{1, 2, 127, 128} {
				numbers, has, ok := impl.FillFrames(list, 7, from, count)
				isShown(t, show(from, count), show(len(numbers), len(has), ok), show(count, count, true))
				sums, counts, ok := impl.SumStations(list, from, count)
				isShown(t, show(from, count), show(len(sums), len(counts), ok), show(count, count, true))
			}
		}
	}
}

func TestLateFrames(t *testing.T) {
	of := func(station, start int64) impl.Frame { return frameOf(station, start, 1, 2) }
	for _, c := range []struct {
		list []impl.Frame
		want string
	}{
		{nil, "[];true;"},
		{frames(of(1, 5)), "[];true;"},
		{frames(of(1, 5), of(1, 5)), "[];true;"},
		{frames(of(1, 5), of(1, 6)), "[];true;"},
		{frames(of(1, 5), of(1, 4)), "[1];true;"},
		{frames(of(1, 5), of(2, 4)), "[];true;"},
		{frames(of(0, 1), of(0, 0)), "[1];true;"},
		{frames(of(1, 5), of(1, 0), of(1, 4), of(1, 5), of(1, 6)), "[1 2];true;"},
		{frames(of(1, 9), of(2, 1), of(3, 2), of(2, 7), of(3, 1), of(1, 8), of(2, 6), of(3, 2), of(1, 9)), "[4 5 6];true;"},
		{frames(of(200, 100000), of(0, 0), of(200, 99999), of(0, 0)), "[2];true;"},
		{frames(of(1, 1), of(1, 9), of(1, 5), of(1, 6), of(1, 7)), "[2 3 4];true;"},
		{frames(of(4, 12), of(4, 11), of(4, 10), of(4, 9), of(4, 8), of(4, 7), of(4, 6), of(4, 5), of(4, 4), of(4, 3), of(4, 2), of(4, 1)),
			"[1 2 3 4 5 6 7 8 9 10 11];true;"},
	} {
		isShown(t, show(c.list), show(impl.LateFrames(c.list)), c.want)
	}
	var all strings.Builder
	for _, list := range someFrameLists() {
		all.WriteString(show(impl.LateFrames(list)))
	}
	isShown(t, "some", digest(all.String()), "d34e3a6d")
}

func TestSumStations(t *testing.T) {
	minus, great := minusZero(), float32(1<<24)
	most := just(twoTo(99), -1)
	for _, c := range []struct {
		list        []impl.Frame
		from, count int64
		want        string
	}{
		{nil, 0, 2, show(nums(0, 0), "[0 0]", true)},
		{frames(frameOf(1, 0, 1, 2, 3, 4), frameOf(0, 1, -1, -2)), 0, 5, show(nums(1, 1, 1, 4, 0), "[1 2 2 1 0]", true)},
		{frames(frameOf(1, 0, minus, minus), frameOf(0, 1, minus)), 0, 3, show(nums(0, 0, 0), "[1 2 0]", true)},
		{frames(frameOf(1, 5, 1), frameOf(1, 5, 2), frameOf(2, 5, 4)), 4, 3, show(nums(0, 5, 0), "[0 2 0]", true)},
		// In ascending order of stations, whatever the order of the frames.
		{frames(frameOf(0, 5, great), frameOf(1, 5, 1), frameOf(2, 5, 1)), 5, 1, show(nums(great), "[3]", true)},
		{frames(frameOf(2, 5, 1), frameOf(1, 5, 1), frameOf(0, 5, great)), 5, 1, show(nums(great), "[3]", true)},
		{frames(frameOf(2, 5, great), frameOf(1, 5, 1), frameOf(0, 5, 1)), 5, 1, show(nums(great+2), "[3]", true)},
		{frames(frameOf(0, 5, 1), frameOf(1, 5, 1), frameOf(2, 5, great)), 5, 1, show(nums(great+2), "[3]", true)},
		{frames(frameOf(100, 5, 1), frameOf(9, 5, great), frameOf(20, 5, 1)), 5, 1, show(nums(great), "[3]", true)},
		{frames(frameOf(0, 0, most), frameOf(1, 0, most), frameOf(2, 0, most), frameOf(3, 0, most)), 0, 1, show(nums(most*4), "[4]", true)},
		{frames(frameOf(0, 0, 1), frameOf(1, 0, -1), frameOf(2, 0, minus)), 0, 1, show(nums(0), "[3]", true)},
		{frames(ramp(100000, 128), frameOf(200, 100000, 1)), 100000, 2, show(nums(100001, 100001), "[2 1]", true)},
	} {
		isShown(t, show(c.list, c.from, c.count), show(impl.SumStations(c.list, c.from, c.count)), c.want)
	}
	var all strings.Builder
	for _, list := range someFrameLists() {
		for _, from := range []int64{0, 5, 30, 100000} {
			all.WriteString(show(impl.SumStations(list, from, 30)))
		}
	}
	isShown(t, "some", digest(all.String()), "67dd52ec")
}
