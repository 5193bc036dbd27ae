package tests

import (
	"slices"
	"testing"

	"loop.example/g01231/impl"
)

func TestValidFrame(t *testing.T) {
	most, minus := just(twoTo(99), -1), minusZero()
	for _, f := range append(append(someFrames(), edgeFrames()...),
		frameOf(0, 0, 0), frameOf(0, 0, minus), frameOf(200, 100000, 1), frameOf(0, 100000, ones[float32](128)...), frameOf(200, 0, num(1), -num(1)),
		frameOf(1, 1, most, -most), frameOf(1, 1, num(0x007fffff), num(0x80800000)), frameOf(199, 99999, 1e-30)) {
		isShown(t, showFrame(f), show(impl.ValidFrame(f)), "true;")
	}
	for _, f := range noFramesAtAll() {
		isShown(t, showFrame(f), show(impl.ValidFrame(f)), "false;")
	}
	// Each place of a trace counts.
	for count := range 129 {
		isShown(t, show(count), show(impl.ValidFrame(frameOf(3, 4, wavy(count, 5)...))), show(count > 0))
		for at := range count {
			f := frameOf(3, 4, withNumber(wavy(count, 5), at, twoTo(99))...)
			isShown(t, show(count, at), show(impl.ValidFrame(f)), "false;")
		}
	}
}

func TestSameFrame(t *testing.T) {
	minus, nan := minusZero(), notNumber()
	a := frameOf(1, 2, 0, 3)
	for _, c := range []struct {
		b    impl.Frame
		want string
	}{
		{frameOf(1, 2, 0, 3), "true;"},
		{frameOf(2, 2, 0, 3), "false;"},
		{frameOf(1, 1, 0, 3), "false;"},
		{frameOf(2, 1, 0, 3), "false;"},
		{frameOf(1, 2, minus, 3), "false;"},
		{frameOf(1, 2, 0, just(3, 1)), "false;"},
		{frameOf(1, 2, 0), "false;"},
		{frameOf(1, 2, 0, 3, 0), "false;"},
		{frameOf(1, 2, 3, 0), "false;"},
		{frameOf(1, 2), "false;"},
		{impl.Frame{}, "false;"},
		{frameOf(1+1<<32, 2, 0, 3), "false;"},
		{frameOf(1, 2+1<<32, 0, 3), "false;"},
	} {
		isShown(t, showFrame(c.b), show(impl.SameFrame(a, c.b), impl.SameFrame(c.b, a)), c.want+c.want)
	}
	for _, x := range someNumbers() {
		for _, y := range someNumbers() {
			isShown(t, show(x, y), show(impl.SameFrame(frameOf(5, 6, 1, x), frameOf(5, 6, 1, y))), show(word(x) == word(y)))
		}
	}
	// Frames that are not valid are the same, too.
	isShown(t, "not valid", show(impl.SameFrame(frameOf(-5, 1<<40, nan), frameOf(-5, 1<<40, num(0xffc12345))), impl.SameFrame(frameOf(-5, 1), frameOf(-6, 1)),
		impl.SameFrame(frameOf(300, -1, filled(200, infinite())...), frameOf(300, -1, filled(200, infinite())...)),
		impl.SameFrame(frameOf(300, -1, filled(200, infinite())...), frameOf(300, -1, filled(201, infinite())...)),
		impl.SameFrame(impl.Frame{}, impl.Frame{Trace: []float32{}})), "true;false;true;false;true;")
}

func TestAreFrames(t *testing.T) {
	for _, list := range append(someFrameLists(), frames(), edgeFrames(), slices.Repeat(frames(frameOf(1, 2, 3)), 12)) {
		isShown(t, show(list), show(impl.AreFrames(list)), "true;")
	}
	for _, list := range noFrameLists() {
		isShown(t, show(list), show(impl.AreFrames(list)), "false;")
	}
	for count := range 16 {
		isShown(t, show(count), show(impl.AreFrames(framesBy(count, 9))), show(count <= 12))
		for at := range count {
			list := framesBy(count, 9)
			list[at].Station = 201
			isShown(t, show(count, at), show(impl.AreFrames(list)), "false;")
		}
	}
}

// All functions with frames return zero values for frames that are not valid.
func TestFramesThatAreNone(t *testing.T) {
	for _, f := range noFramesAtAll() {
		isShown(t, "StoreFrame", showBytes(impl.StoreFrame(f)), noBytes)
		isShown(t, "SplitFrame", show(impl.SplitFrame(f, 1)), noPieces)
		after, before := frameOf(f.Station, f.Start+int64(len(f.Trace)), 1), frameOf(f.Station, f.Start-1, 1)
		isShown(t, "JoinFrames", show(impl.JoinFrames(f, after)), noFrame)
		isShown(t, "JoinFrames", show(impl.JoinFrames(before, f)), noFrame)
	}
	for _, list := range noFrameLists() {
		isShown(t, "StoreFrames", showBytes(impl.StoreFrames(list)), noBytes)
		isShown(t, "SortFrames", show(impl.SortFrames(list)), noList)
		isShown(t, "StationsOf", show(impl.StationsOf(list)), noTimes)
		isShown(t, "LateFrames", show(impl.LateFrames(list)), noTimes)
		isShown(t, "SumStations", show(impl.SumStations(list, 0, 9)), noFill)
		for _, station := range []int64{0, 1, 7, 200, -1, 201} {
			isShown(t, "OfStation", show(impl.OfStation(list, station)), noList)
			isShown(t, "GapsOf", show(impl.GapsOf(list, station)), noTimes)
			isShown(t, "SpanOf", show(impl.SpanOf(list, station)), noSpan)
			isShown(t, "FillFrames", show(impl.FillFrames(list, station, 0, 9)), noFill)
		}
	}
}
