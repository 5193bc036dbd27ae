package tests

import (
	"strings"
	"testing"

	"loop.example/g01231/impl"
)

// noKeptTraces are lists that are no traces as frames have.
func noKeptTraces() [][]float32 {
	lists := noTraces()
	for _, f := range noFramesAtAll() {
		if f.Station == 1 && f.Start == 2 {
			lists = append(lists, f.Trace)
		}
	}
	return lists
}

func TestPackTrace(t *testing.T) {
	for _, c := range []struct {
		words, want string
	}{
		{"3f800000,c0000000", "0266002000c0"},
		{"00000000", "01000000"},
		{"80000000,00000000", "020000000000"},
		{"3f800000,3f800000,3f800000,3f800000,3f800000,3f800000,3f800000,3f800000", "086500400040004000400040004000400040"},
		{"3f800000,3f800000,3f800000,3f800000,3f800000,3f800000,3f800000,3f800000,3f800000", "096500400040004000400040004000400040650040"},
		{"00000000,00000000,00000000,00000000,00000000,00000000,00000000,00000000,3f800000", "090000000000000000000000000000000000650040"},
		{"3f800000,00000000,00000000,00000000,00000000,00000000,00000000,00000000,00000001", "096500400000000000000000000000000000000000"},
		{"3f800000,3e800000,00000000,00000000,00000000,00000000,00000000,00000000,17800000,10000000", "0a65004000100000000000000000000000001500400000"},
		{"3fc5566d,bfa95810,3e7645a0,3f90bac7,3fc3d709,beccd9e8,bedb7174", "0765ab6254ab640f5d48ec6165e692e4"},
		{"bd522000,3ec3fe5c,3e819654,3f2bac72,3f811687,bfc3da51,3e892a30,3fa93dd9", "0865b8fc80183310eb2a8b40139e25119f54"},
		{"3fd0f909,bf9813a9,3e8809d4,3e577318,3ef9580c,3f1de00e,3f76e2ea,3db851f0,bef020c4,3f572b02,bdb020c0,be4fdf38,3f2559b2,bef0d844,bfa0bac7,bd621960,3fcf65fd", "11657d68f6b30111770d2b1f7827b93dc30565fce1cb357ffa02f35629e5e1a3af78fc65b367"},
		{"232233a0,37848e8a,498e703c,dbffb158,8e0ce700,a2836114,b5ced288,c812339c,d875c280,6c50f27c", "0a9d00000000000027800000000000000000be00007968"},
		{"70ffffff", "01c80040"},
		{"3f800000,3f800000,3f800000,3f800000,3f800000,3f800000,3f800000,3f800000,f0ffffff", "096500400040004000400040004000400040c800c0"},
	} {
		a := numsOf(t, c.words)
		isShown(t, c.words, showBytes(impl.PackTrace(a)), show(c.want, true))
		rounded, ok := impl.UnpackTrace(bytesOf(t, c.want))
		isShown(t, c.words, show(impl.RoundTrace(a)), show(rounded, ok))
	}
	var all strings.Builder
	for _, a := range keptTraces() {
		all.WriteString(showBytes(impl.PackTrace(a)))
	}
	for _, f := range edgeFrames() {
		all.WriteString(showBytes(impl.PackTrace(f.Trace)))
	}
	isShown(t, "some", digest(all.String()), "93387857")
}

// A trace has its blocks one after another, each for itself.
func TestTracesHaveTheirBlocks(t *testing.T) {
	for count := 1; count <= 128; count++ {
		a := spread(count, uint32(count))
		want := string([]byte{byte(count)})
		var kept []float32
		for at := 0; at < count; at += 8 {
			s, _ := impl.PackBlock(a[at:min(at+8, count)])
			block, _ := impl.UnpackBlock(s)
			want += s
			kept = append(kept, block...)
		}
		isShown(t, show(count), showBytes(impl.PackTrace(a)), showBytes(want, true))
		isShown(t, show(count), show(impl.UnpackTrace(want)), show(kept, true))
		isShown(t, show(count), show(impl.RoundTrace(a)), show(kept, true))
		// With a byte less or more, or another count, there is no such trace.
		isShown(t, show(count), show(impl.UnpackTrace(want[:len(want)-1])), noList)
		isShown(t, show(count), show(impl.UnpackTrace(want+"\x00")), noList)
		isShown(t, show(count), show(impl.UnpackTrace(want+want)), noList)
		for other := range 256 {
			if other != count {
				isShown(t, show(count, other), show(impl.UnpackTrace(changed(want, 0, byte(other)))), noList)
			}
		}
		for end := range len(want) {
			isShown(t, show(count, end), show(impl.UnpackTrace(want[:end])), noList)
		}
	}
}

func TestNoTracesOfFrames(t *testing.T) {
	for _, a := range noKeptTraces() {
		isShown(t, show(a), showBytes(impl.PackTrace(a)), noBytes)
		isShown(t, show(a), show(impl.RoundTrace(a)), noList)
		isShown(t, show(a), show(impl.WorstRound(a)), noNumber)
	}
	for _, digits := range []string{
		"", "00", "01", "02", "80", "ff", "0000", "000000", "00000000", "0065004000", "0265004000", "0165004000", "0165004000c0", "016500",
		"02650040", "026500400040ff", "0266002000", "01660020", "0301650040", "01c80040", "01c90040", "01650080", "01660080", "01010000",
		"096500400040004000400040004000400040", "0965004000400040004000400040004000406500", "096500400040004000400040004000400040660020",
		"08650040004000400040004000400040", "0865004000400040004000400040004000406500",
	} {
		isShown(t, digits, show(impl.UnpackTrace(bytesOf(t, digits))), noList)
	}
	// 129 numbers and more, in blocks as they should be.
	for count := 120; count < 256; count++ {
		s := string([]byte{byte(count)})
		for left := count; left > 0; left -= 8 {
			s += "\x65" + strings.Repeat("\x00\x40", min(left, 8))
		}
		want := noList
		if count <= 128 {
			want = show(ones[float32](count), true)
		}
		isShown(t, show(count), show(impl.UnpackTrace(s)), want)
	}
	// The short block comes last, though as many bytes are as many numbers.
	isShown(t, "short first", show(impl.UnpackTrace("\x09\x65\x00\x40"+"\x65\x00\x40"+strings.Repeat("\x00\x01", 7))), noList)
	isShown(t, "short last", show(impl.UnpackTrace("\x09\x65"+strings.Repeat("\x00\x40", 8)+"\x65\x00\x40")), show(ones[float32](9), true))
	isShown(t, "in two", show(impl.UnpackTrace("\x08"+strings.Repeat("\x65"+strings.Repeat("\x00\x40", 4), 2))), noList)
}

// Bytes of a trace with one bit changed tell either another trace, whose bytes they
// are, or none.
func TestTracesWithABitChanged(t *testing.T) {
	var all strings.Builder
	traces := 0
	for _, a := range [][]float32{nums(1, -2), nums(0), wavy(9, 1), spread(17, 2), sized(8, 3, -115), sized(10, 4, 97), wavy(128, 5)} {
		s, _ := impl.PackTrace(a)
		for at := range len(s) {
			for bit := range 8 {
				other := changed(s, at, s[at]^1<<bit)
				got, ok := impl.UnpackTrace(other)
				all.WriteString(show(got, ok))
				if ok {
					traces++
					isShown(t, show(a, at, bit), showBytes(impl.PackTrace(got)), showBytes(other, true))
				}
			}
		}
	}
	isShown(t, "changed", show(traces, digest(all.String())), "2920;c4791942;")
}

func TestRoundTrace(t *testing.T) {
	minus, least := minusZero(), num(1)
	for _, c := range []struct {
		a    []float32
		want string
	}{
		{nums(1, -2), show(nums(1, -2), true)},
		{nums(0, minus, least, -least), show(make([]float32, 4), true)},
		{nums(32767, 0.5, 1.5, -0.5, -1.5, minus), show(nums(32767, 0, 2, 0, -2, 0), true)},
		{nums(32768, 0.9, 1, 1.1, -1, 3), show(nums(32768, 0, 0, 2, 0, 4), true)},
		{nums(twoTo(98), twoTo(83), twoTo(84), just(twoTo(83), 1)), show(nums(twoTo(98), 0, twoTo(84), twoTo(84)), true)},
		{nums(twoTo(-115), twoTo(-116), just(twoTo(-116), 1), -twoTo(-117)), show(nums(twoTo(-115), 0, twoTo(-115), 0), true)},
	} {
		isShown(t, show(c.a), show(impl.RoundTrace(c.a)), c.want)
	}
	var all strings.Builder
	for _, a := range keptTraces() {
		all.WriteString(show(impl.RoundTrace(a)))
	}
	isShown(t, "some", digest(all.String()), "3657c431")
}

// Numbers that would be rounded to 2 to the power of 99 are numbers of frames, but
// what they are rounded to is none.
func TestNumbersThatAreRoundedTooFar(t *testing.T) {
	limit := twoTo(99)
	kept := float32(32767 * float64(twoTo(84)))
	for _, sign := range []float32{1, -1} {
		for _, x := range []float32{just(limit, -1), just(limit, -2), just(limit, -511), just(kept, 1)} {
			for _, a := range [][]float32{nums(sign * x), nums(1, sign*x), withNumber(wavy(128, 1), 127, sign*x), withNumber(wavy(30, 1), 8, sign*x)} {
				s, ok := impl.PackTrace(a)
				isShown(t, show(a), show(len(s) > 0, ok), "true;true;")
				isShown(t, show(a), show(impl.UnpackTrace(s)), noList)
				isShown(t, show(a), show(impl.RoundTrace(a)), noList)
				isShown(t, show(a), show(impl.WorstRound(a)), noNumber)
				stored, ok := impl.StoreFrame(frameOf(1, 2, a...))
				isShown(t, show(a), show(len(stored) == len(s)+11, ok), "true;true;")
				isShown(t, show(a), show(impl.LoadFrame(stored)), noFrame)
				isShown(t, show(a), show(impl.LoadFrames(stored)), noList)
				isShown(t, show(a), show(impl.RecoverFrames(stored)), ";0;true;")
			}
		}
		isShown(t, show(sign), show(impl.RoundTrace(nums(sign*kept))), show(nums(sign*kept), true))
		isShown(t, show(sign), show(impl.RoundTrace(nums(sign*just(kept, -1)))), show(nums(sign*kept), true))
	}
	isShown(t, "bytes", showBytes(impl.PackBlock(nums(just(limit, -1), -just(limit, -1)))), "c8004000c0;true;")
	isShown(t, "bytes", show(impl.UnpackBlock("\xc8\x00\x40\x00\xc0")), noList)
}

func TestWorstRound(t *testing.T) {
	minus, least := minusZero(), num(1)
	for _, c := range []struct {
		a    []float32
		want string
	}{
		{nums(1, -2), "00000000;true;"},
		{nums(0), "00000000;true;"},
		{nums(minus), "00000000;true;"},
		{nums(least), "00000001;true;"},
		{nums(0, -least, least), "00000001;true;"},
		{nums(32767, 0.5), "3f000000;true;"},
		{nums(32767, -0.5), "3f000000;true;"},
		{nums(32767, 0.75, -1.5), "3f000000;true;"},
		{nums(32767, 0.75, -1.25), "3e800000;true;"},
		{nums(-32768, 1), "3f800000;true;"},
		{nums(-32768, -0.9, 0.3), "3f666666;true;"},
		{nums(1, 1, 1, 1, 1, 1, 1, 1, least), "00000001;true;"},
		{nums(twoTo(-116), -twoTo(-117)), show(twoTo(-116), true)},
	} {
		isShown(t, show(c.a), show(impl.WorstRound(c.a)), c.want)
	}
	var all strings.Builder
	for _, a := range keptTraces() {
		all.WriteString(show(impl.WorstRound(a)))
	}
	isShown(t, "some", digest(all.String()), "45867d42")
}
