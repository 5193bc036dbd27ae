package tests

import (
	"slices"
	"strings"
	"testing"

	"loop.example/g01231/impl"
)

func TestStoreFrame(t *testing.T) {
	for _, c := range []struct {
		f    impl.Frame
		want string
	}{
		{frameOf(1, 0, 1, 2, 3, 4), "475244310100000000046700100020003000409060"},
		{frameOf(0, 0, 0), "47524431000000000001000000a72b"},
		{frameOf(200, 100000, -1), "47524431c8a0860100016500c0c84c"},
		{frameOf(1, 7, 5), "47524431010700000001670050ffe9"},
		{frameOf(0, 1, -1, -2), "475244310001000000026600e000c00456"},
		{frameOf(7, 256, 0.5, 0.5, 0.5, 0.5, 0.5, 0.5, 0.5, 0.5, 0.5), "4752443107000100000964004000400040004000400040004000406400406c15"},
		{frameOf(128, 65535, 1, -1), "4752443180ffff00000265004000c05a0f"},
		{frameOf(199, 65536, 3, 3, 3, 3, 3, 3, 3, 3), "47524431c7000001000866006000600060006000600060006000607e06"},
		{frameOf(13, 99999, 0.25, 0.25, 0.25, 0.25, 0.25, 0.25, 0.25, 0.25, 0.25, 0.25), "475244310d9f8601000a630040004000400040004000400040004063004000402d96"},
		{frameOf(5, 4660, 100, 0.5, -0.5), "475244310534120000036b0064800080ff99bc"},
	} {
		isShown(t, showFrame(c.f), showBytes(impl.StoreFrame(c.f)), show(c.want, true))
		rounded, _ := impl.RoundTrace(c.f.Trace)
		isShown(t, c.want, show(impl.LoadFrame(bytesOf(t, c.want))), show(frameOf(c.f.Station, c.f.Start, rounded...), true))
	}
	var all strings.Builder
	for _, f := range append(someFrames(), edgeFrames()...) {
		all.WriteString(showBytes(impl.StoreFrame(f)))
	}
	isShown(t, "some", digest(all.String()), "c03c6f53")
}

// A frame has its mark, Station, Start, trace and check number one after another.
func TestPartsOfStoredFrames(t *testing.T) {
	for _, f := range append(someFrames(), edgeFrames()...) {
		packed, _ := impl.PackTrace(f.Trace)
		s := f.Start
		want := sealed("GRD1" + string([]byte{byte(f.Station), byte(s), byte(s >> 8), byte(s >> 16), 0}) + packed)
		isShown(t, showFrame(f), showBytes(impl.StoreFrame(f)), showBytes(want, true))
	}
	for _, station := range []int64{0, 1, 127, 128, 199, 200} {
		for _, start := range []int64{0, 1, 254, 255, 256, 257, 65535, 65536, 65537, 99999, 100000} {
			f := frameOf(station, start, 1, -2)
			stored, ok := impl.StoreFrame(f)
			isShown(t, showFrame(f), show(ok), "true;")
			isShown(t, showFrame(f), show(impl.LoadFrame(stored)), show(f, true))
		}
	}
}

func TestStoreFrames(t *testing.T) {
	isShown(t, "none", showBytes(impl.StoreFrames(nil)), ";true;")
	isShown(t, "none", show(impl.LoadFrames("")), ";true;")
	isShown(t, "none", show(impl.RecoverFrames("")), ";0;true;")
	var all strings.Builder
	for _, list := range someFrameLists() {
		var want string
		var rounded []impl.Frame
		for _, f := range list {
			s, _ := impl.StoreFrame(f)
			g, ok := impl.LoadFrame(s)
			isShown(t, showFrame(f), show(ok), "true;")
			want += s
			rounded = append(rounded, g)
		}
		isShown(t, show(list), showBytes(impl.StoreFrames(list)), showBytes(want, true))
		isShown(t, show(list), show(impl.LoadFrames(want)), show(rounded, true))
		isShown(t, show(list), show(impl.RecoverFrames(want)), show(rounded, len(want), true))
		all.WriteString(showBytes(want, true))
	}
	isShown(t, "some", digest(all.String()), "b313f62c")
}

// bodies are frames but for their check numbers, and whether they are such.
func bodies() map[string]bool {
	ones8, small := strings.Repeat("\x00\x40", 8), strings.Repeat("\x00\x01", 7)
	head := "GRD1\x01\x02\x00\x00\x00"
	return map[string]bool{
		head + "\x01\x65\x00\x40":                  true,
		head + "\x08\x65" + ones8:                  true,
		head + "\x09\x65" + ones8 + "\x65\x00\x40": true,
		head + "\x01\x00\x00\x00":                  true,
		"GRD1\xc8\xa0\x86\x01\x00\x01\x65\x00\x40": true,
		"GRD1\x00\x00\x00\x00\x00\x01\x65\x00\x40": true,
		"":                                    false,
		"G":                                   false,
		"GRD1":                                false,
		"GRD1\x01":                            false,
		head:                                  false,
		head + "\x00":                         false,
		head + "\x00\x65\x00\x40":             false,
		head + "\x01":                         false,
		head + "\x01\x65":                     false,
		head + "\x01\x65\x00":                 false,
		head + "\x01\x65\x00\x40\x00":         false,
		head + "\x01\x65\x00\x40\x65\x00\x40": false,
		head + "\x01\x65\x00\x40\x00\x40":     false,
		head + "\x02\x65\x00\x40":             false,
		head + "\x02\x65\x00\x40\x65\x00\x40": false,
		head + "\x01\x66\x00\x20":             false,
		head + "\x01\x65\x00\x80":             false,
		head + "\x01\x01\x00\x00":             false,
		head + "\x01\xc8\x00\x40":             false,
		head + "\x01\xc9\x00\x40":             false,
		head + "\x01\xff\x00\x40":             false,
		head + "\x09\x65\x00\x40" + "\x65\x00\x40" + small:                     false,
		head + "\x09\x65\x00\x40" + small + "\x65\x00\x40":                     true,
		head + "\x08\x65" + ones8 + "\x65\x00\x40":                             false,
		head + "\x80" + strings.Repeat("\x65"+ones8, 16):                       true,
		head + "\x81" + strings.Repeat("\x65"+ones8, 16) + "\x65\x00\x40":      false,
		head + "\xff" + strings.Repeat("\x65"+ones8, 31) + "\x65" + ones8[:14]: false,
		"GRD1\xc9\x00\x00\x00\x00\x01\x65\x00\x40":                             false,
		"GRD1\xff\x00\x00\x00\x00\x01\x65\x00\x40":                             false,
		"GRD1\x00\xa1\x86\x01\x00\x01\x65\x00\x40":                             false,
		"GRD1\x00\x00\x00\x02\x00\x01\x65\x00\x40":                             false,
		"GRD1\x00\x00\x00\x00\x01\x01\x65\x00\x40":                             false,
		"GRD1\x00\x00\x00\x00\x80\x01\x65\x00\x40":                             false,
		"GRD1\x00\xff\xff\xff\xff\x01\x65\x00\x40":                             false,
		"GRD2\x01\x02\x00\x00\x00\x01\x65\x00\x40":                             false,
		"GRD0\x01\x02\x00\x00\x00\x01\x65\x00\x40":                             false,
		"GRD\x01\x01\x02\x00\x00\x00\x01\x65\x00\x40":                          false,
		"grd1\x01\x02\x00\x00\x00\x01\x65\x00\x40":                             false,
		"HRD1\x01\x02\x00\x00\x00\x01\x65\x00\x40":                             false,
		"GSD1\x01\x02\x00\x00\x00\x01\x65\x00\x40":                             false,
		"GRE1\x01\x02\x00\x00\x00\x01\x65\x00\x40":                             false,
		"\x00\x00\x00\x00\x01\x02\x00\x00\x00\x01\x65\x00\x40":                 false,
		"RD1\x01\x02\x00\x00\x00\x01\x65\x00\x40":                              false,
		"GGRD1\x01\x02\x00\x00\x00\x01\x65\x00\x40":                            false,
		" GRD1\x01\x02\x00\x00\x00\x01\x65\x00\x40":                            false,
	}
}

// A good check number makes no frame of what is none.
func TestBytesWithGoodCheckNumbers(t *testing.T) {
	for body, isFrame := range bodies() {
		s := sealed(body)
		f, ok := impl.LoadFrame(s)
		isShown(t, showBytes(body, isFrame), show(ok), show(isFrame))
		if !isFrame {
			isShown(t, showBytes(body, isFrame), show(f, ok), noFrame)
			isShown(t, showBytes(body, isFrame), show(impl.LoadFrames(s)), noList)
			isShown(t, showBytes(body, isFrame), show(impl.RecoverFrames(s)), ";0;true;")
			continue
		}
		isShown(t, showBytes(body, isFrame), showBytes(impl.StoreFrame(f)), showBytes(s, true))
		isShown(t, showBytes(body, isFrame), show(impl.LoadFrames(s)), show(frames(f), true))
		// Any other check number is a bad one; so are those that are read with the
		// greater byte first.
		for by := 1; by < 65536; by += 97 {
			check := checkOf(body) + by
			bad := body + string([]byte{byte(check), byte(check >> 8)})
			isShown(t, showBytes(bad, false), show(impl.LoadFrame(bad)), noFrame)
		}
		bad := body + s[len(s)-1:] + s[len(s)-2:len(s)-1]
		if bad != s {
			isShown(t, showBytes(bad, false), show(impl.LoadFrame(bad)), noFrame)
		}
	}
}

// Two bytes can tell a number that leaves the check number when it is divided by
// CheckSize, but is not the check number.
func TestCheckNumbersBeyondCheckSize(t *testing.T) {
	found := 0
	for start := range int64(100001) {
		stored, _ := impl.StoreFrame(frameOf(3, start, 5))
		body := stored[:len(stored)-2]
		check := checkOf(body) + 65003
		if check > 65535 {
			continue
		}
		found++
		isShown(t, show(start), show(impl.LoadFrame(stored)), show(frameOf(3, start, 5), true))
		isShown(t, show(start), show(impl.LoadFrame(body+string([]byte{byte(check), byte(check >> 8)}))), noFrame)
	}
	isShown(t, "found", show(found > 100), "true;")
}

// Each byte that is another one, or is missing, or is one too many, makes bytes of
// no frame; the check number finds all that could be one.
func TestFramesWithAByteChanged(t *testing.T) {
	for _, f := range frames(frameOf(1, 0, 1, 2, 3, 4), frameOf(200, 100000, spread(11, 3)...), frameOf(0, 0, 0), frameOf(9, 777, wavy(40, 2)...)) {
		stored, _ := impl.StoreFrame(f)
		for at := range len(stored) {
			for by := 1; by < 256; by++ {
				other := changed(stored, at, stored[at]+byte(by))
				isShown(t, show(at, by), show(impl.LoadFrame(other)), noFrame)
				isShown(t, show(at, by), show(impl.RecoverFrames(other+stored)), ";0;true;")
			}
			isShown(t, show(f, at, "end"), show(impl.LoadFrame(stored[:at])), noFrame)
			isShown(t, show(f, at, "begin"), show(impl.LoadFrame(stored[at+1:])), noFrame)
			isShown(t, show(f, at, "without"), show(impl.LoadFrame(stored[:at]+stored[at+1:])), noFrame)
			isShown(t, show(f, at, "more"), show(impl.LoadFrame(stored[:at]+"\x00"+stored[at:])), noFrame)
		}
		for c := range 256 {
			isShown(t, show(f, c, "more"), show(impl.LoadFrame(stored+string([]byte{byte(c)}))), noFrame)
		}
		isShown(t, show(f, "twice"), show(impl.LoadFrame(stored+stored)), noFrame)
	}
}

// storedOf are the bytes of each frame of a list.
func storedOf(t *testing.T, list []impl.Frame) []string {
	t.Helper()
	var stored []string
	for _, f := range list {
		s, ok := impl.StoreFrame(f)
		isShown(t, showFrame(f), show(ok), "true;")
		stored = append(stored, s)
	}
	return stored
}

// roundedOf are frames as they are kept.
func roundedOf(list []impl.Frame) []impl.Frame {
	var rounded []impl.Frame
	for _, f := range list {
		kept, _ := impl.RoundTrace(f.Trace)
		rounded = append(rounded, frameOf(f.Station, f.Start, kept...))
	}
	return rounded
}

// As many bytes as there are of a text, so many whole frames it begins with.
func TestRecoverFramesOfPieces(t *testing.T) {
	for _, list := range [][]impl.Frame{framesBy(1, 1), framesBy(3, 2), framesBy(12, 3), someFrames()[:5]} {
		stored, rounded := storedOf(t, list), roundedOf(list)
		all := strings.Join(stored, "")
		count, intact := 0, 0
		for end := range len(all) + 1 {
			if count < len(list) && end == intact+len(stored[count]) {
				count, intact = count+1, end
			}
			isShown(t, show(end), show(impl.RecoverFrames(all[:end])), show(rounded[:count], intact, true))
			want := noList
			if end == intact {
				want = show(rounded[:count], true)
			}
			isShown(t, show(end), show(impl.LoadFrames(all[:end])), want)
		}
		isShown(t, "all", show(count), show(len(list)))
	}
}

// What comes behind the first bad byte does not count.
func TestRecoverFramesBeforeABadByte(t *testing.T) {
	list := framesBy(4, 5)
	stored, rounded := storedOf(t, list), roundedOf(list)
	all := strings.Join(stored, "")
	count, intact := 0, 0
	for at := range len(all) {
		if at == intact+len(stored[count]) {
			count, intact = count+1, at
		}
		want := show(rounded[:count], intact, true)
		for _, by := range []byte{1, 2, 128, 255} {
			isShown(t, show(at, by), show(impl.RecoverFrames(changed(all, at, all[at]+by))), want)
			isShown(t, show(at, by), show(impl.LoadFrames(changed(all, at, all[at]+by))), noList)
		}
		for _, more := range []string{"\x00", "\xff", "GRD1", "GRD2"} {
			if at > intact || more != "GRD1" {
				isShown(t, show(at, more), show(impl.RecoverFrames(all[:at]+more+all[at:])), want)
			}
		}
	}
}

// There are at most 12 frames, also in bytes of more.
func TestBytesOfManyFrames(t *testing.T) {
	stored, rounded := storedOf(t, framesBy(40, 6)), roundedOf(framesBy(40, 6))
	for count := range 41 {
		all := strings.Join(stored[:count], "")
		if count <= 12 {
			isShown(t, show(count), show(impl.LoadFrames(all)), show(rounded[:count], true))
			isShown(t, show(count), show(impl.RecoverFrames(all)), show(rounded[:count], len(all), true))
			continue
		}
		isShown(t, show(count), show(impl.LoadFrames(all)), noList)
		isShown(t, show(count), show(impl.RecoverFrames(all)), show(rounded[:12], len(strings.Join(stored[:12], "")), true))
	}
	twelve := strings.Join(stored[:12], "")
	for _, more := range []string{"\x00", "G", "GRD1", stored[12][:len(stored[12])-1], strings.Repeat("\xff", 1000)} {
		isShown(t, "more", show(impl.LoadFrames(twelve+more)), noList)
		isShown(t, "more", show(impl.RecoverFrames(twelve+more)), show(rounded[:12], len(twelve), true))
		isShown(t, "more", show(impl.LoadFrames(more+twelve)), noList)
		isShown(t, "more", show(impl.RecoverFrames(more+twelve)), ";0;true;")
	}
	isShown(t, "long", show(impl.RecoverFrames(strings.Repeat("\x00", 1000000))), ";0;true;")
	isShown(t, "long", show(impl.LoadFrames(strings.Repeat(stored[0], 10000))), noList)
	isShown(t, "long", show(impl.RecoverFrames(strings.Repeat(stored[0], 10000))),
		show(slices.Repeat(rounded[:1], 12), 12*len(stored[0]), true))
}
