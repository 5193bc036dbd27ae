package tests

import (
	"fmt"
	"regexp"
	"strings"
	"testing"

	"loop.example/g01231/impl"
)

// Forms of texts, which tell nothing of values yet.
const (
	oneForm     = `[0-9a-f]{8}`
	integerForm = `(0|-?[1-9][0-9]{0,15})`
	listForm    = `(none|` + oneForm + `(,` + oneForm + `)*)`
	layerForm   = oneForm + `,` + oneForm + `,` + oneForm + `,` + oneForm
)

var (
	wordWhole    = regexp.MustCompile(oneForm)
	groundWhole  = regexp.MustCompile(`^` + layerForm + `(/` + layerForm + `)*;` + oneForm + `,` + oneForm + `$`)
	gatherWhole  = regexp.MustCompile(`^` + integerForm + `;` + listForm + `;` + listForm + `(/` + listForm + `)*$`)
	pathWhole    = regexp.MustCompile(`^` + layerForm + `$`)
	sectionWhole = regexp.MustCompile(`^` + integerForm + `,` + integerForm + `:` + listForm + `$`)
)

// hasForm reports whether a text has a form, and all its not-a-numbers have their
// only bits.
func hasForm(text string, form *regexp.Regexp) bool {
	if !form.MatchString(text) {
		return false
	}
	for _, digits := range wordWhole.FindAllString(text, -1) {
		if word(numberOf(digits)) != digits {
			return false
		}
	}
	return true
}

func numberOf(digits string) float32 {
	var b uint32
	fmt.Sscanf(digits, "%x", &b)
	return num(b)
}

func numbersOfWords(text string) []float32 {
	var list []float32
	if text == "none" {
		return nil
	}
	for _, digits := range strings.Split(text, ",") {
		list = append(list, numberOf(digits))
	}
	return list
}

// groundTold is what ReadGround must return.
func groundTold(text string) string {
	if !hasForm(text, groundWhole) {
		return noGround
	}
	layers, last, _ := strings.Cut(text, ";")
	below := numbersOfWords(last)
	g := groundOf(below[0], below[1])
	for _, layer := range strings.Split(layers, "/") {
		x := numbersOfWords(layer)
		g.Layers = append(g.Layers, impl.Layer{Thick: x[0], Speed: x[1], Density: x[2], Loss: x[3]})
	}
	if !impl.ValidGround(g) {
		return noGround
	}
	return show(g, true)
}

// gatherTold is what ReadGather must return.
func gatherTold(text string) string {
	if !hasForm(text, gatherWhole) {
		return noGather
	}
	parts := strings.Split(text, ";")
	g := impl.Gather{Places: numbersOfWords(parts[1])}
	fmt.Sscan(parts[0], &g.Ticks)
	for _, trace := range strings.Split(parts[2], "/") {
		g.Traces = append(g.Traces, numbersOfWords(trace))
	}
	if !impl.ValidGather(g) {
		return noGather
	}
	return show(g, true)
}

// pathTold is what ReadPath must return.
func pathTold(text string) string {
	if !hasForm(text, pathWhole) {
		return noPath
	}
	x := numbersOfWords(text)
	if p := pathOf(x[0], x[1], x[2], x[3]); impl.IsPath(p) {
		return show(p, true)
	}
	return noPath
}

// sectionTold is what ReadSection must return.
func sectionTold(text string) string {
	if !hasForm(text, sectionWhole) {
		return noSection
	}
	sizes, values, _ := strings.Cut(text, ":")
	s := sectionOf(0, 0, numbersOfWords(values)...)
	fmt.Sscanf(sizes, "%d,%d", &s.Wide, &s.Deep)
	if !impl.ValidSection(s) {
		return noSection
	}
	return show(s, true)
}

// textKind is one of the four kinds of texts.
type textKind struct {
	name  string
	texts []string
	read  func(text string) string
	told  func(text string) string
	none  string
}

func textKinds() []textKind {
	kinds := []textKind{
		{"ground", nil, func(text string) string { return show(impl.ReadGround(text)) }, groundTold, noGround},
		{"gather", nil, func(text string) string { return show(impl.ReadGather(text)) }, gatherTold, noGather},
		{"path", nil, func(text string) string { return show(impl.ReadPath(text)) }, pathTold, noPath},
		{"section", nil, func(text string) string { return show(impl.ReadSection(text)) }, sectionTold, noSection},
	}
	for _, g := range []impl.Ground{plainLayers(1), plainLayers(2), twelveLayers(), wildDesk().Ground} {
		kinds[0].texts = append(kinds[0].texts, groundWords(g))
	}
	for _, g := range []impl.Gather{newDesk().Gather, zeroGather(), gatherBy(2, 1, 1), gatherBy(1, 16, 2), gatherBy(11, 2, 2)} {
		kinds[1].texts = append(kinds[1].texts, gatherWords(g))
	}
	for _, p := range append(pathsBy(3, 1), edgePaths()[:12]...) {
		kinds[2].texts = append(kinds[2].texts, showPath(p))
	}
	for _, s := range []impl.Section{sectionBy(1, 1, 1), sectionBy(2, 3, 2), sectionBy(16, 1, 3), zeroSection(), oddSection()} {
		kinds[3].texts = append(kinds[3].texts, sectionWords(s))
	}
	return kinds
}

func TestGroundText(t *testing.T) {
	list := append(someGrounds(), plainLayers(1), plainLayers(12), wildDesk().Ground)
	for _, g := range list {
		isShown(t, "GroundText", show(impl.GroundText(g)), show(groundWords(g), true))
		isShown(t, "ReadGround", show(impl.ReadGround(groundWords(g))), show(g, true))
	}
	for k, g := range invalidGrounds() {
		isShown(t, show("GroundText", k), show(impl.GroundText(g)), noText)
		isShown(t, show("ReadGround", k), show(impl.ReadGround(groundWords(g))), noGround)
	}
}

func TestGatherText(t *testing.T) {
	for _, g := range append(someGathers(), gatherOfSize(64, 16), gatherOfSize(1, 1), gatherOfSize(64, 1), gatherOfSize(1, 16)) {
		isShown(t, "GatherText", show(impl.GatherText(g)), show(gatherWords(g), true))
		isShown(t, "ReadGather", show(impl.ReadGather(gatherWords(g))), show(g, true))
	}
	for k, g := range noGathers() {
		isShown(t, show("GatherText", k), show(impl.GatherText(g)), noText)
		isShown(t, show("ReadGather", k), show(impl.ReadGather(gatherWords(g))), noGather)
	}
}

func TestPathText(t *testing.T) {
	for _, p := range append(edgePaths(), pathsBy(32, 5)...) {
		isShown(t, "PathText", show(impl.PathText(p)), show(showPath(p), true))
		isShown(t, "ReadPath", show(impl.ReadPath(showPath(p))), show(p, true))
	}
	for k, p := range noPathsOfSections() {
		isShown(t, show("PathText", k), show(impl.PathText(p)), noText)
		isShown(t, show("ReadPath", k), show(impl.ReadPath(showPath(p))), noPath)
	}
}

func TestSectionText(t *testing.T) {
	for _, s := range someSections() {
		isShown(t, "SectionText", show(impl.SectionText(s)), show(sectionWords(s), true))
		isShown(t, "ReadSection", show(impl.ReadSection(sectionWords(s))), show(s, true))
	}
	for k, s := range noSections() {
		isShown(t, show("SectionText", k), show(impl.SectionText(s)), noText)
		isShown(t, show("ReadSection", k), show(impl.ReadSection(sectionWords(s))), noSection)
	}
}

// Texts that are written out, since the others are made by these tests.
func TestTextsByHand(t *testing.T) {
	minus := minusZero()
	ground := "40000000,3f800000,3f800000,00000000;40400000,3f800000"
	isShown(t, ground, show(impl.GroundText(oneLayer())), show(ground, true))
	ground = "3f800000,40000000,40400000,80000000/3f000000,7f7fffff,00000001,3f7fffff;40a00000,3e800000"
	two := groundOf(5, 0.25, impl.Layer{Thick: 1, Speed: 2, Density: 3, Loss: minus}, impl.Layer{Thick: 0.5, Speed: num(0x7f7fffff), Density: num(1), Loss: just(1, -1)})
	isShown(t, ground, show(impl.GroundText(two)), show(ground, true))
	isShown(t, ground, show(impl.ReadGround(ground)), show(two, true))
	gather := "2;40400000,80000000,c0400000;3f800000,7fc00000/80000000,ff800000/7f800000,00000001"
	three := gatherAt([]float32{3, minus, -3}, []float32{1, num(0xffffffff)}, []float32{minus, -infinite()}, []float32{infinite(), num(1)})
	isShown(t, gather, show(impl.GatherText(three)), show(gather, true))
	isShown(t, gather, show(impl.ReadGather(gather)), show(three, true))
	path := "447a0000,c47a0000,80000000,00000001"
	isShown(t, path, show(impl.PathText(pathOf(1000, -1000, minus, num(1)))), show(path, true))
	isShown(t, path, show(impl.ReadPath(path)), show(pathOf(1000, -1000, minus, num(1)), true))
	section := "2,1:7fc00000,80000000"
	isShown(t, section, show(impl.SectionText(sectionOf(2, 1, num(0x7f800001), minus))), show(section, true))
	isShown(t, section, show(impl.ReadSection(section)), show(sectionOf(2, 1, notNumber(), minus), true))
}

func TestReadGroundFails(t *testing.T) {
	layer, below := "3f800000,3f800000,3f800000,00000000", "3f800000,3f800000"
	isShown(t, "a ground", show(impl.ReadGround(layer+";"+below)), show(newDesk().Ground, true))
	for _, text := range []string{"", "none", ";", "/", "/;", layer, below, layer + ";", ";" + below, layer + below, layer + "/" + below, layer + ":" + below,
		layer + ";;" + below, ";" + layer + ";" + below, layer + ";" + below + ";", layer + ";" + layer, below + ";" + below,
		"/" + layer + ";" + below, layer + "/;" + below, layer + "//" + layer + ";" + below, layer + ";" + below + "/", layer + ";/" + below,
		layer + ";" + below + "/" + below, layer + ";" + layer + ";" + below, layer + "," + layer + ";" + below,
		layer[9:] + ";" + below, layer + ",00000000;" + below, layer + ";" + below[9:], layer + ";" + below + ",3f800000", layer + ";none", "none;" + below,
		layer + "/none;" + below, layer + ";" + below + ",none", layer + ";," + below, layer + ";" + below + ",", layer + ",;" + below,
		"7fc00001" + layer[8:] + ";" + below, layer + ";ffc00000" + below[8:], "3F800000" + layer[8:] + ";" + below, layer + ";3F800000" + below[8:],
		"7f800000" + layer[8:] + ";" + below, "7fc00000" + layer[8:] + ";" + below, "00000000" + layer[8:] + ";" + below, "80000000" + layer[8:] + ";" + below,
		"bf800000" + layer[8:] + ";" + below, layer[:27] + "3f800000;" + below, layer[:27] + "bf800000;" + below, layer[:27] + "80000001;" + below,
		layer + ";00000000" + below[8:], layer + ";" + below[:9] + "ff800000", layer + ";" + below[:9] + "7fc00000",
		strings.Repeat(layer+"/", 12) + layer + ";" + below, strings.Repeat("/", 1000) + ";" + below, strings.Repeat(";", 1000)} {
		isShown(t, "ReadGround "+text, show(impl.ReadGround(text)), noGround)
	}
	isShown(t, "-0 as the loss", show(impl.ReadGround(layer[:27]+"80000000;"+below)), show(groundOf(1, 1, impl.Layer{Thick: 1, Speed: 1, Density: 1, Loss: minusZero()}), true))
	isShown(t, "12 layers", show(impl.ReadGround(strings.Repeat(layer+"/", 11)+layer+";"+below)), show(plainLayers(12), true))
}

func TestReadGatherFails(t *testing.T) {
	one, two := "3f800000", "3f800000,3f800000"
	isShown(t, "a gather", show(impl.ReadGather("2;"+one+";"+two)), show(gatherOfSize(2, 1), true))
	for _, text := range []string{"", "none", ";", ";;", "/", "2", "2;" + one, one + ";" + two, "2;" + one + ";", "2;;" + two, ";" + one + ";" + two,
		"1;" + one + ";" + two, "3;" + one + ";" + two, "0;" + one + ";" + two, "-2;" + one + ";" + two, "02;" + one + ";" + two, "+2;" + one + ";" + two,
		"2.0;" + one + ";" + two, " 2;" + one + ";" + two, "00000002;" + one + ";" + two, "2 ;" + one + ";" + two, "4294967298;" + one + ";" + two,
		"18446744073709551618;" + one + ";" + two, "0;none;none", "0;" + one + ";none", "1;none;none", "1;none;" + one, "2;none;" + two, "2;" + one + ";none",
		"2;" + two + ";" + two, "2;" + one + ";" + two + "/" + two, "2;" + one + ";" + two + "/", "2;" + one + ";/" + two, "2;" + two + ";" + two + "//" + two,
		"2;" + two + ";" + two + "/" + one, "2;" + two + ";" + two + "/none", "2;" + two + ";" + two + ";" + two, "2;" + one + ";" + two + ";", ";2;" + one + ";" + two,
		"2;" + one + ";;" + two, "2;;" + one + ";" + two, "2/" + one + ";" + two, "2:" + one + ":" + two, "2;" + one + ":" + two, "2," + one + ";" + two,
		"2;7f800000;" + two, "2;ff800000;" + two, "2;7fc00000;" + two, "2;" + one + ";7fc00001,3f800000", "2;" + one + ";3F800000,3f800000", "2;3F800000;" + two,
		"2;" + one + "/" + one + ";" + two + "/" + two, "2;" + one + "," + ";" + two, "65;" + one + ";" + many(one, 65), "1;" + many(one, 17) + ";" + strings.Repeat(one+"/", 16) + one,
		"257;" + one + ";" + many(one, 257), "1;" + one + ";" + strings.Repeat("/", 1000), strings.Repeat(";", 1000)} {
		isShown(t, "ReadGather "+text, show(impl.ReadGather(text)), noGather)
	}
	isShown(t, "64 ticks", show(impl.ReadGather("64;"+one+";"+many(one, 64))), show(gatherOfSize(64, 1), true))
	isShown(t, "16 places", show(impl.ReadGather("1;"+many(one, 16)+";"+strings.Repeat(one+"/", 15)+one)), show(gatherOfSize(1, 16), true))
}

func TestReadPathAndSectionFail(t *testing.T) {
	one := "3f800000"
	isShown(t, "a path", show(impl.ReadPath(many(one, 4))), show(pathOf(1, 1, 1, 1), true))
	for _, text := range []string{"", "none", one, many(one, 2), many(one, 3), many(one, 5), many(one, 8), many(one, 3) + ",", "," + many(one, 3), many(one, 4) + ",",
		"," + many(one, 4), many(one, 2) + "/" + many(one, 2), many(one, 2) + ";" + many(one, 2), many(one, 3) + ",none", many(one, 3) + ",3F800000", many(one, 3) + ",447a0001",
		"c47a0001," + many(one, 3), "7fc00000," + many(one, 3), many(one, 3) + ",7fc00001", many(one, 3) + ",7f800000", "ff800000," + many(one, 3), many(one, 300)} {
		isShown(t, "ReadPath "+text, show(impl.ReadPath(text)), noPath)
	}
	isShown(t, "a section", show(impl.ReadSection("2,1:"+many(one, 2))), show(sectionOf(2, 1, 1, 1), true))
	for _, text := range []string{"", "none", ":", ":" + one, "1:" + one, "1,1", "1,1:", "1,1,1:" + one, "2:" + many(one, 2), "2,1,1:" + many(one, 2), "1,1:none", "0,0:none",
		"0,1:none", "1,0:none", "none:none", "none:" + one, "-1,-1:" + one, "-1,1:none", "1,2:" + one, "1,1:" + many(one, 2), "2,2:" + many(one, 3), "2,2:" + many(one, 5),
		"01,1:" + one, "1,01:" + one, "+1,1:" + one, "1,+1:" + one, "1, 1:" + one, "1,1 :" + one, "1,1: " + one, "1,1::" + one, ":1,1:" + one, "1,1:" + one + ":", "1,1;" + one,
		"1,1/" + one, "1;1:" + one, "1,1:" + one + ",", "1,1:3F800000", "1,1:7fc00001", "17,1:" + many(one, 17), "1,17:" + many(one, 17), "257,1:" + many(one, 257),
		"4294967297,1:" + one, "1,18446744073709551617:" + one, "1,1:" + one + "/" + one, "1,,1:" + one, ",1,1:" + one, strings.Repeat(":", 1000)} {
		isShown(t, "ReadSection "+text, show(impl.ReadSection(text)), noSection)
	}
	isShown(t, "16 by 16", show(impl.ReadSection("16,16:"+many(one, 256))), show(sectionOf(16, 16, ones[float32](256)...), true))
}

// A text less a byte at either end, or with one more, is none.
func TestEndsOfTexts(t *testing.T) {
	for _, kind := range textKinds() {
		for _, text := range kind.texts {
			if kind.read(text) == kind.none {
				t.Errorf("%s %.90s: it is none", kind.name, text)
			}
			last := len(text) - 1
			for _, other := range []string{text[:last], text[1:], text + "0", "0" + text, text + "\n", "\n" + text, text + " ", " " + text, text + ",", "," + text,
				text + "/", "/" + text, text + ";", ";" + text, text + ":", text + "\x00", text + text, text + ";" + text, strings.ToUpper(text) + ","} {
				isShown(t, kind.name+" "+other, kind.read(other), kind.none)
			}
		}
		isShown(t, kind.name+" of nothing", kind.read(""), kind.none)
	}
}

// Whatever a byte is changed to, or wherever one is missing or more, the text is
// that of a value, or of none.
func TestChangedTexts(t *testing.T) {
	for _, kind := range textKinds() {
		for _, text := range kind.texts {
			step := len(text)/150 + 1
			for at := 0; at < len(text); at += step {
				isShown(t, kind.name, kind.read(text[:at]+text[at+1:]), kind.told(text[:at]+text[at+1:]))
				for _, c := range []byte("0179afAFg/;:,- \nn\xff") {
					other := changed(text, at, c)
					isShown(t, kind.name+" "+other, kind.read(other), kind.told(other))
					other = text[:at] + string([]byte{c}) + text[at:]
					isShown(t, kind.name+" "+other, kind.read(other), kind.told(other))
				}
			}
		}
	}
}

// One kind of text is none of the others.
func TestTextsOfOtherKinds(t *testing.T) {
	for _, kind := range textKinds() {
		for _, other := range textKinds() {
			for _, text := range other.texts {
				isShown(t, kind.name+" "+text, kind.read(text), kind.told(text))
				if kind.name != other.name {
					isShown(t, kind.name+" "+text, kind.read(text), kind.none)
				}
			}
		}
		for _, text := range wildTexts() {
			isShown(t, kind.name+" "+text, kind.read(text), kind.none)
		}
	}
}
