package tests

import (
	"fmt"
	"math"
	"strings"
	"testing"

	"loop.example/g01231/impl"
)

// wildDesks are desks and what is none.
func wildDesks() []impl.Desk {
	list := append(someDesks()[:7:7], noDesks()...)
	return append(list[:60:60], deskOf(impl.Ground{Layers: plainLayers(2).Layers, Speed: notNumber(), Density: -infinite()}, impl.Gather{Ticks: math.MaxInt64}),
		deskOf(oneLayer(), impl.Gather{Ticks: math.MinInt64, Places: someNumbers(), Traces: [][]float32{nil, {}, someNumbers()}}))
}

// wildLines are lines of all kinds, and of none.
func wildLines() []string {
	list := append(lineTexts(), wildTexts()...)
	for _, form := range lineForms() {
		first, _, _ := strings.Cut(form.line, " ")
		list = append(list, first, first+strings.Repeat(" ", len(form.kinds)), first+strings.Repeat(" 9223372036854775807", len(form.kinds)),
			first+strings.Repeat(" 7fc00000", len(form.kinds)), first+strings.Repeat(" -1", len(form.kinds)), form.line+"\n", " "+form.line)
	}
	return append(list, "show\nshow\n", strings.Repeat(" ", 50000), "ground "+strings.Repeat("/", 50000), "gather "+strings.Repeat(";", 50000),
		"gather 1;"+strings.Repeat("/", 50000)+";", "flat 1 "+strings.Repeat(",", 50000), "shift "+strings.Repeat("0,", 50000), "thick "+strings.Repeat("9", 50000)+" none")
}

// wildJournals are texts of journals, and of none.
func wildJournals() []string {
	list := append(wildTexts(), "0 \n", strings.Repeat("0 \n", 4001), "no\nwhat\n", "0", " ", "\n", strings.Repeat("\n", 12001), "-1 x\n", "99999999999999999999 x\n")
	for _, lines := range someLines() {
		journal := journalWords(lines)
		list = append(list, journal, journal+journal, journal[len(journal)/2:], journal[:len(journal)/2], strings.ToUpper(journal))
	}
	return list
}

func linesTranscript() string {
	var b strings.Builder
	say := func(results ...any) { b.WriteString(show(results...)) }
	for _, d := range wildDesks() {
		for _, line := range wildLines() {
			say(impl.DeskCommand(d, line))
		}
	}
	return b.String()
}

func desksTranscript() string {
	var b strings.Builder
	say := func(results ...any) { b.WriteString(show(results...)) }
	say(impl.NewDesk())
	for _, d := range wildDesks() {
		say(impl.ValidDesk(d))
		say(impl.GroundText(d.Ground))
		say(impl.GatherText(d.Gather))
		for _, other := range wildDesks() {
			say(impl.SameDesk(d, other))
		}
		for _, text := range wildJournals() {
			say(impl.RunDesk(d, text))
			say(impl.RunJournal(d, text))
		}
		for seed := range uint32(3) {
			say(impl.RunDesk(d, scriptBy(20, seed)))
		}
	}
	return b.String()
}

func deskTextsTranscript() string {
	var b strings.Builder
	say := func(results ...any) { b.WriteString(show(results...)) }
	for _, text := range append(wildLines(), wildJournals()...) {
		say(impl.ReadGround(text))
		say(impl.ReadGather(text))
		say(impl.ReadPath(text))
		say(impl.ReadSection(text))
		say(impl.CountOutputs(text))
		say(impl.RecoverJournal(text))
		say(impl.JournalOf([]string{text}))
		say(impl.JournalOf(strings.Split(text, "\n")))
	}
	for _, p := range wildPaths() {
		say(impl.PathText(p))
	}
	for _, s := range wildSections() {
		say(impl.SectionText(s))
	}
	for _, kind := range textKinds() {
		for _, text := range kind.texts {
			say(kind.read(text), kind.read(text[1:]))
		}
	}
	return b.String()
}

// A panic or a loop without an end fails this test, too.
func TestEqualDesksHaveEqualResults(t *testing.T) {
	areRepeated(t, linesTranscript, desksTranscript, deskTextsTranscript)
}

func TestDesksSideBySide(t *testing.T) {
	d := deskOf(fourLayers(), gatherBy(9, 5, 1))
	script := scriptBy(30, 77)
	journal := journalWords(lineTexts())
	areSideBySide(t, func() string {
		return show(impl.RunDesk(d, script)) + show(impl.RunJournal(d, journal)) + show(impl.DeskCommand(d, "sort")) + show(impl.DeskCommand(d, "nothing"))
	})
}

// roomyDesk is a copy of a desk all of whose lists have spare capacity.
func roomyDesk(d impl.Desk) impl.Desk {
	d.Ground.Layers = roomy(d.Ground.Layers, impl.Layer{Thick: 42, Speed: 43, Density: 44, Loss: 0.5})
	d.Gather = roomyGather(d.Gather)
	return d
}

// wholeDesk shows a desk together with the spare capacity of its lists.
func wholeDesk(d impl.Desk) string {
	return show(d.Ground.Speed, d.Ground.Density) + whole(d.Ground.Layers) + wholeGather(d.Gather)
}

func TestDesksAreNotModified(t *testing.T) {
	journal := journalWords(lineTexts())
	for _, wild := range wildDesks() {
		d, other := roomyDesk(wild), roomyDesk(wild)
		before := wholeDesk(d)
		for _, line := range wildLines() {
			impl.DeskCommand(d, line)
			isShown(t, "modified by "+line[:min(len(line), 50)], wholeDesk(d), before)
		}
		impl.ValidDesk(d)
		impl.SameDesk(d, other)
		impl.SameDesk(other, d)
		impl.GroundText(d.Ground)
		impl.GatherText(d.Gather)
		impl.RunDesk(d, strings.Join(append(lineTexts(), ""), "\n"))
		impl.RunDesk(d, scriptBy(40, 5))
		impl.RunDesk(d, "")
		impl.RunJournal(d, journal)
		isShown(t, "modified", wholeDesk(d)+wholeDesk(other), before+before)
	}
	for _, lines := range someLines() {
		list := roomy(lines, "mark")
		before := whole(list)
		impl.JournalOf(list)
		isShown(t, "lines", whole(list), before)
	}
	for _, s := range wildSections() {
		s.Values = roomy(s.Values, 42)
		before := whole(s.Values)
		impl.SectionText(s)
		isShown(t, "values", whole(s.Values), before)
	}
}

// spoilDesk overwrites all that a desk reaches, and reports whether its lists share
// no memory.
func spoilDesk(d impl.Desk) bool {
	spoil(d.Ground.Layers, impl.Layer{Thick: 42})
	return spoilGather(d.Gather)
}

// desksTold are all results of chapter 8 that are desks.
func desksTold(d impl.Desk) map[string]func() impl.Desk {
	told := map[string]func() impl.Desk{
		"NewDesk":          func() impl.Desk { return impl.NewDesk() },
		"RunDesk none":     func() impl.Desk { d, _, _ := impl.RunDesk(d, ""); return d },
		"RunDesk what":     func() impl.Desk { d, _, _ := impl.RunDesk(d, "\n"); return d },
		"RunDesk tells":    func() impl.Desk { d, _, _ := impl.RunDesk(d, "show\ntraces\n"); return d },
		"RunDesk changes":  func() impl.Desk { d, _, _ := impl.RunDesk(d, "sort\nthick 0 40000000\n"); return d },
		"RunJournal none":  func() impl.Desk { d, _, _ := impl.RunJournal(d, ""); return d },
		"RunJournal what":  func() impl.Desk { d, _, _ := impl.RunJournal(d, journalWords([]string{""})); return d },
		"RunJournal lines": func() impl.Desk { d, _, _ := impl.RunJournal(d, journalWords([]string{"show", "norm"})); return d },
	}
	for _, line := range append(lineTexts(), "", "nothing", "thick 0 bf800000", "thick 9 3f800000", "flat 0 none", "ground x", "gather x", "shift 0", "shift 0,0,0,0,0", "show ") {
		told["line "+line] = func() impl.Desk { d, _, _ := impl.DeskCommand(d, line); return d }
	}
	return told
}

// Desks that functions return share no memory with one another, with arguments or
// with other results, though arguments share some.
func TestResultsOfDesksShareNoMemory(t *testing.T) {
	d := roomyDesk(wordDesk())
	shared := roomy(wavy(9, 5), 42)
	d.Gather.Traces[1], d.Gather.Traces[3] = shared, shared
	before := wholeDesk(d)
	for what, tell := range desksTold(d) {
		first, second := tell(), tell()
		want := show(second)
		isShown(t, what, show(impl.ValidDesk(first), spoilDesk(first)), "true;true;")
		isShown(t, what, show(second), want)
		isShown(t, what, show(tell()), want)
		isShown(t, what, wholeDesk(d), before)
	}
}

func TestTextsShareNoMemory(t *testing.T) {
	ground, gather, section := groundWords(twelveLayers()), gatherWords(gatherBy(5, 4, 1)), sectionWords(sectionBy(3, 4, 2))
	for range 2 {
		g, _ := impl.ReadGround(ground)
		s, _ := impl.ReadGather(gather)
		values, _ := impl.ReadSection(section)
		lines, _, _ := impl.RecoverJournal("45171 show\n36056 depths\n")
		isShown(t, "told", show(g, s, values, lines), show(twelveLayers(), gatherBy(5, 4, 1), sectionBy(3, 4, 2), []string{"show", "depths"}))
		isShown(t, "alone", show(spoilDesk(deskOf(g, s))), "true;")
		spoil(values.Values, 42)
		spoil(lines, "mark")
	}
}

func TestNilAndEmptyDesksAreTheSame(t *testing.T) {
	empty := deskOf(impl.Ground{Layers: []impl.Layer{}}, impl.Gather{Places: []float32{}, Traces: [][]float32{}})
	for _, d := range []impl.Desk{empty, {}} {
		isShown(t, "desk", show(impl.ValidDesk(d))+show(impl.DeskCommand(d, "show"))+show(impl.RunDesk(d, ""))+show(impl.RunJournal(d, "")), "false;"+noOutput+noOutput+noRun)
		isShown(t, "texts", show(impl.GroundText(d.Ground))+show(impl.GatherText(d.Gather)), noText+noText)
	}
	ground := deskOf(impl.Ground{Layers: []impl.Layer{}, Speed: 1, Density: 1}, newDesk().Gather)
	isShown(t, "no layers", show(impl.ValidDesk(ground)), "false;")
	for _, values := range [][]float32{nil, {}} {
		isShown(t, "section", show(impl.SectionText(impl.Section{Values: values}))+show(impl.SectionText(impl.Section{Wide: 1, Deep: 1, Values: values})), noText+noText)
	}
	for _, lines := range [][]string{nil, {}} {
		isShown(t, "journal", show(impl.JournalOf(lines)), ";true;")
	}
	isShown(t, "lines", fmt.Sprint(impl.RecoverJournal("")), "[] 0 true")
}
