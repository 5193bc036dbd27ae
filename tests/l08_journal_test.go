package tests

import (
	"fmt"
	"slices"
	"strings"
	"testing"

	"loop.example/g01231/impl"
)

// checkFrom is the check number of bytes that begins with another one, as chapter 1
// tells it.
func checkFrom(check int, s string) int {
	for i := range len(s) {
		check = (733*check + int(s[i]) + 61) % 65003
	}
	return check
}

// entriesOf are the lines of the journal of lines.
func entriesOf(lines []string) []string {
	entries := make([]string, len(lines))
	check := 0
	for i, line := range lines {
		check = checkFrom(check, line)
		entries[i] = fmt.Sprintf("%d %s\n", check, line)
	}
	return entries
}

func journalWords(lines []string) string {
	return strings.Join(entriesOf(lines), "")
}

// recoveredBy is what RecoverJournal must return: of all beginnings of the lines of
// a text, the longest one whose journal is a beginning of it.
func recoveredBy(text string) string {
	var lines []string
	for _, entry := range strings.Split(text, "\n") {
		_, line, _ := strings.Cut(entry, " ")
		lines = append(lines, line)
	}
	for n := len(lines); n > 0; n-- {
		if journal := journalWords(lines[:n]); strings.HasPrefix(text, journal) {
			return show(lines[:n], int64(len(journal)), true)
		}
	}
	return show([]string{}, int64(0), true)
}

// someLines are lines as journals may have.
func someLines() [][]string {
	return [][]string{nil, {""}, {"", "", ""}, {"show"}, {"show", "show", "show"}, {"show", "depths"}, {" "}, {"  ", " show ", "thick 0 40000000"}, {"a b  c", "", " 1 "},
		{"thick 0 40000000", "flat 2 00000000,3f800000", "event 3f800000 40000000 40400000", "nothing", "", "stack"}, {"45171 show", "45171 show"}, {"no", "what", "ok"},
		{"\x00\xff\r", "äöü", "\t"}, {"0", "1 2", "-1", "none"}, slices.Repeat([]string{""}, 1500), {strings.Repeat("x", 11000)}}
}

// Journals of another program.
func TestJournalsByHand(t *testing.T) {
	for _, c := range []struct {
		lines   []string
		journal string
	}{
		{nil, ""}, {[]string{}, ""}, {[]string{"show", "depths"}, "45171 show\n36056 depths\n"}, {[]string{""}, "0 \n"}, {[]string{"", "", " "}, "0 \n0 \n93  \n"},
		{[]string{"show"}, "45171 show\n"},
		{[]string{"show", "show", "show"}, "45171 show\n30087 show\n20476 show\n"},
		{[]string{"a b  c", "", " 1 "}, "16441 a b  c\n16441 \n26785  1 \n"},
		{[]string{"thick 0 40000000", "flat 2 00000000,3f800000", "nothing", "", "stack"}, "17295 thick 0 40000000\n49364 flat 2 00000000,3f800000\n45412 nothing\n45412 \n64309 stack\n"},
		{[]string{"\x00\xff\x0d", "\xc3\xa4\xc3\xb6\xc3\xbc", "\x09"}, "49810 \x00\xff\x0d\n54585 \xc3\xa4\xc3\xb6\xc3\xbc\n34030 \x09\n"},
		{[]string{"45171 show", "45171 show"}, "47096 45171 show\n58147 45171 show\n"},
	} {
		isShown(t, "JournalOf", show(impl.JournalOf(c.lines)), show(c.journal, true))
		isShown(t, "RecoverJournal", show(impl.RecoverJournal(c.journal)), show(append([]string{}, c.lines...), int64(len(c.journal)), true))
	}
}

func TestJournalOf(t *testing.T) {
	for _, lines := range someLines() {
		isShown(t, show(lines), show(impl.JournalOf(lines)), show(journalWords(lines), true))
	}
	for _, lines := range [][]string{{"\n"}, {"a\nb"}, {"a\n"}, {"\na"}, {"show", "show\n"}, {"\n", "show"}, {"show", "", "a\nb", "show"}, {strings.Repeat("\n", 100)}} {
		isShown(t, show(lines), show(impl.JournalOf(lines)), noText)
	}
}

// A journal has at most 12000 bytes, with check numbers, blanks and newlines.
func TestLongJournals(t *testing.T) {
	reached := false
	for n := 11980; n <= 12010; n++ {
		for _, lines := range [][]string{{strings.Repeat("x", n)}, {strings.Repeat("y", n-100), strings.Repeat("z", 85)}, {"show", strings.Repeat("x", n-20)},
			{strings.Repeat("x", n-20), ""}, append(slices.Repeat([]string{"sort"}, 1000), strings.Repeat("x", n-10880))} {
			journal := journalWords(lines)
			want := show(journal, true)
			if len(journal) > 12000 {
				want = noText
			}
			reached = reached || len(journal) == 12000
			isShown(t, show(n, len(journal)), show(impl.JournalOf(lines)), want)
		}
	}
	isShown(t, "reached", show(reached), "true;")
	for _, count := range []int{3999, 4000} {
		lines := slices.Repeat([]string{""}, count)
		isShown(t, show(count), show(impl.JournalOf(lines)), show(strings.Repeat("0 \n", count), true))
	}
	for _, lines := range [][]string{slices.Repeat([]string{""}, 4001), slices.Repeat([]string{""}, 1000000), {strings.Repeat("x", 1000000)}, slices.Repeat([]string{"show"}, 5000)} {
		isShown(t, "too long", show(impl.JournalOf(lines)), noText)
	}
}

func TestRecoverJournal(t *testing.T) {
	for _, lines := range someLines() {
		journal := journalWords(lines)
		want := show(append([]string{}, lines...), int64(len(journal)), true)
		isShown(t, "whole", show(impl.RecoverJournal(journal)), want)
		for _, behind := range []string{"\n", " ", "x", "0", "0 ", "45171 show", "1 \n", "\x00", "show\n", "\n\n", "0 nothing\n"} {
			isShown(t, "with "+behind, show(impl.RecoverJournal(journal+behind)), recoveredBy(journal+behind))
		}
		isShown(t, "behind", show(impl.RecoverJournal(journal+"x")), want)
	}
}

// A journal that is cut has the lines that are whole.
func TestCutJournals(t *testing.T) {
	for _, lines := range someLines()[:14] {
		entries := entriesOf(lines)
		journal := strings.Join(entries, "")
		for at := range len(journal) + 1 {
			kept, length := 0, 0
			for kept < len(entries) && length+len(entries[kept]) <= at {
				length += len(entries[kept])
				kept++
			}
			want := show(append([]string{}, lines[:kept]...), int64(length), true)
			isShown(t, show("cut at", at), show(impl.RecoverJournal(journal[:at])), want)
		}
	}
}

// Where a byte is another one, the lines before it are intact.
func TestChangedJournals(t *testing.T) {
	for _, lines := range someLines()[:14] {
		entries := entriesOf(lines)
		journal := strings.Join(entries, "")
		kept, length := 0, 0
		for at := range len(journal) {
			if at >= length+len(entries[kept]) {
				length += len(entries[kept])
				kept++
			}
			want := show(append([]string{}, lines[:kept]...), int64(length), true)
			for _, c := range []byte("0159 \n-+sx\x00\xff\r") {
				other := changed(journal, at, c)
				if other != journal {
					isShown(t, show("changed at", at, c), show(impl.RecoverJournal(other)), want)
				}
				isShown(t, show("changed at", at, c), show(impl.RecoverJournal(other)), recoveredBy(other))
			}
			isShown(t, show("without", at), show(impl.RecoverJournal(journal[:at]+journal[at+1:])), recoveredBy(journal[:at]+journal[at+1:]))
			isShown(t, show("from", at), show(impl.RecoverJournal(journal[at:])), recoveredBy(journal[at:]))
			isShown(t, show("double", at), show(impl.RecoverJournal(journal[:at]+journal[at/2:])), recoveredBy(journal[:at]+journal[at/2:]))
		}
	}
}

// Lines depend on those before them.
func TestMovedLinesOfJournals(t *testing.T) {
	lines := []string{"thick 0 40000000", "show", "depths", "", "stack", "show"}
	entries := entriesOf(lines)
	recovered := func(entries ...string) string { return show(impl.RecoverJournal(strings.Join(entries, ""))) }
	first := func(count int) string {
		return show(append([]string{}, lines[:count]...), int64(len(strings.Join(entries[:count], ""))), true)
	}
	for at := range entries {
		twice := append(slices.Clone(entries[:at+1]), entries[at:]...)
		want := first(at + 1)
		if lines[at] == "" {
			// An empty line has the check number of the line before, any number of times.
			want = show([]string{"thick 0 40000000", "show", "depths", "", "", "stack", "show"}, int64(len(strings.Join(twice, ""))), true)
		}
		isShown(t, show("twice", at), recovered(twice...), want)
		missing := append(slices.Clone(entries[:at]), entries[at+1:]...)
		want = first(at)
		if lines[at] == "" {
			want = show([]string{"thick 0 40000000", "show", "depths", "stack", "show"}, int64(len(strings.Join(missing, ""))), true)
		}
		isShown(t, show("missing", at), recovered(missing...), want)
		for other := range at {
			moved := slices.Clone(entries)
			moved[at], moved[other] = moved[other], moved[at]
			isShown(t, show("exchanged", other, at), recovered(moved...), recoveredBy(strings.Join(moved, "")))
			if at < 3 {
				isShown(t, show("exchanged", other, at), recovered(moved...), first(other))
			}
		}
	}
}

// Check numbers are those of the lines, in decimal as it must be.
func TestCheckNumbersOfJournals(t *testing.T) {
	lines := []string{"show", "depths", "stack"}
	entries := entriesOf(lines)
	alone := entriesOf([]string{"depths"})[0]
	checks := []string{"45171", "36056", strings.Fields(entries[2])[0]}
	for _, second := range []string{alone, "045171 depths\n", "036056 depths\n", "+36056 depths\n", "-36056 depths\n", "36056  depths\n", " 36056 depths\n", "36056\tdepths\n", "36056depths\n",
		"36056 Depths\n", "36056 depths \n", "36056 depths\r\n", "36056\n", "36056 \n", "depths\n", " depths\n", "101059 depths\n", "-28947 depths\n", "36056.0 depths\n", "3.6056e4 depths\n",
		"0x8cd8 depths\n", checks[0] + " depths\n", checks[2] + " depths\n", "36056 show\n", "36057 depths\n", "36055 depths\n", "\n", "none depths\n", "３6056 depths\n"} {
		isShown(t, second, show(impl.RecoverJournal(entries[0]+second+entries[2])), show([]string{"show"}, int64(len(entries[0])), true))
	}
	for _, text := range []string{"", "\n", " ", "\n\n\n", "show\n", "show\ndepths\n", " show\n", "0 show\n", "none", "0", "0 ", "1 \n", "-0 \n", "00 \n", "+0 \n", "\x00", "3f800000\n",
		strings.Repeat("x", 12000), strings.Repeat("\n", 12000), strings.Repeat(" ", 12000), journalWords(lines)[1:], "\n" + journalWords(lines), " " + journalWords(lines)} {
		isShown(t, text, show(impl.RecoverJournal(text)), show([]string{}, int64(0), true))
	}
}

func TestLongTextsOfJournals(t *testing.T) {
	all := strings.Repeat("0 \n", 4000)
	isShown(t, "12000 bytes", show(impl.RecoverJournal(all)), show(slices.Repeat([]string{""}, 4000), int64(12000), true))
	desk, count, ok := impl.RunJournal(newDesk(), all)
	isShown(t, "12000 bytes", show(desk, count, ok), show(newDesk(), int64(4000), true))
	for _, text := range []string{all + "0", all + "\n", all + "0 \n", strings.Repeat("x", 12001), strings.Repeat("0 \n", 1000000)} {
		isShown(t, "too long", show(impl.RecoverJournal(text)), noLines)
		isShown(t, "too long", show(impl.RunJournal(newDesk(), text)), noRun)
	}
	short := journalWords([]string{"show"})
	isShown(t, "filled", show(impl.RecoverJournal(short+strings.Repeat("x", 12000-len(short)))), show([]string{"show"}, int64(len(short)), true))
	isShown(t, "filled", show(impl.RecoverJournal(short+strings.Repeat("x", 12001-len(short)))), noLines)
}

// A journal does what its lines do, as many as are intact.
func TestRunJournal(t *testing.T) {
	for _, d := range someDesks() {
		for _, lines := range append(someLines()[:14], lineTexts()) {
			entries := entriesOf(lines)
			for count := range len(lines) + 1 {
				script := ""
				for _, line := range lines[:count] {
					script += line + "\n"
				}
				after, _, _ := impl.RunDesk(d, script)
				journal := strings.Join(entries[:count], "")
				want := show(after, int64(count), true)
				isShown(t, show(lines[:count]), show(impl.RunJournal(d, journal)), want)
				isShown(t, "with bytes behind", show(impl.RunJournal(d, journal+"7 show\nx")), want)
				if count < len(lines) {
					isShown(t, "cut", show(impl.RunJournal(d, journal+strings.TrimSuffix(entries[count], "\n"))), want)
				}
			}
		}
	}
}

// lineTexts are the lines of lineForms.
func lineTexts() []string {
	var list []string
	for _, form := range lineForms() {
		list = append(list, form.line)
	}
	return list
}
