package parse_test

import (
	"math/rand"
	"slices"
	"strconv"
	"strings"

	"lathe/api"
)

// maker makes programs, as lines of pieces; seeded, the same ones in every run.
type maker struct{ *rand.Rand }

func (r maker) oneOf(all ...string) string {
	return all[r.Intn(len(all))]
}

// program is mostly right; its functions have up to so many lines.
func (r maker) program(most int) [][]string {
	const types = " ( [ T { , T } ] ) T"
	var parts [][][]string
	for i := range r.Intn(4) {
		parts = append(parts, [][]string{{"global", "g" + strconv.Itoa(i), r.oneOf("1", "8", "63", "64")}})
		parts = append(parts, [][]string{r.line(strings.Fields("extern x" + strconv.Itoa(i) + types))})
	}
	for i := range 1 + r.Intn(3) {
		head := r.line(strings.Fields("func f" + strconv.Itoa(i) + types))
		parts = append(parts, slices.Concat([][]string{head}, r.body(r.Intn(most)), [][]string{{"end"}}))
	}
	r.Shuffle(len(parts), func(i, j int) { parts[i], parts[j] = parts[j], parts[i] })
	return slices.Concat(parts...)
}

func (r maker) body(n int) [][]string {
	lines, blocks := [][]string{{"b0", ":"}}, 1
	for range n {
		if r.Intn(6) == 0 {
			lines = append(lines, []string{"b" + strconv.Itoa(blocks), ":"})
			blocks++
		} else {
			// Behind the patterns of an end and a label.
			lines = append(lines, r.line(inside[2+r.Intn(len(inside)-2)]))
		}
	}
	return lines
}

// line is one that a pattern has.
func (r maker) line(pattern []string) []string {
	if len(pattern) == 0 {
		return nil
	}
	if pattern[0] != "[" && pattern[0] != "{" {
		return append([]string{r.piece(pattern[0])}, r.line(pattern[1:])...)
	}
	inner, behind := cutBrackets(pattern)
	if r.Intn(3) == 0 {
		return r.line(behind)
	}
	if pattern[0] == "{" {
		behind = pattern
	}
	return append(r.line(inner), r.line(behind)...)
}

func (r maker) piece(part string) string {
	switch part {
	case "NAME":
		return r.oneOf("f0", "f0", "f0", "f0", "f1", "x0", "x0", "x1")
	case "NUM":
		return r.oneOf("1", "9", "64")
	case "REG":
		return "%" + strconv.Itoa(r.Intn(api.MaxReg+1))
	case "T":
		return r.oneOf("i8", "ptr", "void", "i"+strconv.Itoa(1+r.Intn(64)))
	case "B":
		return r.oneOf("b0", "b1", "b"+strconv.Itoa(r.Intn(1000)))
	case "V":
		return r.oneOf(r.piece("REG"), "7", strconv.FormatUint(r.Uint64()>>r.Intn(64), 10), "poison", "null", "@g0", "%0")
	}
	return r.oneOf(strings.Split(part, "|")...)
}

// spoil changes a program at one place.
func (r maker) spoil(lines [][]string) [][]string {
	n := r.Intn(len(lines))
	line := slices.Clone(lines[n])
	at := r.Intn(len(line) + 1)
	piece := allPieces[r.Intn(len(allPieces))]
	switch r.Intn(6) {
	case 0:
		return slices.Insert(lines, r.Intn(len(lines)+1), line)
	case 1:
		return slices.Delete(lines, n, n+1)
	case 2:
		line = line[:at]
	case 3:
		line = slices.Insert(line, at, piece)
	default:
		line = append(append(line[:at:at], piece), line[min(at+1, len(line)):]...)
	}
	lines[n] = line
	return lines
}

// plain is the text of a program with one blank between pieces.
func plain(lines [][]string) string {
	var text strings.Builder
	for _, line := range lines {
		text.WriteString(strings.Join(line, " ") + "\n")
	}
	return text.String()
}

// loose is the text of a program with blanks of all kinds, but few where none must be, with empty lines and remarks.
func (r maker) loose(lines [][]string) string {
	var text strings.Builder
	for _, line := range lines {
		ahead := ""
		for _, piece := range line {
			if ahead != "" && !strings.ContainsAny(ahead, "=,():") && !strings.ContainsAny(piece[:1], "=,():%@") {
				text.WriteString(r.oneOf(" ", "\t", "\r"))
			}
			text.WriteString(r.oneOf("", "", " ", "\t", "\r", " \t  ") + piece)
			ahead = piece
		}
		text.WriteString(r.oneOf("\n", " \n", "\r\n", "#\n", "\t# end\n", "\n\n", "\n# %@\xff b0:\n", "\n \n\t#global\n\n"))
	}
	return strings.TrimSuffix(text.String(), "\n")
}
