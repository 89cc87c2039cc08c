package almanac

import (
	"math/rand"
	"slices"
	"strconv"
	"strings"
	"testing"

	"almanac/api"
	"almanac/lang"
)

// A model is a second account of the answers: it makes its files as values, not
// by reading them, and tells cycles by what can be reached from where.
type modelExpr struct {
	word  string // a leaf's, or `+`, `*`, `==`, `if`
	parts []modelExpr
}

type modelItem struct {
	head  string // `use`, `let`, `pub let`
	name  string
	kind  string
	expr  modelExpr
	place string // of the name
}

type modelFile struct {
	text   string
	items  []modelItem
	ending int
	fault  string // its place
}

type model map[string]modelFile

func (e modelExpr) text() string {
	switch {
	case len(e.parts) == 0:
		return e.word
	case e.word == "if":
		return "if " + e.parts[0].text() + " then " + e.parts[1].text() + " else " + e.parts[2].text() + " end"
	}
	return "(" + e.parts[0].text() + e.word + e.parts[1].text() + ")"
}

func (e modelExpr) isName() bool {
	return len(e.parts) == 0 && e.word[0] >= 'a' && e.word != "true" && e.word != "false"
}

func (e modelExpr) names() []string {
	if e.isName() {
		return []string{e.word}
	}
	var names []string
	for _, part := range e.parts {
		names = append(names, part.names()...)
	}
	return names
}

func placeBehind(text string) string {
	line := strings.Count(text, "\n") + 1
	column := len(text) - strings.LastIndex(text, "\n")
	return strconv.Itoa(line) + ":" + strconv.Itoa(column)
}

func modelOne(random *rand.Rand, names []string, depth int) modelExpr {
	kind := random.Intn(8)
	if depth == 0 || kind < 3 {
		leaves := append([]string{"1", "007", "true", "false", "31623", "999999999"}, names...)
		leaves = append(leaves, names...)
		return modelExpr{word: leaves[random.Intn(len(leaves))]}
	}
	part := func() modelExpr { return modelOne(random, names, depth-1) }
	if kind == 7 {
		return modelExpr{"if", []modelExpr{part(), part(), part()}}
	}
	return modelExpr{[]string{"+", "*", "==", "+"}[kind-3], []modelExpr{part(), part()}}
}

// modelTyped makes an expr that most likely has the type.
func modelTyped(random *rand.Rand, kind string, ints []string, bools []string, depth int) modelExpr {
	names, leaves := ints, []string{"1", "0", "31622", "999999999"}
	if kind == "bool" {
		names, leaves = bools, []string{"true", "false"}
	}
	choice := random.Intn(10)
	if depth == 0 || choice < 4 {
		if len(names) > 0 && random.Intn(3) > 0 {
			leaves = names
		}
		return modelExpr{word: leaves[random.Intn(len(leaves))]}
	}
	part := func(kind string) modelExpr { return modelTyped(random, kind, ints, bools, depth-1) }
	switch {
	case choice == 4:
		return modelExpr{"if", []modelExpr{part("bool"), part(kind), part(kind)}}
	case kind == "int":
		return modelExpr{[]string{"+", "*"}[random.Intn(2)], []modelExpr{part("int"), part("int")}}
	}
	inner := []string{"int", "bool"}[random.Intn(2)]
	return modelExpr{"==", []modelExpr{part(inner), part(inner)}}
}

var modelFiles = []string{"a", "b", "c", "d"}

func modelItemOf(random *rand.Rand) modelItem {
	ints, bools := []string{"i", "j", "k", "l", "none"}, []string{"p", "q", "two"}
	if random.Intn(3) == 0 {
		return modelItem{head: "use", name: append(modelFiles, "two", "none")[random.Intn(6)]}
	}
	item := modelItem{head: "pub let", kind: "int"}
	if random.Intn(4) == 0 {
		item.head = "let"
	}
	item.name = slices.Concat(ints, bools)[random.Intn(8)]
	if slices.Contains(bools, item.name) {
		item.kind = "bool"
	}
	if random.Intn(12) == 0 {
		item.expr = modelOne(random, slices.Concat(ints, bools), 2)
	} else {
		item.expr = modelTyped(random, item.kind, ints, bools, random.Intn(3))
	}
	return item
}

func modelFileOf(random *rand.Rand) modelFile {
	for {
		var items []modelItem
		for range random.Intn(8) {
			items = append(items, modelItemOf(random))
		}
		if file := modelWritten(random, items, random.Intn(8)); len(file.text) <= api.MaxText {
			return file
		}
	}
}

// modelWritten writes items with any blanks between them, and an ending that may be at fault.
func modelWritten(random *rand.Rand, items []modelItem, ending int) modelFile {
	blanks := []string{" ", "\n", "\t ", "# no\n", " \n "}
	blank := func() string { return blanks[random.Intn(len(blanks))] }
	file := modelFile{ending: ending}
	for _, item := range items {
		file.text += item.head + blank()
		item.place = placeBehind(file.text)
		file.text += item.name
		if item.head != "use" {
			file.text += ":" + item.kind + "=" + item.expr.text()
		}
		file.text += ";" + blank()
		file.items = append(file.items, item)
	}
	switch ending {
	case 0:
		file.fault = placeBehind(file.text)
		file.text += "; use b;"
	case 1:
		file.text += "let i:int=1" + blank()
		file.fault = placeBehind(file.text)
	case 2:
		file.text += "pub let i:int="
		file.fault = placeBehind(file.text)
		file.text += "use b;"
	}
	return file
}

func (m model) texts() []string {
	var texts []string
	for _, file := range modelFiles {
		texts = append(texts, file+":"+m[file].text)
	}
	return texts
}

func (m model) lets(file string, name string) []modelItem {
	var items []modelItem
	for _, item := range m[file].items {
		if item.head != "use" && item.name == name {
			items = append(items, item)
		}
	}
	return items
}

func (m model) find(file string, name string) string {
	switch len(m.lets(file, name)) {
	case 1:
		return file
	case 0:
		break
	default:
		return "two"
	}
	found := map[string]int{}
	for _, item := range m[file].items {
		for _, other := range m.lets(item.name, name) {
			if item.head == "use" && other.head == "pub let" {
				found[item.name] = 1
			}
		}
	}
	for other := range found {
		if len(found) == 1 {
			return other
		}
		return "two"
	}
	return "none"
}

func (m model) exprType(file string, e modelExpr) string {
	if e.isName() {
		if items := m.lets(m.find(file, e.word), e.word); len(items) == 1 {
			return items[0].kind
		}
		return "none"
	}
	kinds := ""
	for _, part := range e.parts {
		kinds += " " + m.exprType(file, part)
	}
	switch e.word + kinds {
	case "+ int int", "* int int", "if bool int int":
		return "int"
	case "== int int", "== bool bool", "if bool bool bool", "true", "false":
		return "bool"
	}
	if len(e.parts) == 0 {
		return "int"
	}
	return "none"
}

func (m model) typeOf(file string, name string) string {
	items := m.lets(file, name)
	if len(items) != 1 {
		return "none"
	}
	if m.exprType(file, items[0].expr) != items[0].kind {
		return "bad"
	}
	return items[0].kind
}

// needs answers the items that one needs, as file and name.
func (m model) needs(file string, name string) [][2]string {
	kind := m.typeOf(file, name)
	if kind == "none" || kind == "bad" {
		return nil
	}
	var needs [][2]string
	for _, other := range m.lets(file, name)[0].expr.names() {
		needs = append(needs, [2]string{m.find(file, other), other})
	}
	return needs
}

// reach answers all that an item needs, step by step.
func (m model) reach(file string, name string) map[[2]string]int {
	reached := map[[2]string]int{}
	left := m.needs(file, name)
	for len(left) > 0 {
		next := left[0]
		left = left[1:]
		if reached[next] == 0 {
			reached[next] = 1
			left = append(left, m.needs(next[0], next[1])...)
		}
	}
	return reached
}

func (m model) isCycle(file string, name string) bool {
	reached := m.reach(file, name)
	for item := range reached {
		if m.reach(item[0], item[1])[item] == 1 {
			return true
		}
	}
	return false
}

func (m model) value(file string, name string) string {
	kind := m.typeOf(file, name)
	if kind == "none" || kind == "bad" {
		return kind
	}
	if m.isCycle(file, name) {
		return "cycle"
	}
	faults := map[string]int{}
	for _, need := range m.needs(file, name) {
		faults[m.value(need[0], need[1])] = 1
	}
	for _, fault := range []string{"bad", "over"} {
		if faults[fault] == 1 {
			return fault
		}
	}
	return m.exprValue(file, m.lets(file, name)[0].expr)
}

func (m model) exprValue(file string, e modelExpr) string {
	if e.isName() {
		return m.value(m.find(file, e.word), e.word)
	}
	var values []string
	for _, part := range e.parts {
		value := m.exprValue(file, part)
		if value == "over" {
			return value
		}
		values = append(values, value)
	}
	switch e.word {
	case "true", "false":
		return e.word
	case "==":
		return strconv.FormatBool(values[0] == values[1])
	case "if":
		return values[map[string]int{"true": 1, "false": 2}[values[0]]]
	case "+", "*":
		left, _ := strconv.ParseFloat(values[0], 64)
		right, _ := strconv.ParseFloat(values[1], 64)
		number := map[string]float64{"+": left + right, "*": left * right}[e.word]
		if number > 999999999 {
			return "over"
		}
		return strconv.Itoa(int(number))
	}
	return strings.TrimLeft(e.word[:len(e.word)-1], "0") + e.word[len(e.word)-1:]
}

func (m model) report(file string) string {
	out := ""
	for _, item := range m[file].items {
		word := ""
		value := m.value(file, item.name)
		switch {
		case item.head == "use":
			if _, there := m[item.name]; !there {
				word = "unknown"
			}
		case len(m.lets(file, item.name)) > 1:
			word = "twice"
		case m.typeOf(file, item.name) == "bad":
			word = "type"
		case value == "cycle" || value == "bad" || value == "over":
			word = value
		}
		if word != "" {
			out += item.place + " " + word + "\n"
		}
	}
	if m[file].fault != "" {
		out += m[file].fault + " syntax\n"
	}
	return out
}

func (m model) exports(file string) []string {
	var names []string
	for _, item := range m[file].items {
		if item.head == "pub let" {
			names = append(names, item.name)
		}
	}
	slices.Sort(names)
	return slices.Compact(names)
}

// answer leaves Tokens and Tree to package lang: of them the model has no account of its own.
func (m model) answer(kind int, file string, name string) string {
	switch kind {
	case api.Known:
		if _, there := m[file]; there {
			return "yes"
		}
		return "no"
	case api.Tokens:
		return lang.WriteTokens(lang.ReadTokens(m[file].text))
	case api.Tree:
		return lang.WriteTree(lang.ReadTree(lang.ReadTokens(m[file].text)))
	case api.Exports:
		return strings.Join(m.exports(file), " ")
	case api.Find:
		return m.find(file, name)
	case api.Type:
		return m.typeOf(file, name)
	case api.Value:
		return m.value(file, name)
	}
	return m.report(file)
}

// TestModel asks all that can be asked, in any order, of files that change.
func TestModel(t *testing.T) {
	random := rand.New(rand.NewSource(5))
	seen := map[string]int{}
	for range 200 {
		s, m := New(), model{}
		for range 12 {
			file := modelFiles[random.Intn(len(modelFiles))]
			if random.Intn(5) == 0 {
				s.Remove(file)
				delete(m, file)
			} else {
				m[file] = modelFileOf(random)
				wantSet(t, s, file, m[file].text, api.OK)
			}
			for range 40 {
				kind := api.Find + random.Intn(4)
				file := append(modelFiles, "gone")[random.Intn(5)]
				name := []string{"i", "j", "k", "l", "none", "p", "q", "two", "h"}[random.Intn(9)]
				want := m.answer(kind, file, name)
				if got, errno := s.Ask(kind, file, name); got != want || errno != api.OK {
					t.Fatalf("P4: Ask(%d, %s, %s) = %q, %d, want %q, of %q", kind, file, name, got, errno, want, m.texts())
				}
				for _, word := range strings.Fields(want) {
					seen[strconv.Itoa(kind)+" "+word]++
				}
			}
		}
	}
	for _, want := range []string{"5 a", "5 two", "5 none", "6 int", "6 bool", "6 bad", "6 none", "7 none", "7 bad", "7 cycle", "7 over", "7 true", "7 false", "7 1", "7 31622", "8 unknown", "8 twice", "8 type", "8 cycle", "8 bad", "8 over", "8 syntax"} {
		if seen[want] < 10 {
			t.Errorf("%q was to be answered only %d times", want, seen[want])
		}
	}
}
