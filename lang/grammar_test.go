package lang

import (
	"math/rand"
	"slices"
	"strings"
	"testing"
)

// grammar reads words by a stack of what may come, and no tree: a second
// account of which token cannot stand where it does.
type grammar struct {
	stack []string // the next one last
	items []int    // the numbers of the names of the items that count
	name  int
}

func (g *grammar) push(parts ...string) {
	slices.Reverse(parts)
	g.stack = append(g.stack, parts...)
}

// nest counts what closes a bracket or an if that is still open.
func (g *grammar) nest() int {
	n := 0
	for _, part := range g.stack {
		if part == ")" || part == "end" {
			n++
		}
	}
	return n
}

// spread puts in the place of a part what it is made of, or tells that it cannot begin so.
func (g *grammar) spread(part string, word string) bool {
	switch part {
	case "file":
		if word != "" {
			g.push("item", "file")
		}
	case "item":
		switch word {
		case "use":
			g.push("use", "NAME", ";", "DONE")
		case "pub":
			g.push("pub", "let", "NAME", ":", "TYPE", "=", "expr", ";", "DONE")
		case "let":
			g.push("let", "NAME", ":", "TYPE", "=", "expr", ";", "DONE")
		default:
			return false
		}
	case "expr":
		g.push("atom", "products", "sums", "equal")
	case "products":
		if word == "*" {
			g.push("*", "atom", "products")
		}
	case "sums":
		if word == "+" {
			g.push("+", "atom", "products", "sums")
		}
	case "equal":
		if word == "==" {
			g.push("==", "atom", "products", "sums")
		}
	case "atom":
		switch {
		case (word == "(" || word == "if") && g.nest() == 20:
			return false
		case word == "(":
			g.push("(", "expr", ")")
		case word == "if":
			g.push("if", "expr", "then", "expr", "else", "expr", "end")
		default:
			g.push("LEAF")
		}
	}
	return true
}

func fits(part string, word string) bool {
	const keywords = " use pub let int bool true false if then else end "
	all := func(set string) bool { return word != "" && strings.Trim(word, set) == "" }
	name := all("abcdefghijklmnopqrstuvwxyz") && len(word) <= 8 && !strings.Contains(keywords, " "+word+" ")
	switch part {
	case "NAME":
		return name
	case "TYPE":
		return word == "int" || word == "bool"
	case "LEAF":
		return name || word == "true" || word == "false" || all("0123456789") && len(word) <= 9
	}
	return part == word
}

// read answers the number of the first word that cannot stand, or NoFault; the END is the last, empty word.
func (g *grammar) read(words []string) int {
	g.push("file")
	for at, word := range words {
		for stood := false; !stood && len(g.stack) > 0; {
			part := g.stack[len(g.stack)-1]
			g.stack = g.stack[:len(g.stack)-1]
			switch part {
			case "file", "item", "expr", "products", "sums", "equal", "atom":
				if !g.spread(part, word) {
					return at
				}
			case "DONE":
				g.items = append(g.items, g.name)
			default:
				if !fits(part, word) {
					return at
				}
				if part == "NAME" {
					g.name = at
				}
				stood = true
			}
		}
	}
	return NoFault
}

func randomExpr(random *rand.Rand, depth int) []string {
	kind := random.Intn(10)
	if depth == 0 || kind < 3 {
		return []string{[]string{"a", "eightlet", "7", "000000010", "true", "false"}[random.Intn(6)]}
	}
	part := func() []string { return randomExpr(random, depth-1) }
	switch {
	case kind < 6:
		op := []string{"+", "*", "=="}[random.Intn(3)]
		return slices.Concat(part(), []string{op}, part())
	case kind < 9:
		return slices.Concat([]string{"("}, part(), []string{")"})
	}
	return slices.Concat([]string{"if"}, part(), []string{"then"}, part(), []string{"else"}, part(), []string{"end"})
}

func randomFile(random *rand.Rand) []string {
	var words []string
	for range random.Intn(4) {
		if random.Intn(3) == 0 {
			words = append(words, "use", "b", ";")
			continue
		}
		if random.Intn(2) == 0 {
			words = append(words, "pub")
		}
		words = append(words, "let", "x", ":", []string{"int", "bool"}[random.Intn(2)], "=")
		words = append(words, randomExpr(random, random.Intn(6))...)
		words = append(words, ";")
	}
	return words
}

// spoil takes out, puts in or changes some words.
func spoil(random *rand.Rand, words []string) []string {
	others := strings.Fields("use pub let int bool true false if then else end a longnames 1 1234567890 ( ) + * = == ; : @ A")
	for range random.Intn(3) {
		at := random.Intn(len(words) + 1)
		end := min(at+random.Intn(2), len(words))
		put := others[random.Intn(len(others)):][:1]
		words = slices.Concat(words[:at], put[:random.Intn(2)], words[end:])
	}
	return words
}

func TestGrammar(t *testing.T) {
	random := rand.New(rand.NewSource(2))
	for range 20000 {
		words := spoil(random, randomFile(random))
		if random.Intn(20) == 0 {
			deep := 17 + random.Intn(6)
			words = append(strings.Fields("let d : int ="), slices.Repeat([]string{[]string{"(", "if"}[random.Intn(2)]}, deep)...)
		}
		text := strings.Join(words, " ")
		tree := ReadTree(ReadTokens(text))
		g := &grammar{}
		if want := g.read(append(words, "")); tree.Fault != want {
			t.Fatalf("P4: %q: the fault is %d, want %d", text, tree.Fault, want)
		}
		var numbers []int
		for _, item := range tree.Items {
			numbers = append(numbers, item.Number)
		}
		if !slices.Equal(numbers, g.items) {
			t.Fatalf("P4: %q: the items are %v, want %v", text, numbers, g.items)
		}
	}
}
