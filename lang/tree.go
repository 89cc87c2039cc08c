package lang

import (
	"slices"
	"strconv"
	"strings"
)

// Tree is what the tokens of a file say. It knows tokens by their numbers, not
// by their places, so that it stays the same when only blanks and comments change.
type Tree struct {
	Items []Item
	Fault int // the number of the first token that cannot stand where it does, or NoFault
}

// NoFault is the Fault of a tree whose tokens can all stand where they do.
const NoFault = -1

// ItemKind tells the kinds of items apart.
type ItemKind int

const (
	Use ItemKind = iota
	Let
	Pub
)

// Int and Bool are the types that an item can say that it has.
const (
	Int  = "int"
	Bool = "bool"
)

// Item is one item of a file. A Use has neither Type nor Expr.
type Item struct {
	Kind   ItemKind
	Number int // of the token that is its name
	Name   string
	Type   string
	Expr   Expr
}

// Expr is a Number, a Truth, a Name, a Pair or a Choice. Each is a plain value,
// so that == holds two exprs against each other, part by part.
type Expr interface {
	write(out *strings.Builder)
	names(found []string) []string
	typed(meanings map[string]Meaning) string
	reckon(meanings map[string]Meaning) (Number, bool)
}

// Number is a number that stands in an expr. Its size leaves room for the
// product of any two, wherever the program runs.
type Number int64

// Truth is `true` or `false`.
type Truth bool

// Name is a name that stands in an expr.
type Name string

// Pair is a sum, a product or a comparison: Op is `+`, `*` or `==`.
type Pair struct {
	Op          string
	Left, Right Expr
}

// Choice is an `if`.
type Choice struct {
	If, Then, Else Expr
}

func (n Number) write(out *strings.Builder) { out.WriteString(strconv.FormatInt(int64(n), 10)) }

func (t Truth) write(out *strings.Builder) { out.WriteString(strconv.FormatBool(bool(t))) }

func (n Name) write(out *strings.Builder) { out.WriteString(string(n)) }

func (p Pair) write(out *strings.Builder) {
	out.WriteByte('(')
	p.Left.write(out)
	out.WriteString(p.Op)
	p.Right.write(out)
	out.WriteByte(')')
}

func (c Choice) write(out *strings.Builder) {
	out.WriteByte('(')
	c.If.write(out)
	out.WriteByte('?')
	c.Then.write(out)
	out.WriteByte(':')
	c.Else.write(out)
	out.WriteByte(')')
}

func (i Item) write(out *strings.Builder) {
	out.WriteString(strconv.Itoa(i.Number))
	switch i.Kind {
	case Use:
		out.WriteString(":use ")
	case Let:
		out.WriteString(":let ")
	case Pub:
		out.WriteString(":pub ")
	}
	out.WriteString(i.Name)
	if i.Kind != Use {
		out.WriteByte(':')
		out.WriteString(i.Type)
		out.WriteByte('=')
		i.Expr.write(out)
	}
	out.WriteByte('\n')
}

// WriteTree answers the tree as a text: a line for each item, then the fault, if there is one.
func WriteTree(tree Tree) string {
	var out strings.Builder
	for _, item := range tree.Items {
		item.write(&out)
	}
	if tree.Fault != NoFault {
		out.WriteByte('!')
		out.WriteString(strconv.Itoa(tree.Fault))
	}
	return out.String()
}

// SameTree tells whether two trees say the same.
func SameTree(one Tree, other Tree) bool {
	return one.Fault == other.Fault && slices.Equal(one.Items, other.Items)
}

// Exports answers the names of the pub items, each once, in rising order.
func Exports(tree Tree) []string {
	var names []string
	for _, item := range tree.Items {
		if item.Kind == Pub {
			names = append(names, item.Name)
		}
	}
	slices.Sort(names)
	return slices.Compact(names)
}

// Uses answers the files that the tree uses, each once, in the order of the items.
func Uses(tree Tree) []string {
	var files []string
	for _, item := range tree.Items {
		if item.Kind == Use && !slices.Contains(files, item.Name) {
			files = append(files, item.Name)
		}
	}
	return files
}

// Named answers the items `let` and `pub` of that name.
func Named(tree Tree, name string) []Item {
	var items []Item
	for _, item := range tree.Items {
		if item.Kind != Use && item.Name == name {
			items = append(items, item)
		}
	}
	return items
}
