package lang

import (
	"slices"
	"strconv"

	"almanac/api"
)

// Meaning is what is known of a name that stands in an expr: the type that
// its item says, none if there is no item; or what its item comes to.
type Meaning struct {
	Type  string
	Worth Number
}

// Names answers the names of an expr, each once, in the order in which they first stand.
func Names(expr Expr) []string { return expr.names(nil) }

// TypeOf answers the type of an expr, empty if it has none. Of its names the types count.
func TypeOf(expr Expr, meanings map[string]Meaning) string { return expr.typed(meanings) }

// Reckon answers what an expr that has a type comes to, and whether all of its
// sums and products are in bounds. Of its names the worths count.
func Reckon(expr Expr, meanings map[string]Meaning) (Number, bool) { return expr.reckon(meanings) }

// WriteWorth answers as a text what an expr of that type comes to.
func WriteWorth(kind string, worth Number) string {
	if kind == Bool {
		return strconv.FormatBool(worth == worthOf(true))
	}
	return strconv.FormatInt(int64(worth), 10)
}

// ReadWorth is the way back from WriteWorth.
func ReadWorth(text string) Number {
	switch text {
	case "true":
		return worthOf(true)
	case "false":
		return worthOf(false)
	}
	number, _ := strconv.ParseInt(text, 10, 64)
	return Number(number)
}

// worthOf makes numbers of truths too, so that exprs of both types come to one kind of thing.
func worthOf(truth bool) Number {
	if truth {
		return 1
	}
	return 0
}

func (n Number) names(found []string) []string { return found }

func (t Truth) names(found []string) []string { return found }

func (n Name) names(found []string) []string {
	if slices.Contains(found, string(n)) {
		return found
	}
	return append(found, string(n))
}

func (p Pair) names(found []string) []string { return p.Right.names(p.Left.names(found)) }

func (c Choice) names(found []string) []string {
	return c.Else.names(c.Then.names(c.If.names(found)))
}

func (n Number) typed(map[string]Meaning) string { return Int }

func (t Truth) typed(map[string]Meaning) string { return Bool }

func (n Name) typed(meanings map[string]Meaning) string { return meanings[string(n)].Type }

func (p Pair) typed(meanings map[string]Meaning) string {
	left, right := p.Left.typed(meanings), p.Right.typed(meanings)
	switch {
	case left != right:
		return ""
	case p.Op != "==":
		return onlyIf(left == Int, Int)
	}
	return onlyIf(left != "", Bool)
}

func (c Choice) typed(meanings map[string]Meaning) string {
	then := c.Then.typed(meanings)
	return onlyIf(c.If.typed(meanings) == Bool && c.Else.typed(meanings) == then, then)
}

func onlyIf(fits bool, kind string) string {
	if fits {
		return kind
	}
	return ""
}

func (n Number) reckon(map[string]Meaning) (Number, bool) { return n, true }

func (t Truth) reckon(map[string]Meaning) (Number, bool) { return worthOf(bool(t)), true }

func (n Name) reckon(meanings map[string]Meaning) (Number, bool) {
	return meanings[string(n)].Worth, true
}

func (p Pair) reckon(meanings map[string]Meaning) (Number, bool) {
	left, ok := p.Left.reckon(meanings)
	if !ok {
		return 0, false
	}
	right, ok := p.Right.reckon(meanings)
	if !ok {
		return 0, false
	}
	switch p.Op {
	case "+":
		return bounded(left + right)
	case "*":
		return bounded(left * right)
	}
	return worthOf(left == right), true
}

func bounded(number Number) (Number, bool) {
	if number > api.MaxNumber {
		return 0, false
	}
	return number, true
}

// reckon reckons both ways: what is out of bounds in the one not taken counts too.
func (c Choice) reckon(meanings map[string]Meaning) (Number, bool) {
	yes, okYes := c.Then.reckon(meanings)
	no, okNo := c.Else.reckon(meanings)
	condition, ok := c.If.reckon(meanings)
	switch {
	case !ok || !okYes || !okNo:
		return 0, false
	case condition == worthOf(true):
		return yes, true
	}
	return no, true
}
