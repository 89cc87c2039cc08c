package lang

import (
	"strconv"

	"almanac/api"
)

// parser reads tokens from the first on. A reading that fails stays at the
// token that cannot stand where it does: only what can stand is stepped over.
type parser struct {
	tokens []Token
	at     int
	nest   int // how many brackets and ifs stand around
}

// ReadTree reads tokens, the END among them, as items.
func ReadTree(tokens []Token) Tree {
	p := parser{tokens: tokens}
	tree := Tree{Fault: NoFault}
	for !p.atEnd() {
		item, ok := p.item()
		if !ok {
			tree.Fault = p.at
			break
		}
		tree.Items = append(tree.Items, item)
	}
	return tree
}

func (p *parser) text() string { return p.tokens[p.at].Text }

func (p *parser) atEnd() bool { return p.text() == "" }

// take steps over the token, if it is the one that is meant.
func (p *parser) take(text string) bool {
	if p.text() != text {
		return false
	}
	p.at++
	return true
}

func (p *parser) item() (Item, bool) {
	if p.take("use") {
		return p.use()
	}
	if p.take("pub") {
		return p.let(Pub)
	}
	return p.let(Let)
}

func (p *parser) use() (Item, bool) {
	item := Item{Kind: Use, Number: p.at}
	var ok bool
	if item.Name, ok = p.name(); !ok {
		return Item{}, false
	}
	return item, p.take(";")
}

func (p *parser) let(kind ItemKind) (Item, bool) {
	if !p.take("let") {
		return Item{}, false
	}
	item := Item{Kind: kind, Number: p.at}
	var ok bool
	if item.Name, ok = p.name(); !ok || !p.take(":") {
		return Item{}, false
	}
	if item.Type, ok = p.typeWord(); !ok || !p.take("=") {
		return Item{}, false
	}
	if item.Expr, ok = p.expr(); !ok {
		return Item{}, false
	}
	return item, p.take(";")
}

func (p *parser) name() (string, bool) {
	text := p.text()
	if !IsName(text) {
		return "", false
	}
	p.at++
	return text, true
}

func (p *parser) typeWord() (string, bool) {
	text := p.text()
	return text, p.take(Int) || p.take(Bool)
}

func (p *parser) expr() (Expr, bool) {
	left, ok := p.sum()
	if !ok || !p.take("==") {
		return left, ok
	}
	right, ok := p.sum()
	return Pair{"==", left, right}, ok
}

func (p *parser) sum() (Expr, bool) { return p.chain("+", p.product) }

func (p *parser) product() (Expr, bool) { return p.chain("*", p.atom) }

// chain reads parts with the op between them, the first two bound first.
func (p *parser) chain(op string, part func() (Expr, bool)) (Expr, bool) {
	left, ok := part()
	for ok && p.take(op) {
		var right Expr
		right, ok = part()
		left = Pair{op, left, right}
	}
	return left, ok
}

func (p *parser) atom() (Expr, bool) {
	text := p.text()
	switch {
	case text == "(":
		return p.nested(p.bracket)
	case text == "if":
		return p.nested(p.choice)
	case text == "true" || text == "false":
		p.at++
		return Truth(text == "true"), true
	case isNumber(text):
		p.at++
		number, err := strconv.Atoi(text)
		return Number(number), err == nil
	case IsName(text):
		p.at++
		return Name(text), true
	}
	return nil, false
}

// nested reads an atom with others inside. Where too many stand around, its
// first token cannot stand, so that is not stepped over.
func (p *parser) nested(inside func() (Expr, bool)) (Expr, bool) {
	if p.nest == api.MaxNest {
		return nil, false
	}
	p.at++
	p.nest++
	expr, ok := inside()
	p.nest--
	return expr, ok
}

func (p *parser) bracket() (Expr, bool) {
	expr, ok := p.expr()
	return expr, ok && p.take(")")
}

func (p *parser) choice() (Expr, bool) {
	var choice Choice
	var ok bool
	if choice.If, ok = p.expr(); !ok || !p.take("then") {
		return nil, false
	}
	if choice.Then, ok = p.expr(); !ok || !p.take("else") {
		return nil, false
	}
	if choice.Else, ok = p.expr(); !ok {
		return nil, false
	}
	return choice, p.take("end")
}
