package parse_test

import (
	"slices"
	"strings"

	"tripwire/api"
	"tripwire/ast"
	"tripwire/lex"
)

// Here the chapter's grammar itself is read, as it stands there, and all ways through it are gone at once. A token is
// asked for only where all that stands ahead of it was read by some way; since each rule can be brought to an end, a
// statement can go on there. So the last token that was asked for is the first one at which none can.

const grammar = `
stmt   = BEGIN | COMMIT | ABORT | SAVEPOINT name | ROLLBACK TO name
       | CREATE TABLE name ( col {, col} ) | CREATE INDEX name ON name ( name )
       | CREATE RULE name PRIORITY number ON event TO name [DEFERRED]
         (ALWAYS | WHEN from [WHERE or]) DO (ROLLBACK | act {; act} END)
       | DROP (TABLE | INDEX | RULE) name | act | select
event  = INSERT | DELETE | UPDATE
col    = name (BOOL | INT | TEXT) [NOT NULL] [UNIQUE]
act    = INSERT INTO name (VALUES ( or {, or} ) | select)
       | UPDATE name SET name = or {, name = or} [WHERE or]
       | DELETE FROM name [WHERE or]
select = SELECT (* | or {, or}) FROM from [WHERE or]
from   = source {, source}
source = (name | INSERTED | DELETED | OLD | NEW) [name]
or     = and {OR and}
and    = not {AND not}
not    = NOT not | cmp
cmp    = sum [(= | <> | < | <= | > | >=) sum | IS [NOT] NULL]
sum    = term {(+ | -) term}
term   = unary {* unary}
unary  = - unary | atom
atom   = number | str | NULL | TRUE | FALSE | ( or ) | name [. name]
`

// part is a piece of a rule: a token or a rule by its text, or others, one of which (|), each of which (&), one of
// which or none ([), or many of which ({) are read.
type part struct {
	kind  byte
	text  string
	parts []part
}

// rules are the grammar's rules by their names.
var rules = readGrammar()

func readGrammar() map[string]part {
	all := map[string]part{}
	for _, s := range strings.Split(strings.ReplaceAll(strings.TrimSpace(grammar), "\n ", " "), "\n") {
		name, rule, _ := strings.Cut(s, "=")
		l := marks(rule)
		all[strings.TrimSpace(name)], _ = readWays(append(l, "@)"), "@)")
	}
	return all
}

// marks cuts a rule into its words and signs, and brackets, which have an @ ahead of them: a parenthesis alone is a sign.
func marks(rule string) []string {
	var l []string
	for _, s := range strings.Fields(rule) {
		var behind []string
		for len(s) > 1 && strings.ContainsAny(s[:1], "([{") {
			l, s = append(l, "@"+s[:1]), s[1:]
		}
		for len(s) > 1 && strings.ContainsAny(s[len(s)-1:], ")]}") {
			behind, s = append([]string{"@" + s[len(s)-1:]}, behind...), s[:len(s)-1]
		}
		l = append(append(l, s), behind...)
	}
	return l
}

// readWays reads up to a bracket, and tells what stands behind it.
func readWays(l []string, close string) (part, []string) {
	way, all := part{kind: '&'}, part{kind: '|'}
	for {
		s := l[0]
		l = l[1:]
		var p part
		switch s {
		case close:
			all.parts = append(all.parts, way)
			return all, l
		case "|":
			all.parts, way = append(all.parts, way), part{kind: '&'}
			continue
		case "@(":
			p, l = readWays(l, "@)")
		case "@[":
			p, l = readWays(l, "@]")
			p = part{kind: '[', parts: []part{p}}
		case "@{":
			p, l = readWays(l, "@}")
			p = part{kind: '{', parts: []part{p}}
		default:
			p = part{text: s}
		}
		way.parts = append(way.parts, p)
	}
}

// node is a token, or what a rule made of several nodes.
type node struct {
	rule  string
	token lex.Token
	kids  []node
}

// way is nodes that were read, and the number of the token behind them.
type way struct {
	end   int
	nodes []node
}

type search struct {
	tokens []lex.Token
	last   int // the number of the last token that was asked for
	known  map[string][][]way
}

// ways are all ways in which a part can be read from a token on.
func (s *search) ways(p part, at int) []way {
	switch p.kind {
	case '|':
		var l []way
		for _, q := range p.parts {
			l = append(l, s.ways(q, at)...)
		}
		return l
	case '&':
		l := []way{{end: at}}
		for _, q := range p.parts {
			l = s.behind(l, q)
		}
		return l
	case '[':
		return append(s.ways(p.parts[0], at), way{end: at})
	case '{':
		l := []way{{end: at}}
		for next := l; len(next) > 0; l = append(l, next...) {
			next = s.behind(next, p.parts[0])
		}
		return l
	}
	if _, ok := rules[p.text]; ok {
		return s.byRule(p.text, at)
	}
	s.last = max(s.last, at)
	if t := s.tokens[at]; fits(t, p.text) {
		return []way{{at + 1, []node{{token: t}}}}
	}
	return nil
}

// behind goes on with each of the ways.
func (s *search) behind(l []way, p part) []way {
	var all []way
	for _, w := range l {
		for _, v := range s.ways(p, w.end) {
			all = append(all, way{v.end, slices.Concat(w.nodes, v.nodes)})
		}
	}
	return all
}

func (s *search) byRule(name string, at int) []way {
	if s.known[name] == nil {
		s.known[name] = make([][]way, len(s.tokens)+1)
	}
	if l := s.known[name][at]; l != nil {
		return l
	}
	l := []way{}
	for _, w := range s.ways(rules[name], at) {
		l = append(l, way{w.end, []node{{rule: name, kids: w.nodes}}})
	}
	s.known[name][at] = l
	return l
}

func fits(t lex.Token, text string) bool {
	switch text {
	case "name":
		return t.Kind == lex.Name
	case "number":
		return t.Kind == lex.Number
	case "str":
		return t.Kind == lex.Str
	}
	return (t.Kind == lex.Word || t.Kind == lex.Sym) && t.S == text
}

// toldNode is what a rule makes of the whole text.
func toldNode(rule, text string) (node, api.Fault) {
	if len(text) > 2000 {
		return node{}, long()
	}
	l, x := lex.Tokens(text)
	if x != (api.Fault{}) {
		return node{}, x
	}
	s := search{tokens: l, known: map[string][][]way{}}
	for _, w := range s.byRule(rule, 0) {
		if s.last = max(s.last, w.end); l[w.end].Kind == lex.End {
			return w.nodes[0], api.Fault{}
		}
	}
	return node{}, syntax(l[s.last].At)
}

// told is the expression that a text is.
func told(text string) (ast.Expr, api.Fault) {
	n, x := toldNode("or", text)
	if x != (api.Fault{}) {
		return ast.Expr{}, x
	}
	if e := n.expr(); ast.RightExpr(e) {
		return e, x
	}
	return ast.Expr{}, long()
}

// toldStmt is the statement that a text is.
func toldStmt(text string) (ast.Stmt, api.Fault) {
	n, x := toldNode("stmt", text)
	if x != (api.Fault{}) {
		return ast.Stmt{}, x
	}
	if s := n.stmt(); ast.Right(s) {
		return s, x
	}
	return ast.Stmt{}, long()
}

// of is what was read by a rule among a node's own.
func (n node) of(rule string) []node {
	var l []node
	for _, k := range n.kids {
		if k.rule == rule {
			l = append(l, k)
		}
	}
	return l
}

// names are the Names among a node's own tokens.
func (n node) names() []string {
	var l []string
	for _, k := range n.kids {
		if k.rule == "" && k.token.Kind == lex.Name {
			l = append(l, k.token.S)
		}
	}
	return l
}

// words are the Words and Syms among a node's own tokens, each with a blank on both sides.
func (n node) words() string {
	text := " "
	for _, k := range n.kids {
		if k.token.Kind == lex.Word || k.token.Kind == lex.Sym {
			text += k.token.S + " "
		}
	}
	return text
}

func (n node) has(word string) bool { return strings.Contains(n.words(), " "+word+" ") }

// among is the number of the first of the words that a node has, from 1 on.
func (n node) among(words ...string) int {
	return 1 + slices.IndexFunc(words, n.has)
}

func each[T any](l []node, f func(node) T) []T {
	var all []T
	for _, n := range l {
		all = append(all, f(n))
	}
	return all
}

func (n node) stmt() ast.Stmt {
	if len(n.kids) == 1 && n.kids[0].rule != "" {
		return n.kids[0].act()
	}
	words, names := strings.Fields(n.words()), append(n.names(), "", "", "")
	s := ast.Stmt{Name: names[0]}
	switch strings.Join(words[:min(2, len(words))], " ") {
	case "BEGIN":
		s.Kind = 1
	case "COMMIT":
		s.Kind = 2
	case "ABORT":
		s.Kind = 3
	case "SAVEPOINT":
		s.Kind = 4
	case "ROLLBACK TO":
		s.Kind = 5
	case "CREATE TABLE":
		s.Kind, s.Cols = 6, each(n.of("col"), node.col)
	case "CREATE INDEX":
		s.Kind, s.Table, s.Col = 7, names[1], names[2]
	case "CREATE RULE":
		return n.ruled()
	default:
		s.Kind = 8 + n.among("TABLE", "INDEX", "RULE")
	}
	return s
}

func (n node) ruled() ast.Stmt {
	s := ast.Stmt{Kind: 8, Name: n.names()[0], Table: n.names()[1], Deferred: n.has("DEFERRED"), Rolls: n.has("ROLLBACK")}
	for _, k := range n.kids {
		s.Priority += k.token.N
	}
	s.Event = n.of("event")[0].among("INSERT", "DELETE", "UPDATE")
	for _, f := range n.of("from") {
		s.From = each(f.of("source"), node.source)
	}
	s.Where, s.Acts = each(n.of("or"), node.expr), each(n.of("act"), node.act)
	return s
}

func (n node) col() api.Column {
	return api.Column{Name: n.names()[0], Type: n.among("BOOL", "INT", "TEXT"), NotNull: n.has("NOT"), Unique: n.has("UNIQUE")}
}

func (n node) source() ast.Source {
	s := ast.Source{Kind: n.among("INSERTED", "DELETED", "OLD", "NEW")}
	names := n.names()
	if s.Kind == 0 {
		s.Table, names = names[0], names[1:]
	}
	s.Var = strings.Join(names, "")
	return s
}

// act is that of an act or of a select: the last expression is the WHERE's, if there is one.
func (n node) act() ast.Stmt {
	s := ast.Stmt{Kind: 11 + n.among("INSERT", "UPDATE", "DELETE", "SELECT")}
	l := each(n.of("or"), node.expr)
	if n.has("WHERE") {
		l, s.Where = l[:len(l)-1:len(l)-1], l[len(l)-1:]
	}
	switch s.Kind {
	case 12:
		s.Values = l
		for _, k := range n.of("select") {
			s = k.act()
			s.Kind = 12
		}
	case 13:
		for i, e := range l {
			s.Sets = append(s.Sets, ast.Set{Col: n.names()[1+i], E: e})
		}
	case 15:
		if len(l) > 0 {
			s.Items = l
		}
		s.From = each(n.of("from")[0].of("source"), node.source)
		return s
	}
	s.Table = n.names()[0]
	return s
}

// expr is that of any rule from or to atom.
func (n node) expr() ast.Expr {
	if n.rule == "atom" {
		return n.atom()
	}
	words := strings.Fields(n.words())
	switch {
	case n.has("NULL"):
		e := ast.Expr{Op: "null", Kids: exprs(n.kids[0].expr())}
		if n.has("NOT") {
			e = ast.Expr{Op: "not", Kids: exprs(e)}
		}
		return e
	case n.has("NOT"):
		return ast.Expr{Op: "not", Kids: exprs(n.kids[1].expr())}
	case n.rule == "unary" && n.has("-"):
		return ast.Expr{Op: "neg", Kids: exprs(n.kids[1].expr())}
	}
	e := n.kids[0].expr()
	for i, w := range words {
		e = ast.Expr{Op: strings.ToLower(w), Kids: exprs(e, n.kids[2+2*i].expr())}
	}
	return e
}

func (n node) atom() ast.Expr {
	if l := n.of("or"); len(l) > 0 {
		return l[0].expr()
	}
	switch t := n.kids[0].token; {
	case len(n.kids) == 3:
		return ast.Expr{Op: "column", Var: t.S, Col: n.kids[2].token.S}
	case t.Kind == lex.Name:
		return ast.Expr{Op: "column", Col: t.S}
	case t.Kind == lex.Number:
		return ast.Expr{Op: "value", V: api.Value{Kind: api.Int, N: t.N}}
	case t.Kind == lex.Str:
		return ast.Expr{Op: "value", V: api.Value{Kind: api.Text, S: t.S}}
	case t.S == "NULL":
		return ast.Expr{Op: "value"}
	}
	v := api.Value{Kind: api.Bool}
	if n.has("TRUE") {
		v.N = 1
	}
	return ast.Expr{Op: "value", V: v}
}
