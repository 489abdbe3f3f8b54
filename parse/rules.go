package parse

import (
	"dawdler/api"
)

func (p *parser) prog() {
	p.key("{")
	p.then(p.decls, p.later("}"))
}

func (p *parser) decls() {
	if !p.isKey("}") {
		p.then(p.decl, p.more(";", p.decl))
	}
}

func (p *parser) decl() {
	if p.isKey("data") {
		p.data()
	} else {
		p.def()
	}
}

func (p *parser) data() {
	p.key("data")
	d := api.Data{Name: p.con(), Params: p.names()}
	p.key("=")
	p.then(p.form, p.more("|", p.form), func() {
		d.Forms, p.forms = p.forms, nil
		p.made.Datas = append(p.made.Datas, d)
	})
}

func (p *parser) form() {
	f := api.Form{Name: p.con()}
	p.then(p.sigAtoms, func() {
		f.Args = append(f.Args, p.sigs...)
		p.sigs = nil
		p.forms = append(p.forms, f)
	})
}

// def tells what is to be met last first, as the names that stand ahead are outside.
func (p *parser) def() {
	d := api.Def{Name: p.name()}
	p.then(func() {
		d.Body, p.exprs = p.exprs[0], nil
		p.made.Defs = append(p.made.Defs, d)
	})
	for _, name := range p.names() {
		p.then(p.making(binds(api.ELam, name), 0))
	}
	p.key("=")
	p.then(p.expr)
}

// binds is a tree that binds a name, without its Kids.
func binds(kind int, name string) api.Expr {
	return api.Expr{Kind: kind, Names: []string{name}}
}

func (p *parser) sig() {
	p.then(p.sigApp, p.arrow)
}

func (p *parser) arrow() {
	if p.isKey("->") {
		p.key("->")
		p.then(p.sig, p.makingSig("->", 1))
	}
}

func (p *parser) sigApp() {
	if p.is(api.TCon) {
		made := p.makingSig(p.con(), 0)
		p.then(p.sigAtoms, made)
	} else {
		p.sigAtom()
	}
}

func (p *parser) sigAtoms() {
	if p.is(api.TCon, api.TName) || p.isKey("(") {
		p.then(p.sigAtom, p.sigAtoms)
	}
}

func (p *parser) sigAtom() {
	switch {
	case p.is(api.TCon):
		p.sigs = append(p.sigs, api.Sig{Name: p.con()})
	case p.is(api.TName):
		p.sigs = append(p.sigs, api.Sig{Name: p.name()})
	default:
		p.key("(")
		p.then(p.sig, p.later(")"))
	}
}

func (p *parser) expr() {
	switch {
	case p.isKey("\\"):
		p.lam()
	case p.isKey("let"):
		p.let()
	case p.isKey("case"):
		p.ways()
	case p.isKey("if"):
		p.choice()
	case p.isKey("do"):
		p.block("do", api.EDo)
	case p.isKey("dos"):
		p.block("dos", api.EDos)
	default:
		p.comp()
	}
}

func (p *parser) lam() {
	p.key("\\")
	made := p.making(binds(api.ELam, p.name()), 0)
	p.key("->")
	p.then(p.expr, made)
}

func (p *parser) let() {
	p.key("let")
	made := p.making(binds(api.ELet, p.name()), 0)
	p.key("=")
	p.then(p.expr, p.later("in"), p.expr, made)
}

func (p *parser) ways() {
	p.key("case")
	made := p.making(api.Expr{Kind: api.ECase}, 0)
	p.then(p.expr, p.later("of"), p.later("{"), p.alt, p.more(";", p.alt), p.later("}"), made)
}

func (p *parser) alt() {
	made := p.making(api.Expr{Kind: api.EAlt, Name: p.con(), Names: p.names()}, 0)
	p.key("->")
	p.then(p.expr, made)
}

func (p *parser) choice() {
	p.key("if")
	made := p.making(api.Expr{Kind: api.EIf}, 0)
	p.then(p.expr, p.later("then"), p.expr, p.later("else"), p.expr, made)
}

func (p *parser) block(word string, kind int) {
	p.key(word)
	made := p.making(api.Expr{Kind: kind}, 0)
	p.then(p.later("{"), p.line, p.more(";", p.line), p.later("}"), made)
}

func (p *parser) line() {
	if p.isBind() {
		made := p.making(binds(api.EBind, p.name()), 0)
		p.then(p.later("<-"), p.expr, made)
	} else {
		p.expr()
	}
}

// isBind looks at two tokens, as an expr too may begin with a name.
func (p *parser) isBind() bool {
	behind := p.next(1)
	return p.is(api.TName) && behind.Kind == api.TKey && behind.Text == "<-"
}

func (p *parser) comp() {
	p.then(p.sum, p.compared)
}

func (p *parser) compared() {
	if p.isKey("==", "<") {
		made := p.operation()
		p.then(p.sum, made)
	}
}

func (p *parser) sum() {
	p.then(p.product, p.added)
}

func (p *parser) added() {
	if p.isKey("+", "-") {
		made := p.operation()
		p.then(p.product, made, p.added)
	}
}

func (p *parser) product() {
	p.then(p.app, p.multiplied)
}

func (p *parser) multiplied() {
	if p.isKey("*", "/") {
		made := p.operation()
		p.then(p.app, made, p.multiplied)
	}
}

// operation takes a sign, and is a rule that makes a tree of what stands ahead of it, and of what will stand behind.
func (p *parser) operation() func() {
	return p.making(api.Expr{Kind: api.EOp, Name: p.take(api.TKey).Text}, 1)
}

func (p *parser) app() {
	p.then(p.atom, p.applied)
}

func (p *parser) applied() {
	if p.isAtom() {
		p.then(p.atom, p.making(api.Expr{Kind: api.EApp}, 1), p.applied)
	}
}

func (p *parser) isAtom() bool {
	return p.is(api.TInt, api.TName, api.TCon) || p.isKey("(")
}

func (p *parser) atom() {
	switch {
	case p.is(api.TInt):
		p.exprs = append(p.exprs, api.Expr{Kind: api.EInt, Num: p.take(api.TInt).Num})
	case p.is(api.TName):
		p.exprs = append(p.exprs, api.Expr{Kind: api.EVar, Name: p.name()})
	case p.is(api.TCon):
		p.exprs = append(p.exprs, api.Expr{Kind: api.ECon, Name: p.con()})
	default:
		p.key("(")
		p.then(p.expr, p.later(")"))
	}
}
