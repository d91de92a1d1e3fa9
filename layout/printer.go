package layout

import (
	"strings"

	"firebell/api"
	"firebell/scan"
)

// indent stands ahead of a line for each depth above 1.
const indent = "  "

// printer writes a right tree's items out as they come.
type printer struct {
	text strings.Builder
	// open: the depth of the deepest block that isn't shut, or 0; all those around it are blocks that aren't shut, too.
	open int
}

// shut all blocks down to a depth: what comes next is none of their kids.
func (p *printer) shut(depth int) {
	for ; p.open >= depth; p.open-- {
		p.line(p.open, "}")
	}
}

// item of a depth, but for its kids and what shuts it.
func (p *printer) item(depth int, x api.Item) {
	parts := []string{x.Name}
	for _, t := range x.Words {
		parts = append(parts, " ", scan.Print(t))
	}
	if !x.Block {
		p.line(depth, append(parts, ";")...)
		return
	}
	p.line(depth, append(parts, " {")...)
	p.open = depth
}

// line of a depth, of these parts.
func (p *printer) line(depth int, parts ...string) {
	p.text.WriteString(strings.Repeat(indent, depth-1))
	for _, part := range parts {
		p.text.WriteString(part)
	}
	p.text.WriteByte('\n')
}
