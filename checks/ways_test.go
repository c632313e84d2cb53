package checks

import (
	"go/ast"
	"go/token"
	"testing"
)

// Section Ways, layer 1: bits lie in an array, are told by a range over a function, and lists are merged by a closure.
func TestWaysOfIds(t *testing.T) {
	for _, s := range sources(t) {
		if s.pack != "ids" {
			continue
		}
		if !has(typeOf(s.file, "Bits"), isArray) {
			t.Error("Bits has no array")
		}
		if !has(function(s.file, "All"), isClosure) {
			t.Error("All answers no function of its own")
		}
		for _, name := range []string{"Union", "Meet", "Minus"} {
			if !has(function(s.file, name), isClosure) {
				t.Errorf("%s has no closure", name)
			}
		}
	}
}

// Section Ways, layer 2: names stand in a map, and comparisons, too, by a key that is a struct.
func TestWaysOfNames(t *testing.T) {
	for _, s := range sources(t) {
		if s.pack != "names" {
			continue
		}
		table := typeOf(s.file, "Table")
		if !has(table, isMapBy(isText)) {
			t.Error("Table has no map of names")
		}
		isStruct := func(key *ast.Ident) bool { return has(typeOf(s.file, key.Name), isStructType) }
		if !has(table, isMapBy(isStruct)) {
			t.Error("Table has no map by a struct")
		}
	}
}

// Section Ways, layer 3: texts are gone through by goto, and their rest is told by a closure, of both kinds.
func TestWaysOfEvr(t *testing.T) {
	for _, s := range sources(t) {
		if s.pack != "evr" {
			continue
		}
		for _, name := range []string{"compareRpm", "compareDeb"} {
			if !has(function(s.file, name), isGoto) {
				t.Errorf("%s has no goto", name)
			}
			if !has(function(s.file, name), isClosure) {
				t.Errorf("%s has no closure", name)
			}
		}
	}
}

// Section Ways, layer 4: scores are complex numbers, in a map by the architectures' names.
func TestWaysOfArch(t *testing.T) {
	for _, s := range sources(t) {
		if s.pack != "arch" {
			continue
		}
		table := typeOf(s.file, "Table")
		if !has(table, isMapBy(isText)) || !has(table, isMapOf("complex128")) {
			t.Error("Table has no map of complex numbers by names")
		}
	}
}

// Section Ways, layer 5: words are gone to by goto; what may not be gives up by panic, recovered in a deferred function, where an assertion tells what it was.
func TestWaysOfDep(t *testing.T) {
	for _, s := range sources(t) {
		if s.pack != "dep" {
			continue
		}
		if !has(function(s.file, "read"), isGoto) {
			t.Error("read has no goto")
		}
		for _, name := range []string{"check", "must"} {
			if !has(function(s.file, name), isCallOf("panic")) {
				t.Errorf("%s does not panic", name)
			}
		}
		for _, name := range []string{"Check", "Parse"} {
			if !has(function(s.file, name), isCallOf("caught")) {
				t.Errorf("%s does not catch what gives up", name)
			}
		}
		recovers := func(n ast.Node) bool {
			return isRecovery(n) && has(n, isAssertion)
		}
		if !has(function(s.file, "caught"), recovers) {
			t.Error("caught has no deferred function that recovers, and asserts what it was")
		}
	}
}

// Section Ways, layer 6: what a pool keeps of a package embeds it, its fields promoted; names stand in a map.
func TestWaysOfPool(t *testing.T) {
	for _, s := range sources(t) {
		if s.pack != "pool" {
			continue
		}
		if !has(typeOf(s.file, "kept"), embeds("Package")) {
			t.Error("kept embeds no package")
		}
		if !has(function(s.file, "Add"), isFieldOf("k", "Name")) {
			t.Error("Add takes no name that is promoted")
		}
		if !has(typeOf(s.file, "Pool"), isMapBy(isText)) {
			t.Error("Pool has no map by names")
		}
	}
}

// Section Ways, layer 7: what a name stands for is in a map of lists; which package meets what is told by closures that are put together.
func TestWaysOfProvides(t *testing.T) {
	for _, s := range sources(t) {
		if s.pack != "provides" {
			continue
		}
		index := typeOf(s.file, "Index")
		if !has(index, isMapBy(isText)) || !has(index, isMapOfLists) {
			t.Error("Index has no map of lists by names")
		}
		for _, name := range []string{"alone", "together", "every", "some", "choice"} {
			if !has(function(s.file, name), isClosure) {
				t.Errorf("%s has no closure", name)
			}
		}
		for _, name := range []string{"every", "some", "choice"} {
			if !has(function(s.file, "together"), isCallOf(name)) {
				t.Errorf("together puts nothing together by %s", name)
			}
		}
	}
}

// Section Ways, layer 8: values stand in a map of maps, and are deleted; a glob is tried by loops that are labelled, and gone on with by their labels.
func TestWaysOfAttrs(t *testing.T) {
	for _, s := range sources(t) {
		if s.pack != "attrs" {
			continue
		}
		store := typeOf(s.file, "Store")
		if !has(store, isMapBy(isText)) || !has(store, isMapOfMaps) {
			t.Error("Store has no map of maps by keys")
		}
		if !has(function(s.file, "Unset"), isCallOf("delete")) {
			t.Error("Unset deletes nothing")
		}
		glob := function(s.file, "glob")
		if !has(glob, isLabelledLoop) || !has(glob, isToLabel) {
			t.Error("glob has no loop that is gone on with by its label")
		}
	}
}

// Section Ways, layer 9: what is wrong gives up by panic, recovered in a deferred function; the texts' places stand in a map.
func TestWaysOfCache(t *testing.T) {
	for _, s := range sources(t) {
		if s.pack != "cache" {
			continue
		}
		if !has(function(s.file, "must"), isCallOf("panic")) {
			t.Error("must does not panic")
		}
		for _, name := range []string{"number", "count", "text", "pool", "part"} {
			if !has(method(s.file, "reader", name), isCallOf("must")) {
				t.Errorf("%s of the reader gives nothing up", name)
			}
		}
		if !has(function(s.file, "Read"), isCallOf("caught")) {
			t.Error("Read does not catch what gives up")
		}
		if !has(function(s.file, "caught"), isRecovery) {
			t.Error("caught has no deferred function that recovers")
		}
		if !has(typeOf(s.file, "writer"), isMapBy(isText)) || !has(typeOf(s.file, "writer"), isMapOf("int")) {
			t.Error("the writer has no map of places by texts")
		}
	}
}

// Section Ways, layer 10: what is read goes from state to state by goto; what is wrong gives up by panic, recovered in a deferred function.
func TestWaysOfXmlpull(t *testing.T) {
	for _, s := range sources(t) {
		if s.pack != "xmlpull" {
			continue
		}
		for _, name := range []string{"run", "start", "value"} {
			if !has(method(s.file, "Reader", name), isGoto) {
				t.Errorf("%s has no goto", name)
			}
		}
		if !has(function(s.file, "must"), isCallOf("panic")) {
			t.Error("must does not panic")
		}
		for _, name := range []string{"next", "run", "start", "attr", "end", "entity", "name", "upTo", "take", "want"} {
			if !has(method(s.file, "Reader", name), isCallOf("must")) {
				t.Errorf("%s gives nothing up", name)
			}
		}
		if !has(method(s.file, "Reader", "Next"), isCallOf("caught")) {
			t.Error("Next does not catch what gives up")
		}
		if !has(function(s.file, "caught"), isRecovery) {
			t.Error("caught has no deferred function that recovers")
		}
	}
}

// Section Ways, layer 11: elements are told apart by maps of functions, which functions make; what is open is a linked list, its items embedded.
func TestWaysOfRpmmd(t *testing.T) {
	for _, s := range sources(t) {
		if s.pack != "rpmmd" {
			continue
		}
		if !has(typeOf(s.file, "begin"), isFunctionType) {
			t.Error("begin is no function")
		}
		if !has(typeOf(s.file, "element"), isMapBy(isText)) || !has(typeOf(s.file, "element"), isMapOf("begin")) {
			t.Error("an element has no map of functions by names")
		}
		for _, name := range []string{"metadata", "inPackage", "inFormat"} {
			if !has(function(s.file, name), isMapOf("begin")) {
				t.Errorf("%s makes no map of functions", name)
			}
		}
		open := typeOf(s.file, "open")
		if !has(open, embedsOwn("element")) || !has(open, isPointerTo("open")) {
			t.Error("what is open is no linked list that embeds elements")
		}
		if !has(method(s.file, "reader", "end"), isFieldOf("ended", "end")) {
			t.Error("an end takes no function that is promoted")
		}
	}
}

// Section Ways, layer 12: fields are read by a loop that is left, and gone on with, by its label, and stand in a map; what they mean is in maps of functions, which functions make.
func TestWaysOfDebctl(t *testing.T) {
	for _, s := range sources(t) {
		if s.pack != "debctl" {
			continue
		}
		read := function(s.file, "read")
		if !has(read, isLabelledLoop) || !has(read, isToLabel) {
			t.Error("read has no loop that is left by its label")
		}
		if !has(typeOf(s.file, "stanza"), isMapBy(isText)) {
			t.Error("a stanza is no map of fields by names")
		}
		for kind, makes := range map[string]string{"textField": "textFields", "relationField": "relationFields"} {
			if !has(typeOf(s.file, kind), isFunctionType) {
				t.Errorf("%s is no function", kind)
			}
			if !has(function(s.file, makes), isMapOf(kind)) {
				t.Errorf("%s makes no map of functions", makes)
			}
			for _, user := range []string{"pack", "stanzaText"} {
				if !has(function(s.file, user), isCallOf(makes)) {
					t.Errorf("%s asks nothing of %s", user, makes)
				}
			}
		}
	}
}

// Section Ways, layer 13: tags are gone to by goto; what they mean is in maps of functions, which functions make.
func TestWaysOfSuse(t *testing.T) {
	for _, s := range sources(t) {
		if s.pack != "suse" {
			continue
		}
		read := method(s.file, "reader", "read")
		if !has(read, isGoto) {
			t.Error("read has no goto")
		}
		for kind, makes := range map[string]string{"meaning": "meanings", "depList": "depLists"} {
			if !has(typeOf(s.file, kind), isFunctionType) {
				t.Errorf("%s is no function", kind)
			}
			if made := function(s.file, makes); !has(made, isMapOf(kind)) || !has(made, isMapBy(isText)) {
				t.Errorf("%s makes no map of functions by tags", makes)
			}
		}
		if !has(read, isCallOf("meanings")) {
			t.Error("read asks nothing of meanings")
		}
		for _, user := range []string{"meanings", "packLines"} {
			if !has(function(s.file, user), isCallOf("depLists")) {
				t.Errorf("%s asks nothing of depLists", user)
			}
		}
	}
}

func TestWaysOfJobs(t *testing.T) {
	for _, s := range sources(t) {
		if s.pack != "jobs" {
			continue
		}
		for user, finds := range map[string]string{"Parse": "number", "Print": "word"} {
			if !has(function(s.file, finds), isOfTypes) {
				t.Errorf("%s is no generic function", finds)
			}
			if !has(function(s.file, user), isCallOf(finds)) {
				t.Errorf("%s finds nothing by %s", user, finds)
			}
		}
		if !has(typeOf(s.file, "finder"), isFunctionType) {
			t.Error("finder is no function")
		}
		if !has(function(s.file, "finders"), isMapOf("finder")) {
			t.Error("finders makes no map of functions")
		}
		if !has(function(s.file, "Select"), isCallOf("finders")) {
			t.Error("Select asks nothing of finders")
		}
	}
}

// Section Ways, layer 15: what decides is a list of method values; a package's marks are a struct that embeds another one, and they are compared as a whole.
func TestWaysOfPolicy(t *testing.T) {
	for _, s := range sources(t) {
		if s.pack != "policy" {
			continue
		}
		if !has(method(s.file, "Policy", "Better"), isListOfMethods) {
			t.Error("Better has no list of method values")
		}
		if !has(typeOf(s.file, "kept"), embedsOwn("marks")) || !has(typeOf(s.file, "marks"), embedsOwn("family")) {
			t.Error("marks are not embedded, or embed nothing")
		}
		if !has(method(s.file, "Policy", "mayFollow"), isComparisonOf("marks")) {
			t.Error("mayFollow does not compare marks")
		}
		if !has(method(s.file, "Policy", "isFit"), isComparisonOf("family")) {
			t.Error("isFit does not compare families")
		}
	}
}

// Section Ways, layer 16: what a dependency asks is put together by variadic functions, and which demand clauses come of is kept by closures.
func TestWaysOfRules(t *testing.T) {
	f := whole(t, "rules")
	for _, name := range []string{"all", "some", "sides", "every", "either", "spread", "hitOpen"} {
		x, ok := function(f, name).(*ast.FuncDecl)
		if !ok || !has(x.Type, isVariadic) {
			t.Errorf("%s is not variadic", name)
		}
	}
	for _, name := range []string{"every", "either"} {
		for _, by := range []string{"all", "some", "choice"} {
			if !has(function(f, by), isCallOf(name)) {
				t.Errorf("%s does not call %s", by, name)
			}
		}
	}
	if !has(typeOf(f, "layer"), isFunctionType) || !has(typeOf(f, "layer"), isVariadic) {
		t.Error("layer is no variadic function")
	}
	isOfWhy := func(n ast.Node) bool {
		x, ok := n.(*ast.FuncLit)
		return ok && has(x.Type, isNamed("why")) && has(x.Body, isClosure) && has(x.Body, isNamed("why"))
	}
	if !has(function(f, "Make"), isOfWhy) {
		t.Error("Make has no closure that keeps which demand clauses come of")
	}
}

// whole is all that a package's files declare.
func whole(t *testing.T, pack string) *ast.File {
	t.Helper()
	out := &ast.File{}
	for _, s := range sources(t) {
		if s.pack == pack {
			out.Decls = append(out.Decls, s.file.Decls...)
		}
	}
	return out
}

// isVariadic tells of a node whether it stands for any number of arguments.
func isVariadic(n ast.Node) bool {
	_, ok := n.(*ast.Ellipsis)
	return ok
}

func isNamed(name string) func(ast.Node) bool {
	return func(n ast.Node) bool {
		x, ok := n.(*ast.Ident)
		return ok && x.Name == name
	}
}

// isListOfMethods tells of a node whether it is a slice of functions, of which each one is told as a method of something.
func isListOfMethods(n ast.Node) bool {
	l, ok := n.(*ast.CompositeLit)
	if !ok || !has(l.Type, isFunctionType) || len(l.Elts) == 0 {
		return false
	}
	for _, e := range l.Elts {
		if _, ok := e.(*ast.SelectorExpr); !ok {
			return false
		}
	}
	return true
}

// isComparisonOf tells of a node whether it asks what is so called, or made of it, whether it is equal to something.
func isComparisonOf(name string) func(ast.Node) bool {
	isNamed := func(n ast.Node) bool {
		x, ok := n.(*ast.SelectorExpr)
		return ok && x.Sel.Name == name
	}
	return func(n ast.Node) bool {
		b, ok := n.(*ast.BinaryExpr)
		return ok && (b.Op == token.EQL || b.Op == token.NEQ) && has(b.X, isNamed)
	}
}

// isOfTypes tells of a node whether it is what a generic function begins with.
func isOfTypes(n ast.Node) bool {
	f, ok := n.(*ast.FuncType)
	return ok && f.TypeParams != nil
}

func isFunctionType(n ast.Node) bool {
	_, ok := n.(*ast.FuncType)
	return ok
}

// embedsOwn tells of a node whether it is a struct that embeds the package's own type of that name.
func embedsOwn(name string) func(ast.Node) bool {
	return func(n ast.Node) bool {
		f, ok := n.(*ast.Field)
		if !ok || len(f.Names) > 0 {
			return false
		}
		x, ok := f.Type.(*ast.Ident)
		return ok && x.Name == name
	}
}

func isPointerTo(name string) func(ast.Node) bool {
	return func(n ast.Node) bool {
		p, ok := n.(*ast.StarExpr)
		if !ok {
			return false
		}
		x, ok := p.X.(*ast.Ident)
		return ok && x.Name == name
	}
}

// isRecovery tells of a node whether it is a deferred function that recovers.
func isRecovery(n ast.Node) bool {
	d, ok := n.(*ast.DeferStmt)
	return ok && has(d, isCallOf("recover"))
}

// isMapOfMaps tells of a node whether it is a map whose values are maps.
func isMapOfMaps(n ast.Node) bool {
	m, ok := n.(*ast.MapType)
	if !ok {
		return false
	}
	_, ok = m.Value.(*ast.MapType)
	return ok
}

func isLabelledLoop(n ast.Node) bool {
	l, ok := n.(*ast.LabeledStmt)
	if !ok {
		return false
	}
	_, ok = l.Stmt.(*ast.ForStmt)
	return ok
}

// isToLabel tells of a node whether it leaves, or goes on with, the loop of a label.
func isToLabel(n ast.Node) bool {
	b, ok := n.(*ast.BranchStmt)
	return ok && b.Label != nil && b.Tok != token.GOTO
}

// isMapOfLists tells of a node whether it is a map whose values are slices.
func isMapOfLists(n ast.Node) bool {
	m, ok := n.(*ast.MapType)
	if !ok {
		return false
	}
	l, ok := m.Value.(*ast.ArrayType)
	return ok && l.Len == nil
}

// embeds tells of a node whether it is a struct that embeds another package's type of that name.
func embeds(name string) func(ast.Node) bool {
	return func(n ast.Node) bool {
		f, ok := n.(*ast.Field)
		if !ok || len(f.Names) > 0 {
			return false
		}
		x, ok := f.Type.(*ast.SelectorExpr)
		return ok && x.Sel.Name == name
	}
}

// isFieldOf tells of a node whether it is a field of a variable, both of these names.
func isFieldOf(variable, field string) func(ast.Node) bool {
	return func(n ast.Node) bool {
		x, ok := n.(*ast.SelectorExpr)
		if !ok || x.Sel.Name != field {
			return false
		}
		v, ok := x.X.(*ast.Ident)
		return ok && v.Name == variable
	}
}

// isCallOf tells of a node whether it calls what has that name.
func isCallOf(name string) func(ast.Node) bool {
	return func(n ast.Node) bool {
		c, ok := n.(*ast.CallExpr)
		if !ok {
			return false
		}
		f, ok := c.Fun.(*ast.Ident)
		return ok && f.Name == name
	}
}

func isAssertion(n ast.Node) bool {
	a, ok := n.(*ast.TypeAssertExpr)
	return ok && a.Type != nil
}

// isMapOf tells of a node whether it is a map whose values' type has that name.
func isMapOf(name string) func(ast.Node) bool {
	return func(n ast.Node) bool {
		m, ok := n.(*ast.MapType)
		if !ok {
			return false
		}
		value, ok := m.Value.(*ast.Ident)
		return ok && value.Name == name
	}
}

// isMapBy tells of a node whether it is a map whose keys' type is so.
func isMapBy(is func(*ast.Ident) bool) func(ast.Node) bool {
	return func(n ast.Node) bool {
		m, ok := n.(*ast.MapType)
		if !ok {
			return false
		}
		key, ok := m.Key.(*ast.Ident)
		return ok && is(key)
	}
}

func isText(key *ast.Ident) bool {
	return key.Name == "string"
}

func isStructType(n ast.Node) bool {
	_, ok := n.(*ast.StructType)
	return ok
}

func isArray(n ast.Node) bool {
	a, ok := n.(*ast.ArrayType)
	return ok && a.Len != nil
}

func isGoto(n ast.Node) bool {
	b, ok := n.(*ast.BranchStmt)
	return ok && b.Tok == token.GOTO
}

func isClosure(n ast.Node) bool {
	_, ok := n.(*ast.FuncLit)
	return ok
}

// has tells whether something within a node is so; false of no node.
func has(n ast.Node, is func(ast.Node) bool) bool {
	found := false
	if n != nil {
		ast.Inspect(n, func(m ast.Node) bool {
			found = found || m != nil && is(m)
			return !found
		})
	}
	return found
}

func function(f *ast.File, name string) ast.Node {
	for _, d := range f.Decls {
		if x, ok := d.(*ast.FuncDecl); ok && x.Name.Name == name {
			return x
		}
	}
	return nil
}

// method is a function of that name, of a type or of pointers to it.
func method(f *ast.File, of, name string) ast.Node {
	for _, d := range f.Decls {
		x, ok := d.(*ast.FuncDecl)
		isOf := func(n ast.Node) bool {
			i, ok := n.(*ast.Ident)
			return ok && i.Name == of
		}
		if ok && x.Name.Name == name && x.Recv != nil && has(x.Recv, isOf) {
			return x
		}
	}
	return nil
}

func typeOf(f *ast.File, name string) ast.Node {
	for _, d := range f.Decls {
		g, ok := d.(*ast.GenDecl)
		if !ok {
			continue
		}
		for _, s := range g.Specs {
			if x, ok := s.(*ast.TypeSpec); ok && x.Name.Name == name {
				return x
			}
		}
	}
	return nil
}
