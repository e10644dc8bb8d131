package bind

import (
	"reflect"
	"slices"
	"testing"

	"belvedere/api"
)

// spare is l with room behind it, in which something stands.
func spare[T any](more T, l ...T) []T {
	return append(slices.Clone(l), more)[:len(l)]
}

// madeExpr, madeCond and so on are such as can be resolved over madeSchemas; all lists with spare room.
func madeExpr() api.Expr {
	return reckoned(api.EAdd, spare(z, reckoned(api.ENeg, spare(z, of("x", "a"))...), reckoned(api.EMul, spare(z, of("x", "a"), unit)...))...)
}

func madeCond() api.Cond {
	inner := cond(api.COr, spare(isNull(z), isNull(of("x", "b")), compared(api.OpLt, of("x", "a"), unit))...)
	return cond(api.CAnd, spare(isNull(z), cond(api.CNot, spare(isNull(z), inner)...), isNull(of("x", "b")), inner)...)
}

func madeSchemas() []api.Schema {
	own := func(name string) api.Schema {
		s := schema(name, spare(col("z", api.TBool), col("a", api.TInt), col("b", api.TText))...)
		s.Key = spare(1, 0)
		return s
	}
	return spare(schema("z"), own("t"), own("x"))
}

func madeSets() []api.Set {
	return spare(set("z", z), set("a", madeExpr()), set("b", words))
}

func madeSelect(as string) api.Select {
	return api.Select{
		Items: spare(api.Item{E: z}, api.Item{E: of("x", "a"), As: as}, api.Item{Agg: api.ASum, E: madeExpr()}, api.Item{Agg: api.ACount, E: madeExpr()}, api.Item{E: of("x", "b")}),
		From:  spare(api.Source{Name: "z", As: "z"}, api.Source{Name: "t", As: "x"}, api.Source{Name: "x", As: "y"}),
		Where: madeCond(),
		Group: spare(z, of("x", "a"), of("x", "b"), of("x", "a")),
	}
}

func madeQuery() api.Query {
	return api.Query{Parts: spare(api.Select{Distinct: true}, madeSelect(""), madeSelect("n"), madeSelect(""))}
}

// faulty are queries with a fault each, late in their last select.
func faulty() []api.Query {
	var l []api.Query
	for _, spoil := range []func(s *api.Select){
		func(s *api.Select) { s.Items[3].E = of("y", "b") },
		func(s *api.Select) { s.Items[3].E = z },
		func(s *api.Select) { s.Items[0].E = of("x", "b") },
		func(s *api.Select) { s.Items = s.Items[:3] },
		func(s *api.Select) { s.Group[2] = unit },
		func(s *api.Select) { s.Where.Args[2] = api.Cond{} },
		func(s *api.Select) { s.From[1].As = "x" },
	} {
		q := madeQuery()
		spoil(&q.Parts[2])
		l = append(l, q)
	}
	return l
}

// room is all that v holds, with the spare room of all lists in it.
func room(v reflect.Value) []any {
	var all []any
	switch v.Kind() {
	case reflect.Slice:
		all = append(all, v.Len(), v.Cap())
		full := v.Slice(0, v.Cap())
		for i := range full.Len() {
			all = append(all, room(full.Index(i))...)
		}
	case reflect.Struct:
		for i := range v.NumField() {
			all = append(all, room(v.Field(i))...)
		}
	default:
		all = append(all, v.Interface())
	}
	return all
}

func roomOf(l ...any) []any {
	var all []any
	for _, v := range l {
		all = append(all, room(reflect.ValueOf(v))...)
	}
	return all
}

// cells are pointers to all places of all lists in v, with their spare room.
func cells(v reflect.Value) []any {
	var all []any
	switch v.Kind() {
	case reflect.Slice:
		full := v.Slice(0, v.Cap())
		for i := range full.Len() {
			all = append(all, full.Index(i).Addr().Interface())
			all = append(all, cells(full.Index(i))...)
		}
	case reflect.Struct:
		for i := range v.NumField() {
			all = append(all, cells(v.Field(i))...)
		}
	}
	return all
}

func cellsOf(l ...any) []any {
	var all []any
	for _, v := range l {
		all = append(all, cells(reflect.ValueOf(v))...)
	}
	return all
}

// answers are what all calls tell of q, c, l and schemas.
func answers(q api.Query, c api.Cond, l []api.Set, schemas []api.Schema) []any {
	p, cols, err := Query(q, schemas)
	test, code := Where(c, schemas[1])
	puts, last := Sets(l, schemas[1])
	return []any{p, cols, err, test, code, puts, last}
}

// TestNothingIsChanged holds rule 3: what is handed in stays as it was, its spare room too.
func TestNothingIsChanged(t *testing.T) {
	held := func(q, same api.Query, l, sameSets []api.Set) {
		t.Helper()
		c, schemas := madeCond(), madeSchemas()
		answers(q, c, l, schemas)
		if !reflect.DeepEqual(roomOf(q, c, l, schemas), roomOf(same, madeCond(), sameSets, madeSchemas())) {
			t.Errorf("%+v, %+v, %+v or %+v has changed", q, c, l, schemas)
		}
	}
	held(madeQuery(), madeQuery(), madeSets(), madeSets())
	same := faulty()
	for i, q := range faulty() {
		l, sameSets := madeSets(), madeSets()
		l[1].E, sameSets[1].E = z, z
		held(q, same[i], l, sameSets)
	}
}

// TestNewMemory holds rule 3: answers stand in memory of their own, and no two lists of one share any.
func TestNewMemory(t *testing.T) {
	q, c, l, schemas := madeQuery(), madeCond(), madeSets(), madeSchemas()
	seen := map[any]bool{}
	once := func(all []any) {
		t.Helper()
		for _, cell := range all {
			if seen[cell] {
				t.Fatalf("%+v stands in two lists", cell)
			}
			seen[cell] = true
		}
	}
	first, again := answers(q, c, l, schemas), answers(q, c, l, schemas)
	if first[2] != api.OK || first[4] != api.OK || first[6] != api.OK {
		t.Fatalf("errors: %v", first)
	}
	for _, cell := range cellsOf(q, c, l, schemas) {
		seen[cell] = true // the same lists may be handed in twice
	}
	once(cellsOf(first...))
	once(cellsOf(again...))
	if len(cellsOf(first...)) < 80 {
		t.Errorf("%d cells", len(cellsOf(first...)))
	}
}

// TestGoesItsOwnWay holds rule 3: who changes what was handed in, or an answer, changes no other answer.
func TestGoesItsOwnWay(t *testing.T) {
	q, c, l, schemas := madeQuery(), madeCond(), madeSets(), madeSchemas()
	kept, other := answers(q, c, l, schemas), answers(q, c, l, schemas)
	want := answers(madeQuery(), madeCond(), madeSets(), madeSchemas())
	for _, v := range append(other, q, c, l, schemas) {
		spoil(reflect.ValueOf(v))
	}
	if !reflect.DeepEqual(kept, want) {
		t.Errorf("%+v has become %+v", want, kept)
	}
	if reflect.DeepEqual(other, want) {
		t.Error("nothing was spoilt")
	}
}

// spoil makes all that stands in lists nothing.
func spoil(v reflect.Value) {
	switch v.Kind() {
	case reflect.Slice:
		for i := range v.Len() {
			spoil(v.Index(i))
			v.Index(i).SetZero()
		}
	case reflect.Struct:
		for i := range v.NumField() {
			spoil(v.Field(i))
		}
	}
}

// TestAgain holds rule 4: the same call answers the same again, whatever was called between.
func TestAgain(t *testing.T) {
	want := answers(madeQuery(), madeCond(), madeSets(), madeSchemas())
	for range 20 {
		for _, q := range faulty() {
			answers(q, isNull(z), []api.Set{set("a", words)}, schemas())
			if got := answers(madeQuery(), madeCond(), madeSets(), madeSchemas()); !reflect.DeepEqual(got, want) {
				t.Fatalf("%+v, and then %+v", want, got)
			}
		}
	}
}
