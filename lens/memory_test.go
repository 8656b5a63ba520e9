package lens_test

import (
	"math"
	"math/rand"
	"slices"
	"strconv"
	"sync"
	"testing"

	"fenland/api"
	"fenland/lens"
	"fenland/schema"
)

var spoiltCell = api.Cell{ID: -77, V: api.Value{N: -77, S: "SPOILT"}}

// roomy is a copy of a row whose cells have room behind them, and the whole of their memory.
func roomy(r api.Row) (api.Row, []api.Cell) {
	whole := append(slices.Clone(r.Cells), slices.Repeat([]api.Cell{number(99, 9)}, 5)...)
	return api.Row{Cells: whole[:len(r.Cells)]}, whole
}

// spoil writes to every cell of a row and to the room behind them.
func spoil(l []api.Cell) {
	l = l[:cap(l)]
	for i := range l {
		l[i] = spoiltCell
	}
}

// separate checks that a function from rows to rows leaves its argument as it was, up to its capacity, and that neither
// the argument nor another result has any of the memory of a result.
func separate(t *testing.T, name string, original api.Row, f func(api.Row) api.Row) {
	t.Helper()
	r, whole := roomy(original)
	before := slices.Clone(whole)
	first, again := f(r), f(r)
	want := slices.Clone(first.Cells)
	if !slices.Equal(whole, before) {
		t.Errorf("%s changes its argument %v", name, original)
	}
	spoil(first.Cells)
	if !slices.Equal(whole, before) || !slices.Equal(again.Cells, want) {
		t.Errorf("%s: a result for %v has the memory of another row", name, original)
	}
	spoil(whole)
	if !slices.Equal(again.Cells, want) {
		t.Errorf("%s: a result changes with the argument %v", name, original)
	}
}

// P7.1, A5, and P2: Forward and Back leave the row as it was, and results are in new memory, also where they are the row
// that was given.
func TestRowsAreSeparate(t *testing.T) {
	r := rand.New(rand.NewSource(10))
	for _, c := range possible() {
		forward := func(x api.Row) api.Row { return lens.Forward(people(), c, x) }
		back := func(x api.Row) api.Row { return lens.Back(people(), c, x) }
		for _, x := range append(someRows(r, people(), 4), everybody()) {
			separate(t, "Forward", x, forward)
			separate(t, "Back", x, back)
			separate(t, "Lossless", x, func(x api.Row) api.Row {
				lens.Lossless(people(), c, x)
				return api.Row{}
			})
		}
		for _, x := range someRows(r, after(people(), c), 4) {
			separate(t, "Back", x, back)
		}
	}
}

// P7.1, A5, and P2: Translate, also where the positions are equal, where no change between them touches the row, and
// with errors.
func TestTranslatedRowsAreSeparate(t *testing.T) {
	l := history()
	for from, x := range stations() {
		for to := range len(l) + 1 {
			w := [2]int{from, to}
			separate(t, "Translate", x, func(x api.Row) api.Row {
				got, _ := lens.Translate(l, x, w)
				return got
			})
		}
		for _, w := range [][2]int{{from, -1}, {13, from}, {0, from}} {
			separate(t, "Translate with an error", x, func(x api.Row) api.Row {
				got, _ := lens.Translate(l, x, w)
				return got
			})
		}
	}
}

// P7.1, A5, and P2: schemas and changes stay as they were, up to their capacities.
func TestSchemasAndChangesStay(t *testing.T) {
	r := rand.New(rand.NewSource(11))
	fields := append(people().Fields, api.Field{ID: 99, Name: "behind", Type: api.Int})
	s := api.Schema{Fields: fields[:len(fields)-1], Next: next}
	before := slices.Clone(fields)
	for _, c := range possible() {
		for _, x := range []api.Row{{}, everybody(), anyRow(r, s), anyRow(r, after(s, c))} {
			lens.Forward(s, c, x)
			lens.Back(s, c, x)
			lens.Lossless(s, c, x)
		}
		if !slices.Equal(fields, before) {
			t.Fatalf("%+v changes the fields of its schema", c)
		}
	}
	all := append(history(), dropping(99), adding("behind", api.Int, 0))
	for n := range len(all) + 1 {
		l := slices.Clone(all)
		for from, x := range stations() {
			lens.Translate(l[:n], x, [2]int{from, n})
			lens.Translate(l[:n], x, [2]int{n, from})
		}
		if !slices.Equal(l, all) {
			t.Errorf("Translate changes its changes")
		}
	}
}

// P2: results do not depend on what was called before, nor on what is called at the same time.
func TestCallsAtTheSameTime(t *testing.T) {
	s, l, x := people(), history(), everybody()
	changes := possible()
	at4, at12 := stations()[4], stations()[12]
	var wait sync.WaitGroup
	for n := range 16 {
		wait.Go(func() {
			for i := n; i < len(changes); i += 4 {
				goes(t, s, changes[i], x, wantForward(s, changes[i], x))
				comes(t, s, changes[i], x, wantBack(s, changes[i], x))
				translated(t, l, at4, [2]int{4, 12}, at12, api.OK)
				translated(t, l, at4, [2]int{3, 12}, api.Row{}, api.ErrType)
			}
		})
	}
	wait.Wait()
}

// P2: nil and empty slices are interchangeable.
func TestNilAndEmpty(t *testing.T) {
	bare, empty := api.Schema{Next: 1}, api.Schema{Fields: []api.Field{}, Next: 1}
	for _, s := range []api.Schema{bare, empty} {
		for _, x := range []api.Row{{}, {Cells: []api.Cell{}}, {Cells: make([]api.Cell, 0, 3)}} {
			c := adding("a", api.Text, 0)
			goes(t, s, c, x, api.Row{})
			comes(t, s, c, x, api.Row{})
			comes(t, s, c, row(text(1, "a")), api.Row{})
			goes(t, s, dropping(1), x, api.Row{})
			if !lens.Lossless(s, c, x) || lens.Lossless(s, dropping(1), x) {
				t.Errorf("Lossless of %v and %v", s, x)
			}
		}
	}
	for _, c := range possible() {
		if x := (api.Row{Cells: []api.Cell{}}); !lens.Lossless(people(), c, x) || !lens.Lossless(people(), c, api.Row{}) {
			t.Errorf("%+v is not lossless for a row without cells", c)
		}
	}
}

// P1: Translate returns also after more changes than a table will see.
func TestManyChanges(t *testing.T) {
	l := []api.Change{adding("a", api.Text, 0), adding("b", api.Text, 0)}
	for i := 2; len(l) < 6000; i += 3 {
		l = append(l, api.Change{Kind: api.JoinFields, ID: i - 1, With: i, Name: "c", Sep: "-"},
			api.Change{Kind: api.SplitField, ID: i + 1, Name: "a", Other: "b", Sep: "-"})
	}
	n := len(l)
	last := 3*(n-2)/2 + 1
	translated(t, l, row(text(1, "p"), text(2, "q")), [2]int{2, n}, row(text(last, "p"), text(last+1, "q")), api.OK)
	translated(t, l, row(text(last, "p"), text(last+1, "q")), [2]int{n, 2}, row(text(1, "p"), text(2, "q")), api.OK)
	translated(t, l, row(text(last, "p")), [2]int{n, 2}, row(text(1, "p")), api.OK)
}

// P1: all functions return for schemas that are not valid, too, and do not panic.
func TestInvalidSchemas(t *testing.T) {
	rows := append(spoilt(everybody()), everybody(), row(text(math.MinInt, "a-b")), row(text(math.MaxInt, "a-b")),
		row(text(4, xs(300)), text(7, ys(300))), row(text(7, "q"), text(4, "p-")), row(text(4, "p"), text(4, "q")))
	changes := append(possible(), joining(4, 4, "-"), splitting(4, ""), joining(4, 7, xs(300)),
		api.Change{Kind: math.MinInt})
	for _, s := range invalid() {
		for i, c := range changes {
			x := rows[i%len(rows)]
			lens.Forward(s, c, x)
			lens.Back(s, c, x)
			lens.Lossless(s, c, x)
		}
		for _, x := range rows {
			lens.Forward(s, splitting(4, "-"), x)
			lens.Back(s, joining(4, 7, "-"), x)
		}
	}
}

// invalid are schemas that are not valid.
func invalid() []api.Schema {
	l := []api.Schema{{}, {Next: -1}, {Next: math.MinInt}, {Next: math.MaxInt}}
	change := func(f func(s *api.Schema)) {
		s := people()
		f(&s)
		l = append(l, s)
	}
	for _, n := range []int{math.MinInt, math.MaxInt - 1, math.MaxInt, -1, 0, 4, 7} {
		change(func(s *api.Schema) { s.Next = n })
		change(func(s *api.Schema) { s.Fields[2].ID = n })
		change(func(s *api.Schema) { s.Fields[2].Type = n })
		change(func(s *api.Schema) { s.Fields[1].Parent = n })
	}
	change(func(s *api.Schema) { slices.Reverse(s.Fields) })
	change(func(s *api.Schema) { s.Fields[4] = s.Fields[2] })
	change(func(s *api.Schema) {
		for i := range 200 {
			s.Fields = append(s.Fields, api.Field{ID: 20 + i, Name: "f" + strconv.Itoa(i), Type: 1 + i%6})
		}
	})
	return slices.DeleteFunc(l, schema.Valid)
}
