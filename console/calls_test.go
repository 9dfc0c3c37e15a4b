package console_test

import (
	"go/ast"
	"go/parser"
	"go/token"
	"iter"
	"maps"
	"math"
	"path/filepath"
	"reflect"
	"runtime"
	"slices"
	"strings"
	"testing"

	"dustpan/addr"
	"dustpan/api"
	"dustpan/arena"
	"dustpan/bits"
	"dustpan/block"
	"dustpan/board"
	"dustpan/class"
	"dustpan/collector"
	"dustpan/config"
	"dustpan/console"
	"dustpan/fair"
	"dustpan/ghost"
	"dustpan/graph"
	"dustpan/guess"
	"dustpan/header"
	"dustpan/heap"
	"dustpan/lists"
	"dustpan/log"
	"dustpan/mutator"
	"dustpan/note"
	"dustpan/op"
	"dustpan/phase"
	"dustpan/queue"
	"dustpan/replay"
	"dustpan/stack"
	"dustpan/stats"
	"dustpan/sweep"
	"dustpan/tape"
	"dustpan/trace"
	"dustpan/world"
)

// functions are those of each layer's package, by its name.
func functions() map[string][]any {
	return map[string][]any{
		"bits":      {bits.New, bits.Same},
		"config":    {config.Right, config.Words, config.Slots, config.OpPicks, config.AnswerPicks, config.Marking, config.Cycle, config.Clamp},
		"class":     {class.Is, class.Size, class.Of, class.Room, class.PerBlock, class.Starts},
		"addr":      {addr.Of, addr.Find, addr.Block, addr.Slot, addr.Slots},
		"header":    {header.Object, header.Parse, header.Link, header.Next, header.Kind},
		"arena":     {arena.New},
		"block":     {block.New},
		"lists":     {lists.New},
		"stack":     {stack.New},
		"log":       {log.New, log.NewBox},
		"heap":      {heap.New},
		"board":     {board.New},
		"phase":     {phase.Is, phase.Name, phase.ByName, phase.May, phase.Asks, phase.Marks, phase.Nexts, phase.Path},
		"queue":     {queue.New},
		"sweep":     {sweep.New, sweep.Block, sweep.All},
		"trace":     {trace.Reach, trace.Garbage, trace.Mark, trace.Reaches, trace.Edges},
		"op":        {op.Name, op.Uses, op.Check, op.Line, op.Parse, op.Bare, op.Right},
		"graph":     {graph.New},
		"note":      {note.New, note.Run, note.Once},
		"mutator":   {mutator.Share, mutator.New},
		"collector": {collector.New},
		"world":     {world.New},
		"ghost":     {ghost.Roots, ghost.Reach, ghost.Garbage, ghost.Sound, ghost.Painted, ghost.Freed, ghost.Left},
		"fair":      {fair.Fair, fair.Gap, fair.Spread, fair.Windows, fair.Count},
		"replay":    {replay.New},
		"stats":     {stats.Cycles, stats.Total, stats.Longest, stats.Codes, stats.Line, stats.Each},
		"tape":      {tape.Write, tape.Read, tape.Event, tape.ParseEvent, tape.Run},
		"console":   {console.New},
	}
}

// objects are the types that have methods: those of what is made.
func objects() []reflect.Type {
	return []reflect.Type{
		reflect.TypeFor[*bits.Set](), reflect.TypeFor[*arena.Arena](), reflect.TypeFor[*block.Table](), reflect.TypeFor[*lists.Lists](), reflect.TypeFor[*stack.Stack](), reflect.TypeFor[*log.Buffer](), reflect.TypeFor[*log.Box](), reflect.TypeFor[*heap.Heap](), reflect.TypeFor[*board.Board](), reflect.TypeFor[*queue.Queue](), reflect.TypeFor[*sweep.Cursor](), reflect.TypeFor[*graph.Graph](),
		reflect.TypeFor[*note.Flag](), reflect.TypeFor[*note.Noter](), reflect.TypeFor[*mutator.Mut](), reflect.TypeFor[*collector.Coll](), reflect.TypeFor[*world.World](), reflect.TypeFor[*replay.Replay](), reflect.TypeFor[*console.Console](),
	}
}

// caller calls whatever there is, by whatever there is, and keeps what is made, to be called and handed in.
type caller struct {
	roll  guess.Rule
	have  map[reflect.Type][]reflect.Value
	calls map[string]int
}

// keep keeps something.
func (c *caller) keep(l ...any) {
	for _, x := range l {
		v := reflect.ValueOf(x)
		c.have[v.Type()] = append(c.have[v.Type()], v)
	}
}

// began is a caller that has some of all that isn't made.
func began(roll guess.Rule, calls map[string]int) *caller {
	c := &caller{roll: roll, have: map[reflect.Type][]reflect.Value{}, calls: calls}
	small := guess.Config(roll)
	wild := api.Config{Blocks: math.MaxInt, Words: math.MaxInt, Muts: math.MaxInt, Regs: math.MaxInt, Cells: math.MaxInt, Log: math.MaxInt, Stack: math.MaxInt}
	c.keep(small, small, small, wild, api.Config{}, api.Config{Blocks: 40, Words: 256, Muts: 8, Regs: 64, Cells: 64, Log: 256, Stack: 4096}, api.Config{Blocks: 1, Words: 16, Muts: 1, Regs: 1, Log: 1, Stack: 1})
	for _, n := range []int{math.MinInt, math.MinInt + 1, -1 << 32, -2, -1, 0, 0, 0, 1, 1, 1, 2, 2, 3, 4, 5, 7, 8, 9, 15, 16, 17, 33, 64, 65, 256, config.Words(small), 1 << 20, 1<<20 + 1, 1 << 21, 1<<21 + 1, 1 << 32, 1 << 62, math.MaxInt - 1, math.MaxInt} {
		c.keep(n, uint64(n), api.Errno(n), api.Op{Kind: 1 + roll(8), A: n, B: roll(3), C: n}, api.Event{Pick: n, Who: roll(3), Kind: roll(7), Op: n, Code: api.Errno(n), Value: n}, addr.Place{Block: roll(3), Slot: n, Word: roll(3)}, stats.Cycle{Number: n, Start: n, Marked: n, Rested: n - 1, Freed: n})
	}
	for _, s := range []string{"", " ", "\n", "\xff\x00", "idle", "did", "store 0 0 0", "alloc 0 99999999999999999999", "1 0 did 0 0 0", configLine(small), configLine(wild), "config 1 16 1 1 0 1 1\nmut 0 drop 0\npick 0 0\n", "mut 0 alloc 0 1", "mut 0 set 0 0", "turn 50", "turn 1000", "pick 0 1 2 -1", "event 0", "reg 0 0", "cell -1", "wish", "live", "state", "free 3", strings.Repeat("wish\n", 500), strings.Repeat(" ", 1<<17), strings.Repeat("9", 1<<17)} {
		c.keep(s)
	}
	programs, picks := bare(guess.Programs(roll, small, 30)), guess.Picks(roll, small, 300)
	odd := api.Op{Kind: math.MaxInt, A: math.MinInt, B: -1, C: math.MaxInt}
	events := []api.Event{{Kind: api.Did}, {Kind: api.Start}, {Kind: -1, Who: math.MaxInt, Op: math.MinInt, Code: math.MaxInt}, {Kind: api.Did, Who: -1, Op: -1, Code: -1}}
	c.keep(false, true, []int(nil), picks, []int{math.MinInt, -1, 0, 1, 2, math.MaxInt}, []uint16(nil), make([]uint16, 3000), odd, []api.Op(nil), programs[0], []api.Op{odd}, make([]api.Op, 1001), [][]api.Op(nil), programs, make([][]api.Op, 9), []api.Event(nil), events, []stats.Cycle(nil), make([]stats.Cycle, 3))
	c.keep(tape.Script{}, tape.Script{Config: small, Programs: programs, Picks: picks}, tape.Script{Config: wild, Programs: make([][]api.Op, 9)}, note.Step(nil), note.Once(nil), func() {}, (func())(nil), &note.Flag{})
	return c
}

// some is something of a type: of what is made also nothing.
func (c *caller) some(of reflect.Type) reflect.Value {
	l := c.have[of]
	if of.Kind() == reflect.Pointer && (len(l) == 0 || c.roll(8) == 0) {
		return reflect.Zero(of)
	}
	return l[c.roll(len(l))]
}

// call calls a function, or a method.
func (c *caller) call(t *testing.T, name string, f reflect.Value) {
	t.Helper()
	var in []reflect.Value
	for i := range f.Type().NumIn() {
		in = append(in, c.some(f.Type().In(i)))
	}
	defer func() {
		if x := recover(); x != nil {
			t.Fatalf("%s%v panics: %v", name, in, x)
		}
	}()
	c.calls[name]++
	does := f.Call
	if f.Type().IsVariadic() {
		does = f.CallSlice
	}
	for _, v := range does(in) {
		c.take(v)
	}
}

// method calls a method of an object.
func (c *caller) method(t *testing.T, of reflect.Type) {
	t.Helper()
	v, i := c.some(of), c.roll(of.NumMethod())
	name := of.String() + "." + of.Method(i).Name
	if v.IsNil() {
		name += " of nil"
	}
	c.call(t, name, v.Method(i))
}

// take ranges over what may be ranged over, and keeps what is made: of that there is little, so that much is done with it.
func (c *caller) take(v reflect.Value) {
	switch x := v.Interface().(type) {
	case iter.Seq[int]:
		ranges(c, func(yield func(int, int) bool) { x(func(n int) bool { return yield(n, n) }) })
	case iter.Seq2[int, int]:
		ranges(c, x)
	case iter.Seq2[int, []int]:
		ranges(c, x)
	case iter.Seq2[int, stats.Cycle]:
		ranges(c, x)
	}
	l := c.have[v.Type()]
	switch {
	case v.Kind() != reflect.Pointer && v.Type() != reflect.TypeFor[note.Step](), v.IsNil():
	case len(l) < 6:
		c.have[v.Type()] = append(l, v)
	case c.roll(6) == 0:
		l[c.roll(len(l))] = v
	}
}

// ranges ranges to the end, and up to some place.
func ranges[T any](c *caller, l iter.Seq2[int, T]) {
	for range l {
	}
	left := c.roll(4)
	for range l {
		if left--; left < 0 {
			break
		}
	}
}

// Every call that the chapters list ends, and none panics, whatever it is given, and whatever was called ahead of it.
func TestCalls(t *testing.T) {
	calls := map[string]int{}
	for seed := range uint64(12) {
		c := began(guess.By(seed+1), calls)
		for range 150 {
			for _, name := range slices.Sorted(maps.Keys(functions())) {
				l := functions()[name]
				f := reflect.ValueOf(l[c.roll(len(l))])
				c.call(t, runtime.FuncForPC(f.Pointer()).Name(), f)
			}
			for _, of := range objects() {
				for range 6 {
					c.method(t, of)
				}
			}
		}
	}
	for _, of := range objects() {
		for i := range of.NumMethod() {
			name := of.String() + "." + of.Method(i).Name
			if calls[name] < 50 || calls[name+" of nil"] < 10 {
				t.Error("hardly called:", name, calls[name], calls[name+" of nil"])
			}
		}
	}
}

// All functions of the layers' packages are called there.
func TestAllFunctions(t *testing.T) {
	for name, l := range functions() {
		var got, want []string
		for _, f := range l {
			got = append(got, strings.TrimPrefix(runtime.FuncForPC(reflect.ValueOf(f).Pointer()).Name(), "dustpan/"+name+"."))
		}
		files, _ := filepath.Glob(filepath.Join("..", name, "*.go"))
		for _, file := range files {
			if strings.HasSuffix(file, "_test.go") {
				continue
			}
			tree, err := parser.ParseFile(token.NewFileSet(), file, nil, 0)
			if err != nil {
				t.Fatal(err)
			}
			for _, x := range tree.Decls {
				if f, ok := x.(*ast.FuncDecl); ok && f.Recv == nil && f.Name.IsExported() {
					want = append(want, f.Name.Name)
				}
			}
		}
		slices.Sort(got)
		slices.Sort(want)
		if !slices.Equal(got, want) {
			t.Errorf("%s: %q are called; there are %q", name, got, want)
		}
	}
}
