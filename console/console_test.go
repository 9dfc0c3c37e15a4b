package console_test

import (
	"strconv"
	"strings"
	"testing"

	"dustpan/api"
	"dustpan/console"
)

// tells has lines done, each of which has its answer behind it, both without a line feed.
func tells(t *testing.T, c *console.Console, l ...string) {
	t.Helper()
	for i := 0; i+1 < len(l); i += 2 {
		if got := c.Do(l[i]); got != l[i+1]+"\n" {
			t.Fatalf("Do(%q): %q; want %q", l[i], got, l[i+1]+"\n")
		}
	}
}

// all has lines done that have the same answer.
func all(t *testing.T, c *console.Console, want string, l ...string) {
	t.Helper()
	for _, line := range l {
		tells(t, c, line, want)
	}
}

// with is a console with which lines were done that are all ok.
func with(t *testing.T, l ...string) *console.Console {
	t.Helper()
	c := console.New()
	all(t, c, "ok", l...)
	return c
}

// first is what a console has at first.
func first() api.Config {
	return api.Config{Blocks: 4, Words: 32, Muts: 2, Regs: 4, Cells: 2, Log: 4, Stack: 8}
}

// The chapter's example, and the tenth one of the whole.
func TestExample(t *testing.T) {
	tells(t, console.New(), "mut 0 alloc 0 1", "ok", "turn 40", "ok 1", "live", "ok 1 0")
}

func TestNew(t *testing.T) {
	c := console.New()
	if c == nil || c.World() != nil {
		t.Fatal("a console has a world at first")
	}
	tells(t, c, "state", "idle 0 0 done", "live", "ok 0 0", "event 0", "error 12")
	if got := c.World().Config(); got != first() {
		t.Error("the config at first:", got)
	}
	other := console.New()
	tells(t, c, "pick 0", "ok 0")
	if other.World() != nil {
		t.Error("two consoles have one world")
	}
}

func TestOfNil(t *testing.T) {
	var c *console.Console
	for _, line := range []string{"", "live", "hello", "config 1 16 1 1 1 1 1", strings.Repeat("live\n", 1<<14)} {
		if c.Do(line) != "" || c.Run(line) != "" {
			t.Errorf("a nil console answers %.10q", line)
		}
	}
	if c.World() != nil {
		t.Error("a nil console has a world")
	}
}

// A config has its numbers in their order, and behind it programs are empty, and there is no world.
func TestConfig(t *testing.T) {
	c := with(t, "mut 0 safe", "mut 1 alloc 0 1")
	tells(t, c, "config 5 17 3 2 7 11 13", "ok")
	if c.World() != nil {
		t.Error("a config makes a world")
	}
	tells(t, c, "turn 10", "ok 0", "state", "idle 40 0 done")
	if got, want := c.World().Config(), (api.Config{Blocks: 5, Words: 17, Muts: 3, Regs: 2, Cells: 7, Log: 11, Stack: 13}); got != want {
		t.Error("the config:", got)
	}
	tells(t, c, "config 5 17 3 2 7 11 13", "ok")
	if c.World() != nil {
		t.Error("there is a world behind a config")
	}
	tells(t, c, "mut 2 safe", "ok", "turn 10", "ok 1", "config 1 16 1 1 0 1 1", "ok", "mut 1 safe", "error 4", "mut 0 safe", "ok", "turn 2", "ok 1", "cell 0", "error 4", "reg 0 1", "error 4")
	for _, l := range [][]string{
		{"4096", "16", "8", "64", "64", "256", "4096"},
		{"1", "256", "1", "1", "0", "1", "1"},
	} {
		tells(t, c, "config "+strings.Join(l, " "), "ok", "state", "idle 0 0 done")
	}
}

// A config that isn't right changes nothing.
func TestWrongConfigs(t *testing.T) {
	least, most := []int{1, 16, 1, 1, 0, 1, 1}, []int{4096, 256, 8, 64, 64, 256, 4096}
	c := with(t, "mut 0 safe", "mut 0 safe")
	wrong := func() {
		for place := range least {
			for _, n := range []int{least[place] - 1, most[place] + 1, -1 << 63, -1, 1<<63 - 1, 1 << 32} {
				words := []string{"config", "1", "16", "1", "1", "1", "1", "1"}
				words[place+1] = strconv.Itoa(n)
				tells(t, c, strings.Join(words, " "), "error 1")
			}
		}
	}
	wrong()
	if c.World() != nil {
		t.Error("a wrong config makes a world")
	}
	tells(t, c, "turn 5", "ok 2")
	w := c.World()
	wrong()
	if c.World() != w || w.Config() != first() {
		t.Error("a wrong config has another world")
	}
	tells(t, c, "mut 0 safe", "error 11", "state", "idle 15 0 done")
}
