package console_test

import (
	"strings"
	"testing"

	"dustpan/console"
)

// runs looks at the answers to a script.
func runs(t *testing.T, c *console.Console, script, want string) {
	t.Helper()
	if got := c.Run(script); got != want {
		t.Fatalf("Run(%.60q): %.60q; want %.60q", script, got, want)
	}
}

// Line feeds part a script, and what has none behind it is a line, too; empty lines answer nothing.
func TestRun(t *testing.T) {
	for _, x := range [][2]string{
		{"", ""},
		{"\n", ""},
		{"\n\n\n", ""},
		{"live", "ok 0 0\n"},
		{"live\n", "ok 0 0\n"},
		{"\nlive\n\n", "ok 0 0\n"},
		{"live\nstate", "ok 0 0\nidle 0 0 done\n"},
		{"hello\nlive 1\n\nmut 0 safe\nturn 5\nmut 0 safe\nevent 0\nconfig 0\nconfig 1 1 1 1 1 1 1", "error 2\nerror 2\nok\nok 1\nerror 11\n3 0 did 0 0 0\nerror 2\nerror 1\n"},
		{"live\r\nlive", "error 2\nok 0 0\n"},
		{"live\r", "error 2\n"},
		{"\r\n \n", "error 2\nerror 2\n"},
		{"live\x00\xff\nlive", "error 2\nok 0 0\n"},
		{"config 1 16 1 1 1 1 1\n\nmut 0 safe\nturn 2\nevent 0", "ok\nok\nok 1\n2 0 did 0 0 0\n"},
	} {
		runs(t, console.New(), x[0], x[1])
	}
}

// What is there goes on from script to script.
func TestRunAndRun(t *testing.T) {
	c := console.New()
	runs(t, c, "mut 0 alloc 0 1\nmut 1 safe\n", "ok\nok\n")
	tells(t, c, "mut 0 drop 0", "ok")
	runs(t, c, "turn 40", "ok 3\n")
	tells(t, c, "live", "ok 1 1")
	runs(t, c, "wish\nturn 90\nlive", "ok 3\nok 7\nok 0 0\n")
}

// A script has so many bytes at most; of a greater one nothing is done.
func TestGreatScripts(t *testing.T) {
	const most = 1 << 16
	blanks := strings.Repeat("\n", most-8)
	c := console.New()
	runs(t, c, "turn 1\n\n"+blanks, "ok 0\n")
	runs(t, c, blanks+"turn 10\n", "ok 0\n")
	for _, script := range []string{"turn 1\n\n\n" + blanks, blanks + "turn 100\n", strings.Repeat("x", most+1), strings.Repeat("\n", most+1), strings.Repeat("turn 1\n", 1<<20)} {
		runs(t, c, script, "error 3\n")
	}
	runs(t, c, "state", "idle 33 0 done\n")
	runs(t, console.New(), strings.Repeat("x", most), "error 2\n")
	runs(t, console.New(), strings.Repeat("x\n", most/2), strings.Repeat("error 2\n", most/2))
	fresh := console.New()
	if runs(t, fresh, strings.Repeat("live\n", most), "error 3\n"); fresh.World() != nil {
		t.Error("a script that is too great makes a world")
	}
}

// A script is as its parts that end with a line feed, one behind the other.
func TestParts(t *testing.T) {
	script := "mut 0 alloc 0 1\n\nmut 1 get 0 0\nmut 0 set 0 0\nhello\nturn 9\nwish\nturn 30\n\n\nreg 1 0\nstate\nconfig 1 16 1 1 0 1 1\nlive\nmut 0 safe\npick 0 2\nstate"
	want := console.New().Run(script)
	for i := range script {
		for j := i; j < len(script); j++ {
			if i > 0 && script[i-1] != '\n' || j > 0 && script[j-1] != '\n' {
				continue
			}
			c := console.New()
			if got := c.Run(script[:i]) + c.Run(script[i:j]) + c.Run(script[j:]); got != want {
				t.Fatalf("parted at %d and %d: %q; want %q", i, j, got, want)
			}
		}
	}
	c, got := console.New(), ""
	for line := range strings.SplitSeq(script, "\n") {
		got += c.Do(line)
	}
	if got != want {
		t.Errorf("line by line: %q; want %q", got, want)
	}
}
