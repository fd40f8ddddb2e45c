package hearsay_test

import (
	"hash/crc32"
	"math"
	"strings"
	"testing"

	"hearsay/api"
	"hearsay/hearsay"
)

// P3: each bound from both sides, with the other numbers at both ends of theirs.
func TestCheckBounds(t *testing.T) {
	for _, part := range []struct {
		name        string
		least, most int
		set         func(c *api.Config, v int)
	}{
		{"Nodes", 2, 8, func(c *api.Config, v int) { c.Nodes = v }},
		{"Window", 1, 8, func(c *api.Config, v int) { c.Window = v }},
		{"Body", 0, 40, func(c *api.Config, v int) { c.Body = v }},
		{"Last", 1, 65535, func(c *api.Config, v int) { c.Last = v }},
	} {
		for _, v := range []int{math.MinInt, -1, 0, 1, 2, part.least - 1, part.least, part.least + 1, part.most - 1, part.most, part.most + 1, math.MaxInt32 + 1, math.MaxInt} {
			for _, c := range []api.Config{small, three, great} {
				want := api.ErrArg
				if part.least <= v && v <= part.most {
					want = api.OK
				}
				part.set(&c, v)
				if e := hearsay.Check(c); e != want {
					t.Errorf("P3: %s %d: Check(%+v) = %d, want %d", part.name, v, c, e, want)
				}
			}
		}
	}
	for _, c := range noGroups {
		if e := hearsay.Check(c); e != api.ErrArg {
			t.Errorf("P3: Check(%+v) = %d, want ErrArg", c, e)
		}
	}
}

func TestSumExamples(t *testing.T) {
	for s, want := range map[string]int{"": 0, "123456789": 0xcbf43926, "a": 0xe8b7be43, "\x00": 0xd202ef8d, "\xff\xff\xff\xff": 0xffffffff} {
		if v := hearsay.Sum(s); v != want {
			t.Errorf("P4: Sum(%q) = %x, want %x", s, v, want)
		}
	}
}

// P4: held against the library's CRC-32; texts that are not UTF-8 and long ones too.
func TestSumIsCRC32(t *testing.T) {
	texts := []string{strings.Repeat("\xff", 100000), strings.Repeat("\x00", 100000)}
	for i := range 256 {
		texts = append(texts, string([]byte{byte(i)}), string([]byte{'h', byte(i), 0}))
	}
	var d dice = 4
	for range 500 {
		texts = append(texts, d.text(d.roll(120)))
	}
	for _, s := range texts {
		if v, want := hearsay.Sum(s), int(crc32.ChecksumIEEE([]byte(s))); v != want {
			t.Fatalf("P4: Sum(%.20q) = %x, want %x", s, v, want)
		}
	}
}
