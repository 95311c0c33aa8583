package server

import "testing"

// example is a script, and what is told of it.
type example struct{ script, told string }

// examples are the ten of chapter 20.
func examples() []example {
	return []example{
		{`0 create A/a n=1
`, `ask 0 0 create A/a n=1
answer 0 0 success snap 0 tries 1 stamp 1 tick 0
> made ; A/a 1 1 0 live n=1
`},
		{`0 create A/a n=1
1 read A/a
pick 0 1
tick 2
pick 0 0
`, `ask 0 0 create A/a n=1
ask 1 0 read A/a
tick 2
answer 0 0 success snap 0 tries 1 stamp 1 tick 2
> made ; A/a 1 1 2 live n=1
answer 1 0 success snap 0 tries 1
> missing
`},
		{`0 create A/a n=1
1 once create A/a n=2
pick 0 1 0 1 0 1
`, `ask 0 0 create A/a n=1
ask 1 0 once create A/a n=2
answer 0 0 success snap 0 tries 1 stamp 1 tick 0
> made ; A/a 1 1 0 live n=1
answer 1 0 conflict snap 0 tries 1
`},
		{`0 create A/a n=1
1 create A/a n=2
pick 0 1 0 1 0 1
`, `ask 0 0 create A/a n=1
ask 1 0 create A/a n=2
answer 0 0 success snap 0 tries 1 stamp 1 tick 0
> made ; A/a 1 1 0 live n=1
answer 1 0 exists at 0 snap 1 tries 2
`},
		{`0 create A/a n=1 ; create A/b n=1
1 read A/a ; update A/b n=2
2 read A/b ; update A/a n=2
pick 0 0 0 0 1 2 1 2 1 2 1 2
`, `ask 0 0 create A/a n=1 ; create A/b n=1
answer 0 0 success snap 0 tries 1 stamp 1 tick 0
> made ; A/a 1 1 0 live n=1
> made ; A/b 1 1 0 live n=1
ask 1 0 read A/a ; update A/b n=2
ask 2 0 read A/b ; update A/a n=2
answer 1 0 success snap 1 tries 1 stamp 2 tick 0
> found ; A/a 1 1 0 live n=1
> put ; A/b 2 2 0 live n=2
answer 2 0 success snap 2 tries 2 stamp 3 tick 0
> found ; A/b 2 2 0 live n=2
> put ; A/a 2 3 0 live n=2
`},
		{`0 ensure A/a m=1 ? m=1
1 ensure A/b m=1 ? m=1
pick 0 1 0 1 0 1 0 1
`, `ask 0 0 ensure A/a m=1 ? m=1
ask 1 0 ensure A/b m=1 ? m=1
answer 0 0 success snap 0 tries 1 stamp 1 tick 0
> made ; A/a 1 1 0 live m=1
answer 1 0 success snap 1 tries 2
> found ; A/a 1 1 0 live m=1
`},
		{`0 create A/a n=1
0 update A/a n=2
0 at 1 A/a
pick 0 0 0 0 0 0
vacuum
`, `ask 0 0 create A/a n=1
answer 0 0 success snap 0 tries 1 stamp 1 tick 0
> made ; A/a 1 1 0 live n=1
ask 0 1 update A/a n=2
answer 0 1 success snap 1 tries 1 stamp 2 tick 0
> put ; A/a 2 2 0 live n=2
vacuum 2 1
ask 0 2 at 1 A/a
answer 0 2 past at 0 snap 2 tries 1
`},
		{`config 1 4 2 0
0 create A/a
0 create A/b
`, `ask 0 0 create A/a
answer 0 0 success snap 0 tries 1 stamp 1 tick 0
> made ; A/a 1 1 0 live
ask 0 1 create A/b
answer 0 1 full snap 1 tries 1
`},
		{`0 create @x A/a n=1 ; create B/b r=*@x
0 delete A/a ; read B/b
`, `ask 0 0 create @x A/a n=1 ; create B/b r=*@x
answer 0 0 success snap 0 tries 1 stamp 1 tick 0
> made ; A/a 1 1 0 live n=1
> made ; B/b 1 1 0 live r=*A/a
ask 0 1 delete A/a ; read B/b
answer 0 1 success snap 1 tries 1 stamp 2 tick 0
> dropped ; A/a 2 2 0 dead
> found ; B/b 1 1 0 live r=*A/a
`},
		{`config 9 4 2 18446744073709551615
0 create A/a
`, `ask 0 0 create A/a
answer 0 0 full snap 18446744073709551615 tries 1
`},
	}
}

// The ten examples of the whole are told as they stand there: P19.1.
func TestWholes(t *testing.T) {
	for _, e := range examples() {
		tells(t, ran(t, scripted(t, e.script)), e.told)
	}
}
