package audit

// wholes are the ten examples of the whole, as scripts (chapter 20), and some more in which requests get into each other's way.
func wholes() []string {
	return []string{
		"0 create A/a n=1\n",
		"0 create A/a n=1\n1 read A/a\npick 0 1\ntick 2\npick 0 0\n",
		"0 create A/a n=1\n1 once create A/a n=2\npick 0 1 0 1 0 1\n",
		"0 create A/a n=1\n1 create A/a n=2\npick 0 1 0 1 0 1\n",
		"0 create A/a n=1 ; create A/b n=1\n1 read A/a ; update A/b n=2\n2 read A/b ; update A/a n=2\npick 0 0 0 0 1 2 1 2 1 2 1 2\n",
		"0 ensure A/a m=1 ? m=1\n1 ensure A/b m=1 ? m=1\npick 0 1 0 1 0 1 0 1\n",
		"0 create A/a n=1\n0 update A/a n=2\n0 at 1 A/a\npick 0 0 0 0 0 0\nvacuum\n",
		"config 1 4 2 0\n0 create A/a\n0 create A/b\n",
		"0 create @x A/a n=1 ; create B/b r=*@x\n0 delete A/a ; read B/b\n",
		"config 9 4 2 18446744073709551615\n0 create A/a\n",
		"tick 4\n0 ensure A/a m=1 ? m=1 ; patch A/a m:=2\n1 search A m=1\n2 search A m=2 ; since A 0\n3 delete A/a\n4 history A/a 0 ; number A/a 1 ; find 1 A\npick 0 1 2 3 4 4 3 2 1 0 0\ntick 1\npick 0 3 3 3 2 2 4 4 1 1\n",
	}
}
