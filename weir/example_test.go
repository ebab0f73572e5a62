package weir_test

import (
	"fmt"

	"weir/api"
	"weir/weir"
)

func ExamplePack() {
	p := api.Program{
		Entries: []int{0},
		Rules:   []api.Rule{{Emit: 1}},
		Code: []api.Ins{
			{Op: api.Next},
			{Op: api.In, A: 'a', B: 'b', To: 3},
			{Op: api.Stop},
			{Op: api.Mark},
			{Op: api.Stop},
		},
	}
	image, e := weir.Pack(p)
	if e != api.OK {
		fmt.Println("not right:", e)
		return
	}
	fmt.Printf("%x\n", image)
	back, e := weir.Unpack(image)
	fmt.Println(back.Code[1], e)
	// Output:
	// 575201010500000001000002000000000361620300050000000001000000000500000000
	// {3 97 98 3} 0
}

func ExampleStart() {
	p := api.Program{
		Entries: []int{0},
		Rules:   []api.Rule{{Emit: 1}},
		Code: []api.Ins{
			{Op: api.Next},
			{Op: api.Mark},
			{Op: api.In, A: 'a', B: 'z', To: 0},
			{Op: api.Stop},
		},
	}
	image, _ := weir.Pack(p)
	s, _ := weir.Start(image, api.MaxLook, 0)
	for _, chunk := range []string{"one;t", "wo"} {
		tokens, e := s.Feed(chunk)
		fmt.Println(tokens, e, s.State().Held)
	}
	tokens, e := s.Finish()
	fmt.Println(tokens, e, s.State().Held)
	// Output:
	// [{0 0 4 1 1}] 0 1
	// [] 0 3
	// [{0 4 3 1 5}] 0 0
}

func ExampleCheck() {
	fmt.Println(weir.Check("a [a-z]+ e\na \\s s"))
	fmt.Println(weir.Check("a (b e"))
	fmt.Println(weir.Check("a b e\na [z-a] e"))
	fmt.Println(weir.Check("a b e\na b* e"))
	fmt.Println(weir.Check("b .*a..... e"))
	// Output:
	// 0 0
	// 10 4
	// 11 1
	// 12 1
	// 13 1
}

func ExampleCompile() {
	image, e := weir.Compile("a if e\na [a-z]+ e\na (\\s|\\n)+ s\na \" e+b\nb [^\"]+ e\nb \" e<")
	if e != api.OK {
		fmt.Println("no rules:", e)
		return
	}
	s, _ := weir.Start(image, api.MaxLook, 1)
	for _, chunk := range []string{"if i", "ff \"i", "f\""} {
		tokens, e := s.Feed(chunk)
		fmt.Println(tokens, e, s.State().Held)
	}
	tokens, e := s.Finish()
	fmt.Println(tokens, e, s.State().Held)
	// Output:
	// [{0 0 2 1 1}] 0 1
	// [{1 3 3 1 4} {3 7 1 1 8}] 0 1
	// [{4 8 2 1 9} {5 10 1 1 11}] 0 0
	// [] 0 0
}
