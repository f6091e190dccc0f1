package kernel_test

import (
	"testing"

	"sortkernel/api"
	"sortkernel/book"
	"sortkernel/canon"
	"sortkernel/conv"
	"sortkernel/decl"
	"sortkernel/eval"
	"sortkernel/infer"
	"sortkernel/kernel"
	"sortkernel/needs"
	"sortkernel/step"
	"sortkernel/term"
	"sortkernel/text"
	"sortkernel/wire"
)

// All packages are held to the signatures that the document's chapters list, here, as this layer is the last one:
// the lines below do not build if a signature is another one.
var (
	_ func(kind int) ([]int, bool)                                 = term.Binds
	_ func(a, b api.Term) bool                                     = term.Same
	_ func(t api.Term) int                                         = term.Size
	_ func(t api.Term, bound, decls int) api.Errno                 = term.Wrong
	_ func(t api.Term, by, last int) api.Term                      = term.Lift
	_ func(t, u api.Term) api.Term                                 = term.Put
	_ func(t api.Term, n int) bool                                 = term.Uses
	_ func(b []byte, t api.Term) []byte                            = wire.Term
	_ func(b []byte) (api.Term, []byte, api.Errno)                 = wire.Get
	_ func(d api.Decl) []byte                                      = wire.Decl
	_ func(b []byte) (api.Decl, api.Errno)                         = wire.GetDecl
	_ func(s string) bool                                          = text.Name
	_ func(s string) []string                                      = text.Words
	_ func(string, []string, []string) (api.Term, api.Errno)       = text.Parse
	_ func(t api.Term, bound, decls []string) string               = text.Print
	_ func([]api.Decl, api.Term) (api.Term, bool)                  = step.Step
	_ func([]api.Decl, api.Term, int) (api.Term, int)              = step.Steps
	_ func([]api.Decl, api.Term, int) api.Term                     = eval.Normal
	_ func([]api.Decl, api.Term, int) bool                         = eval.Is
	_ func(d []api.Decl, c []api.Term, a, b, t api.Term) bool      = conv.Same
	_ func(d []api.Decl, c []api.Term, a, b api.Term) bool         = conv.SameType
	_ func([]api.Decl, []api.Term) (api.Errno, int)                = infer.Context
	_ func([]api.Decl, []api.Term, api.Term) (api.Term, api.Errno) = infer.Infer
	_ func([]api.Decl, []api.Term, api.Term) (int, api.Errno)      = infer.Sort
	_ func(d []api.Decl, c []api.Term, t, want api.Term) api.Errno = infer.Check
	_ func([]api.Decl) []string                                    = decl.Names
	_ func([]api.Decl, api.Decl) ([]api.Decl, api.Verdict)         = decl.Add
	_ func([]api.Decl) ([]api.Decl, []api.Verdict)                 = decl.All
	_ func([]api.Decl, api.Decl) string                            = book.Line
	_ func([]api.Decl) string                                      = book.Print
	_ func([]api.Decl, string) (api.Decl, api.Errno)               = book.Read
	_ func(string) ([]api.Decl, []api.Verdict)                     = book.Load
	_ func([]api.Decl, ...api.Term) []int                          = needs.Of
	_ func([]api.Decl, ...api.Term) ([]api.Decl, []api.Term)       = needs.Trim
	_ func([]api.Decl, api.Term) api.Term                          = needs.Unfold
	_ func(int) api.Term                                           = canon.Numeral
	_ func([]api.Decl, api.Term) (int, bool)                       = canon.Number
	_ func(d []api.Decl, t, of api.Term) string                    = canon.Show
	_ func(api.Session) api.Session                                = kernel.Own
	_ func(api.Session, []byte) api.Session                        = kernel.Do
	_ func([][]byte) api.Session                                   = kernel.All
	_ func([]api.Decl) [][]byte                                    = kernel.Bytes
)

// TestFaces is there so that go test builds the lines above.
func TestFaces(t *testing.T) {}
