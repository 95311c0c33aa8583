/-
  The words tk_val, tk_not, tk_call, tk_on, tk_end of a drawn region taken by hand (Tak) are written out where a text is laid (inst.py): here are their imports alone.
-/
import Derived.Test.YtkiandchgbldbaaTak
import Derived.Test.YtkiandchgbldbaaTac
namespace Go.Proofs.Ytkiandchgbldbaa

end Go.Proofs.Ytkiandchgbldbaa
