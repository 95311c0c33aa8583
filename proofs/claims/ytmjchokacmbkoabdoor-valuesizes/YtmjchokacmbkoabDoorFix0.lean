/-
  The chapter's examples: the plain answers.
-/
import Derived.Test.YtmjchokacmbkoabDoorUni
import Derived.Test.YtmjchokacmbkoabDoorPri
import Derived.Test.YtmjchokacmbkoabDoorSiz
import Derived.Test.YtmjchokacmbkoabDoorTex
import Derived.Test.YtmjchokacmbkoabDoorEqu
namespace Go.Proofs.YtmjchokacmbkoabDoor
open Go.RowKit Go.Sort Go.Lib

def fixA : List Fld := [(⟨#[98]⟩, [⟨#[120]⟩]), (⟨#[97]⟩, [⟨#[121]⟩]), (⟨#[98]⟩, [⟨#[122]⟩])]
def fixN : List Fld := [(⟨#[97]⟩, [⟨#[121]⟩]), (⟨#[98]⟩, [⟨#[120]⟩, ⟨#[122]⟩])]
def fixE : List Fld := [(⟨#[97]⟩, [⟨#[120]⟩, ⟨#[]⟩])]
def fixP : List Fld := [(⟨#[98]⟩, [⟨#[49]⟩]), (⟨#[97]⟩, [⟨#[50]⟩])]
def fixQ : List Fld := [(⟨#[97]⟩, [⟨#[50]⟩]), (⟨#[98]⟩, [⟨#[49]⟩])]

theorem ltN_eq (a b : ByteArray) : ltN a b = ltB a b := by
  unfold ltN ltB
  rw [Lib.toList_data, Lib.toList_data, cb_less]

theorem mayB_eq (fs : List Fld) : mayB fs = (decide (fs.length ≤ 16) && (List.range fs.length).all fun i => fitsB (fs.getD i default) && (decide (i = 0) || ltB (fs.getD (i - 1) default).1 (fs.getD i default).1)) := by
  unfold mayB stepOk
  simp only [ltN_eq]

theorem fixA_mis : fixA.any misB = false := by decide
theorem fixA_norm : normF fixA = fixN := by decide
theorem fixN_bare : fixN.any bareB = false := by decide
theorem fixN_may : mayB fixN = true := by rw [mayB_eq]; decide
theorem fixN_line : lineOf fixN = ⟨#[97, 61, 121, 32, 98, 61, 120, 32, 98, 61, 122]⟩ := by decide
theorem fixE_may : mayB fixE = true := by decide
theorem fixE_enc : encL fixE = [1, 1, 97, 2, 1, 120, 0] := by decide
theorem fixE_dec : decodeO [1, 1, 97, 2, 1, 120, 0] = some fixE := by decide
theorem fixE_size : sizeN fixE = 7 := by decide
theorem fixP_mis : fixP.any misB = false := by decide
theorem fixP_norm : normF fixP = fixQ := by decide
theorem fixQ_bare : fixQ.any bareB = false := by decide
theorem fixQ_may : mayB fixQ = true := by rw [mayB_eq]; decide
theorem fix_write : writeL [97, 32, 98] = [97, 37, 50, 48, 98] := by decide
theorem fix_texts : textsOf fixN ⟨#[98]⟩ = [⟨#[120]⟩, ⟨#[122]⟩] := by decide
theorem fix_read : readL [97, 37, 50, 48, 98] = some [97, 32, 98] := by
  rw [readL_some (c := 97) (n := 1) (by decide)]
  show (readL [37, 50, 48, 98]).map _ = _
  rw [readL_some (c := 32) (n := 3) (by decide)]
  show ((readL [98]).map _).map _ = _
  rw [readL_some (c := 98) (n := 1) (by decide)]
  show (((readL []).map _).map _).map _ = _
  rw [readL_nil]
  rfl
theorem fix_split : splitL [98, 61, 49, 32, 97, 61, 50] = [[98, 61, 49], [97, 61, 50]] := by
  rw [splitL_yes (i := 3) (by decide)]
  show [98, 61, 49] :: splitL [97, 61, 50] = _
  rw [splitL_no (by decide)]
theorem fix_one (c : UInt8) (h : firstP [c] = some (c, 1)) : readL [c] = some [c] := by
  rw [readL_some h]
  show (readL []).map _ = _
  rw [readL_nil]
  rfl
theorem fix_words : fieldsW (splitL [98, 61, 49, 32, 97, 61, 50]) = some fixP := by
  rw [fix_split]
  have h1 : wordO [98, 61, 49] = some ([98], [49]) := by
    unfold wordO
    rw [if_neg (by decide), show (Lib.indexByte [98, 61, 49] 61).toNat = 1 by decide]
    show (readL [49]).map _ = _
    rw [fix_one 49 (by decide)]; rfl
  have h2 : wordO [97, 61, 50] = some ([97], [50]) := by
    unfold wordO
    rw [if_neg (by decide), show (Lib.indexByte [97, 61, 50] 61).toNat = 1 by decide]
    show (readL [50]).map _ = _
    rw [fix_one 50 (by decide)]; rfl
  simp only [fieldsW, h1, h2]
  rfl

end Go.Proofs.YtmjchokacmbkoabDoor
