/-
  The chapter's examples, each by itself: what the calls that fixed makes come to at its own texts.
-/
import Derived.Test.YtgpeaepmkincaaaKeys
import Derived.Test.YtgpeaepmkincaaaTok
import Derived.Test.YtgpeaepmkincaaaCmp
namespace Go.Proofs.Ytgpeaepmkincaaa
open Go.RowKit

theorem fix_parse (w : World) :
    Calls Try.prog 18 #[.string ⟨#[80, 97, 116, 105, 101, 110, 116, 47, 112, 49]⟩] w fun e w' =>
      e = .returned (.tuple #[.agg #[.string ⟨#[80, 97, 116, 105, 101, 110, 116]⟩, .string ⟨#[112, 49]⟩], .int .i64 0]) ∧ Below w.heap.size w w' := by
  have h := parse_yes ⟨#[80, 97, 116, 105, 101, 110, 116, 47, 112, 49]⟩ w (by decide) 7 (by decide) (by decide) (by decide)
  have e1 : (⟨#[80, 97, 116, 105, 101, 110, 116, 47, 112, 49]⟩ : ByteArray).extract 0 7 = ⟨#[80, 97, 116, 105, 101, 110, 116]⟩ := by decide
  have e2 : (⟨#[80, 97, 116, 105, 101, 110, 116, 47, 112, 49]⟩ : ByteArray).extract (7 + 1) (⟨#[80, 97, 116, 105, 101, 110, 116, 47, 112, 49]⟩ : ByteArray).size = ⟨#[112, 49]⟩ := by decide
  rw [e1, e2] at h
  exact h

theorem fix_print (w : World) :
    Calls Try.prog 20 #[.agg #[.string ⟨#[80, 97, 116, 105, 101, 110, 116]⟩, .string ⟨#[112, 49]⟩]] w fun e w' =>
      e = .returned (.tuple #[.string ⟨#[80, 97, 116, 105, 101, 110, 116, 47, 112, 49]⟩, .int .i64 0]) ∧ Below w.heap.size w w' := by
  have h := print_yes ⟨#[80, 97, 116, 105, 101, 110, 116]⟩ ⟨#[112, 49]⟩ w (by decide) (by decide) (by decide) (by decide) (by decide)
  have e1 : (⟨#[80, 97, 116, 105, 101, 110, 116]⟩ ++ ⟨#[47]⟩ ++ ⟨#[112, 49]⟩ : ByteArray) = ⟨#[80, 97, 116, 105, 101, 110, 116, 47, 112, 49]⟩ := by decide
  rw [e1] at h
  exact h

theorem fix_type (w : World) : Calls Try.prog 10 #[.string ⟨#[80, 97, 116, 105, 101, 110, 116]⟩] w fun e w' => e = .returned (.bool true) ∧ w' = w := by
  have h := type_any ⟨#[80, 97, 116, 105, 101, 110, 116]⟩ w (by decide)
  rw [show typeB (⟨#[80, 97, 116, 105, 101, 110, 116]⟩ : ByteArray).data.toList = true from by decide] at h
  exact h
theorem fix_id (w : World) : Calls Try.prog 12 #[.string ⟨#[97, 45, 49, 46, 66]⟩] w fun e w' => e = .returned (.bool true) ∧ w' = w := by
  have h := iden_any ⟨#[97, 45, 49, 46, 66]⟩ w (by decide)
  rw [show idenB (⟨#[97, 45, 49, 46, 66]⟩ : ByteArray).data.toList = true from by decide] at h
  exact h
theorem fix_field (w : World) : Calls Try.prog 14 #[.string ⟨#[98, 105, 114, 116, 104, 68, 97, 116, 101]⟩] w fun e w' => e = .returned (.bool true) ∧ w' = w := by
  have h := field_any ⟨#[98, 105, 114, 116, 104, 68, 97, 116, 101]⟩ w (by decide)
  rw [show fieldB (⟨#[98, 105, 114, 116, 104, 68, 97, 116, 101]⟩ : ByteArray).data.toList = true from by decide] at h
  exact h
theorem fix_temp (w : World) : Calls Try.prog 16 #[.string ⟨#[120, 49]⟩] w fun e w' => e = .returned (.bool true) ∧ w' = w := by
  have h := temp_any ⟨#[120, 49]⟩ w (by decide)
  rw [show tempB (⟨#[120, 49]⟩ : ByteArray).data.toList = true from by decide] at h
  exact h
theorem fix_key (w : World) : Calls Try.prog 22 #[.agg #[.string ⟨#[80, 97, 116, 105, 101, 110, 116]⟩, .string ⟨#[112, 49]⟩]] w fun e w' => e = .returned (.bool true) ∧ Below w.heap.size w w' := by
  have h := key_any ⟨#[80, 97, 116, 105, 101, 110, 116]⟩ ⟨#[112, 49]⟩ w (by decide) (by decide)
  rw [show keyB ⟨#[80, 97, 116, 105, 101, 110, 116]⟩ ⟨#[112, 49]⟩ = true from by decide] at h
  exact h
theorem fix_compare (w : World) : Calls Try.prog 23 #[.agg #[.string ⟨#[65]⟩, .string ⟨#[]⟩], .agg #[.string ⟨#[66]⟩, .string ⟨#[]⟩]] w fun e w' => e = .returned (.int .i64 (-1)) ∧ Below w.heap.size w w' := by
  have h := compare_any ⟨#[65]⟩ ⟨#[]⟩ ⟨#[66]⟩ ⟨#[]⟩ w
  rw [show cmpI ⟨#[65]⟩ ⟨#[]⟩ ⟨#[66]⟩ ⟨#[]⟩ = -1 from by decide] at h
  exact h
theorem fix_token (w : World) : Calls Try.prog 28 #[.string ⟨#[55]⟩, .string ⟨#[109, 114, 110, 124, 55]⟩] w fun e w' => e = .returned (.bool true) ∧ ∃ n, w' = w.drewN n := by
  have h := Token_any ⟨#[55]⟩ ⟨#[109, 114, 110, 124, 55]⟩ w (by decide) (by decide)
  have e1 : tokenB ⟨#[55]⟩ ⟨#[109, 114, 110, 124, 55]⟩ = true := by
    rw [tokenB_bare _ (by decide), (tok_yes (s := ⟨#[109, 114, 110, 124, 55]⟩) (i := 3) (by decide)).2, Lib.toList_data, Lib.toList_data]
    decide
  rw [e1] at h
  exact h

/-- What fixed asks of Sort: of two keys that are one it keeps one. -/
def FixSort : Prop := ∀ (a b : ByteArray) (g : Nat) (w : World), g < w.heap.size →
  w.cell? ⟨g, 0, none⟩ = some (.string a) → w.cell? ⟨g, 1, none⟩ = some (.string b) → w.cell? ⟨g, 2, none⟩ = some (.string a) → w.cell? ⟨g, 3, none⟩ = some (.string b) →
  Calls Try.prog 25 #[.slice (some ⟨g, 0, none⟩) 2 2] w fun e w' => (∃ p c, e = .returned (.slice p 1 c)) ∧ Below w.heap.size w w'

end Go.Proofs.Ytgpeaepmkincaaa
