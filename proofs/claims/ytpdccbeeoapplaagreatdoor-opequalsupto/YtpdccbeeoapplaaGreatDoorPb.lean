/-
  Texts of this claim, one behind the other: Rng Sh3 Ix Spl Cut Rea Wrd Stba Stbb Sor Equ Tex Joa Job Stbc Stc Std Ste Stf Joc Nor.
-/
import Derived.RangeFuncNested
import Derived.RangeFuncBound
import Derived.RangeFuncCalls
import Derived.RangeFuncLeaves
import Derived.Test.YtpdccbeeoapplaaGreatDoorPa
import Derived.Shelf.Strings.Builder1
import Derived.Shelf.Strings.OnBuilder
import Derived.Shelf.Small.Utf8
import Derived.Shelf.Small.Bits
import Derived.Shelf.Small.Strs
import Derived.Shelf.Small.Wraps
import Derived.Shelf.Strconv.Itoa0
import Derived.Shelf.Strconv.Itoa1
import Derived.Shelf.Strconv.Itoa2
import Derived.Shelf.Strconv.Itoa3
import Derived.Ground.MpProg
import Derived.Shelf.Pu.ParseUintPublic10
import Derived.Shelf.Pu.ErrVarParseUint
import Derived.Shelf.Strings.Search1
import Derived.Shelf.Strings.Search2
import Derived.Shelf.Strings.Search3
import Derived.Shelf.Strings.Count
import Derived.Shelf.Strings.Prefix
import Derived.Shelf.Strings.Split
import Derived.Shelf.Strings.SplitShaped
import Derived.Shelf.Strings.Runes
import Derived.Shelf.Strings.IndexAny
import Derived.Shelf.Strings.AsciiSet
import Derived.Shelf.Strings.IndexAnyAll
import Derived.Shelf.Unicode.DecodeSlow
import Derived.Shelf.Slices.Equal
import Derived.Ground.Names2Prog
import Derived.Shelf.Slices.Clone
import Derived.Shelf.Slices.Empties2
import Derived.Ground.SlgnProg
import Derived.Shelf.SlicesE.Equal
import Derived.Shelf.SlicesE.Clone
import Derived.Ground.SlgfProg
import Derived.Shelf.SlicesE.IndexFunc
import Derived.Test.YtpdccbeeoapplaaGreatDoorProg
import Derived.Shelf.SlGeneric
import Derived.Shelf.SlicesQ.IndexFunc
import Derived.Shelf.SlSortCmp.InsertionK
import Derived.Ground.NamesProg
import Derived.Shelf.Lays
import Derived.Lib.Bytealg
import Derived.Lib.IndexBytes
import Derived.Shelf.Abstract
import Derived.Shelf.RegionOpen
import Derived.OwnWalkIn
import Derived.TacticsInMore
import Derived.LoopNIn
import Derived.LoopIn
import Derived.Lib.Strings
import Derived.Deep.QuietTactic
import Derived.BigQuiet
import Derived.Sort.LotA
import Derived.Shelf.SlSortCmp.KitK
import Derived.Sort.WalkB2
import Derived.Sort.WalkB12
import Derived.Deep.LoopGhost
import Derived.Deep.CutRange
namespace Go.Proofs.YtpdccbeeoapplaaGreatDoor
open Go.RowKit
def SeqB {α : Type} (F : Fence) (n : Nat) (P : Program) (g : Nat) (lb : Array Value) (encs : α → Array Value) (Kp : World → World → Prop) (S Sp : List α → Prop) (N Bs : Nat) (w : World) : Prop :=
  ∀ (l : Nat) (J Jx : List α → World → Prop) (W : World), Below w.heap.size w W → (∀ s W v, J s W → J s (W.setCell ⟨Bs, 0, none⟩ v)) →
    (∀ pre x W1, J pre W1 → pre.length < N → YieldAt F (n - 1) P l (encs x) W1 fun e W' =>
      (e = .returned (.bool true) ∧ J (pre ++ [x]) W' ∧ Kp W1 W') ∨ (e = .returned (.bool false) ∧ Jx (pre ++ [x]) W')) →
    J [] W →
    CallsIn F n P g (#[.func (.yield l) #[] #[]] ++ lb) W fun e W' => (∃ v, e = .returned v) ∧ ((∃ xs, S xs ∧ J xs W') ∨ (∃ pre, Sp pre ∧ Jx pre W'))
variable {F : Fence} {n : Nat} {P : Program}
theorem wpIn_rangeFunc_box {α : Type} {g : Operand} {ps : Array Tmp} {assign body : Code} {Q : Exit → Act → World → Prop} {a : Act} {w : World}
    (hro : F.round = none) (h1 : 1 ≤ n) {gf : Nat} {lb : Array Value} (hg : a.eval g = .func (.func gf) #[] lb) (hFg : F.fn gf) (eg : ∀ args w, (callFunc gf args).run P w = .ok (.enter gf args) w)
    {encs : α → Array Value} {Kp : World → World → Prop} {S Sp : List α → Prop} {N Bs : Nat} (hBs : Bs < w.heap.size) (hseq : SeqB F (n - 1) P gf lb encs Kp S Sp N Bs w)
    (hKt : ∀ {A B C : World}, Kp A B → Kp B C → Kp A C) (hKb : ∀ (W : World) (l : Nat) (o' : Obj), w.heap.size ≤ l → Kp W (W.putObj l o')) (hps : ∀ x, (encs x).size = ps.size)
    (I : List α → World → Prop) (Ix : Code → List α → World → Prop)
    (hIp : ∀ s W o', I s W → I s (W.putObj (w.heap.size + 1) o')) (hIb : ∀ s W v, I s W → I s (W.setCell ⟨Bs, 0, none⟩ v)) (hXp : ∀ c s W o', Ix c s W → Ix c s (W.putObj (w.heap.size + 1) o'))
    (h0 : ∀ o1 o2, I [] ((w.alloc o1).alloc o2)) (a₁ : α → Act)
    (hassign : ∀ (l : Nat) (x : α) (W : World) (K : Act → World → Prop), K (a₁ x) W →
      assign.wpIn (F.inRound l) (n - 1 - 1) P (Exit.then K (fun _ _ _ => False)) { tmps := (ps.zip (encs x)).foldl (fun t (p, v) => t.setIfInBounds p v) a.tmps, defers := [] } W)
    (hbody : ∀ (l : Nat) (pre : List α) (x : α) (W : World), w.heap.size + 1 < W.heap.size → I pre W → pre.length < N → body.wpIn (F.inRound l) (n - 1 - 1) P (ownPostG w.heap.size Kp I Ix (pre ++ [x]) W) (a₁ x) W)
    (hdone : ∀ (xs : List α) (W : World), S xs → I xs W → W.heap[w.heap.size]? = some (.deferred (some [])) → Q .normal { a with defers := { target := .collected w.heap.size, args := #[] } :: a.defers } W)
    (hstop : ∀ (c : Code) (pre : List α) (W : World), Sp pre → Ix c pre W → W.heap[w.heap.size]? = some (.deferred (some [])) → c.wpIn F n P Q { a with defers := { target := .collected w.heap.size, args := #[] } :: a.defers } W) :
    (Code.rangeFunc g ps assign body).wpIn F n P Q a w := by
  refine wpIn_rangeFunc ?_
  intro fn hfn
  rw [hro]
  obtain ⟨rec, hrec⟩ : ∃ rec : LoopState → Option Code → Loop, rec = fun st pe => { state := st, pending := pe, fn, tmps := a.tmps, params := ps, assign, body, defers := w.heap.size } := ⟨_, rfl⟩
  obtain ⟨W1, hW1⟩ : ∃ W1, (w.alloc (.deferred (some []))).alloc (.loop (rec .ready none)) = W1 := ⟨_, rfl⟩
  have hL1 : W1.heap[w.heap.size + 1]? = some (.loop (rec .ready none)) := by
    rw [← hW1]; have := World.alloc_heap_new (w.alloc (.deferred (some []))) (.loop (rec .ready none)); rwa [World.size_alloc] at this
  have hK1 : W1.heap[w.heap.size]? = some (.deferred (some [])) := by
    rw [← hW1]; exact (Below.heap_alloc _ _ _ (by simp)).trans (World.alloc_heap_new w _)
  have hb1 : Below w.heap.size w W1 := by
    rw [← hW1]; exact ((Below.refl _ w).alloc (Nat.le_refl _) _).alloc (by simp) _
  refine ⟨w.heap.size + 1, [{ target := .collected w.heap.size, args := #[] }], W1, { target := .fn (.func gf) lb, args := #[.func (.yield (w.heap.size + 1)) #[] #[]] }, W1, gf,
    #[.func (.yield (w.heap.size + 1)) #[] #[]] ++ lb, W1, ?_, ?_, ?_, ?_, fun _ => h1, ?_⟩
  · rw [← hW1, hrec]; exact run_enterLoop_outer _ _ _ _ _
  · simp only [resolve, hg]
    simp [go_sem]
  · intro f' hf'; simp [Target.leads] at hf'; subst hf'; exact hFg
  · simp [invoke, go_sem, eg]
  · refine (hseq (w.heap.size + 1)
      (fun pre W => I pre W ∧ W.heap[w.heap.size + 1]? = some (.loop (rec .ready none)) ∧ W.heap[w.heap.size]? = some (.deferred (some [])))
      (fun pre W => ∃ c, Ix c pre W ∧ W.heap[w.heap.size + 1]? = some (.loop (rec .done (some c))) ∧ W.heap[w.heap.size]? = some (.deferred (some [])))
      W1 hb1
      (fun s W v hs => ⟨hIb s W v hs.1, (Below.heap_setCell W ⟨Bs, 0, none⟩ v _ (by show _ ≠ Bs; omega)).trans hs.2.1, (Below.heap_setCell W ⟨Bs, 0, none⟩ v _ (by show _ ≠ Bs; omega)).trans hs.2.2⟩)
      ?_ ⟨by rw [← hW1]; exact h0 _ _, hL1, hK1⟩).mono ?_
    · rintro pre x W ⟨hi, hl, hk⟩ hlen
      have hlt : w.heap.size + 1 < W.heap.size := (Array.getElem?_eq_some_iff.1 hl).1
      have hy := run_yield (P := P) (args := encs x) hl (by rw [hrec]; exact hps x)
      rw [hrec] at hy
      refine ⟨fn, _, assign, body, hy, roundIn_of_wpIn hfn (hassign _ x W _ ⟨_, run_beginRound hl (by rw [hrec]), ?_⟩)⟩
      have hl2 : (W.putObj (w.heap.size + 1) (.loop { rec .ready none with state := .busy })).heap[w.heap.size + 1]? = some (.loop { rec .ready none with state := .busy }) := World.putObj_heap_same hlt
      have hk2 : (W.putObj (w.heap.size + 1) (.loop { rec .ready none with state := .busy })).heap[w.heap.size]? = some (.deferred (some [])) := (World.putObj_heap_other (by omega)).trans hk
      have hw2 : Kp W (W.putObj (w.heap.size + 1) (.loop { rec .ready none with state := .busy })) := hKb _ _ _ (by omega)
      refine wpIn_mono (hbody _ pre x _ (Array.getElem?_eq_some_iff.1 hl2).1 (hIp _ _ _ hi) hlen) ?_
      have fin : ∀ (jump : Option Code) (W3 : World), KeepsFrom w.heap.size (W.putObj (w.heap.size + 1) (.loop { rec .ready none with state := .busy })) W3 →
          (Instr.endRound (w.heap.size + 1) jump).run P W3 = .ok (.bool jump.isNone) (W3.putObj (w.heap.size + 1) (.loop (rec (if jump.isNone then .ready else .done) jump))) ∧
          (W3.putObj (w.heap.size + 1) (.loop (rec (if jump.isNone then .ready else .done) jump))).heap[w.heap.size + 1]? = some (.loop (rec (if jump.isNone then .ready else .done) jump)) ∧
          (W3.putObj (w.heap.size + 1) (.loop (rec (if jump.isNone then .ready else .done) jump))).heap[w.heap.size]? = some (.deferred (some [])) := fun jump W3 hk3 => by
        have hl3 := hk3.same _ _ (by omega) hl2 rfl
        have := run_endRound (P := P) jump hl3
        rw [hrec] at this ⊢
        exact ⟨this, World.putObj_heap_same (Array.getElem?_eq_some_iff.1 hl3).1, (World.putObj_heap_other (by omega)).trans (hk3.same _ _ (Nat.le_refl _) hk2 rfl)⟩
      rintro e a3 W3 hp
      cases e with
      | normal =>
        obtain ⟨hk3, hkp3, hi3⟩ := hp
        obtain ⟨hr, hl4, hk4⟩ := fin none W3 hk3
        exact ⟨_, _, hr, .inl ⟨rfl, ⟨hIp _ _ _ hi3, hl4, hk4⟩, hKt (hKt hw2 hkp3) (hKb _ _ _ (by omega))⟩⟩
      | ret =>
        obtain ⟨hk3, hi3⟩ := hp
        obtain ⟨hr, hl4, hk4⟩ := fin (some .ret) W3 hk3
        exact ⟨_, _, hr, .inr ⟨rfl, .ret, hXp _ _ _ _ hi3, hl4, hk4⟩⟩
      | exit id =>
        obtain ⟨hk3, hi3⟩ := hp
        obtain ⟨hr, hl4, hk4⟩ := fin (some (.exit id)) W3 hk3
        exact ⟨_, _, hr, .inr ⟨rfl, .exit id, hXp _ _ _ _ hi3, hl4, hk4⟩⟩
      | goto t =>
        obtain ⟨hk3, hi3⟩ := hp
        obtain ⟨hr, hl4, hk4⟩ := fin (some (.goto t)) W3 hk3
        exact ⟨_, _, hr, .inr ⟨rfl, .goto t, hXp _ _ _ _ hi3, hl4, hk4⟩⟩
      | panic ch => exact hp.elim
      | outgrown => exact hp.elim
    · rintro e W2 ⟨⟨v, rfl⟩, (⟨xs, hS, hi, hl, hk⟩ | ⟨pre, hSp, c, hi, hl, hk⟩)⟩
      · exact ⟨none, _, by have := run_endLoop (P := P) hl (by rw [hrec]; simp); rw [hrec] at this; exact this, hdone xs _ hS (hIp _ _ _ hi) ((World.putObj_heap_other (by omega)).trans hk)⟩
      · exact ⟨some c, _, by have := run_endLoop (P := P) hl (by rw [hrec]; simp); rw [hrec] at this; exact this, hstop c pre _ hSp (hXp _ _ _ _ hi) ((World.putObj_heap_other (by omega)).trans hk)⟩
end Go.Proofs.YtpdccbeeoapplaaGreatDoor

namespace Go.Proofs
open Go.Shelf
end Go.Proofs

namespace Go.Proofs.YtpdccbeeoapplaaGreatDoor
theorem ix_cases (l : List UInt8) (c : UInt8) :
    (Lib.indexByte l c = -1 ∧ c ∉ l) ∨ ∃ i : Nat, Lib.indexByte l c = (i : Int) ∧ i < l.length ∧ l[i]? = some c ∧ c ∉ l.take i := by
  induction l with
  | nil => left; exact ⟨rfl, by simp⟩
  | cons b l ih =>
    by_cases hb : b = c
    · right
      refine ⟨0, ?_, by simp, by simp [hb], by simp⟩
      unfold Lib.indexByte; simp [hb]
    · have hbc : (b == c) = false := by simp [hb]
      rcases ih with ⟨h1, h2⟩ | ⟨i, h1, h2, h3, h4⟩
      · left
        refine ⟨?_, ?_⟩
        · unfold Lib.indexByte; rw [hbc]; simp [h1]
        · simp only [List.mem_cons, not_or]; exact ⟨fun h => hb h.symm, h2⟩
      · right
        refine ⟨i + 1, ?_, by simp; omega, by simpa using h3, ?_⟩
        · unfold Lib.indexByte; rw [hbc, h1]
          have : ((i : Int) == -1) = false := by rw [beq_eq_false_iff_ne]; omega
          simp [this]
        · simp only [List.take_succ_cons, List.mem_cons, not_or]; exact ⟨fun h => hb h.symm, h4⟩
theorem ix_split (l : List UInt8) (c : UInt8) (i : Nat) (h1 : i < l.length) (h2 : l[i]? = some c) : l = l.take i ++ c :: l.drop (i + 1) := by
  have h3 : l[i] = c := by rw [List.getElem?_eq_getElem h1] at h2; exact Option.some.inj h2
  calc l = l.take i ++ l.drop i := (List.take_append_drop i l).symm
    _ = l.take i ++ c :: l.drop (i + 1) := by rw [List.drop_eq_getElem_cons h1, h3]
theorem ix_uniq {a b a' b' : List UInt8} {c : UInt8} (h : a ++ c :: b = a' ++ c :: b') (ha : c ∉ a) (ha' : c ∉ a') : a = a' ∧ b = b' := by
  induction a generalizing a' with
  | nil =>
    cases a' with
    | nil => simp at h; exact ⟨rfl, h⟩
    | cons x a' => simp at h; simp [h.1] at ha'
  | cons x a ih =>
    cases a' with
    | nil => simp at h; simp [h.1] at ha
    | cons y a' =>
      simp only [List.cons_append, List.cons.injEq] at h
      simp only [List.mem_cons, not_or] at ha ha'
      obtain ⟨e1, e2⟩ := ih h.2 ha.2 ha'.2
      exact ⟨by rw [h.1, e1], e2⟩
theorem ext_head (s : ByteArray) (i : Nat) : (s.extract 0 i).data.toList = s.data.toList.take i := by
  rw [Lib.extract_data]; simp
theorem ext_tail (s : ByteArray) (i : Nat) : (s.extract i s.size).data.toList = s.data.toList.drop i := Lib.extract_to_end s i
end Go.Proofs.YtpdccbeeoapplaaGreatDoor

namespace Go.Proofs.YtpdccbeeoapplaaGreatDoor
open Go.RowKit
attribute [local go_sem] Oper.semAt_some
theorem ix_lt (l : List UInt8) (c : UInt8) (h : ¬ Lib.indexByte l c = -1) : (Lib.indexByte l c).toNat < l.length := by
  rcases ix_cases l c with ⟨h1, _⟩ | ⟨i, h1, h2, _⟩
  · exact absurd h1 h
  · rw [h1]; simpa using h2
def splitL (l : List UInt8) : List (List UInt8) :=
  if h : Lib.indexByte l 32 = -1 then [l] else l.take (Lib.indexByte l 32).toNat :: splitL (l.drop ((Lib.indexByte l 32).toNat + 1))
  termination_by l.length
  decreasing_by have := ix_lt l 32 h; rw [List.length_drop]; omega
theorem splitL_no {l : List UInt8} (h : Lib.indexByte l 32 = -1) : splitL l = [l] := by unfold splitL; rw [dif_pos h]
theorem splitL_yes {l : List UInt8} {i : Nat} (h : Lib.indexByte l 32 = (i : Int)) : splitL l = l.take i :: splitL (l.drop (i + 1)) := by
  conv => lhs; unfold splitL
  rw [dif_neg (by rw [h]; omega), h, Int.toNat_natCast]
abbrev Wd (M : Nat) : Type := { t : ByteArray // t.size ≤ M }
def encW {M : Nat} (x : Wd M) : Array Value := #[.string x.1]
def plainW {M : Nat} (xs : List (Wd M)) : List (List UInt8) := xs.map fun x => x.1.data.toList
def Kp3 (b1 b2 b3 : Nat) (W W' : World) : Prop := W'.heap[b1]? = W.heap[b1]? ∧ W'.heap[b2]? = W.heap[b2]? ∧ W'.heap[b3]? = W.heap[b3]?
def Boxes (b1 b2 b3 : Nat) (t : ByteArray) (W : World) : Prop :=
  W.heap[b1]? = some (.cells #[.string ⟨#[32]⟩] 9 (0, 0)) ∧ W.heap[b2]? = some (.cells #[.string t] 9 (0, 0)) ∧ W.heap[b3]? = some (.cells #[.int .i64 0] 3 (0, 0)) ∧ b1 ≠ b2 ∧ b3 ≠ b2
def leftOf (b2 : Nat) (W : World) : Nat := match W.cell? ⟨b2, 0, none⟩ with
  | some (.string t) => t.size
  | _ => 0
def SplitSt {M : Nat} (b1 b2 b3 : Nat) (s : ByteArray) (J : List (Wd M) → World → Prop) (wr : World) : Prop :=
  ∃ (pre : List (Wd M)) (t : ByteArray), Boxes b1 b2 b3 t wr ∧ t.size ≤ M ∧ splitL s.data.toList = plainW pre ++ splitL t.data.toList ∧ J pre wr
theorem splitL_pos (l : List UInt8) : 0 < (splitL l).length := by
  rcases ix_cases l 32 with ⟨h, _⟩ | ⟨i, h, _⟩
  · rw [splitL_no h]; simp
  · rw [splitL_yes h]; simp
theorem boxes_cells {b1 b2 b3 : Nat} {t : ByteArray} {W : World} (h : Boxes b1 b2 b3 t W) : W.cell? ⟨b1, 0, none⟩ = some (.string ⟨#[32]⟩) ∧ W.cell? ⟨b2, 0, none⟩ = some (.string t) ∧ W.cell? ⟨b3, 0, none⟩ = some (.int .i64 0) ∧ W.frozen? ⟨b2, 0, none⟩ = false :=
  ⟨by rw [Lib.cell_of_heap h.1]; rfl, by rw [Lib.cell_of_heap h.2.1]; rfl, by rw [Lib.cell_of_heap h.2.2.1]; rfl, Lib.frozen_of_heap h.2.1 0⟩
theorem Boxes.kp {b1 b2 b3 : Nat} {t : ByteArray} {W W' : World} (h : Boxes b1 b2 b3 t W) (hk : Kp3 b1 b2 b3 W W') : Boxes b1 b2 b3 t W' :=
  ⟨hk.1.trans h.1, hk.2.1.trans h.2.1, hk.2.2.trans h.2.2.1, h.2.2.2⟩
theorem Boxes.put {b1 b2 b3 : Nat} {t u : ByteArray} {W : World} (h : Boxes b1 b2 b3 t W) : Boxes b1 b2 b3 u (W.setCell ⟨b2, 0, none⟩ (.string u)) :=
  ⟨(Below.heap_setCell W ⟨b2, 0, none⟩ _ b1 h.2.2.2.1).trans h.1, heap_setCell_same W b2 0 _ _ _ h.2.1, (Below.heap_setCell W ⟨b2, 0, none⟩ _ b3 h.2.2.2.2).trans h.2.2.1, h.2.2.2⟩
theorem leftOf_eq {b1 b2 b3 : Nat} {t : ByteArray} {W : World} (h : Boxes b1 b2 b3 t W) : leftOf b2 W = t.size := by
  unfold leftOf
  rw [(boxes_cells h).2.1]
set_option maxHeartbeats 4000000 in
set_option maxRecDepth 100000 in
theorem split1_in (n : Nat) (hn : 1 ≤ n) (M l b1 b2 b3 : Nat) (s : ByteArray) (hs : s.size ≤ M) (hM : M ≤ maxLen) (J Jx : List (Wd M) → World → Prop)
    (hJ : ∀ s W v, J s W → J s (W.setCell ⟨b2, 0, none⟩ v))
    (hY : ∀ pre x W, J pre W → pre.length < (splitL s.data.toList).length → YieldAt Fence.wide (n - 1) Tryz.prog l (encW x) W fun e W' =>
      (e = .returned (.bool true) ∧ J (pre ++ [x]) W' ∧ Kp3 b1 b2 b3 W W') ∨ (e = .returned (.bool false) ∧ Jx (pre ++ [x]) W'))
    (W : World) (hB : Boxes b1 b2 b3 s W) (h0 : J [] W) :
    CallsIn Fence.wide n Tryz.prog 87 #[.func (.yield l) #[] #[], .pointer (some ⟨b1, 0, none⟩), .pointer (some ⟨b2, 0, none⟩), .pointer (some ⟨b3, 0, none⟩)] W fun e W' => (∃ v, e = .returned v) ∧
      ((∃ ys, plainW ys = splitL s.data.toList ∧ J ys W') ∨ (∃ pre, plainW pre <+: splitL s.data.toList ∧ Jx pre W')) := by
  refine callsIn_of_wp Tryz.func87 rfl trivial ?_ rfl
  simp only [Tryz.ntmps87, List.size_toArray, List.length_cons, List.length_nil, Nat.reduceAdd, Nat.reduceSub, Array.replicate_succ, Array.replicate_zero, List.push_toArray, List.append_toArray, List.nil_append, List.cons_append]
  have c1 : W.cell? ⟨b1, 0, none⟩ = some (.string ⟨#[32]⟩) := by rw [Lib.cell_of_heap hB.1]; rfl
  have HB := hid hB
  clear hB
  gi_wp2
  clear c1
  have ST0 : Hid (SplitSt b1 b2 b3 s J W) := ⟨[], s, HB.out, hs, rfl, h0⟩
  gi_loopw [7] (fun _ wr => SplitSt b1 b2 b3 s J wr) (fun _ wr => leftOf b2 wr)
  case atStart => exact ST0.out
  case round =>
    obtain ⟨pre, t, hB, ht, hsp, hJs⟩ := hrel
    obtain ⟨k1, k2, k3, k4⟩ := boxes_cells hB
    have hlen : pre.length < (splitL s.data.toList).length := by
      rw [hsp, List.length_append]
      have := splitL_pos t.data.toList
      have e : (plainW pre).length = pre.length := by simp [plainW]
      omega
    unfold maxLen at hM
    rcases ix_cases t.data.toList 32 with ⟨hix, _⟩ | ⟨i, hix, hil, _, _⟩
    · have HX := hid hix
      have hsn := splitL_no hix
      have HF : Hid (plainW (pre ++ [⟨t, ht⟩]) = splitL s.data.toList) := by
        show _ = _
        rw [hsp, hsn]; simp [plainW]
      obtain ⟨fn, tmps, assign, body, hy, hR⟩ := hY pre ⟨t, ht⟩ wr hJs hlen
      simp only [encW] at hy
      clear hix hsn hsp
      gi_wp2_with (refine ⟨trivial, ?_⟩; gi_at_call 89; refine (callsIn_wide.2 (Tryz.strings_Index_one _ _ _)).mono ?_; rintro e w' ⟨rfl, rfl⟩; rw [HX.out])
      refine hR.mono ?_
      rintro e W3 (⟨rfl, hJ3, _⟩ | ⟨rfl, hJx3⟩)
      · gi_wp2
        go_end0
        exact ⟨⟨_, rfl⟩, .inl ⟨_, HF.out, hJ3⟩⟩
      · gi_wp2
        go_end0
        exact ⟨⟨_, rfl⟩, .inr ⟨_, ⟨[], by rw [HF.out]; simp⟩, hJx3⟩⟩
    · have HX := hid hix
      have hsn := splitL_yes hix
      have hil' : i < t.size := by simpa using hil
      have hxs : (t.extract 0 i).size ≤ M := by simp; omega
      have e1 : (t.extract 0 i).data.toList = t.data.toList.take i := by rw [Lib.extract_data]; simp
      have e2 : (t.extract (i + 1) t.size).data.toList = t.data.toList.drop (i + 1) := Lib.extract_to_end t (i + 1)
      have HF : Hid (splitL s.data.toList = plainW (pre ++ [(⟨t.extract 0 i, hxs⟩ : Wd M)]) ++ splitL (t.extract (i + 1) t.size).data.toList) := by
        show _ = _
        rw [hsp, hsn, e2]
        simp only [plainW, List.map_append, List.map_cons, List.map_nil, e1, List.append_assoc, List.cons_append, List.nil_append]
      obtain ⟨fn, tmps, assign, body, hy, hR⟩ := hY pre ⟨t.extract 0 i, hxs⟩ wr hJs hlen
      simp only [encW] at hy
      have z0 : (0 : Int) ≤ (i : Int) := by omega
      have z1 : (i : Int) ≤ (t.size : Int) := by omega
      have z2 : (0 : Int) ≤ (i : Int) + 1 := by omega
      have z3 : (i : Int) + 1 ≤ (t.size : Int) := by omega
      have HB2 := hid hB
      clear hix hsn hsp e1 e2 hil hB
      gi_wp2_with (refine ⟨trivial, ?_⟩; gi_at_call 89; refine (callsIn_wide.2 (Tryz.strings_Index_one _ _ _)).mono ?_; rintro e w' ⟨rfl, rfl⟩; rw [HX.out])
      refine hR.mono ?_
      rintro e W3 (⟨rfl, hJ3, hk3⟩ | ⟨rfl, hJx3⟩)
      · have hB3 := HB2.out.kp hk3
        obtain ⟨m1, m2, m3, m4⟩ := boxes_cells hB3
        have HJ3 := hid (hJ _ W3 (.string (t.extract (i + 1) t.size)) hJ3)
        have HB4 : Hid (Boxes b1 b2 b3 (t.extract (i + 1) t.size) (W3.setCell ⟨b2, 0, none⟩ (.string (t.extract (i + 1) t.size)))) := hB3.put
        have HM1 := hid (leftOf_eq HB2.out)
        have HM2 := hid (leftOf_eq HB4.out)
        clear hJ3 hB3 hk3
        gi_wp2
        go_roundw
        case rel => exact ⟨_, _, HB4.out, by simp; omega, HF.out, HJ3.out⟩
        case measure => rw [HM1.out, HM2.out]; simp; omega
      · gi_wp2
        refine bodyPost_ret (results_none rfl _ _ _) rfl ?_
        exact ⟨⟨_, rfl⟩, .inr ⟨_, ⟨_, HF.out.symm⟩, hJx3⟩⟩
theorem split1_seq (n : Nat) (hn : 1 ≤ n) (M b1 b2 b3 : Nat) (s : ByteArray) (hs : s.size ≤ M) (hM : M ≤ maxLen) (w : World) (hB : Boxes b1 b2 b3 s w) :
    SeqB Fence.wide n Tryz.prog 87 #[.pointer (some ⟨b1, 0, none⟩), .pointer (some ⟨b2, 0, none⟩), .pointer (some ⟨b3, 0, none⟩)] (encW (M := M)) (Kp3 b1 b2 b3) (fun xs => plainW xs = splitL s.data.toList) (fun pre => plainW pre <+: splitL s.data.toList) (splitL s.data.toList).length b2 w := by
  intro l J Jx W hb hJ hY h0
  have l1 : b1 < w.heap.size := (Array.getElem?_eq_some_iff.1 hB.1).1
  have l2 : b2 < w.heap.size := (Array.getElem?_eq_some_iff.1 hB.2.1).1
  have l3 : b3 < w.heap.size := (Array.getElem?_eq_some_iff.1 hB.2.2.1).1
  exact split1_in n hn M l b1 b2 b3 s hs hM J Jx hJ hY W (hB.kp ⟨hb.block _ l1, hb.block _ l2, hb.block _ l3⟩) h0
set_option maxHeartbeats 1000000 in
theorem splitSeq_any (s : ByteArray) (w : World) :
    Calls Tryz.prog 25 #[.string s, .string ⟨#[32]⟩] w fun e w' => e = .returned (.func (.func 87) #[] #[.pointer (some ⟨w.heap.size + 1, 0, none⟩), .pointer (some ⟨w.heap.size, 0, none⟩), .pointer (some ⟨w.heap.size + 2, 0, none⟩)]) ∧ Boxes (w.heap.size + 1) w.heap.size (w.heap.size + 2) s w' ∧ Below w.heap.size w w' ∧ w'.heap.size = w.heap.size + 3 := by
  have hin : Calls Tryz.prog 50 #[.string s, .string ⟨#[32]⟩, .int .i64 0] w fun e w' => e = .returned (.func (.func 87) #[] #[.pointer (some ⟨w.heap.size + 1, 0, none⟩), .pointer (some ⟨w.heap.size, 0, none⟩), .pointer (some ⟨w.heap.size + 2, 0, none⟩)]) ∧ w' = ((w.alloc (.cells #[.string s] 9)).alloc (.cells #[.string ⟨#[32]⟩] 9)).alloc (.cells #[.int .i64 0] 3) := by
    go_enter Tryz.func50, Tryz.ntmps50
    go_wp2_with fail
    go_ret
    exact ⟨rfl, rfl⟩
  have HI := hid hin
  clear hin
  go_enter Tryz.func25, Tryz.ntmps25
  go_wp2_with (first | (go_at_call 50; refine HI.out.mono ?_; rintro e w1 ⟨rfl, rfl⟩))
  go_ret
  refine ⟨rfl, ⟨?_, ?_, ?_, by omega, by omega⟩, (((Below.refl _ w).alloc (Nat.le_refl _) _).alloc (by simp) _).alloc (by simp; omega) _, by simp⟩
  · rw [Below.heap_alloc _ _ _ (by simp)]
    have := heap_alloc_new (w.alloc (.cells #[.string s] 9)) (.cells #[.string ⟨#[32]⟩] 9)
    simpa using this
  · rw [Below.heap_alloc _ _ _ (by simp; omega), Below.heap_alloc _ _ _ (by simp)]
    exact heap_alloc_new w _
  · have := heap_alloc_new ((w.alloc (.cells #[.string s] 9)).alloc (.cells #[.string ⟨#[32]⟩] 9)) (.cells #[.int .i64 0] 3)
    simpa using this
end Go.Proofs.YtpdccbeeoapplaaGreatDoor

namespace Go.Proofs.YtpdccbeeoapplaaGreatDoor
open Go.RowKit
set_option maxHeartbeats 400000 in
theorem cutl_no (s : ByteArray) (c : UInt8) (w : World) (hix : Lib.indexByte s.data.toList c = -1) :
    Calls Tryz.prog 175 #[.string s, .string ⟨#[c]⟩] w fun e w' => e = .returned (.tuple #[.string s, .string ⟨#[]⟩, .bool false]) ∧ w' = w := by
  have HX : Hid (Lib.indexByte s.data.toList c = -1) := hix
  clear hix
  go_enter Tryz.func175, Tryz.ntmps175
  go_wp2_with (go_at_call 134; refine (Tryz.stringslite_Index_one _ _ _).mono ?_; rintro e w' ⟨rfl, rfl⟩; rw [HX.out])
  go_ret3
  exact ⟨rfl, rfl⟩
set_option maxHeartbeats 400000 in
theorem cutl_yes (s : ByteArray) (c : UInt8) (w : World) (i : Nat) (hix : Lib.indexByte s.data.toList c = (i : Int)) (hi : i < s.size) (hs : s.size ≤ maxLen) :
    Calls Tryz.prog 175 #[.string s, .string ⟨#[c]⟩] w fun e w' => e = .returned (.tuple #[.string (s.extract 0 i), .string (s.extract (i + 1) s.size), .bool true]) ∧ ∃ n, w' = w.drewN n := by
  have HX : Hid (Lib.indexByte s.data.toList c = (i : Int)) := hix
  clear hix
  unfold maxLen at hs
  have c1 : (0 : Int) ≤ ↑i := by omega
  have c2 : (↑i : Int) ≤ ↑s.size := by omega
  have c3 : (0 : Int) ≤ ↑i + 1 := by omega
  have c4 : (↑i + 1 : Int) ≤ ↑s.size := by omega
  go_enter Tryz.func175, Tryz.ntmps175
  go_wp2_with (go_at_call 134; refine (Tryz.stringslite_Index_one _ _ _).mono ?_; rintro e w' ⟨rfl, rfl⟩; rw [HX.out])
  go_quiet (fail)
  go_wp2_with fail
  go_ret3
  exact ⟨rfl, _, rfl⟩
set_option maxHeartbeats 400000 in
theorem cut_no (s : ByteArray) (c : UInt8) (w : World) (hix : Lib.indexByte s.data.toList c = -1) :
    Calls Tryz.prog 138 #[.string s, .string ⟨#[c]⟩] w fun e w' => e = .returned (.tuple #[.string s, .string ⟨#[]⟩, .bool false]) ∧ w' = w := by
  have HX : Hid (Lib.indexByte s.data.toList c = -1) := hix
  clear hix
  go_enter Tryz.func138, Tryz.ntmps138
  go_wp2_with (go_at_call 175; refine (cutl_no _ _ _ HX.out).mono ?_; rintro e w' ⟨rfl, rfl⟩)
  go_ret3
  exact ⟨rfl, rfl⟩
set_option maxHeartbeats 400000 in
theorem cut_yes (s : ByteArray) (c : UInt8) (w : World) (i : Nat) (hix : Lib.indexByte s.data.toList c = (i : Int)) (hi : i < s.size) (hs : s.size ≤ maxLen) :
    Calls Tryz.prog 138 #[.string s, .string ⟨#[c]⟩] w fun e w' => e = .returned (.tuple #[.string (s.extract 0 i), .string (s.extract (i + 1) s.size), .bool true]) ∧ ∃ n, w' = w.drewN n := by
  have HX : Hid (Lib.indexByte s.data.toList c = (i : Int)) := hix
  clear hix
  go_enter Tryz.func138, Tryz.ntmps138
  go_wp2_with (go_at_call 175; refine (cutl_yes _ _ _ i HX.out hi hs).mono ?_; rintro e w' ⟨rfl, n, rfl⟩)
  go_ret3
  exact ⟨rfl, n, rfl⟩
end Go.Proofs.YtpdccbeeoapplaaGreatDoor

namespace Go.Proofs.YtpdccbeeoapplaaGreatDoor
open Go.RowKit
theorem firstP_some {l : List UInt8} {c : UInt8} {n : Nat} (h : firstP l = some (c, n)) : 0 < n ∧ n ≤ l.length := by
  match l, h with
  | [], h => simp [firstP] at h
  | x :: r, h =>
    simp only [firstP] at h
    by_cases c1 : plainB (x.toNat : Int) = true
    · rw [if_pos c1] at h; simp at h; obtain ⟨_, rfl⟩ := h; simp
    · rw [if_neg c1] at h
      by_cases c2 : x ≠ 37
      · rw [if_pos c2] at h; simp at h
      · rw [if_neg c2] at h
        match r, h with
        | [], h => simp at h
        | [a], h => simp at h
        | a :: b :: t, h =>
          simp only at h
          split at h
          · simp at h
          · split at h
            · simp at h
            · simp at h; obtain ⟨_, rfl⟩ := h; simp
def readL (l : List UInt8) : Option (List UInt8) :=
  if l = [] then some [] else
    match _h : firstP l with
    | none => none
    | some (c, n) => (readL (l.drop n)).map (c :: ·)
  termination_by l.length
  decreasing_by have := firstP_some _h; rw [List.length_drop]; omega
theorem readL_nil : readL [] = some [] := by unfold readL; simp
theorem readL_none {l : List UInt8} (h0 : l ≠ []) (h : firstP l = none) : readL l = none := by
  unfold readL
  rw [if_neg h0]
  split
  · rfl
  · rename_i h2; rw [h] at h2; simp at h2
theorem readL_some {l : List UInt8} {c : UInt8} {n : Nat} (h : firstP l = some (c, n)) : readL l = (readL (l.drop n)).map (c :: ·) := by
  have h0 : l ≠ [] := by rintro rfl; simp [firstP] at h
  conv => lhs; unfold readL
  rw [if_neg h0]
  split
  · rename_i h2; rw [h] at h2; simp at h2
  · rename_i c2 n2 h2; rw [h] at h2; simp at h2; obtain ⟨rfl, rfl⟩ := h2; rfl
theorem readL_len : ∀ (k : Nat) (l : List UInt8) (m : List UInt8), l.length ≤ k → readL l = some m → m.length ≤ l.length
  | 0, l, m, hk, h => by
    obtain rfl : l = [] := List.length_eq_zero_iff.1 (by omega)
    rw [readL_nil] at h; simp at h; subst h; simp
  | k + 1, l, m, hk, h => by
    by_cases h0 : l = []
    · subst h0; rw [readL_nil] at h; simp at h; subst h; simp
    · cases hf : firstP l with
      | none => rw [readL_none h0 hf] at h; simp at h
      | some o =>
        obtain ⟨c, n⟩ := o
        have hn := firstP_some hf
        rw [readL_some hf] at h
        cases hr : readL (l.drop n) with
        | none => rw [hr] at h; simp at h
        | some m' =>
          rw [hr] at h; simp at h; subst h
          have := readL_len k (l.drop n) m' (by rw [List.length_drop]; omega) hr
          rw [List.length_drop] at this
          rw [List.length_cons]; omega
def readV (o : Option (List UInt8)) : Value := match o with
  | some l => .tuple #[.string ⟨l.toArray⟩, .int .i64 0]
  | none => .tuple #[.string ⟨#[]⟩, .int .i64 4]
theorem ext_drop (s : ByteArray) (n : Nat) : (s.extract n s.size).data.toList = s.data.toList.drop n := by
  obtain ⟨⟨l⟩⟩ := s
  simp [ByteArray.size]
  exact List.take_of_length_le (by simp)
set_option maxHeartbeats 4000000 in
set_option maxRecDepth 100000 in
theorem read_any (s : ByteArray) (w : World) (hp : PlainAt w) (hs : s.size ≤ 140737488355327) :
    Calls Tryz.prog 176 #[.string s] w fun e w' => e = .returned (readV (readL s.data.toList)) ∧ Below w.heap.size w w' := by
  have HP := hid hp
  clear hp
  go_enter Tryz.func176, Tryz.ntmps176
  go_wp2_with fail
  go_loopg [0] s.size (fun g vs wr => ∃ (t : ByteArray) (acc : List UInt8), vs = .string t ∧ t.size ≤ g ∧ acc.length + t.size ≤ s.size ∧ Below w.heap.size w wr ∧ Lib.IsBuilder 78 5 w.heap.size w.heap.size (Lib.byteCells acc) wr ∧ Hid (readL s.data.toList = (readL t.data.toList).map (acc ++ ·)))
  case atStart => exact ⟨s, [], rfl, Nat.le_refl _, by simp, (Below.refl _ _).alloc (Nat.le_refl _) _, Lib.fresh_isBuilder _ _ _, by show _ = _; simp⟩
  case round =>
    obtain ⟨t, acc, rfl, hg, hlen, hb, hbu, HR⟩ := hrel
    have HB := hid hbu
    have HL := hid hlen
    clear hbu hlen
    by_cases h0 : 0 < t.size
    · have h0z : (0 : Int) < (t.size : Int) := by omega
      have HPr : PlainAt wr := HP.out.on hb
      have hne : t.data.toList ≠ [] := by
        intro e
        have : t.data.toList.length = t.size := by simp
        rw [e] at this; simp at this; omega
      cases hf : firstP t.data.toList with
      | none =>
        have HF := hid hf
        have HN : Hid (readL s.data.toList = none) := by show _ = _; rw [HR.out, readL_none hne hf]; rfl
        go_wp2_with (first | (go_at_call 201; refine (first_any _ _ HPr h0).mono ?_; rintro e w1 ⟨rfl, hb1⟩; rw [HF.out]; simp only [firstV]))
        go_ret2
        rw [HN.out]
        exact ⟨rfl, hb.trans (hb1.mono hb.size)⟩
      | some o =>
        obtain ⟨c, n⟩ := o
        have HF := hid hf
        obtain ⟨hn0, hn1⟩ := firstP_some hf
        have hn2 : n ≤ t.size := by simpa using hn1
        have HN : Hid (readL s.data.toList = (readL (t.data.toList.drop n)).map ((acc ++ [c]) ++ ·)) := by
          show _ = _; rw [HR.out, readL_some hf, Option.map_map]; congr 1; funext x; simp
        have hz : ¬ (n : Int) = 0 := by omega
        have hz1 : (0 : Int) ≤ n := by omega
        have hz2 : (n : Int) ≤ (t.size : Int) := by omega
        clear hne hn1
        go_wp2_with (first | (go_at_call 201; refine (first_any _ _ HPr h0).mono ?_; rintro e w1 ⟨rfl, hb1⟩; rw [HF.out]; simp only [firstV]) | (go_at_call 151; refine (wbyte_any w.heap.size w.heap.size _ _ _ (bld_on HB.out hb1) (by rw [Lib.byteCells_length]; have := HL.out; omega) (Nat.le_trans hb.size hb1.size)).mono ?_; rintro e w2 ⟨rfl, hbu2, hb2⟩))
        go_roundg (t.size - n)
        case measure => omega
        refine ⟨t.extract n t.size, acc ++ [c], rfl, ?_, ?_, (hb.trans (hb1.mono hb.size)).trans hb2, ?_, ?_⟩
        · simp
        · have := HL.out; simp; omega
        · simpa [Lib.byteCells] using hbu2
        · show _ = _
          rw [ext_drop]; exact HN.out
    · have h0z : ¬ (0 : Int) < (t.size : Int) := by omega
      have hnil : t.data.toList = [] := by
        apply List.length_eq_zero_iff.1
        have : t.data.toList.length = t.size := by simp
        omega
      have HN : Hid (readL s.data.toList = some acc) := by show _ = _; rw [HR.out, hnil, readL_nil]; simp
      clear hnil
      go_wp2_with (go_at_call 39; refine (Tryz.Builder_String_any _ _ _ _ HB.out hb.size).mono ?_; rintro e w1 ⟨rfl, hb1⟩)
      go_ret2
      rw [HN.out]
      exact ⟨rfl, hb.trans hb1⟩
end Go.Proofs.YtpdccbeeoapplaaGreatDoor

namespace Go.Proofs.YtpdccbeeoapplaaGreatDoor
open Go.RowKit
def wordO (l : List UInt8) : Option (List UInt8 × List UInt8) :=
  if Lib.indexByte l 61 = -1 then none else (readL (l.drop ((Lib.indexByte l 61).toNat + 1))).map fun t => (l.take (Lib.indexByte l 61).toNat, t)
def WordPost (w : World) (l : List UInt8) (e : Ending) (w' : World) : Prop :=
  ((wordO l = none ∧ e = .returned (.tuple #[.agg #[.string ⟨#[]⟩, .slice none 0 0], .int .i64 4])) ∨
   ∃ n t, wordO l = some (n, t) ∧ ∃ p, e = .returned (.tuple #[.agg #[.string ⟨n.toArray⟩, .slice p 1 1], .int .i64 0]) ∧ OwnT w.heap.size w' (.slice p 1 1) [⟨t.toArray⟩]) ∧ Below w.heap.size w w'
theorem ext_take (s : ByteArray) (i : Nat) : s.extract 0 i = ⟨(s.data.toList.take i).toArray⟩ := by
  obtain ⟨⟨l⟩⟩ := s
  simp [ByteArray.extract, ByteArray.copySlice]
theorem box_facts {w : World} {B : Nat} {u v : Value} {T : TypeId} (h : w.heap[B]? = some (.cells #[u, v] T (0, 0))) :
    w.cell? ⟨B, 0, none⟩ = some u ∧ w.cell? ⟨B, 1, none⟩ = some v ∧ w.frozen? ⟨B, 0, none⟩ = false ∧ w.frozen? ⟨B, 1, none⟩ = false :=
  ⟨by rw [Lib.cell_of_heap h]; rfl, by rw [Lib.cell_of_heap h]; rfl, Lib.frozen_of_heap h 0, Lib.frozen_of_heap h 1⟩
set_option maxHeartbeats 2000000 in
set_option maxRecDepth 100000 in
theorem word_any (s : ByteArray) (w : World) (hp : PlainAt w) (hs : s.size ≤ 140737488355327) :
    Calls Tryz.prog 139 #[.string s] w fun e w' => WordPost w s.data.toList e w' := by
  have hb0 : Below w.heap.size w (w.alloc (.cells #[.string ⟨#[]⟩, .slice none 0 0] 47)) := (Below.refl _ _).alloc (Nat.le_refl _) _
  have HP := hid (hp.on hb0)
  have HB0 := hid hb0
  clear hp hb0
  rcases ix_cases s.data.toList 61 with ⟨hix, _⟩ | ⟨i, hix, hil, _, _⟩
  · have HX := hid hix
    have HO : Hid (wordO s.data.toList = none) := by show _ = _; unfold wordO; rw [if_pos hix]
    clear hix
    go_enter Tryz.func139, Tryz.ntmps139
    go_wp2_with (first | (go_at_call 138; refine (cut_no _ _ _ HX.out).mono ?_; rintro e w1 ⟨rfl, rfl⟩) | (go_at_call 176; refine (read_any _ _ HP.out (by decide)).mono ?_; rintro e w2 ⟨rfl, hb2⟩; rw [show (⟨#[]⟩ : ByteArray).data.toList = [] from rfl, readL_nil]; simp only [readV]; obtain ⟨k0, k1, k2, k3⟩ := box_facts ((hb2.block w.heap.size (by simp)).trans (heap_alloc_new w _))))
    have hbw : Below w.heap.size w ((w2.setCell ⟨w.heap.size, 0, none⟩ (.string ⟨#[]⟩)).setCell ⟨w.heap.size, 1, none⟩ (.slice none 0 0)) := ((HB0.out.trans (hb2.mono (by simp))).setCell (p := ⟨w.heap.size, 0, none⟩) (Nat.le_refl _) _).setCell (p := ⟨w.heap.size, 1, none⟩) (Nat.le_refl _) _
    have j0 : ((w2.setCell ⟨w.heap.size, 0, none⟩ (.string ⟨#[]⟩)).setCell ⟨w.heap.size, 1, none⟩ (.slice none 0 0)).cell? ⟨w.heap.size, 0, none⟩ = some (.string ⟨#[]⟩) := by simp [go_sem, k0]
    have j1 : ((w2.setCell ⟨w.heap.size, 0, none⟩ (.string ⟨#[]⟩)).setCell ⟨w.heap.size, 1, none⟩ (.slice none 0 0)).cell? ⟨w.heap.size, 1, none⟩ = some (.slice none 0 0) := by simp [go_sem, k1]
    exact bodyPost_ret (v := .tuple #[.agg #[.string ⟨#[]⟩, .slice none 0 0], .int .i64 4]) (by simp [results, Tryz.results139, go_sem, j0, j1]) rfl ⟨Or.inl ⟨HO.out, rfl⟩, hbw⟩
  · have HX := hid hix
    have hil' : i < s.size := by simpa using hil
    have hrs : (s.extract (i + 1) s.size).size ≤ 140737488355327 := by simp; omega
    cases hrd : readL (s.data.toList.drop (i + 1)) with
    | none =>
      have HO : Hid (wordO s.data.toList = none) := by
        show _ = _; unfold wordO; rw [if_neg (by rw [hix]; omega), hix, Int.toNat_natCast, hrd]; rfl
      have HR := hid hrd
      clear hix
      go_enter Tryz.func139, Tryz.ntmps139
      go_wp2_with (first | (go_at_call 138; refine (cut_yes _ _ _ i HX.out hil' (by unfold maxLen; omega)).mono ?_; rintro e w1 ⟨rfl, n, rfl⟩) | (go_at_call 176; refine (read_any _ _ (HP.out.on (bel_drewN (Below.refl _ _) n)) hrs).mono ?_; rintro e w2 ⟨rfl, hb2⟩; rw [ext_drop, HR.out]; simp only [readV]; obtain ⟨k0, k1, k2, k3⟩ := box_facts ((hb2.block w.heap.size (by simp)).trans (heap_alloc_new w _))))
      have hbw : Below w.heap.size w ((w2.setCell ⟨w.heap.size, 0, none⟩ (.string ⟨#[]⟩)).setCell ⟨w.heap.size, 1, none⟩ (.slice none 0 0)) := (((bel_drewN HB0.out n).trans (hb2.mono (by simp))).setCell (p := ⟨w.heap.size, 0, none⟩) (Nat.le_refl _) _).setCell (p := ⟨w.heap.size, 1, none⟩) (Nat.le_refl _) _
      have j0 : ((w2.setCell ⟨w.heap.size, 0, none⟩ (.string ⟨#[]⟩)).setCell ⟨w.heap.size, 1, none⟩ (.slice none 0 0)).cell? ⟨w.heap.size, 0, none⟩ = some (.string ⟨#[]⟩) := by simp [go_sem, k0]
      have j1 : ((w2.setCell ⟨w.heap.size, 0, none⟩ (.string ⟨#[]⟩)).setCell ⟨w.heap.size, 1, none⟩ (.slice none 0 0)).cell? ⟨w.heap.size, 1, none⟩ = some (.slice none 0 0) := by simp [go_sem, k1]
      exact bodyPost_ret (v := .tuple #[.agg #[.string ⟨#[]⟩, .slice none 0 0], .int .i64 4]) (by simp [results, Tryz.results139, go_sem, j0, j1]) rfl ⟨Or.inl ⟨HO.out, rfl⟩, hbw⟩
    | some t =>
      have HO : Hid (wordO s.data.toList = some (s.data.toList.take i, t)) := by
        show _ = _; unfold wordO; rw [if_neg (by rw [hix]; omega), hix, Int.toNat_natCast, hrd]; rfl
      have HR := hid hrd
      have HE := hid (ext_take s i)
      clear hix
      go_enter Tryz.func139, Tryz.ntmps139
      go_wp2_with (first | (go_at_call 138; refine (cut_yes _ _ _ i HX.out hil' (by unfold maxLen; omega)).mono ?_; rintro e w1 ⟨rfl, n, rfl⟩) | (go_at_call 176; refine (read_any _ _ (HP.out.on (bel_drewN (Below.refl _ _) n)) hrs).mono ?_; rintro e w2 ⟨rfl, hb2⟩; rw [ext_drop, HR.out]; simp only [readV]; have hbx2 := (hb2.block w.heap.size (by simp)).trans (heap_alloc_new w _); obtain ⟨k0, k1, k2, k3⟩ := box_facts ((Below.heap_alloc w2 (.cells #[.string ⟨t.toArray⟩] 9) w.heap.size (by have := hb2.size; simp at this; omega)).trans hbx2)))
      have hw2 : w.heap.size < w2.heap.size := by have := hb2.size; simp at this; omega
      obtain ⟨W3, hW3⟩ : ∃ W3, w2.alloc (.cells #[.string ⟨t.toArray⟩] 9) = W3 := ⟨_, rfl⟩
      have hot : OwnT w2.heap.size W3 (.slice (some ⟨w2.heap.size, 0, none⟩) 1 1) [⟨t.toArray⟩] := by
        rw [← hW3]
        exact World.ownsRow_lit w2 #[.string ⟨t.toArray⟩] 1 (Nat.le_refl _) (by decide) rfl
      have hb3 : Below w.heap.size w W3 := by
        rw [← hW3]
        exact ((bel_drewN HB0.out n).trans (hb2.mono (by simp))).alloc (by omega) _
      rw [hW3] at k0 k1 k2 k3 ⊢
      have hbw : Below w.heap.size w ((W3.setCell ⟨w.heap.size, 0, none⟩ (.string (s.extract 0 i))).setCell ⟨w.heap.size, 1, none⟩ (.slice (some ⟨w2.heap.size, 0, none⟩) 1 1)) := (hb3.setCell (p := ⟨w.heap.size, 0, none⟩) (Nat.le_refl _) _).setCell (p := ⟨w.heap.size, 1, none⟩) (Nat.le_refl _) _
      have hgB : W3.grownBy ((W3.setCell ⟨w.heap.size, 0, none⟩ (.string (s.extract 0 i))).setCell ⟨w.heap.size, 1, none⟩ (.slice (some ⟨w2.heap.size, 0, none⟩) 1 1)) (some w.heap.size) := grown_trans (grown_set W3 _ 0 _) (grown_set _ _ 1 _)
      have hot2 : OwnT w.heap.size ((W3.setCell ⟨w.heap.size, 0, none⟩ (.string (s.extract 0 i))).setCell ⟨w.heap.size, 1, none⟩ (.slice (some ⟨w2.heap.size, 0, none⟩) 1 1)) (.slice (some ⟨w2.heap.size, 0, none⟩) 1 1) [⟨t.toArray⟩] := own_weak (OwnT.grown hot hgB hw2) (by omega)
      have j0 : ((W3.setCell ⟨w.heap.size, 0, none⟩ (.string (s.extract 0 i))).setCell ⟨w.heap.size, 1, none⟩ (.slice (some ⟨w2.heap.size, 0, none⟩) 1 1)).cell? ⟨w.heap.size, 0, none⟩ = some (.string (s.extract 0 i)) := by simp [go_sem, k0]
      have j1 : ((W3.setCell ⟨w.heap.size, 0, none⟩ (.string (s.extract 0 i))).setCell ⟨w.heap.size, 1, none⟩ (.slice (some ⟨w2.heap.size, 0, none⟩) 1 1)).cell? ⟨w.heap.size, 1, none⟩ = some (.slice (some ⟨w2.heap.size, 0, none⟩) 1 1) := by simp [go_sem, k1]
      exact bodyPost_ret (v := .tuple #[.agg #[.string (s.extract 0 i), .slice (some ⟨w2.heap.size, 0, none⟩) 1 1], .int .i64 0]) (by simp [results, Tryz.results139, go_sem, j0, j1]) rfl ⟨Or.inr ⟨_, t, HO.out, _, by rw [HE.out], hot2⟩, hbw⟩
end Go.Proofs.YtpdccbeeoapplaaGreatDoor

namespace Go.Proofs.YtpdccbeeoapplaaGreatDoor
open Go.Sort
set_option linter.unusedSectionVars false
variable {α : Type} [Inhabited α] {κ : Type} [DecidableEq κ]
def Stab (K : α → κ) (d d' : Array α) : Prop := ∀ c, d'.toList.filter (fun x => decide (K x = c)) = d.toList.filter (fun x => decide (K x = c))
theorem Stab.refl (K : α → κ) (d : Array α) : Stab K d d := fun _ => rfl
theorem Stab.trans {K : α → κ} {d d' d'' : Array α} (h : Stab K d d') (h' : Stab K d' d'') : Stab K d d'' := fun c => (h' c).trans (h c)
def Rot (s m e : Nat) (d d' : Array α) : Prop :=
  d'.size = d.size ∧ (∀ t, t < e - m → d'[s + t]! = d[m + t]!) ∧ (∀ t, t < m - s → d'[s + (e - m) + t]! = d[s + t]!) ∧ (∀ i, i < s ∨ e ≤ i → d'[i]! = d[i]!)
theorem toList_range (d : Array α) : d.toList = (List.range' 0 d.size).map (fun i => d[i]!) := by
  have h := extract_toList d 0 d.size (Nat.le_refl _)
  rw [Array.extract_size, Nat.sub_zero] at h
  exact h
theorem range'_cut (s k l : Nat) : List.range' s (k + l) = List.range' s k ++ List.range' (s + k) l := by
  rw [← List.range'_append_1]
theorem map_range'_shift (f g : Nat → α) (s s' n : Nat) (h : ∀ t, t < n → f (s + t) = g (s' + t)) : (List.range' s n).map f = (List.range' s' n).map g := by
  apply List.ext_getElem
  · simp
  · intro i h1 h2
    simp only [List.length_map, List.length_range'] at h1
    simp only [List.getElem_map, List.getElem_range', Nat.one_mul]
    exact h i h1
theorem Rot.parts {s m e : Nat} {d d' : Array α} (h : Rot s m e d d') (hsm : s ≤ m) (hme : m ≤ e) (he : e ≤ d.size) :
    ∃ A L R B : List α, d.toList = A ++ L ++ R ++ B ∧ d'.toList = A ++ R ++ L ++ B ∧ L = (List.range' s (m - s)).map (fun i => d[i]!) ∧ R = (List.range' m (e - m)).map (fun i => d[i]!) := by
  obtain ⟨hz, h1, h2, h3⟩ := h
  refine ⟨(List.range' 0 s).map (fun i => d[i]!), _, _, (List.range' e (d.size - e)).map (fun i => d[i]!), ?_, ?_, rfl, rfl⟩
  · rw [toList_range]
    have e1 : d.size = s + (m - s) + (e - m) + (d.size - e) := by omega
    conv => lhs; rw [e1]
    rw [range'_cut, range'_cut, range'_cut]
    simp only [List.map_append]
    rw [show 0 + s = s by omega, show 0 + (s + (m - s)) = m by omega, show 0 + (s + (m - s) + (e - m)) = e by omega]
  · rw [toList_range, hz]
    have e1 : d.size = s + (e - m) + (m - s) + (d.size - e) := by omega
    conv => lhs; rw [e1]
    rw [range'_cut, range'_cut, range'_cut]
    simp only [List.map_append]
    rw [show 0 + s = s by omega, show 0 + (s + (e - m)) = s + (e - m) by omega, show 0 + (s + (e - m) + (m - s)) = e by omega]
    congr 1
    · congr 1
      · congr 1
        · exact map_range'_shift _ _ 0 0 s (fun t ht => h3 _ (Or.inl (by omega)))
        · exact map_range'_shift _ _ _ _ _ (fun t ht => h1 t ht)
      · exact map_range'_shift _ _ _ _ _ (fun t ht => h2 t ht)
    · exact map_range'_shift _ _ _ _ _ (fun t ht => h3 _ (Or.inr (by omega)))
theorem Rot.stab {K : α → κ} {s m e : Nat} {d d' : Array α} (h : Rot s m e d d') (hsm : s ≤ m) (hme : m ≤ e) (he : e ≤ d.size)
    (hK : ∀ i j, s ≤ i → i < m → m ≤ j → j < e → K d[i]! ≠ K d[j]!) : Stab K d d' := by
  obtain ⟨A, L, R, B, e1, e2, hL, hR⟩ := h.parts hsm hme he
  intro c
  rw [e1, e2]
  simp only [List.filter_append]
  have : L.filter (fun x => decide (K x = c)) = [] ∨ R.filter (fun x => decide (K x = c)) = [] := by
    rcases hl : L.filter (fun x => decide (K x = c)) with _ | ⟨x, l⟩
    · exact Or.inl rfl
    · right
      have hx : x ∈ L.filter (fun x => decide (K x = c)) := by rw [hl]; simp
      rw [List.filter_eq_nil_iff]
      intro y hy hyc
      simp only [decide_eq_true_eq] at hyc
      obtain ⟨hx1, hx2⟩ := List.mem_filter.1 hx
      simp only [decide_eq_true_eq] at hx2
      rw [hL, List.mem_map] at hx1
      rw [hR, List.mem_map] at hy
      obtain ⟨i, hi, rfl⟩ := hx1
      obtain ⟨j, hj, rfl⟩ := hy
      rw [List.mem_range'_1] at hi hj
      exact hK i j (by omega) (by omega) (by omega) (by omega) (hx2.trans hyc.symm)
  rcases this with h0 | h0 <;> rw [h0] <;> simp
theorem Rot.perm {s m e : Nat} {d d' : Array α} (h : Rot s m e d d') (hsm : s ≤ m) (hme : m ≤ e) (he : e ≤ d.size) : PermIn s e d d' := by
  obtain ⟨hz, h1, h2, h3⟩ := h
  refine ⟨hz, h3, ?_⟩
  rw [extract_toList _ _ _ (by omega), extract_toList _ _ _ he]
  have e1 : e - s = (m - s) + (e - m) := by omega
  have e2 : e - s = (e - m) + (m - s) := by omega
  conv => lhs; rw [e2]
  conv => rhs; rw [e1]
  rw [range'_cut, range'_cut]
  simp only [List.map_append]
  rw [map_range'_shift (fun i => d'[i]!) (fun i => d[i]!) s m (e - m) (fun t ht => h1 t ht), map_range'_shift (fun i => d'[i]!) (fun i => d[i]!) (s + (e - m)) s (m - s) (fun t ht => h2 t ht), show s + (m - s) = m by omega]
  exact List.perm_append_comm
theorem rot_swp (d : Array α) (j : Nat) (h : j + 1 < d.size) : Rot j (j + 1) (j + 2) d (swp d (j + 1) j) := by
  refine ⟨size_swp _ _ _, fun t ht => ?_, fun t ht => ?_, fun i hi => ?_⟩
  · obtain rfl : t = 0 := by omega
    exact swp_right d (j + 1) j (by omega)
  · obtain rfl : t = 0 := by omega
    rw [show j + (j + 2 - (j + 1)) + 0 = j + 1 by omega]
    exact swp_left d (j + 1) j h (by omega)
  · exact swp_other d (j + 1) j i (by omega) (by omega)
theorem insInner_stab {K : α → κ} {lt : α → α → Bool} (hK : ∀ x y, lt x y = true → K x ≠ K y) (a : Nat) : ∀ (j : Nat) (d : Array α), j < d.size → Stab K d (insInner lt a j d)
  | 0, d, _ => Stab.refl K d
  | j + 1, d, hj => by
    unfold insInner
    split
    · rename_i hc
      simp only [Bool.and_eq_true, decide_eq_true_eq] at hc
      refine Stab.trans ((rot_swp d j hj).stab (by omega) (by omega) (by omega) fun i i' h1 h2 h3 h4 => ?_) (insInner_stab hK a j _ (by rw [size_swp]; omega))
      obtain rfl : i = j := by omega
      obtain rfl : i' = i + 1 := by omega
      exact fun e => hK _ _ hc.2 e.symm
    · exact Stab.refl K d
theorem insInner_size {lt : α → α → Bool} (a : Nat) : ∀ (j : Nat) (d : Array α), (insInner lt a j d).size = d.size
  | 0, d => rfl
  | j + 1, d => by
    unfold insInner
    split
    · rw [insInner_size a j, size_swp]
    · rfl
theorem insOuter_stab {K : α → κ} {lt : α → α → Bool} (hK : ∀ x y, lt x y = true → K x ≠ K y) (a b : Nat) : ∀ (n i : Nat) (d : Array α), b - i ≤ n → b ≤ d.size → Stab K d (insOuter lt a b i d)
  | 0, i, d, hn, hb => by
    unfold insOuter
    rw [if_neg (by omega)]
    exact Stab.refl K d
  | n + 1, i, d, hn, hb => by
    unfold insOuter
    split
    · exact (insInner_stab hK a i d (by omega)).trans (insOuter_stab hK a b n (i + 1) _ (by omega) (by rw [insInner_size]; exact hb))
    · exact Stab.refl K d
theorem insertionSort_stab {K : α → κ} {lt : α → α → Bool} (hK : ∀ x y, lt x y = true → K x ≠ K y) (d : Array α) (a b : Nat) (hb : b ≤ d.size) : Stab K d (insertionSort lt d a b) :=
  insOuter_stab hK a b _ _ d (Nat.le_refl _) hb
theorem Rot.left {s m e j : Nat} {d dk d' : Array α} (hsm : s ≤ m) (hme : m ≤ e) (hj : j = e - m) (hij : j ≤ m - s) (hz : dk.size = d.size) (h1 : ∀ t, t < j → dk[s + t]! = d[m + t]!) (h2 : ∀ t, t < j → dk[m + t]! = d[s + t]!)
    (h3 : ∀ i, (i < s ∨ s + j ≤ i) → (i < m ∨ m + j ≤ i) → dk[i]! = d[i]!) (h : Rot (s + j) m e dk d') : Rot s m e d d' := by
  obtain ⟨k1, k2, k3, k4⟩ := h
  refine ⟨k1.trans hz, fun t ht => ?_, fun t ht => ?_, fun i hi => ?_⟩
  · rw [k4 _ (Or.inl (by omega))]; exact h1 t (by omega)
  · by_cases hlt : t < j
    · have := k2 t (by omega)
      rw [show s + (e - m) + t = s + j + t by omega, this]
      exact h2 t hlt
    · have := k3 (t - j) (by omega)
      rw [show s + (e - m) + t = s + j + (e - m) + (t - j) by omega, this, h3 _ (by omega) (by omega)]
      congr 1; omega
  · rw [k4 _ (by omega), h3 _ (by omega) (by omega)]
theorem Rot.right {s m e i : Nat} {d dk d' : Array α} (hsm : s ≤ m) (hme : m ≤ e) (hi : i = m - s) (hij : i ≤ e - m) (hz : dk.size = d.size) (h1 : ∀ t, t < i → dk[s + t]! = d[e - i + t]!) (h2 : ∀ t, t < i → dk[e - i + t]! = d[s + t]!)
    (h3 : ∀ x, (x < s ∨ s + i ≤ x) → (x < e - i ∨ e ≤ x) → dk[x]! = d[x]!) (h : Rot s m (e - i) dk d') : Rot s m e d d' := by
  obtain ⟨k1, k2, k3, k4⟩ := h
  refine ⟨k1.trans hz, fun t ht => ?_, fun t ht => ?_, fun x hx => ?_⟩
  · by_cases hlt : t < e - i - m
    · rw [k2 t hlt, h3 _ (by omega) (by omega)]
    · have := k3 (t - (e - i - m)) (by omega)
      rw [show s + t = s + (e - i - m) + (t - (e - i - m)) by omega, this, h1 _ (by omega)]
      congr 1; omega
  · rw [k4 _ (by omega), show s + (e - m) + t = e - i + t by omega]
    exact h2 t (by omega)
  · rw [k4 _ (by omega), h3 _ (by omega) (by omega)]
theorem Rot.even {s m e i : Nat} {d d' : Array α} (hi : i = m - s) (hsm : s ≤ m) (hme : m ≤ e) (hij : i = e - m) (hz : d'.size = d.size) (h1 : ∀ t, t < i → d'[s + t]! = d[m + t]!) (h2 : ∀ t, t < i → d'[m + t]! = d[s + t]!)
    (h3 : ∀ x, (x < s ∨ s + i ≤ x) → (x < m ∨ m + i ≤ x) → d'[x]! = d[x]!) : Rot s m e d d' :=
  ⟨hz, fun t ht => h1 t (by omega), fun t ht => by rw [show s + (e - m) + t = m + t by omega]; exact h2 t (by omega), fun x hx => h3 x (by omega) (by omega)⟩
end Go.Proofs.YtpdccbeeoapplaaGreatDoor

namespace Go.Proofs.YtpdccbeeoapplaaGreatDoor
open Go.Sort
set_option linter.unusedSectionVars false
variable {α : Type} [Inhabited α] {κ : Type} [DecidableEq κ]
def Mrg (lt : α → α → Bool) (K : α → κ) (a b : Nat) (d d' : Array α) : Prop := PermIn a b d d' ∧ SortedIn lt a b d' ∧ Stab K d d'
theorem SWO.le_le {lt : α → α → Bool} (hS : SWO lt) {x y z : α} (h1 : lt y x = false) (h2 : lt z y = false) : lt z x = false := hS.ntrans _ _ _ h2 h1
theorem SWO.lt_le {lt : α → α → Bool} (hS : SWO lt) {x y z : α} (h1 : lt x y = true) (h2 : lt z y = false) : lt x z = true := by
  cases h : lt x z
  · exact absurd (hS.ntrans _ _ _ h h2) (by rw [h1]; simp)
  · rfl
theorem SWO.le_lt {lt : α → α → Bool} (hS : SWO lt) {x y z : α} (h1 : lt y x = false) (h2 : lt y z = true) : lt x z = true := by
  cases h : lt x z
  · exact absurd (hS.ntrans _ _ _ h1 h) (by rw [h2]; simp)
  · rfl
theorem SortedIn.le {lt : α → α → Bool} (hS : SWO lt) {a b : Nat} {d : Array α} (h : SortedIn lt a b d) {i j : Nat} (h1 : a ≤ i) (h2 : i ≤ j) (h3 : j < b) : lt d[j]! d[i]! = false := by
  rcases Nat.eq_or_lt_of_le h2 with rfl | h4
  · exact hS.irrefl _
  · exact h i j h1 h4 h3
theorem Rot.shift_up {a k : Nat} {d dk : Array α} (h : Rot a (a + 1) (k + 1) d dk) (hak : a ≤ k) (hk : k + 1 < d.size) : Rot a (a + 1) (k + 2) d (swp dk k (k + 1)) := by
  obtain ⟨h1, h2, h3, h4⟩ := h
  refine ⟨by rw [size_swp, h1], fun t ht => ?_, fun t ht => ?_, fun i hi => ?_⟩
  · by_cases hlt : t < k + 1 - (a + 1)
    · rw [swp_other _ _ _ _ (by omega) (by omega)]; exact h2 t hlt
    · rw [show a + t = k by omega, swp_left _ _ _ (by omega) (by omega), h4 _ (Or.inr (by omega))]; congr 1; omega
  · obtain rfl : t = 0 := by omega
    rw [show a + (k + 2 - (a + 1)) + 0 = k + 1 by omega, swp_right _ _ _ (by omega)]
    have := h3 0 (by omega)
    rw [show a + (k + 1 - (a + 1)) + 0 = k by omega] at this
    exact this
  · rw [swp_other _ _ _ _ (by omega) (by omega)]; exact h4 _ (by omega)
theorem Rot.shift_down {k m : Nat} {d dk : Array α} (h : Rot (k + 1) m (m + 1) d dk) (hkm : k + 1 ≤ m) (hm : m < d.size) : Rot k m (m + 1) d (swp dk (k + 1) k) := by
  obtain ⟨h1, h2, h3, h4⟩ := h
  refine ⟨by rw [size_swp, h1], fun t ht => ?_, fun t ht => ?_, fun i hi => ?_⟩
  · obtain rfl : t = 0 := by omega
    show (swp dk (k + 1) k)[k]! = d[m + 0]!
    rw [swp_right _ _ _ (by omega)]
    exact h2 0 (by omega)
  · by_cases h0 : t = 0
    · subst h0
      rw [show k + (m + 1 - m) + 0 = k + 1 by omega, swp_left _ _ _ (by omega) (by omega), h4 _ (Or.inl (by omega)), Nat.add_zero]
    · rw [swp_other _ _ _ _ (by omega) (by omega)]
      have := h3 (t - 1) (by omega)
      rw [show k + 1 + (m + 1 - m) + (t - 1) = k + (m + 1 - m) + t by omega] at this
      rw [this]; congr 1; omega
  · rw [swp_other _ _ _ _ (by omega) (by omega)]; exact h4 _ (by omega)
theorem rot_none (s m : Nat) (d : Array α) : Rot s m m d d := by
  refine ⟨rfl, fun t ht => by omega, fun t _ => by rw [show s + (m - m) + t = s + t by omega], fun _ _ => rfl⟩
theorem rot_none' (m e : Nat) (d : Array α) : Rot m m e d d := by
  refine ⟨rfl, fun t _ => rfl, fun t ht => by omega, fun _ _ => rfl⟩
theorem Rot.at1 {s m e : Nat} {d d' : Array α} (h : Rot s m e d d') {p : Nat} (h1 : s ≤ p) (h2 : p < s + (e - m)) : d'[p]! = d[p + (m - s)]! ∨ m < s := by
  by_cases hms : m < s
  · exact Or.inr hms
  · left
    have := h.2.1 (p - s) (by omega)
    rw [show s + (p - s) = p by omega] at this
    rw [this]; congr 1; omega
theorem Rot.lo {s m e : Nat} {d d' : Array α} (h : Rot s m e d d') (hsm : s ≤ m) {p : Nat} (h1 : s ≤ p) (h2 : p < s + (e - m)) : d'[p]! = d[p + (m - s)]! := by
  rcases h.at1 h1 h2 with h | h
  · exact h
  · omega
theorem Rot.hi {s m e : Nat} {d d' : Array α} (h : Rot s m e d d') {p : Nat} (h1 : s + (e - m) ≤ p) (h2 : p < e) (hme : m ≤ e) : d'[p]! = d[p - (e - m)]! := by
  have := h.2.2.1 (p - (s + (e - m))) (by omega)
  rw [show s + (e - m) + (p - (s + (e - m))) = p by omega] at this
  rw [this]; congr 1; omega
theorem Rot.out {s m e : Nat} {d d' : Array α} (h : Rot s m e d d') {p : Nat} (h1 : p < s ∨ e ≤ p) : d'[p]! = d[p]! := h.2.2.2 p h1
theorem Rot.merge {lt : α → α → Bool} {K : α → κ} (hS : SWO lt) (hK : ∀ x y, lt x y = true → K x ≠ K y) {a s m e b : Nat} {d d1 : Array α} (h : Rot s m e d d1) (has : a ≤ s) (hsm : s ≤ m) (hme : m ≤ e) (heb : e ≤ b) (hb : b ≤ d.size)
    (hL : SortedIn lt a m d) (hR : SortedIn lt m b d)
    (hlow : a < s → e < b → lt d[e]! d[s - 1]! = false) (hhigh : s < m → m < e → lt d[e - 1]! d[s]! = true) :
    PermIn a b d d1 ∧ Stab K d d1 ∧ SortedIn lt a s d1 ∧ SortedIn lt s (s + (e - m)) d1 ∧ SortedIn lt (s + (e - m)) e d1 ∧ SortedIn lt e b d1 ∧
      (∀ p q, a ≤ p → p < s + (e - m) → s + (e - m) ≤ q → q < b → lt d1[q]! d1[p]! = false) := by
  have hx : ∀ i j, s ≤ i → i < m → m ≤ j → j < e → lt d[j]! d[i]! = true := fun i j h1 h2 h3 h4 => by
    have t := hhigh (by omega) (by omega)
    exact SWO.lt_le hS (SWO.le_lt hS (SortedIn.le hS hR h3 (show j ≤ e - 1 by omega) (by omega)) t) (SortedIn.le hS hL has h1 h2)
  have hy : ∀ i j, a ≤ i → i < s → e ≤ j → j < b → lt d[j]! d[i]! = false := fun i j h1 h2 h3 h4 => by
    have t := hlow (by omega) (by omega)
    exact SWO.le_le hS (SWO.le_le hS (SortedIn.le hS hL h1 (show i ≤ s - 1 by omega) (by omega)) t) (SortedIn.le hS hR hme h3 h4)
  refine ⟨permIn_mono _ _ _ _ _ _ has heb hb (h.perm hsm hme (by omega)), h.stab hsm hme (by omega) (fun i j h1 h2 h3 h4 e => hK _ _ (hx i j h1 h2 h3 h4) e.symm), fun i j h1 h2 h3 => ?_, fun i j h1 h2 h3 => ?_, fun i j h1 h2 h3 => ?_, fun i j h1 h2 h3 => ?_, fun p q h1 h2 h3 h4 => ?_⟩
  · rw [h.out (Or.inl (by omega)), h.out (Or.inl (by omega))]; exact hL i j h1 h2 (by omega)
  · rw [h.lo hsm (by omega) (by omega), h.lo hsm (by omega) (by omega)]; exact hR _ _ (by omega) (by omega) (by omega)
  · rw [h.hi (by omega) (by omega) hme, h.hi (by omega) (by omega) hme]; exact hL _ _ (by omega) (by omega) (by omega)
  · rw [h.out (Or.inr (by omega)), h.out (Or.inr (by omega))]; exact hR i j (by omega) h2 (by omega)
  · by_cases c1 : p < s
    · rw [h.out (p := p) (Or.inl c1)]
      by_cases c2 : q < e
      · rw [h.hi h3 c2 hme]; exact SortedIn.le hS hL h1 (by omega) (by omega)
      · rw [h.out (Or.inr (by omega))]; exact hy p q h1 c1 (by omega) h4
    · rw [h.lo (p := p) hsm (by omega) h2]
      by_cases c2 : q < e
      · rw [h.hi h3 c2 hme]; exact SWO.asymmA hS (hx _ _ (by omega) (by omega) (by omega) (by omega))
      · rw [h.out (Or.inr (by omega))]; exact SortedIn.le hS hR (by omega) (by omega) h4
theorem sorted_halves {lt : α → α → Bool} {a c b : Nat} {d1 d2 d3 : Array α} (hac : a ≤ c) (hcb : c ≤ b) (hb : b ≤ d1.size)
    (hX : ∀ p q, a ≤ p → p < c → c ≤ q → q < b → lt d1[q]! d1[p]! = false) (p2 : PermIn a c d1 d2) (s2 : SortedIn lt a c d2) (p3 : PermIn c b d2 d3) (s3 : SortedIn lt c b d3) :
    PermIn a b d1 d3 ∧ SortedIn lt a b d3 := by
  have z2 := p2.1
  have hX2 : ∀ q, c ≤ q → q < b → ∀ p, a ≤ p → p < c → lt d2[q]! d2[p]! = false := fun q h1 h2 => by
    rw [p2.2.1 q (Or.inr h1)]
    exact permIn_all d1 d2 a c (fun x => lt d1[q]! x = false) (by omega) p2 (fun p h3 h4 => hX p q h3 h4 h1 h2)
  have hX3 : ∀ p, a ≤ p → p < c → ∀ q, c ≤ q → q < b → lt d3[q]! d3[p]! = false := fun p h1 h2 => by
    rw [p3.2.1 p (Or.inl h2)]
    exact permIn_all d2 d3 c b (fun x => lt x d2[p]! = false) (by omega) p3 (fun q h3 h4 => hX2 q h3 h4 p h1 h2)
  refine ⟨permIn_trans _ _ _ _ _ (permIn_mono _ _ _ _ _ _ (Nat.le_refl _) hcb hb p2) (permIn_mono _ _ _ _ _ _ hac (Nat.le_refl _) (by omega) p3), fun i j h1 h2 h3 => ?_⟩
  by_cases c1 : i < c
  · by_cases c2 : j < c
    · rw [p3.2.1 i (Or.inl c1), p3.2.1 j (Or.inl c2)]; exact s2 i j h1 h2 c2
    · exact hX3 i h1 c1 j (by omega) h3
  · exact s3 i j (by omega) h2 h3
theorem Mrg.of_rot {lt : α → α → Bool} {K : α → κ} (hS : SWO lt) (hK : ∀ x y, lt x y = true → K x ≠ K y) {a s m e b : Nat} {d d1 d2 d3 : Array α} (h : Rot s m e d d1) (has : a ≤ s) (hsm : s ≤ m) (hme : m ≤ e) (heb : e ≤ b) (hb : b ≤ d.size)
    (hL : SortedIn lt a m d) (hR : SortedIn lt m b d) (hlow : a < s → e < b → lt d[e]! d[s - 1]! = false) (hhigh : s < m → m < e → lt d[e - 1]! d[s]! = true)
    (m2 : Mrg lt K a (s + (e - m)) d1 d2) (m3 : Mrg lt K (s + (e - m)) b d2 d3) : Mrg lt K a b d d3 := by
  obtain ⟨p1, st1, _, _, _, _, hX⟩ := h.merge (K := K) hS hK has hsm hme heb hb hL hR hlow hhigh
  obtain ⟨p2, s2, st2⟩ := m2
  obtain ⟨p3, s3, st3⟩ := m3
  obtain ⟨p, s⟩ := sorted_halves (by omega) (by omega) (by rw [h.1]; exact hb) hX p2 s2 p3 s3
  exact ⟨permIn_trans _ _ _ _ _ p1 p, s, st1.trans (st2.trans st3)⟩
theorem Mrg.none {lt : α → α → Bool} {K : α → κ} {a b : Nat} {d : Array α} (h : SortedIn lt a b d) : Mrg lt K a b d d := ⟨permIn_refl _ _ _, h, Stab.refl K d⟩
theorem Mrg.one_left {lt : α → α → Bool} {K : α → κ} (hS : SWO lt) (hK : ∀ x y, lt x y = true → K x ≠ K y) {a i b : Nat} {d d' : Array α} (h : Rot a (a + 1) i d d') (hi : a + 1 ≤ i) (hib : i ≤ b) (hb : b ≤ d.size) (hR : SortedIn lt (a + 1) b d)
    (hlo : a + 1 < i → lt d[i - 1]! d[a]! = true) (hhi : i < b → lt d[i]! d[a]! = false) : Mrg lt K a b d d' := by
  have hL : SortedIn lt a (a + 1) d := fun i j h1 h2 h3 => by omega
  obtain ⟨p1, st1, _, s2, _, s4, hX⟩ := h.merge (K := K) hS hK (Nat.le_refl _) (by omega) hi hib hb hL hR (fun h => by omega) (fun _ h => hlo h)
  refine ⟨p1, fun p q h1 h2 h3 => ?_, st1⟩
  have e1 : a + (i - (a + 1)) = i - 1 := by omega
  rw [e1] at s2 hX
  by_cases c1 : p < i - 1
  · by_cases c2 : q < i - 1
    · exact s2 p q h1 h2 c2
    · exact hX p q h1 c1 (by omega) h3
  · by_cases c3 : p = i - 1
    · rw [h.out (p := q) (Or.inr (by omega)), h.hi (p := p) (by omega) (by omega) hi, show p - (i - (a + 1)) = a by omega]
      exact SWO.le_le hS (hhi (by omega)) (SortedIn.le hS hR (by omega) (show i ≤ q by omega) h3)
    · exact s4 p q (by omega) h2 h3
theorem Mrg.one_right {lt : α → α → Bool} {K : α → κ} (hS : SWO lt) (hK : ∀ x y, lt x y = true → K x ≠ K y) {a i m : Nat} {d d' : Array α} (h : Rot i m (m + 1) d d') (hai : a ≤ i) (him : i ≤ m) (hb : m + 1 ≤ d.size) (hL : SortedIn lt a m d)
    (hlo : a < i → lt d[m]! d[i - 1]! = false) (hhi : i < m → lt d[m]! d[i]! = true) : Mrg lt K a (m + 1) d d' := by
  have hR : SortedIn lt m (m + 1) d := fun i j h1 h2 h3 => by omega
  obtain ⟨p1, st1, s1, _, s3, _, hX⟩ := h.merge (K := K) hS hK hai him (by omega) (Nat.le_refl _) hb hL hR (fun _ h => by omega) (fun h _ => by rw [show m + 1 - 1 = m by omega]; exact hhi h)
  rw [show i + (m + 1 - m) = i + 1 by omega] at s3 hX
  refine ⟨p1, fun p q h1 h2 h3 => ?_, st1⟩
  by_cases c1 : i + 1 ≤ q
  · by_cases c2 : i + 1 ≤ p
    · exact s3 p q c2 h2 h3
    · exact hX p q h1 (by omega) c1 h3
  · by_cases c3 : q = i
    · rw [h.lo (p := q) him (by omega) (by omega), h.out (p := p) (Or.inl (by omega)), show q + (m - i) = m by omega]
      exact SWO.le_le hS (SortedIn.le hS hL h1 (show p ≤ i - 1 by omega) (by omega)) (hlo (by omega))
    · exact s1 p q h1 h2 (by omega)
end Go.Proofs.YtpdccbeeoapplaaGreatDoor

namespace Go.Proofs.YtpdccbeeoapplaaGreatDoor
open Go.RowKit Go.Sort Go.Lib
def cmpF (x y : Fx) : Int := Lib.compareBytes x.name.data.toList y.name.data.toList
theorem ltF (x y : Fx) : ltOf cmpF x y = decide (Lib.compareBytes x.name.data.toList y.name.data.toList < 0) := rfl
theorem swoF : SWO (ltOf cmpF) where
  irrefl x := by rw [ltF, (cb_zero _ _).2 rfl]; rfl
  trans x y z h1 h2 := by
    rw [ltF, decide_eq_true_iff] at *
    exact cb_lt_trans _ _ _ h1 h2
  ntrans x y z h1 h2 := by
    rw [ltF, decide_eq_false_iff_not] at *
    intro h
    have n1 := cb_neg x.name.data.toList y.name.data.toList
    have n2 := cb_neg y.name.data.toList z.name.data.toList
    rcases cb_range y.name.data.toList x.name.data.toList with h3 | h3 | h3
    · have h4 := cb_lt_trans _ _ _ (show Lib.compareBytes y.name.data.toList x.name.data.toList < 0 by omega) h
      exact h2 h4
    · have e := (cb_zero _ _).1 h3
      rw [e] at h2
      exact h2 h
    · omega
theorem ltF_ne (x y : Fx) (h : ltOf cmpF x y = true) : x.name ≠ y.name := by
  rw [ltF, decide_eq_true_iff] at h
  intro e
  rw [e, cb_self] at h
  omega
set_option maxHeartbeats 1000000 in
theorem byName_any (x y : Fx) (w : World) : Calls Tryz.prog 205 #[x.val, y.val] w fun e w' => e = .returned (.int .i64 (cmpF x y)) ∧ Grown w w' := by
  obtain ⟨nm, p, cap, ts⟩ := x
  obtain ⟨nm', p', cap', ts'⟩ := y
  simp only [Fx.val, encX, Fx.sl]
  have HC : Hid (cmpF ⟨nm, p, cap, ts⟩ ⟨nm', p', cap', ts'⟩ = Lib.compareBytes nm.data.toList nm'.data.toList) := rfl
  go_enter Tryz.func205, Tryz.ntmps205
  go_wp2_with (first | (go_at_call 191; refine (Tryz.strings_Compare _ _ _).mono ?_; rintro e w1 ⟨rfl, rfl⟩))
  go_ret
  exact ⟨ret_int HC.out.symm, ((Grown.refl _).alloc _).alloc _⟩
theorem cmpLaysF (blk off size : Nat) (w : World) : CmpLays Tryz.prog 205 #[] encX 2 cmpF blk off size w :=
  fun _ _ _ _ x y => byName_any x y _
theorem enters_byName : ∀ args w, (callFunc 205 args).run Tryz.prog w = .ok (.enter 205 args) w := enters_of Tryz.func205 (by kernel_rfl) rfl
theorem encX_one (x : Fx) : ∀ v ∈ encX x, v.oneCell' = true := fun v hv => by simp [encX] at hv; rcases hv with rfl | rfl <;> rfl
theorem ins_any (blk off cap a b : Nat) (d : Array Fx) (w : World) (hH : HoldsK encX 2 w blk off d) (hblk : blk < w.heap.size) (hab : a ≤ b) (hb : b ≤ d.size) (hsz : d.size < 4611686018427387904) :
    Calls Tryz.prog 241 #[.slice (some ⟨blk, off, none⟩) d.size cap, .int .i64 a, .int .i64 b, .func (.func 205) #[] #[]] w fun e w' =>
      e = .returned (.tuple #[]) ∧ ∃ n os, w' = sortWorldK encX 2 w blk off n (Sort.insertionSort (ltOf cmpF) d a b) os :=
  AnyQ.insertionSortCmpFunc Tryz.insFld 2 Tryz.isAgg47 Tryz.sizeOf47 encX (fun _ => rfl) encX_one cmpF 205 #[] blk off cap a b d w enters_byName (cmpLaysF blk off d.size w) hH hblk hab hb hsz
def Sorts (w : World) (blk off : Nat) (d : Array Fx) (w' : World) : Prop :=
  ∃ d' n os, PermIn 0 d.size d d' ∧ SortedIn (ltOf cmpF) 0 d.size d' ∧ Stab Fx.name d d' ∧ w' = sortWorldK encX 2 w blk off n d' os
set_option maxHeartbeats 2000000 in
set_option maxRecDepth 100000 in
theorem ins_none (p : Option Addr) (cap : Nat) (fv : Value) (w : World) :
    Calls Tryz.prog 241 #[.slice p 0 cap, .int .i64 0, .int .i64 0, fv] w fun e w' => e = .returned (.tuple #[]) ∧ w' = w := by
  go_enter Tryz.func241, Tryz.ntmps241
  go_wp2_with fail
  refine wp_loop_rounds 1 ?_
  rw [rounds_succ]
  go_wp2_with fail
  go_end0
  exact ⟨rfl, rfl⟩
set_option maxHeartbeats 2000000 in
set_option maxRecDepth 100000 in
theorem stable_none (p : Option Addr) (cap : Nat) (fv : Value) (w : World) :
    Calls Tryz.prog 231 #[.slice p 0 cap, .int .i64 0, fv] w fun e w' => e = .returned (.tuple #[]) ∧ w' = w := by
  go_enter Tryz.func231, Tryz.ntmps231
  go_wp2_with fail
  refine wp_loop_rounds 1 ?_
  rw [rounds_succ]
  go_wp2_with (first | (go_at_call 241; refine (ins_none _ _ _ _).mono ?_; rintro e w1 ⟨rfl, rfl⟩))
  refine wp_loop_rounds 1 ?_
  rw [rounds_succ]
  go_wp2_with fail
  go_end0
  exact ⟨rfl, rfl⟩
set_option maxHeartbeats 1000000 in
theorem sort_none (p : Option Addr) (cap : Nat) (fv : Value) (w : World) :
    Calls Tryz.prog 204 #[.slice p 0 cap, fv] w fun e w' => e = .returned (.tuple #[]) ∧ w' = w := by
  go_enter Tryz.func204, Tryz.ntmps204
  go_wp2_with (first | (go_at_call 231; refine (stable_none _ _ _ _).mono ?_; rintro e w1 ⟨rfl, rfl⟩))
  go_end0
  exact ⟨rfl, rfl⟩
end Go.Proofs.YtpdccbeeoapplaaGreatDoor

namespace Go.Proofs.YtpdccbeeoapplaaGreatDoor
open Go.RowKit
theorem eqTexts_any (p q : Option Addr) (c c' : Nat) (xs ys : List ByteArray) (w : World) (hx : TxtAt w p xs) (hy : TxtAt w q ys) (hlx : xs.length ≤ maxLen) (hly : ys.length ≤ maxLen) :
    Calls Tryz.prog 144 #[.slice p xs.length c, .slice q ys.length c'] w fun e w' => e = .returned (.bool (decide (xs = ys))) ∧ ∃ n, w' = w.drewN n := by
  unfold maxLen at hlx hly
  rcases hx with rfl | ⟨b, off, rfl, hx⟩
  · refine (Tryz.slices_Equal_string_empty p q c ys.length c' w (by omega)).mono ?_
    rintro e w' ⟨rfl, rfl⟩
    refine ⟨ret_bool ?_, 0, rfl⟩
    cases ys <;> simp
  · rcases hy with rfl | ⟨b', off', rfl, hy⟩
    · by_cases h0 : xs.length = 0
      · obtain rfl := List.length_eq_zero_iff.1 h0
        refine (Tryz.slices_Equal_string_empty _ q c 0 c' w (by omega)).mono ?_
        rintro e w' ⟨rfl, rfl⟩
        exact ⟨rfl, 0, rfl⟩
      · refine (Tryz.slices_Equal_string_lens _ q xs.length c 0 c' w h0).mono ?_
        rintro e w' ⟨rfl, rfl⟩
        refine ⟨ret_bool ?_, 0, rfl⟩
        rw [eq_comm, decide_eq_false_iff_not]
        rintro rfl
        exact h0 rfl
    · refine (Tryz.slices_Equal_string b off xs.length c b' off' ys.length c' xs ys w (Nat.le_refl _) (Nat.le_refl _) (by omega) (by omega) (fun j hj => ?_) (fun j hj => ?_)).mono ?_
      · rw [hx j hj, List.getD_eq_getElem?_getD, List.getElem?_eq_getElem hj]; rfl
      · rw [hy j hj, List.getD_eq_getElem?_getD, List.getElem?_eq_getElem hj]; rfl
      · rintro e w' ⟨rfl, hq⟩
        rw [List.take_length, List.take_length]
        exact ⟨rfl, hq⟩
theorem toList_eq (a b : ByteArray) : (a.toList == b.toList) = decide (a = b) := by
  rw [Bool.eq_iff_iff]
  simp only [beq_iff_eq, decide_eq_true_eq]
  constructor
  · intro h
    rw [Lib.toList_data, Lib.toList_data] at h
    obtain ⟨⟨l⟩⟩ := a
    obtain ⟨⟨m⟩⟩ := b
    simp at h
    rw [h]
  · rintro rfl; rfl
set_option maxHeartbeats 1000000 in
theorem sameField_any (x y : Fx) (w : World) (hx : x.at w) (hy : y.at w) (hlx : x.txt.length ≤ maxLen) (hly : y.txt.length ≤ maxLen) :
    Calls Tryz.prog 102 #[x.val, y.val] w fun e w' => e = .returned (.bool (decide (x.fld = y.fld))) ∧ Grown w w' := by
  obtain ⟨nm, p, cap, ts⟩ := x
  obtain ⟨nm', p', cap', ts'⟩ := y
  simp only [Fx.val, encX, Fx.sl, Fx.fld, Fx.at] at *
  have hg0 : Grown w ((w.alloc (.cells #[.string nm, .slice p ts.length cap] 47)).alloc (.cells #[.string nm', .slice p' ts'.length cap'] 47)) := ((Grown.refl _).alloc _).alloc _
  have HE := hid (eqTexts_any p p' cap cap' ts ts' _ (hx.kept hg0.below) (hy.kept hg0.below) hlx hly)
  clear hx hy
  cases hn : (nm.toList == nm'.toList) with
  | false =>
    have H0 : Hid (decide ((nm, ts) = (nm', ts')) = false) := by
      show _ = _
      rw [toList_eq, decide_eq_false_iff_not] at hn
      rw [decide_eq_false_iff_not]
      intro h; exact hn (Prod.mk.inj h).1
    go_enter Tryz.func102, Tryz.ntmps102
    go_wp2_with (first | (go_at_call 144; refine HE.out.mono ?_; rintro e w1 ⟨rfl, q, rfl⟩))
    go_ret
    exact ⟨ret_bool H0.out.symm, hg0⟩
  | true =>
    have H0 : Hid (decide ((nm, ts) = (nm', ts')) = decide (ts = ts')) := by
      show _ = _
      rw [toList_eq, decide_eq_true_eq] at hn
      subst hn
      simp
    go_enter Tryz.func102, Tryz.ntmps102
    go_wp2_with (first | (go_at_call 144; refine HE.out.mono ?_; rintro e w1 ⟨rfl, q, rfl⟩))
    go_ret
    exact ⟨ret_bool H0.out.symm, hg0.drewN q⟩
theorem enters_same : ∀ args w, (callFunc 102 args).run Tryz.prog w = .ok (.enter 102 args) w := enters_of Tryz.func102 (by kernel_rfl) rfl
set_option maxHeartbeats 4000000 in
set_option maxRecDepth 100000 in
theorem equalFunc_any (v v' : Value) (d d' : List Fx) (w : World) (hv : IsXs w v d) (hv' : IsXs w v' d') (hf : FitX d) (hf' : FitX d') :
    Calls Tryz.prog 101 #[v, v', .func (.func 102) #[] #[]] w fun e w' => e = .returned (.bool (decide (d.map Fx.fld = d'.map Fx.fld))) ∧ Grown w w' := by
  obtain ⟨p, cap, rfl, hd, ht⟩ := hv
  obtain ⟨p', cap', rfl, hd', ht'⟩ := hv'
  have HT := hid ht
  have HT' := hid ht'
  have HD := hid hd
  have HD' := hid hd'
  have HF := hid hf.2
  have HF' := hid hf'.2
  have hl := hf.1
  have hl' := hf'.1
  unfold maxLen at hl hl'
  clear ht ht' hd hd' hf hf'
  obtain ⟨r, hr⟩ : ∃ r, decide (d.map Fx.fld = d'.map Fx.fld) = r := ⟨_, rfl⟩
  rw [hr]
  have HR := hid hr
  clear hr
  by_cases hlen : d.length = d'.length
  · have HL := hid hlen
    rw [← hlen]
    clear hlen hl'
    go_enter Tryz.func101, Tryz.ntmps101
    go_wp2_with fail
    go_loopg [17] d.length (fun g vi wr => ∃ i : Nat, vi = .int .i64 i ∧ i ≤ d.length ∧ d.length - i ≤ g ∧ Grown w wr ∧ Hid ((d.map Fx.fld).take i = (d'.map Fx.fld).take i))
    case atStart => exact ⟨0, rfl, by omega, by omega, Grown.refl _, rfl⟩
    case round =>
      obtain ⟨i, rfl, hi, hg, hb, HJ⟩ := hrel
      by_cases hlt : i < d.length
      · have hltz : (i : Int) < (d.length : Int) := by omega
        have hiz : (0 : Int) ≤ i := by omega
        have hlt' : i < d'.length := by have := HL.out; omega
        obtain ⟨b, off, rfl, hxs⟩ : ∃ b off, p = some ⟨b, off, none⟩ ∧ XsAt w b off d := by
          rcases HD.out with h | h
          · subst h; simp at hlt
          · exact h
        obtain ⟨b', off', rfl, hxs'⟩ : ∃ b off, p' = some ⟨b, off, none⟩ ∧ XsAt w b off d' := by
          rcases HD'.out with h | h
          · rw [h] at hlt'; simp at hlt'
          · exact h
        obtain ⟨c0, c1⟩ := hxs.kept hb.below i hlt
        obtain ⟨e0, e1⟩ := hxs'.kept hb.below i hlt'
        have hxi : (d[i]).at w := HT.out _ (List.getElem_mem hlt)
        have hyi : (d'[i]).at w := HT'.out _ (List.getElem_mem hlt')
        have hfi := (HF.out _ (List.getElem_mem hlt)).2.1
        have hfi' := (HF'.out _ (List.getElem_mem hlt')).2.1
        have hst : decide ((d[i]).fld = (d'[i]).fld) = true → (d.map Fx.fld).take (i + 1) = (d'.map Fx.fld).take (i + 1) := fun h => by
          rw [List.take_succ_eq_append_getElem (by rw [List.length_map]; exact hlt), List.take_succ_eq_append_getElem (by rw [List.length_map]; exact hlt'), HJ.out]
          simp only [List.getElem_map]
          rw [of_decide_eq_true h]
        have hno : decide ((d[i]).fld = (d'[i]).fld) = false → r = false := fun h => by
          rw [← HR.out, decide_eq_false_iff_not]
          intro e
          have : (d.map Fx.fld)[i]'(by rw [List.length_map]; exact hlt) = (d'.map Fx.fld)[i]'(by rw [List.length_map]; exact hlt') := by simp only [e]
          simp only [List.getElem_map] at this
          exact (of_decide_eq_false h) this
        obtain ⟨x, hx⟩ : ∃ x, d[i] = x := ⟨_, rfl⟩
        obtain ⟨y, hy⟩ : ∃ y, d'[i] = y := ⟨_, rfl⟩
        rw [hx] at c0 c1 hxi hfi hst hno
        rw [hy] at e0 e1 hyi hfi' hst hno
        have HXI := hid hxi
        have HYI := hid hyi
        have HFI := hid (And.intro hfi hfi')
        have HST := hid hst
        have HNO := hid hno
        clear hxs hxs' hxi hyi hfi hfi' hx hy hst hno
        unfold Fx.sl at c1 e1
        have hgW : Grown w ((wr.alloc (.cells #[.string x.name, .slice x.p x.txt.length x.cap] 47)).alloc (.cells #[.string y.name, .slice y.p y.txt.length y.cap] 47)) := (hb.alloc _).alloc _
        have e0' : (wr.alloc (.cells #[.string x.name, .slice x.p x.txt.length x.cap] 47)).cell? ⟨b', off' + i * 2, none⟩ = some (.string y.name) := by
          rw [World.cell?_alloc_lt _ _ ⟨b', off' + i * 2, none⟩ (cell_block e0)]; exact e0
        have e1' : (wr.alloc (.cells #[.string x.name, .slice x.p x.txt.length x.cap] 47)).cell? ⟨b', off' + i * 2 + 1, none⟩ = some (.slice y.p y.txt.length y.cap) := by
          rw [World.cell?_alloc_lt _ _ ⟨b', off' + i * 2 + 1, none⟩ (cell_block e1)]; exact e1
        have HC := hid (sameField_any x y _ (HXI.out.kept hgW.below) (HYI.out.kept hgW.below) HFI.out.1 HFI.out.2)
        have HGW := hid hgW
        have hen := enters_same
        clear hgW e0 e1
        cases hq : decide (x.fld = y.fld) with
        | false =>
          rw [hq] at HC
          go_wp2_with (first | (go_at_call 102; refine HC.out.mono ?_; rintro e w2 ⟨rfl, hg2⟩))
          go_ret
          exact ⟨ret_bool (HNO.out hq).symm, HGW.out.trans hg2⟩
        | true =>
          rw [hq] at HC
          go_wp2_with (first | (go_at_call 102; refine HC.out.mono ?_; rintro e w2 ⟨rfl, hg2⟩))
          go_roundg (d.length - (i + 1))
          case measure => omega
          exact ⟨i + 1, by go_num, by omega, by omega, HGW.out.trans hg2, HST.out hq⟩
      · have hltz : ¬ (i : Int) < (d.length : Int) := by omega
        have H0 : Hid (r = true) := by
          show r = true
          rw [← HR.out, decide_eq_true_eq]
          have h := HJ.out
          rw [List.take_of_length_le (by rw [List.length_map]; omega), List.take_of_length_le (by rw [List.length_map]; have := HL.out; omega)] at h
          exact h
        go_wp2_with fail
        go_ret
        exact ⟨ret_bool H0.out.symm, hb⟩
  · have H0 : Hid (r = false) := by
      show r = false
      rw [← HR.out, decide_eq_false_iff_not]
      intro e
      have := congrArg List.length e
      simp at this
      exact hlen this
    have hz : ¬ (d.length : Int) = (d'.length : Int) := by omega
    go_enter Tryz.func101, Tryz.ntmps101
    go_wp2_with fail
    go_ret
    exact ⟨ret_bool H0.out.symm, Grown.refl _⟩
set_option maxHeartbeats 1000000 in
theorem equal_any (v v' : Value) (d d' : List Fx) (w : World) (hv : IsXs w v d) (hv' : IsXs w v' d') (hf : FitX d) (hf' : FitX d') :
    Calls Tryz.prog 56 #[v, v'] w fun e w' => e = .returned (.bool (decide (d.map Fx.fld = d'.map Fx.fld))) ∧ Grown w w' := by
  have HC := hid (equalFunc_any v v' d d' w hv hv' hf hf')
  clear hv hv'
  go_enter Tryz.func56, Tryz.ntmps56
  go_wp2_with (first | (go_at_call 101; refine HC.out.mono ?_; rintro e w2 ⟨rfl, hg2⟩))
  go_ret
  exact ⟨rfl, hg2⟩
end Go.Proofs.YtpdccbeeoapplaaGreatDoor

namespace Go.Proofs.YtpdccbeeoapplaaGreatDoor
open Go.RowKit
theorem cloneT_any (p : Option Addr) (cap : Nat) (ts : List ByteArray) (w : World) (h : TxtAt w p ts) (hs : ts.length * 16 ≤ 140737488355328) :
    Calls Tryz.prog 206 #[.slice p ts.length cap] w fun e w' => ∃ v, e = .returned v ∧ OwnT w.heap.size w' v ts ∧ Below w.heap.size w w' := by
  rcases h with rfl | ⟨b, off, rfl, hc⟩
  · cases p with
    | none =>
      refine (Tryz.slices_Clone_string_nil 0 cap w).mono ?_
      rintro e w' ⟨rfl, rfl⟩
      exact ⟨_, rfl, World.ownsRow_nil _ _ _ _, Below.refl _ _⟩
    | some a =>
      refine (Tryz.slices_Clone_string_zero a cap w).mono ?_
      rintro e w' ⟨v, rfl, ho, _, hb⟩
      exact ⟨_, rfl, ho, hb⟩
  · refine (Tryz.slices_Clone_string b off ts.length cap ts w (Nat.le_refl _) hs (fun j hj => ?_)).mono ?_
    · rw [hc j hj, List.getD_eq_getElem?_getD, List.getElem?_eq_getElem hj]; rfl
    · rintro e w' ⟨v, rfl, ho, _, hb⟩
      rw [List.take_length] at ho
      exact ⟨_, rfl, ho, hb⟩
end Go.Proofs.YtpdccbeeoapplaaGreatDoor

namespace Go.Proofs.YtpdccbeeoapplaaGreatDoor
open Go.RowKit Go.Sort Go.Lib
def joinStep (o : List Fld) (f : Fld) : List Fld :=
  match o.getLast? with
  | some l => if l.1 = f.1 then o.dropLast ++ [(l.1, l.2 ++ f.2)] else o ++ [f]
  | none => [f]
def joinS (fs : List Fld) : List Fld := fs.foldl joinStep []
def totF (fs : List Fld) : Nat := (fs.map fun f => f.2.length).sum
theorem joinStep_nil (f : Fld) : joinStep [] f = [f] := rfl
theorem joinStep_same (o : List Fld) (l f : Fld) (h : l.1 = f.1) : joinStep (o ++ [l]) f = o ++ [(l.1, l.2 ++ f.2)] := by
  simp [joinStep, h]
theorem joinStep_other (o : List Fld) (l f : Fld) (h : l.1 ≠ f.1) : joinStep (o ++ [l]) f = o ++ [l] ++ [f] := by
  simp [joinStep, h]
theorem joinS_snoc (fs : List Fld) (f : Fld) : joinS (fs ++ [f]) = joinStep (joinS fs) f := by simp [joinS]
theorem totF_append (a b : List Fld) : totF (a ++ b) = totF a + totF b := by simp [totF]
theorem totF_one (f : Fld) : totF [f] = f.2.length := by simp [totF]
theorem totF_step (o : List Fld) (f : Fld) : totF (joinStep o f) = totF o + f.2.length := by
  rcases List.eq_nil_or_concat o with rfl | ⟨o', l, rfl⟩
  · rw [joinStep_nil, totF_one]; simp [totF]
  · rw [List.concat_eq_append]
    by_cases h : l.1 = f.1
    · rw [joinStep_same _ _ _ h, totF_append, totF_append, totF_one, totF_one, List.length_append]; omega
    · rw [joinStep_other _ _ _ h, totF_append, totF_one]
theorem totF_joinS (fs : List Fld) : totF (joinS fs) = totF fs := by
  have : ∀ (l o : List Fld), totF (l.foldl joinStep o) = totF o + totF l := by
    intro l
    induction l with
    | nil => intro o; simp [totF]
    | cons f l ih =>
      intro o
      rw [List.foldl_cons, ih, totF_step]
      have : totF (f :: l) = f.2.length + totF l := by simp [totF]
      omega
  have h := this fs []
  simpa [joinS, totF] using h
theorem joinStep_len (o : List Fld) (f : Fld) : (joinStep o f).length ≤ o.length + 1 := by
  rcases List.eq_nil_or_concat o with rfl | ⟨o', l, rfl⟩
  · simp [joinStep_nil]
  · rw [List.concat_eq_append]
    by_cases h : l.1 = f.1
    · rw [joinStep_same _ _ _ h]; simp
    · rw [joinStep_other _ _ _ h]; simp
theorem joinS_len (fs : List Fld) : (joinS fs).length ≤ fs.length := by
  have : ∀ (l o : List Fld), (l.foldl joinStep o).length ≤ o.length + l.length := by
    intro l
    induction l with
    | nil => intro o; simp
    | cons f l ih =>
      intro o
      rw [List.foldl_cons, List.length_cons]
      have h1 := ih (joinStep o f)
      have h2 := joinStep_len o f
      omega
  have h := this fs []
  simpa [joinS] using h
theorem totF_mem {fs : List Fld} {f : Fld} (h : f ∈ fs) : f.2.length ≤ totF fs := by
  obtain ⟨a, b, rfl⟩ := List.append_of_mem h
  have : totF (a ++ f :: b) = totF a + (f.2.length + totF b) := by simp [totF]
  omega
def Apart (o : List Fx) : Prop := o.Pairwise fun x y => x.sl.ownBlock = none ∨ x.sl.ownBlock ≠ y.sl.ownBlock
def OwnJ (N : Nat) (w : World) (v : Value) (o : List Fx) : Prop := OwnXs N w v o ∧ Apart o
theorem OwnJ.on {N : Nat} {w w' : World} {v : Value} {o : List Fx} (h : OwnJ N w v o) (hb : Below w.heap.size w w') : OwnJ N w' v o := ⟨h.1.on hb, h.2⟩
theorem apart_snoc {o : List Fx} {x : Fx} (h : Apart o) (hx : ∀ y ∈ o, y.sl.ownBlock = none ∨ y.sl.ownBlock ≠ x.sl.ownBlock) : Apart (o ++ [x]) := by
  unfold Apart
  rw [List.pairwise_append]
  exact ⟨h, List.pairwise_singleton _ _, fun a ha b hb => by rw [List.mem_singleton] at hb; subst hb; exact hx a ha⟩
theorem apart_init {o : List Fx} {x : Fx} (h : Apart (o ++ [x])) : Apart o ∧ ∀ y ∈ o, y.sl.ownBlock = none ∨ y.sl.ownBlock ≠ x.sl.ownBlock := by
  unfold Apart at h
  rw [List.pairwise_append] at h
  exact ⟨h.1, fun y hy => h.2.2 y hy x (by simp)⟩
theorem own_type {w : World} {n0 : Nat} {e : TypeId} {size : Nat} {v : Value} {n : Nat} {xs : List Value} {k : Nat} (h : w.ownsRow n0 e size v n xs) (hk : v.ownBlock = some k) : ∃ cs, w.heap[k]? = some (.cells cs e (0, 0)) := by
  rcases h.2 with ⟨rfl, _⟩ | ⟨g, cap, cur, rfl, _, hg, _⟩
  · cases hk
  · have : g = k := by simpa [Value.ownBlock] using hk
    subst this
    exact ⟨cur, hg⟩
theorem own_else {w w' : World} {n0 m0 : Nat} {e e' : TypeId} {size size' : Nat} {v u : Value} {n m : Nat} {xs ys : List Value} (h : w.ownsRow n0 e size v n xs) (hu : w.ownsRow m0 e' size' u m ys) (hne : e ≠ e') (hg : w.grownBy w' u.ownBlock) : w'.ownsRow n0 e size v n xs := by
  refine h.kept hg ?_
  rcases hv : v.ownBlock with _ | k
  · exact Or.inl rfl
  · right
    intro e2
    obtain ⟨cs, h1⟩ := own_type h hv
    obtain ⟨cs', h2⟩ := own_type hu e2.symm
    rw [h1] at h2
    injection h2 with h2
    injection h2 with _ h2
    exact hne h2
theorem joined_grown {N : Nat} {w w4 : World} {o : List Fx} {x : Fx} {ts : List ByteArray} {g cap go cp : Nat} (h : OwnJ N w (.slice (some ⟨go, 0, none⟩) (o.length + 1) cp) (o ++ [x]))
    (hown : w4.ownsRow N 9 1 (.slice (some ⟨g, 0, none⟩) (x.txt.length + ts.length) cap) (x.txt.length + ts.length) (x.txt.map Value.string ++ ts.map Value.string))
    (hg : w.grownBy w4 x.sl.ownBlock) (hat : x.sl.ownBlock = some g ∨ g = w.heap.size) :
    w4.cell? ⟨go, o.length * 2 + 1, none⟩ = some x.sl ∧ w4.frozen? ⟨go, o.length * 2 + 1, none⟩ = false ∧
      OwnJ N (w4.setCell ⟨go, o.length * 2 + 1, none⟩ (.slice (some ⟨g, 0, none⟩) (x.txt.length + ts.length) cap)) (.slice (some ⟨go, 0, none⟩) (o.length + 1) cp) (o ++ [⟨x.name, some ⟨g, 0, none⟩, cap, x.txt ++ ts⟩]) := by
  obtain ⟨⟨hrow, htx⟩, hap⟩ := h
  obtain ⟨hap1, hap2⟩ := apart_init hap
  have hx := htx x (by simp)
  have hrow4 : w4.ownsRow N 47 2 (.slice (some ⟨go, 0, none⟩) (o.length + 1) cp) (o ++ [x]).length (cellsX (o ++ [x])) := own_else hrow hx (by decide) hg
  have hlen : (o ++ [x]).length = o.length + 1 := by simp
  rw [hlen] at hrow4
  have hget := cellsX_get (o ++ [x]) o.length (by simp)
  simp only [List.getElem_concat_length] at hget
  have c1 : w4.cell? ⟨go, o.length * 2 + 1, none⟩ = some x.sl := by rw [hrow4.cellAt _ (by omega)]; exact hget.2
  refine ⟨c1, hrow4.frozenAt _, ⟨?_, ?_⟩, ?_⟩
  · have hst := hrow4.stored (o.length * 2 + 1) (.slice (some ⟨g, 0, none⟩) (x.txt.length + ts.length) cap)
    have e1 : (cellsX (o ++ [x])).set (o.length * 2 + 1) (.slice (some ⟨g, 0, none⟩) (x.txt.length + ts.length) cap) = cellsX (o ++ [⟨x.name, some ⟨g, 0, none⟩, cap, x.txt ++ ts⟩]) := by
      rw [cellsX_append, cellsX_append, List.set_append_right _ _ (by rw [cellsX_len]; omega), cellsX_len]
      simp [cellsX, encX, Fx.sl]
    rw [e1] at hst
    rw [List.length_append]
    exact hst.1
  · intro y hy
    have hset : w4.grownBy (w4.setCell ⟨go, o.length * 2 + 1, none⟩ (.slice (some ⟨g, 0, none⟩) (x.txt.length + ts.length) cap)) (Value.slice (some ⟨go, 0, none⟩) (o.length + 1) cp).ownBlock := grown_set w4 go _ _
    rw [List.mem_append, List.mem_singleton] at hy
    rcases hy with hy | rfl
    · have hy0 := htx y (by simp [hy])
      have hy4 : w4.ownsRow N 9 1 y.sl y.txt.length (y.txt.map Value.string) := hy0.kept hg (hap2 y hy)
      exact own_else hy4 hrow4 (by decide) hset
    · have : w4.ownsRow N 9 1 (.slice (some ⟨g, 0, none⟩) (x.txt.length + ts.length) cap) (x.txt ++ ts).length ((x.txt ++ ts).map Value.string) := by
        rw [List.length_append, List.map_append]; exact hown
      show World.ownsRow _ N 9 1 (.slice (some ⟨g, 0, none⟩) (x.txt ++ ts).length cap) (x.txt ++ ts).length ((x.txt ++ ts).map Value.string)
      rw [List.length_append] at this ⊢
      exact own_else this hrow4 (by decide) hset
  · refine apart_snoc hap1 fun y hy => ?_
    have hy0 := htx y (by simp [hy])
    show y.sl.ownBlock = none ∨ y.sl.ownBlock ≠ some g
    rcases hat with hat | hat
    · rw [← hat]; exact hap2 y hy
    · rcases hb : y.sl.ownBlock with _ | k
      · exact Or.inl rfl
      · right
        have := (World.ownsRow.lt hy0 k hb).2
        intro e
        simp at e; omega
end Go.Proofs.YtpdccbeeoapplaaGreatDoor

namespace Go.Proofs.YtpdccbeeoapplaaGreatDoor
open Go.RowKit Go.Sort Go.Lib
theorem xs_cells {w : World} {b off : Nat} {d : List Fx} (h : XsAt w b off d) : ∀ j u, (cellsX d)[j]? = some u → w.cell? ⟨b, off + j, none⟩ = some u := by
  intro j u hj
  have hjl := (List.getElem?_eq_some_iff.1 hj).1
  rw [cellsX_len] at hjl
  obtain ⟨c0, c1⟩ := h (j / 2) (by omega)
  obtain ⟨g0, g1⟩ := cellsX_get d (j / 2) (by omega)
  rcases Nat.mod_two_eq_zero_or_one j with h2 | h2
  · have e : j / 2 * 2 = j := by omega
    rw [e] at c0 g0
    rw [g0] at hj
    rw [c0]; exact hj
  · have e : j / 2 * 2 + 1 = j := by omega
    rw [show off + j / 2 * 2 + 1 = off + j by omega] at c1
    rw [e] at g1
    rw [g1] at hj
    rw [c1]; exact hj
set_option maxHeartbeats 2000000 in
set_option maxRecDepth 100000 in
theorem cloneX_any (v : Value) (d : List Fx) (w : World) (hv : IsXs w v d) (hs : d.length * 40 ≤ 140737488355328) :
    Calls Tryz.prog 203 #[v] w fun e w' => ∃ u, e = .returned u ∧ w'.ownsRow w.heap.size 47 2 u d.length (cellsX d) ∧ Below w.heap.size w w' := by
  obtain ⟨i0, hi, hz0, hz1, hz2⟩ := info_parts Tryz.infoFld
  obtain ⟨p, cap, rfl, hd, _⟩ := hv
  have q22 : ∀ (w : World) (a : Option Addr) (n c n' c' : Nat), (binOp .eql 36 (.slice a n c) (.slice none n' c')).run Tryz.prog w = .ok (.bool a.isNone) w := fun w a n c n' c' => Lib.run_eql_slice_nil w _ _ a n c n' c' Tryz.underlying36
  have HD := hid hd
  clear hd
  cases p with
  | none =>
    have h0 : d = [] := by
      rcases HD.out with h | ⟨b, off, h, _⟩
      · exact h
      · cases h
    subst h0
    go_enter Tryz.func203, Tryz.ntmps203
    go_wp2_with fail
    go_ret
    exact ⟨_, rfl, World.ownsRow_nil _ _ _ _, Below.refl _ _⟩
  | some a =>
    have hcells : ∀ j u, (cellsX d)[j]? = some u → (w.alloc (.cells #[] 47)).cell? (a.add j) = some u := by
      rcases HD.out with h | ⟨b, off, h, hx⟩
      · subst h; intro j u hj; simp [cellsX] at hj
      · intro j u hj
        obtain rfl : a = ⟨b, off, none⟩ := by simpa using h
        rw [addr_add]
        have := xs_cells hx j u hj
        rw [World.cell?_alloc_lt _ _ ⟨b, off + j, none⟩ (cell_block this)]; exact this
    have HC := hid hcells
    clear hcells
    go_enter Tryz.func203, Tryz.ntmps203
    go_wp2_with (at_builtin; refine wpList_append_own _ rfl _ _ 36 rfl w.heap.size 47 i0 (.agg #[.string ⟨#[]⟩, .slice none 0 0]) 2 40 Tryz.underlying36 hi hz0 hz1 hz2 rfl (by decide) _ _ _ rfl (World.ownsRow_made w #[] 0 (Nat.le_refl _) (Nat.zero_le _) (by simp)) a d.length cap (cellsX d) rfl ?c0 ?c1 ?c2 ?c3 ?c4 ?c5 ?_)
    case c0 => exact cellsX_len d
    case c1 => exact HC.out
    case c2 => exact cellsX_one d
    case c3 => unfold maxLen; omega
    case c4 => omega
    case c5 => simp
    intro v' w1 hown hgrow hnil
    have hb1 : Below w.heap.size w w1 := ((Below.refl _ w).alloc (Nat.le_refl _) _).grown hgrow (by simp) (by intro k hk; simp [Value.ownBlock] at hk; omega)
    have HO : Hid (w1.ownsRow w.heap.size 47 2 v' d.length (cellsX d)) := hid (by simpa using hown)
    clear hown hgrow hnil
    go_wp2_with fail
    go_ret
    exact ⟨_, rfl, HO.out, hb1⟩
theorem flat_get (l : List Fx) (t : Nat) (h : t < l.length * 2) : (l.flatMap encX)[t]? = some (encX (l[t / 2]!))[t % 2]! := by
  induction l generalizing t with
  | nil => simp at h
  | cons x l ih =>
    rw [List.flatMap_cons]
    by_cases h2 : t < 2
    · rcases (show t = 0 ∨ t = 1 by omega) with rfl | rfl <;> simp [encX]
    · obtain ⟨u, rfl⟩ : ∃ u, t = u + 2 := ⟨t - 2, by omega⟩
      have hl : (encX x).length = 2 := rfl
      rw [List.getElem?_append_right (by omega), hl, show u + 2 - 2 = u by omega, ih u (by simp at h; omega), show (u + 2) / 2 = u / 2 + 1 by omega, show (u + 2) % 2 = u % 2 by omega]
      simp
theorem holds_of_heap {w : World} {g : Nat} {cur : Array Value} {e : TypeId} (d : Array Fx) (hheap : w.heap[g]? = some (.cells cur e (0, 0))) (htake : cur.toList.take (d.size * 2) = cellsX d.toList) : HoldsK encX 2 w g 0 d := by
  intro j hj
  rw [size_flatK] at hj
  have hg := flat_get d.toList j (by simpa using hj)
  have h1 : (cur.toList.take (d.size * 2))[j]? = some (encX (d.toList[j / 2]!))[j % 2]! := by rw [htake]; exact hg
  rw [List.getElem?_take_of_lt hj] at h1
  rw [get_flatK _ _ _ _ hj]
  constructor
  · simp only [World.cell?, hheap, Nat.zero_add]
    have he : d.toList[j / 2]! = d[j / 2]! := by
      rw [getElem!_pos d (j / 2) (by omega), getElem!_pos d.toList (j / 2) (by simp; omega)]; simp
    rw [← Array.getElem?_toList, h1, he]
    rfl
  · simp [World.frozen?, hheap]
theorem below_sortWorld {B : Nat} {w0 w : World} (h : Below B w0 w) (hB : B ≤ w.heap.size) (blk off n : Nat) (d : Array Fx) (os : Array Obj) (hb : B ≤ blk) : Below B w0 (sortWorldK encX 2 w blk off n d os) := by
  refine h.trans ⟨rfl, rfl, rfl, ?_, ?_⟩
  · simp [sortWorldK, putRowK]
  · intro k hk
    have hks : k < w.heap.size := by omega
    simp only [sortWorldK, Sort.grow, putRowK, putRow, mapBlock, Sort.ahead]
    rw [Array.getElem?_append_left (by simpa using hks), Array.getElem?_modify, if_neg (by omega)]
theorem sorted_xs {w w' : World} {g : Nat} {d : Array Fx} (hH : HoldsK encX 2 w g 0 d) (hg : g < w.heap.size) (h : Sorts w g 0 d w') : ∃ d' : List Fx, d'.length = d.size ∧ XsAt w' g 0 d' ∧ d'.Perm d.toList ∧ (d'.Pairwise fun x y => ltOf cmpF y x = false) ∧ (∀ c, d'.filter (fun x => decide (x.name = c)) = d.toList.filter fun x => decide (x.name = c)) := by
  obtain ⟨e, n, os, hp, hs, hst, rfl⟩ := h
  have hsz : e.size = d.size := hp.1
  have hH2 : HoldsK encX 2 (sortWorldK encX 2 w g 0 n e os) g 0 e := by
    exact holdsK_grow encX 2 _ os g 0 _ (by simpa [putRowK] using hg) (holdsK_putRowK encX 2 (Sort.ahead w n) g 0 _ _ (holdsK_ahead encX 2 w n g 0 _ hH) hsz)
  refine ⟨e.toList, by simpa using hsz, fun i hi => ?_, ?_, ?_, hst⟩
  · have hi' : i < e.size := by simpa using hi
    have k0 := (hH2.cell (i := i) (c := 0) hi' (by simp)).1
    have k1 := (hH2.cell (i := i) (c := 1) hi' (by simp)).1
    have he : e[i]! = e.toList[i] := by rw [getElem!_pos e i hi']; simp
    rw [he] at k0 k1
    exact ⟨by simpa [encX] using k0, by simpa [encX, Nat.add_assoc] using k1⟩
  · have := hp.2.2
    have e1 : e.extract 0 d.size = e := by rw [← hsz]; simp
    have e2 : d.extract 0 d.size = d := by simp
    rw [e1, e2] at this
    exact this
  · rw [List.pairwise_iff_getElem]
    intro i j hi hj hij
    have hi' : i < e.size := by simpa using hi
    have hj' : j < e.size := by simpa using hj
    have := hs i j (Nat.zero_le _) hij (by omega)
    rw [getElem!_pos e i hi', getElem!_pos e j hj'] at this
    simpa using this
end Go.Proofs.YtpdccbeeoapplaaGreatDoor

namespace Go.Proofs.YtpdccbeeoapplaaGreatDoor
open Go.Sort
set_option linter.unusedSectionVars false
variable {α : Type} [Inhabited α] {κ : Type} [DecidableEq κ]
def Way (K : α → κ) (d dk : Array α) : Prop := PermIn 0 d.size d dk ∧ Stab K d dk
theorem Way.refl (K : α → κ) (d : Array α) : Way K d d := ⟨permIn_refl _ _ _, Stab.refl K d⟩
theorem Way.size {K : α → κ} {d dk : Array α} (h : Way K d dk) : dk.size = d.size := h.1.1
theorem Way.step {K : α → κ} {d dk dl : Array α} {a b : Nat} (h : Way K d dk) (p : PermIn a b dk dl) (hb : b ≤ d.size) (s : Stab K dk dl) : Way K d dl := by
  have e : dk.size = d.size := h.1.1
  exact ⟨permIn_trans _ _ _ _ _ h.1 (permIn_mono _ _ _ _ _ _ (Nat.zero_le _) hb (Nat.le_of_eq e.symm) p), h.2.trans s⟩
def SegTo (lt : α → α → Bool) (c q : Nat) (d : Array α) : Prop := ∀ t, t < q → SortedIn lt (t * c) (t * c + c) d
def SegFrom (lt : α → α → Bool) (c a n : Nat) (d : Array α) : Prop := ∀ t, SortedIn lt (a + t * c) (min (a + t * c + c) n) d
theorem sorted_out {lt : α → α → Bool} {a b x y : Nat} {d d' : Array α} (p : PermIn a b d d') (h : SortedIn lt x y d) (hd : y ≤ a ∨ b ≤ x) : SortedIn lt x y d' := fun i j h1 h2 h3 => by
  rw [p.2.1 i (by omega), p.2.1 j (by omega)]
  exact h i j h1 h2 h3
theorem sorted_mono {lt : α → α → Bool} {a b x y : Nat} {d : Array α} (h : SortedIn lt a b d) (h1 : a ≤ x) (h2 : y ≤ b) : SortedIn lt x y d := fun i j k1 k2 k3 => h i j (by omega) k2 (by omega)
theorem segTo_zero (lt : α → α → Bool) (c : Nat) (d : Array α) : SegTo lt c 0 d := fun _ ht => absurd ht (Nat.not_lt_zero _)
theorem blk_le {t q : Nat} (c : Nat) (h : t < q) : t * c + c ≤ q * c := by
  have := Nat.mul_le_mul_right c (show t + 1 ≤ q from h)
  rwa [Nat.add_mul, Nat.one_mul] at this
theorem SegTo.step {lt : α → α → Bool} {c q : Nat} {d d' : Array α} (h : SegTo lt c q d) (p : PermIn (q * c) (q * c + c) d d') (s : SortedIn lt (q * c) (q * c + c) d') : SegTo lt c (q + 1) d' := fun t ht => by
  by_cases e : t < q
  · exact sorted_out p (h t e) (Or.inl (blk_le c e))
  · obtain rfl : t = q := by omega
    exact s
theorem SegTo.last {lt : α → α → Bool} {c q n : Nat} {d d' : Array α} (h : SegTo lt c q d) (hn : n < q * c + c) (p : PermIn (q * c) n d d') (s : SortedIn lt (q * c) n d') : SegFrom lt c 0 n d' := fun t => by
  rw [Nat.zero_add]
  rcases Nat.lt_trichotomy t q with e | e | e
  · exact sorted_mono (sorted_out p (h t e) (Or.inl (blk_le c e))) (Nat.le_refl _) (by omega)
  · subst e
    exact sorted_mono s (Nat.le_refl _) (by omega)
  · have := blk_le c e
    intro i j h1 h2 h3
    omega
theorem SegFrom.first {lt : α → α → Bool} {c a n : Nat} {d : Array α} (h : SegFrom lt c a n d) (hn : a + c ≤ n) : SortedIn lt a (a + c) d := by
  have := h 0
  rw [Nat.zero_mul, Nat.add_zero, Nat.min_eq_left hn] at this
  exact this
theorem SegFrom.second {lt : α → α → Bool} {c a n e : Nat} {d : Array α} (h : SegFrom lt c a n d) (h1 : e ≤ a + c + c) (h2 : e ≤ n) : SortedIn lt (a + c) e d := by
  have := h 1
  rw [Nat.one_mul] at this
  exact sorted_mono this (Nat.le_refl _) (by omega)
theorem SegFrom.short {lt : α → α → Bool} {c a n : Nat} {d : Array α} (h : SegFrom lt c a n d) (hn : n ≤ a + c) : SortedIn lt a n d := by
  have := h 0
  rw [Nat.zero_mul, Nat.add_zero, Nat.min_eq_right hn] at this
  exact this
theorem SegFrom.step {lt : α → α → Bool} {c a n : Nat} {d d' : Array α} (h : SegFrom lt c a n d) (p : PermIn a (a + 2 * c) d d') : SegFrom lt c (a + 2 * c) n d' := fun t => by
  have := h (t + 2)
  have e : a + (t + 2) * c = a + 2 * c + t * c := by rw [Nat.add_mul]; omega
  rw [e] at this
  exact sorted_out p this (Or.inr (by omega))
theorem merge_cut {lt : α → α → Bool} {K : α → κ} (hS : SWO lt) (hK : ∀ x y, lt x y = true → K x ≠ K y) {a s m e b mid : Nat} {d d1 : Array α} (h : Rot s m e d d1) (has : a ≤ s) (hsm : s ≤ m) (hme : m ≤ e) (heb : e ≤ b) (hb : b ≤ d.size) (hmid : s + (e - m) = mid)
    (hL : SortedIn lt a m d) (hR : SortedIn lt m b d) (hlow : a < s → e < b → lt d[e]! d[s - 1]! = false) (hhigh : s < m → m < e → lt d[e - 1]! d[s]! = true) :
    SortedIn lt a s d1 ∧ SortedIn lt s mid d1 ∧ (¬ (a < s ∧ s < mid) → Mrg lt K a mid d1 d1) ∧
      (∀ d2, Mrg lt K a mid d1 d2 → SortedIn lt mid e d2 ∧ SortedIn lt e b d2 ∧ (¬ (mid < e ∧ e < b) → Mrg lt K mid b d2 d2) ∧ ∀ d3, Mrg lt K mid b d2 d3 → Mrg lt K a b d d3) := by
  subst hmid
  obtain ⟨_, _, s1, s2, s3, s4, _⟩ := h.merge (K := K) hS hK has hsm hme heb hb hL hR hlow hhigh
  refine ⟨s1, s2, fun hn => Mrg.none ?_, fun d2 m2 => ?_⟩
  · by_cases e1 : a < s
    · rw [show s + (e - m) = s by omega]; exact s1
    · rw [show a = s by omega]; exact s2
  · have t3 := sorted_out m2.1 s3 (Or.inr (Nat.le_refl _))
    have t4 := sorted_out m2.1 s4 (Or.inr (by omega))
    refine ⟨t3, t4, fun hn => Mrg.none ?_, fun d3 m3 => Mrg.of_rot hS hK h has hsm hme heb hb hL hR hlow hhigh m2 m3⟩
    by_cases e1 : s + (e - m) < e
    · rw [show b = e by omega]; exact t3
    · rw [show s + (e - m) = e by omega]; exact t4
end Go.Proofs.YtpdccbeeoapplaaGreatDoor

namespace Go.Proofs.YtpdccbeeoapplaaGreatDoor
open Go.RowKit Go.Sort Go.Lib Go.Shelf
def Swapd (a b n : Nat) (d dk : Array Fx) : Prop :=
  dk.size = d.size ∧ (∀ t, t < n → dk[a + t]! = d[b + t]!) ∧ (∀ t, t < n → dk[b + t]! = d[a + t]!) ∧ ∀ i, (i < a ∨ a + n ≤ i) → (i < b ∨ b + n ≤ i) → dk[i]! = d[i]!
theorem Swapd.zero (a b : Nat) (d : Array Fx) : Swapd a b 0 d d := ⟨rfl, fun t ht => by omega, fun t ht => by omega, fun _ _ _ => rfl⟩
theorem Swapd.step {a b n : Nat} {d dk : Array Fx} (h : Swapd a b n d dk) (hab : a + n < b) (hb : b + n < d.size) : Swapd a b (n + 1) d (swp dk (a + n) (b + n)) := by
  obtain ⟨h1, h2, h3, h4⟩ := h
  refine ⟨by rw [size_swp, h1], fun t ht => ?_, fun t ht => ?_, fun i hi hj => ?_⟩
  · by_cases e : t = n
    · subst e
      rw [swp_left _ _ _ (by omega) (by omega)]
      exact h4 _ (by omega) (by omega)
    · rw [swp_other _ _ _ _ (by omega) (by omega)]; exact h2 t (by omega)
  · by_cases e : t = n
    · subst e
      rw [swp_right _ _ _ (by omega)]
      exact h4 _ (by omega) (by omega)
    · rw [swp_other _ _ _ _ (by omega) (by omega)]; exact h3 t (by omega)
  · rw [swp_other _ _ _ _ (by omega) (by omega)]
    exact h4 _ (by omega) (by omega)
theorem swk_cells {w0 W : World} {blk off : Nat} {d0 dk : Array Fx} (h : SWK encX 2 w0 blk off dk W) (R : RowK encX 2 w0 blk off d0) (hs : dk.size = d0.size) (i : Nat) (hi : i < dk.size) :
    W.cell? ⟨blk, off + i * 2, none⟩ = some (.string dk[i]!.name) ∧ W.frozen? ⟨blk, off + i * 2, none⟩ = false ∧ W.cell? ⟨blk, off + i * 2 + 1, none⟩ = some dk[i]!.sl ∧ W.frozen? ⟨blk, off + i * 2 + 1, none⟩ = false := by
  have H := h.holds R.hblk R.hH hs
  have e0 := H (i * 2) (by rw [size_flatK]; omega)
  have e1 := H (i * 2 + 1) (by rw [size_flatK]; omega)
  rw [get_flatK _ _ _ _ (by omega)] at e0 e1
  rw [show i * 2 / 2 = i by omega, show i * 2 % 2 = 0 by omega] at e0
  rw [show (i * 2 + 1) / 2 = i by omega, show (i * 2 + 1) % 2 = 1 by omega] at e1
  exact ⟨e0.1, e0.2, e1.1, e1.2⟩
theorem swk_swapped {w0 W : World} {blk off : Nat} {d0 dk : Array Fx} (h : SWK encX 2 w0 blk off dk W) (R : RowK encX 2 w0 blk off d0) (i j : Nat) (hi : i < dk.size) (hj : j < dk.size) :
    SWK encX 2 w0 blk off (swp dk i j) ((((W.drew.setCell ⟨blk, off + i * 2, none⟩ (.string dk[j]!.name)).setCell ⟨blk, off + i * 2 + 1, none⟩ dk[j]!.sl).setCell ⟨blk, off + j * 2, none⟩ (.string dk[i]!.name)).setCell ⟨blk, off + j * 2 + 1, none⟩ dk[i]!.sl) :=
  h.swapped R i j hi hj
set_option maxHeartbeats 4000000 in
set_option maxRecDepth 1000000 in
theorem swapR_any (blk off cap a b n : Nat) (fv : Value) (d0 d : Array Fx) (w0 w : World) (R : RowK encX 2 w0 blk off d0) (hs : d0.size = d.size) (S : SWK encX 2 w0 blk off d w) (hab : a + n ≤ b) (hb : b + n ≤ d.size) (hsz : d.size < 2305843009213693952) :
    Calls Tryz.prog 245 #[.slice (some ⟨blk, off, none⟩) d.size cap, .int .i64 a, .int .i64 b, .int .i64 n, fv] w fun e w' =>
      e = .returned (.tuple #[]) ∧ ∃ dk, SWK encX 2 w0 blk off dk w' ∧ Swapd a b n d dk := by
  have mixed := Tryz.mixed
  have S0 : Aside (SWK encX 2 w0 blk off d w) := S
  have RR : Aside (RowK encX 2 w0 blk off d0) := R
  clear S R
  go_enter Tryz.func245, Tryz.ntmps245
  go_wp2_with fail
  go_loopg [10] n (fun kx s8 wr => ∃ (i : Nat) (dk : Array Fx), s8 = .int .i64 i ∧ i ≤ n ∧ n - i ≤ kx ∧ Aside (Swapd a b i d dk) ∧ Aside (SWK encX 2 w0 blk off dk wr))
  case atStart => exact ⟨0, d, rfl, by omega, by omega, Swapd.zero a b d, S0⟩
  case round =>
    clear S0
    obtain ⟨i, dk, rfl, hi, hkx, HS, S1⟩ := hrel
    by_cases hlt : i < n
    · have hltz : (i : Int) < (n : Int) := by omega
      have hds : dk.size = d.size := HS.out.1
      go_wp2_with fail
      have ea44 : ((a : Int) + (i : Int)).toNat = a + i := by omega
      have pa44 : (0 : Int) ≤ (a : Int) + (i : Int) := by omega
      have ba44 : (a : Int) + (i : Int) < (d.size : Int) := by omega
      have ra44 : IntKind.i64.wrap ((a : Int) + (i : Int)) = (a : Int) + (i : Int) := by rw [IntKind.wrap_i64]; omega
      have ec44 : ((b : Int) + (i : Int)).toNat = b + i := by omega
      have pc44 : (0 : Int) ≤ (b : Int) + (i : Int) := by omega
      have bc44 : (b : Int) + (i : Int) < (d.size : Int) := by omega
      have rc44 : IntKind.i64.wrap ((b : Int) + (i : Int)) = (b : Int) + (i : Int) := by rw [IntKind.wrap_i64]; omega
      obtain ⟨a0, a1, a2, a3⟩ := swk_cells S1.out RR.out (by omega) (a + i) (by omega)
      obtain ⟨b0, b1, b2, b3⟩ := swk_cells S1.out RR.out (by omega) (b + i) (by omega)
      have S2 : Aside _ := swk_swapped S1.out RR.out (a + i) (b + i) (by omega) (by omega)
      generalize dk[a + i]! = x at a0 a2 S2
      generalize dk[b + i]! = y at b0 b2 S2
      unfold Fx.sl at a2 b2 S2
      obtain ⟨p, hp⟩ : ∃ p, off + (a + i) * 2 = p := ⟨_, rfl⟩
      obtain ⟨q, hq⟩ : ∃ q, off + (b + i) * 2 = q := ⟨_, rfl⟩
      have n1 : ¬ p = q := by omega
      have n2 : ¬ q = p := by omega
      have n3 : ¬ p + 1 = q := by omega
      have n4 : ¬ q = p + 1 := by omega
      have n5 : ¬ p = q + 1 := by omega
      have n6 : ¬ q + 1 = p := by omega
      rw [hp] at a0 a1 a2 a3 S2
      rw [hq] at b0 b1 b2 b3 S2
      clear S1
      go_wp2_with fail
      go_big_region_o
      clear a0 a1 a2 a3 b0 b1 b2 b3
      go_wp2_with fail
      go_roundg (n - (i + 1))
      case measure => omega
      case rel => exact ⟨i + 1, swp dk (a + i) (b + i), by go_num, by omega, by omega, HS.out.step (by omega) (by omega), S2⟩
    · have hltz : ¬ (i : Int) < (n : Int) := by omega
      obtain rfl : i = n := by omega
      go_wp2_with fail
      go_end0
      exact ⟨rfl, dk, S1.out, HS.out⟩
set_option maxHeartbeats 4000000 in
set_option maxRecDepth 1000000 in
theorem rotate_any (blk off cap a m b : Nat) (fv : Value) (d0 d : Array Fx) (w0 w : World) (R : RowK encX 2 w0 blk off d0) (hs : d0.size = d.size) (S : SWK encX 2 w0 blk off d w) (ham : a < m) (hmb : m < b) (hb : b ≤ d.size) (hsz : d.size < 2305843009213693952) :
    Calls Tryz.prog 244 #[.slice (some ⟨blk, off, none⟩) d.size cap, .int .i64 a, .int .i64 m, .int .i64 b, fv] w fun e w' =>
      e = .returned (.tuple #[]) ∧ ∃ dk, SWK encX 2 w0 blk off dk w' ∧ Rot a m b d dk := by
  have S0 : Aside (SWK encX 2 w0 blk off d w) := S
  have RR : Aside (RowK encX 2 w0 blk off d0) := R
  clear S R
  have ei : IntKind.i64.wrap ((m : Int) - (a : Int)) = ((m - a : Nat) : Int) := by rw [IntKind.wrap_i64]; omega
  have ej : IntKind.i64.wrap ((b : Int) - (m : Int)) = ((b - m : Nat) : Int) := by rw [IntKind.wrap_i64]; omega
  go_enter Tryz.func244, Tryz.ntmps244
  go_wp2_with fail
  go_loopg [10, 11] (b - a) (fun kx vi vj wr => ∃ (i j : Nat) (dk : Array Fx), vi = .int .i64 i ∧ vj = .int .i64 j ∧ 0 < i ∧ 0 < j ∧ a + i ≤ m ∧ m + j ≤ b ∧ i + j ≤ kx ∧ dk.size = d.size ∧ Aside (∀ d', Rot (m - i) m (m + j) dk d' → Rot a m b d d') ∧ Aside (SWK encX 2 w0 blk off dk wr))
  case atStart => exact ⟨m - a, b - m, d, rfl, rfl, by omega, by omega, by omega, by omega, by omega, rfl, fun d' h => by rw [show m - (m - a) = a by omega, show m + (b - m) = b by omega] at h; exact h, S0⟩
  case round =>
    clear S0
    obtain ⟨i, j, dk, rfl, rfl, hi, hj, hai, hjb, hkx, hds, HR, S1⟩ := hrel
    have emi : IntKind.i64.wrap ((m : Int) - (i : Int)) = ((m - i : Nat) : Int) := by rw [IntKind.wrap_i64]; omega
    rcases Nat.lt_trichotomy i j with hij | hij | hij
    · have hc : ((i : Int) == (j : Int)) = false := beq_eq_false_iff_ne.2 (by omega)
      have hne : ¬ (i : Int) = (j : Int) := by omega
      have hg : ¬ (j : Int) < (i : Int) := by omega
      have e2 : IntKind.i64.wrap ((m : Int) + (j : Int)) = (m : Int) + (j : Int) := by rw [IntKind.wrap_i64]; omega
      have e3 : IntKind.i64.wrap ((m : Int) + (j : Int) - (i : Int)) = ((m + j - i : Nat) : Int) := by rw [IntKind.wrap_i64]; omega
      have e4 : IntKind.i64.wrap ((j : Int) - (i : Int)) = ((j - i : Nat) : Int) := by rw [IntKind.wrap_i64]; omega
      have hc := swapR_any blk off cap (m - i) (m + j - i) i fv d0 dk w0 wr RR.out (by omega) S1.out (by omega) (by omega) (by omega)
      rw [hds] at hc
      have HC := hid hc
      clear hc S1
      go_wp2_with (first | (go_at_call 245; refine HC.out.mono ?_; rintro e w1 ⟨rfl, dl, hsl, hsw⟩; have HSL : Aside _ := hsl; have HSW : Aside _ := hsw; clear hsl hsw))
      go_roundg j
      case measure => omega
      case rel =>
        refine ⟨i, j - i, dl, rfl, rfl, hi, by omega, hai, by omega, by omega, HSW.out.1.trans hds, fun d' h => HR.out d' ?_, HSL⟩
        obtain ⟨k1, k2, k3, k4⟩ := HSW.out
        refine Rot.right (i := i) (dk := dl) (by omega) (by omega) (by omega) (by omega) k1 k2 (fun t ht => ?_) (fun x h1 h2 => k4 x (by omega) (by omega)) (by rw [show m + j - i = m + (j - i) by omega]; exact h)
        exact k3 t ht
    · subst hij
      have hc := swapR_any blk off cap (m - i) m i fv d0 dk w0 wr RR.out (by omega) S1.out (by omega) (by omega) (by omega)
      rw [hds] at hc
      have HC := hid hc
      clear hc S1
      go_wp2_with (first | (go_at_call 245; refine HC.out.mono ?_; rintro e w1 ⟨rfl, dl, hsl, hsw⟩; have HSL : Aside _ := hsl; have HSW : Aside _ := hsw; clear hsl hsw))
      go_end0
      obtain ⟨k1, k2, k3, k4⟩ := HSW.out
      exact ⟨rfl, dl, HSL.out, HR.out dl (Rot.even (i := i) (by omega) (by omega) (by omega) (by omega) k1 k2 k3 k4)⟩
    · have hc0 : ((i : Int) == (j : Int)) = false := beq_eq_false_iff_ne.2 (by omega)
      have hne : ¬ (i : Int) = (j : Int) := by omega
      have hg : (j : Int) < (i : Int) := by omega
      have e4 : IntKind.i64.wrap ((i : Int) - (j : Int)) = ((i - j : Nat) : Int) := by rw [IntKind.wrap_i64]; omega
      have hc := swapR_any blk off cap (m - i) m j fv d0 dk w0 wr RR.out (by omega) S1.out (by omega) (by omega) (by omega)
      rw [hds] at hc
      have HC := hid hc
      clear hc S1
      go_wp2_with (first | (go_at_call 245; refine HC.out.mono ?_; rintro e w1 ⟨rfl, dl, hsl, hsw⟩; have HSL : Aside _ := hsl; have HSW : Aside _ := hsw; clear hsl hsw))
      go_roundg i
      case measure => omega
      case rel =>
        refine ⟨i - j, j, dl, rfl, rfl, by omega, hj, by omega, hjb, by omega, HSW.out.1.trans hds, fun d' h => HR.out d' ?_, HSL⟩
        obtain ⟨k1, k2, k3, k4⟩ := HSW.out
        exact Rot.left (j := j) (dk := dl) (by omega) (by omega) (by omega) (by omega) k1 k2 k3 (fun x h1 h2 => k4 x (by omega) (by omega)) (by rw [show m - i + j = m - (i - j) by omega]; exact h)
end Go.Proofs.YtpdccbeeoapplaaGreatDoor

namespace Go.Proofs.YtpdccbeeoapplaaGreatDoor
open Go.RowKit Go.Sort Go.Lib Go.Shelf
theorem swk_in {w0 W : World} {blk off : Nat} {d0 dk : Array Fx} (h : SWK encX 2 w0 blk off dk W) (R : RowK encX 2 w0 blk off d0) (hs : dk.size = d0.size) (i : Nat) (hi : i < dk.size) (n : Nat) (os : Array Obj) :
    (grow (W.drewN n) os).cell? ⟨blk, off + i * 2, none⟩ = some (.string dk[i]!.name) ∧ (grow (W.drewN n) os).cell? ⟨blk, off + i * 2 + 1, none⟩ = some (.slice dk[i]!.p dk[i]!.txt.length dk[i]!.cap) := by
  have := swk_cells (h.grown n os) R hs i hi
  exact ⟨this.1, this.2.2.1⟩
theorem cmp_in (x y : Fx) (W : World) (n : Nat) (os : Array Obj) :
    Calls Tryz.prog 205 #[.agg #[.string x.name, .slice x.p x.txt.length x.cap], .agg #[.string y.name, .slice y.p y.txt.length y.cap]] (grow (W.drewN n) os) fun e w' => e = .returned (.int .i64 (cmpF x y)) ∧ ∃ q os', w' = grow ((grow (W.drewN n) os).drewN q) os' := byName_any x y _
theorem ltF_true {x y : Fx} (h : ltOf cmpF x y = true) : cmpF x y < 0 := of_decide_eq_true h
theorem ltF_false {x y : Fx} (h : ltOf cmpF x y = false) : ¬ cmpF x y < 0 := of_decide_eq_false h
set_option maxHeartbeats 4000000 in
set_option maxRecDepth 1000000 in
theorem sym_left (blk off cap a m b : Nat) (d0 d : Array Fx) (w0 w : World) (R : RowK encX 2 w0 blk off d0) (hs : d0.size = d.size) (S : SWK encX 2 w0 blk off d w) (hm : m = a + 1) (hmb : m < b) (hb : b ≤ d.size) (hsz : d.size < 2305843009213693952) (hR : SortedIn (ltOf cmpF) m b d) :
    Calls Tryz.prog 242 #[.slice (some ⟨blk, off, none⟩) d.size cap, .int .i64 a, .int .i64 m, .int .i64 b, .func (.func 205) #[] #[]] w fun e w' =>
      e = .returned (.tuple #[]) ∧ ∃ dk, SWK encX 2 w0 blk off dk w' ∧ Mrg (ltOf cmpF) Fx.name a b d dk := by
  have mixed := Tryz.mixed
  have eg := enters_byName
  have S0 : Aside (SWK encX 2 w0 blk off d w) := S
  have RR : Aside (RowK encX 2 w0 blk off d0) := R
  have HR := hid hR
  have HM := hid hm
  have e0 : IntKind.i64.wrap ((m : Int) - (a : Int)) = 1 := by rw [IntKind.wrap_i64]; omega
  have ham : a < m := by omega
  clear S R hR hm
  go_enter Tryz.func242, Tryz.ntmps242
  go_wp2_with fail
  go_loopg [10, 11] (b - m) (fun kx vi vj wr => ∃ (i j : Nat), vi = .int .i64 i ∧ vj = .int .i64 j ∧ m ≤ i ∧ i ≤ j ∧ j ≤ b ∧ j - i ≤ kx ∧ Hid (m < i → ltOf cmpF d[i - 1]! d[a]! = true) ∧ Hid (j < b → ltOf cmpF d[j]! d[a]! = false) ∧ Aside (SWK encX 2 w0 blk off d wr))
  case atStart => exact ⟨m, b, rfl, rfl, by omega, by omega, by omega, by omega, fun h => absurd h (Nat.lt_irrefl _), fun h => absurd h (Nat.lt_irrefl _), S0⟩
  case round =>
    clear S0
    obtain ⟨i, j, rfl, rfl, hmi, hij, hjb, hkx, HLO, HHI, S1⟩ := hrel
    by_cases hlt : i < j
    · have hltz : (i : Int) < (j : Int) := by omega
      obtain ⟨h, hh⟩ : ∃ h, (i + j) / 2 = h := ⟨_, rfl⟩
      have hz : ((i : Int) + (j : Int)) / 2 = (h : Int) := by omega
      have h1 : i ≤ h := by omega
      have h2 : h < j := by omega
      clear hh
      go_wp2_with fail
      cases hL : ltOf cmpF d[h]! d[a]! with
      | true =>
        have ea : ((h : Int)).toNat = h := by omega
        have pa : (0 : Int) ≤ (h : Int) := by omega
        have ba : (h : Int) < (d.size : Int) := by omega
        have ec : ((a : Int)).toNat = a := by omega
        have pc : (0 : Int) ≤ (a : Int) := by omega
        have bc : (a : Int) < (d.size : Int) := by omega
        have la := swk_in S1.out RR.out (by omega) (h) (by omega)
        have lb := swk_in S1.out RR.out (by omega) (a) (by omega)
        have hv := ltF_true hL
        have HL := hid hL
        clear hL
        generalize d[h]! = x at la hv
        generalize d[a]! = y at lb hv
        have la0 := fun n os => (la n os).1
        have la1 := fun n os => (la n os).2
        have lb0 := fun n os => (lb n os).1
        have lb1 := fun n os => (lb n os).2
        clear la lb
        have hd : decide (cmpF x y < 0) = true := decide_eq_true hv
        have hc := cmp_in x y wr
        go_wp2_with fail
        go_quiet_grown (first | (go_at_fn 205; refine Calls.grown_of (hc _ _)))
        have S2 : Aside (SWK encX 2 w0 blk off d (grow (wr.drewN nq) osq)) := S1.out.grown nq osq
        clear la0 la1 lb0 lb1 hc S1
        generalize grow (wr.drewN nq) osq = w2 at S2 ⊢
        clear nq osq
        go_wp2_with fail
        go_roundg (j - (h + 1))
        case measure => omega
        case rel => exact ⟨h + 1, j, by go_num, rfl, by omega, by omega, hjb, by omega, fun _ => HL.out, HHI, S2⟩
      | false =>
        have ea : ((h : Int)).toNat = h := by omega
        have pa : (0 : Int) ≤ (h : Int) := by omega
        have ba : (h : Int) < (d.size : Int) := by omega
        have ec : ((a : Int)).toNat = a := by omega
        have pc : (0 : Int) ≤ (a : Int) := by omega
        have bc : (a : Int) < (d.size : Int) := by omega
        have la := swk_in S1.out RR.out (by omega) (h) (by omega)
        have lb := swk_in S1.out RR.out (by omega) (a) (by omega)
        have hv := ltF_false hL
        have HL := hid hL
        clear hL
        generalize d[h]! = x at la hv
        generalize d[a]! = y at lb hv
        have la0 := fun n os => (la n os).1
        have la1 := fun n os => (la n os).2
        have lb0 := fun n os => (lb n os).1
        have lb1 := fun n os => (lb n os).2
        clear la lb
        have hd : decide (cmpF x y < 0) = false := decide_eq_false hv
        have hc := cmp_in x y wr
        go_wp2_with fail
        go_quiet_grown (first | (go_at_fn 205; refine Calls.grown_of (hc _ _)))
        have S2 : Aside (SWK encX 2 w0 blk off d (grow (wr.drewN nq) osq)) := S1.out.grown nq osq
        clear la0 la1 lb0 lb1 hc S1
        generalize grow (wr.drewN nq) osq = w2 at S2 ⊢
        clear nq osq
        go_wp2_with fail
        go_roundg (h - i)
        case measure => omega
        case rel => exact ⟨i, h, rfl, rfl, hmi, h1, by omega, by omega, HLO, fun _ => HL.out, S2⟩
    · have hltz : ¬ (i : Int) < (j : Int) := by omega
      obtain rfl : i = j := by omega
      have e1 : IntKind.i64.wrap ((i : Int) - 1) = ((i - 1 : Nat) : Int) := by rw [IntKind.wrap_i64]; omega
      clear hij hkx hlt
      have SA := S1
      go_wp2_with fail
      go_loopg [13] (b - a) (fun kx vk wr => ∃ (k : Nat) (dk : Array Fx), vk = .int .i64 k ∧ a ≤ k ∧ k ≤ i - 1 ∧ i - 1 - k ≤ kx ∧ dk.size = d.size ∧ Aside (Rot a (a + 1) (k + 1) d dk) ∧ Aside (SWK encX 2 w0 blk off dk wr))
      case atStart => exact ⟨a, d, rfl, by omega, by omega, by omega, rfl, rot_none _ _ _, SA⟩
      case round =>
        clear SA S1
        obtain ⟨k, dk, rfl, hak, hki, hkx, hds, HT, S1⟩ := hrel
        by_cases hlt : k < i - 1
        · have hltz2 : (k : Int) < ((i - 1 : Nat) : Int) := by omega
          go_wp2_with fail
          have ea : ((k : Int)).toNat = k := by omega
          have pa : (0 : Int) ≤ (k : Int) := by omega
          have ba : (k : Int) < (d.size : Int) := by omega
          have ra : IntKind.i64.wrap ((k : Int)) = (k : Int) := by rw [IntKind.wrap_i64]; omega
          have ec : ((k : Int) + 1).toNat = k + 1 := by omega
          have pc : (0 : Int) ≤ (k : Int) + 1 := by omega
          have bc : (k : Int) + 1 < (d.size : Int) := by omega
          have rc : IntKind.i64.wrap ((k : Int) + 1) = (k : Int) + 1 := by rw [IntKind.wrap_i64]; omega
          obtain ⟨a0, a1, a2, a3⟩ := swk_cells S1.out RR.out (by omega) (k) (by omega)
          obtain ⟨b0, b1, b2, b3⟩ := swk_cells S1.out RR.out (by omega) (k + 1) (by omega)
          have S2 : Aside _ := swk_swapped S1.out RR.out (k) (k + 1) (by omega) (by omega)
          generalize dk[k]! = x at a0 a2 S2
          generalize dk[k + 1]! = y at b0 b2 S2
          unfold Fx.sl at a2 b2 S2
          obtain ⟨p, hp⟩ : ∃ p, off + (k) * 2 = p := ⟨_, rfl⟩
          obtain ⟨q, hq⟩ : ∃ q, off + (k + 1) * 2 = q := ⟨_, rfl⟩
          have n1 : ¬ p = q := by omega
          have n2 : ¬ q = p := by omega
          have n3 : ¬ p + 1 = q := by omega
          have n4 : ¬ q = p + 1 := by omega
          have n5 : ¬ p = q + 1 := by omega
          have n6 : ¬ q + 1 = p := by omega
          rw [hp] at a0 a1 a2 a3 S2
          rw [hq] at b0 b1 b2 b3 S2
          clear S1
          go_wp2_with fail
          go_big_region_o
          clear a0 a1 a2 a3 b0 b1 b2 b3
          go_wp2_with fail
          go_roundg (i - 1 - (k + 1))
          case measure => omega
          case rel => exact ⟨k + 1, swp dk k (k + 1), by go_num, by omega, by omega, by omega, by rw [size_swp]; exact hds, HT.out.shift_up hak (by omega), S2⟩
        · have hltz2 : ¬ (k : Int) < ((i - 1 : Nat) : Int) := by omega
          go_wp2_with fail
          (try simp only [Exit.inBlock, Exit.then]); refine bodyPost_ret (results_none rfl _ _ _) rfl ?_
          have hk : k + 1 = i := by omega
          have ht := HT.out
          rw [hk] at ht
          have hlo := HLO.out
          have hhi := HHI.out
          have hr := HR.out
          rw [HM.out] at hlo hr
          exact ⟨rfl, dk, S1.out, Mrg.one_left swoF ltF_ne ht (by omega) hjb hb hr hlo hhi⟩
set_option maxHeartbeats 4000000 in
set_option maxRecDepth 1000000 in
theorem sym_right (blk off cap a m b : Nat) (d0 d : Array Fx) (w0 w : World) (R : RowK encX 2 w0 blk off d0) (hs : d0.size = d.size) (S : SWK encX 2 w0 blk off d w) (hm : a + 1 < m) (hmb : b = m + 1) (hb : b ≤ d.size) (hsz : d.size < 2305843009213693952) (hL : SortedIn (ltOf cmpF) a m d) :
    Calls Tryz.prog 242 #[.slice (some ⟨blk, off, none⟩) d.size cap, .int .i64 a, .int .i64 m, .int .i64 b, .func (.func 205) #[] #[]] w fun e w' =>
      e = .returned (.tuple #[]) ∧ ∃ dk, SWK encX 2 w0 blk off dk w' ∧ Mrg (ltOf cmpF) Fx.name a b d dk := by
  have mixed := Tryz.mixed
  have eg := enters_byName
  have S0 : Aside (SWK encX 2 w0 blk off d w) := S
  have RR : Aside (RowK encX 2 w0 blk off d0) := R
  have HR := hid hL
  have HM := hid hmb
  have e0 : IntKind.i64.wrap ((m : Int) - (a : Int)) = ((m - a : Nat) : Int) := by rw [IntKind.wrap_i64]; omega
  have e1 : (((m - a : Nat) : Int) == 1) = false := beq_eq_false_iff_ne.2 (by omega)
  have e2 : IntKind.i64.wrap ((b : Int) - (m : Int)) = 1 := by rw [IntKind.wrap_i64]; omega
  have hms : m < d.size := by omega
  clear S R hL hmb
  go_enter Tryz.func242, Tryz.ntmps242
  go_wp2_with fail
  go_loopg [14, 15] (m - a) (fun kx vi vj wr => ∃ (i j : Nat), vi = .int .i64 i ∧ vj = .int .i64 j ∧ a ≤ i ∧ i ≤ j ∧ j ≤ m ∧ j - i ≤ kx ∧ Hid (a < i → ltOf cmpF d[m]! d[i - 1]! = false) ∧ Hid (j < m → ltOf cmpF d[m]! d[j]! = true) ∧ Aside (SWK encX 2 w0 blk off d wr))
  case atStart => exact ⟨a, m, rfl, rfl, by omega, by omega, by omega, by omega, fun h => absurd h (Nat.lt_irrefl _), fun h => absurd h (Nat.lt_irrefl _), S0⟩
  case round =>
    clear S0
    obtain ⟨i, j, rfl, rfl, hmi, hij, hjb, hkx, HLO, HHI, S1⟩ := hrel
    by_cases hlt : i < j
    · have hltz : (i : Int) < (j : Int) := by omega
      obtain ⟨h, hh⟩ : ∃ h, (i + j) / 2 = h := ⟨_, rfl⟩
      have hz : ((i : Int) + (j : Int)) / 2 = (h : Int) := by omega
      have h1 : i ≤ h := by omega
      have h2 : h < j := by omega
      clear hh
      go_wp2_with fail
      cases hL : ltOf cmpF d[m]! d[h]! with
      | false =>
        have ea : ((m : Int)).toNat = m := by omega
        have pa : (0 : Int) ≤ (m : Int) := by omega
        have ba : (m : Int) < (d.size : Int) := by omega
        have ec : ((h : Int)).toNat = h := by omega
        have pc : (0 : Int) ≤ (h : Int) := by omega
        have bc : (h : Int) < (d.size : Int) := by omega
        have la := swk_in S1.out RR.out (by omega) (m) (by omega)
        have lb := swk_in S1.out RR.out (by omega) (h) (by omega)
        have hv := ltF_false hL
        have HL := hid hL
        clear hL
        generalize d[m]! = x at la hv
        generalize d[h]! = y at lb hv
        have la0 := fun n os => (la n os).1
        have la1 := fun n os => (la n os).2
        have lb0 := fun n os => (lb n os).1
        have lb1 := fun n os => (lb n os).2
        clear la lb
        have hd : decide (cmpF x y < 0) = false := decide_eq_false hv
        have hc := cmp_in x y wr
        go_wp2_with fail
        go_quiet_grown (first | (go_at_fn 205; refine Calls.grown_of (hc _ _)))
        have S2 : Aside (SWK encX 2 w0 blk off d (grow (wr.drewN nq) osq)) := S1.out.grown nq osq
        clear la0 la1 lb0 lb1 hc S1
        generalize grow (wr.drewN nq) osq = w2 at S2 ⊢
        clear nq osq
        go_wp2_with fail
        go_roundg (j - (h + 1))
        case measure => omega
        case rel => exact ⟨h + 1, j, by go_num, rfl, by omega, by omega, hjb, by omega, fun _ => HL.out, HHI, S2⟩
      | true =>
        have ea : ((m : Int)).toNat = m := by omega
        have pa : (0 : Int) ≤ (m : Int) := by omega
        have ba : (m : Int) < (d.size : Int) := by omega
        have ec : ((h : Int)).toNat = h := by omega
        have pc : (0 : Int) ≤ (h : Int) := by omega
        have bc : (h : Int) < (d.size : Int) := by omega
        have la := swk_in S1.out RR.out (by omega) (m) (by omega)
        have lb := swk_in S1.out RR.out (by omega) (h) (by omega)
        have hv := ltF_true hL
        have HL := hid hL
        clear hL
        generalize d[m]! = x at la hv
        generalize d[h]! = y at lb hv
        have la0 := fun n os => (la n os).1
        have la1 := fun n os => (la n os).2
        have lb0 := fun n os => (lb n os).1
        have lb1 := fun n os => (lb n os).2
        clear la lb
        have hd : decide (cmpF x y < 0) = true := decide_eq_true hv
        have hc := cmp_in x y wr
        go_wp2_with fail
        go_quiet_grown (first | (go_at_fn 205; refine Calls.grown_of (hc _ _)))
        have S2 : Aside (SWK encX 2 w0 blk off d (grow (wr.drewN nq) osq)) := S1.out.grown nq osq
        clear la0 la1 lb0 lb1 hc S1
        generalize grow (wr.drewN nq) osq = w2 at S2 ⊢
        clear nq osq
        go_wp2_with fail
        go_roundg (h - i)
        case measure => omega
        case rel => exact ⟨i, h, rfl, rfl, hmi, h1, by omega, by omega, HLO, fun _ => HL.out, S2⟩
    · have hltz : ¬ (i : Int) < (j : Int) := by omega
      obtain rfl : i = j := by omega
      clear hij hkx hlt
      have SA := S1
      go_wp2_with fail
      go_loopg [17] (m - a) (fun kx vk wr => ∃ (k : Nat) (dk : Array Fx), vk = .int .i64 k ∧ i ≤ k ∧ k ≤ m ∧ k - i ≤ kx ∧ dk.size = d.size ∧ Aside (Rot k m (m + 1) d dk) ∧ Aside (SWK encX 2 w0 blk off dk wr))
      case atStart => exact ⟨m, d, rfl, by omega, by omega, by omega, rfl, rot_none' _ _ _, SA⟩
      case round =>
        clear SA S1
        obtain ⟨k, dk, rfl, hak, hki, hkx, hds, HT, S1⟩ := hrel
        by_cases hlt : i < k
        · obtain ⟨kp, rfl⟩ : ∃ kp, k = kp + 1 := ⟨k - 1, by omega⟩
          have hltz2 : (i : Int) < (kp : Int) + 1 := by omega
          go_wp2_with fail
          have ea : ((kp : Int) + 1).toNat = kp + 1 := by omega
          have pa : (0 : Int) ≤ (kp : Int) + 1 := by omega
          have ba : (kp : Int) + 1 < (d.size : Int) := by omega
          have ra : IntKind.i64.wrap ((kp : Int) + 1) = (kp : Int) + 1 := by rw [IntKind.wrap_i64]; omega
          have ec : ((kp : Int)).toNat = kp := by omega
          have pc : (0 : Int) ≤ (kp : Int) := by omega
          have bc : (kp : Int) < (d.size : Int) := by omega
          have rc : IntKind.i64.wrap ((kp : Int)) = (kp : Int) := by rw [IntKind.wrap_i64]; omega
          obtain ⟨a0, a1, a2, a3⟩ := swk_cells S1.out RR.out (by omega) (kp + 1) (by omega)
          obtain ⟨b0, b1, b2, b3⟩ := swk_cells S1.out RR.out (by omega) (kp) (by omega)
          have S2 : Aside _ := swk_swapped S1.out RR.out (kp + 1) (kp) (by omega) (by omega)
          generalize dk[kp + 1]! = x at a0 a2 S2
          generalize dk[kp]! = y at b0 b2 S2
          unfold Fx.sl at a2 b2 S2
          obtain ⟨p, hp⟩ : ∃ p, off + (kp + 1) * 2 = p := ⟨_, rfl⟩
          obtain ⟨q, hq⟩ : ∃ q, off + (kp) * 2 = q := ⟨_, rfl⟩
          have n1 : ¬ p = q := by omega
          have n2 : ¬ q = p := by omega
          have n3 : ¬ p + 1 = q := by omega
          have n4 : ¬ q = p + 1 := by omega
          have n5 : ¬ p = q + 1 := by omega
          have n6 : ¬ q + 1 = p := by omega
          rw [hp] at a0 a1 a2 a3 S2
          rw [hq] at b0 b1 b2 b3 S2
          clear S1
          go_wp2_with fail
          go_big_region_o
          clear a0 a1 a2 a3 b0 b1 b2 b3
          go_wp2_with fail
          go_roundg (kp - i)
          case measure => omega
          case rel => exact ⟨kp, swp dk (kp + 1) kp, by first | rfl | go_num, by omega, by omega, by omega, by rw [size_swp]; exact hds, HT.out.shift_down (by omega) (by omega), S2⟩
        · have hltz2 : ¬ (i : Int) < (k : Int) := by omega
          go_wp2_with fail
          (try simp only [Exit.inBlock, Exit.then]); refine bodyPost_ret (results_none rfl _ _ _) rfl ?_
          obtain rfl : k = i := by omega
          have hlo := HLO.out
          have hhi := HHI.out
          rw [HM.out]
          exact ⟨rfl, dk, S1.out, Mrg.one_right swoF ltF_ne HT.out (by omega) (by omega) (by omega) HR.out hlo hhi⟩
end Go.Proofs.YtpdccbeeoapplaaGreatDoor

namespace Go.Proofs.YtpdccbeeoapplaaGreatDoor
open Go.RowKit Go.Sort Go.Lib Go.Shelf
def SymIs (blk off cap : Nat) (d0 : Array Fx) (w0 : World) (a m b : Nat) : Prop :=
  ∀ (d : Array Fx) (w : World), d0.size = d.size → b ≤ d.size → SWK encX 2 w0 blk off d w → SortedIn (ltOf cmpF) a m d → SortedIn (ltOf cmpF) m b d →
    Calls Tryz.prog 242 #[.slice (some ⟨blk, off, none⟩) d.size cap, .int .i64 a, .int .i64 m, .int .i64 b, .func (.func 205) #[] #[]] w fun e w' =>
      e = .returned (.tuple #[]) ∧ ∃ dk, SWK encX 2 w0 blk off dk w' ∧ Mrg (ltOf cmpF) Fx.name a b d dk
set_option maxHeartbeats 8000000 in
set_option maxRecDepth 1000000 in
theorem sym_general (blk off cap a m b : Nat) (d0 : Array Fx) (w0 : World) (R : RowK encX 2 w0 blk off d0) (hm : a + 1 < m) (hmb : m + 1 < b) (hsz : d0.size < 2305843009213693952)
    (IH : ∀ a' m' b', a' < m' → m' < b' → b' - a' < b - a → SymIs blk off cap d0 w0 a' m' b') : SymIs blk off cap d0 w0 a m b := by
  intro d w hs hb S hL hR
  have mixed := Tryz.mixed
  have eg := enters_byName
  have S0 : Aside (SWK encX 2 w0 blk off d w) := S
  have RR : Aside (RowK encX 2 w0 blk off d0) := R
  have HIH := hid IH
  have HSL := hid hL
  have HSR := hid hR
  have e0 : IntKind.i64.wrap ((m : Int) - (a : Int)) = ((m - a : Nat) : Int) := by rw [IntKind.wrap_i64]; omega
  have e1 : (((m - a : Nat) : Int) == 1) = false := beq_eq_false_iff_ne.2 (by omega)
  have e2 : IntKind.i64.wrap ((b : Int) - (m : Int)) = ((b - m : Nat) : Int) := by rw [IntKind.wrap_i64]; omega
  have e3 : (((b - m : Nat) : Int) == 1) = false := beq_eq_false_iff_ne.2 (by omega)
  obtain ⟨mid, hmid⟩ : ∃ mid, (a + b) / 2 = mid := ⟨_, rfl⟩
  have hmz : ((a : Int) + (b : Int)) / 2 = (mid : Int) := by omega
  have hm1 : 2 * mid ≤ a + b := by omega
  have hm2 : a + b ≤ 2 * mid + 1 := by omega
  obtain ⟨nn, hnn⟩ : ∃ nn, mid + m = nn := ⟨_, rfl⟩
  have hnz : (mid : Int) + (m : Int) = (nn : Int) := by omega
  have e5 : IntKind.i64.wrap ((nn : Int) - 1) = ((nn - 1 : Nat) : Int) := by rw [IntKind.wrap_i64]; omega
  have HNN := hid hnn
  clear S R hL hR IH hmid hnn
  go_enter Tryz.func242, Tryz.ntmps242
  go_upto_if 140 with fail
  go_cut [20, 21] from 138 to 146 (fun vs vr wx => w = wx ∧ ∃ s0 r0 : Nat, vs = .int .i64 s0 ∧ vr = .int .i64 r0 ∧ s0 ≤ r0 ∧ ((mid < m ∧ s0 + b = nn ∧ r0 = mid) ∨ (m ≤ mid ∧ s0 = a ∧ r0 = m)))
  case first =>
    by_cases hc : mid < m
    · have hcz : (mid : Int) < (m : Int) := by omega
      have e4 : IntKind.i64.wrap ((nn : Int) - (b : Int)) = ((nn - b : Nat) : Int) := by rw [IntKind.wrap_i64]; omega
      go_wp2_with fail
      go_meet
      case rel => exact ⟨rfl, nn - b, mid, rfl, rfl, by have := HNN.out; omega, Or.inl ⟨hc, by have := HNN.out; omega, rfl⟩⟩
    · have hcz : ¬ (mid : Int) < (m : Int) := by omega
      go_wp2_with fail
      go_meet
      case rel => exact ⟨rfl, a, m, rfl, rfl, by omega, Or.inr ⟨by omega, rfl, rfl⟩⟩
  case rest =>
  obtain ⟨rfl, s0, r0, rfl, rfl, hsr, hcase⟩ := hcut
  have hlo : a ≤ s0 ∧ r0 ≤ m ∧ r0 ≤ mid ∧ nn - s0 ≤ b ∧ nn - r0 ≥ m ∧ r0 < nn := by have := HNN.out; omega
  have HCASE := hid hcase
  obtain ⟨k1, k2, k3, k4, k5, k6⟩ := hlo
  clear hcase
  go_wp2_with fail
  go_loopg [20, 21] (r0 - s0) (fun kx vs vr wr => ∃ (s r : Nat), vs = .int .i64 s ∧ vr = .int .i64 r ∧ s0 ≤ s ∧ s ≤ r ∧ r ≤ r0 ∧ r - s ≤ kx ∧ Hid (s0 < s → ltOf cmpF d[nn - s]! d[s - 1]! = false) ∧ Hid (r < r0 → ltOf cmpF d[nn - 1 - r]! d[r]! = true) ∧ Aside (SWK encX 2 w0 blk off d wr))
  case atStart => exact ⟨s0, r0, rfl, rfl, by omega, by omega, by omega, by omega, fun h => absurd h (Nat.lt_irrefl _), fun h => absurd h (Nat.lt_irrefl _), S0⟩
  case round =>
  clear S0
  obtain ⟨s, r, rfl, rfl, hs0, hsr2, hr0, hkx, HLO, HHI, S1⟩ := hrel
  by_cases hlt : s < r
  · have hltz : (s : Int) < (r : Int) := by omega
    obtain ⟨c, hh⟩ : ∃ c, (s + r) / 2 = c := ⟨_, rfl⟩
    have hz : ((s : Int) + (r : Int)) / 2 = (c : Int) := by omega
    have h1 : s ≤ c := by omega
    have h2 : c < r := by omega
    have e6 : IntKind.i64.wrap (((nn - 1 : Nat) : Int) - (c : Int)) = ((nn - 1 - c : Nat) : Int) := by rw [IntKind.wrap_i64]; omega
    clear hh
    go_wp2_with fail
    cases hL : ltOf cmpF d[nn - 1 - c]! d[c]! with
    | false =>
      have ea : (((nn - 1 - c : Nat) : Int)).toNat = nn - 1 - c := by omega
      have pa : (0 : Int) ≤ ((nn - 1 - c : Nat) : Int) := by omega
      have ba : ((nn - 1 - c : Nat) : Int) < (d.size : Int) := by omega
      have ec : ((c : Int)).toNat = c := by omega
      have pc : (0 : Int) ≤ (c : Int) := by omega
      have bc : (c : Int) < (d.size : Int) := by omega
      have la := swk_in S1.out RR.out (by omega) (nn - 1 - c) (by omega)
      have lb := swk_in S1.out RR.out (by omega) (c) (by omega)
      have hv := ltF_false hL
      have HL := hid hL
      clear hL
      generalize d[nn - 1 - c]! = x at la hv
      generalize d[c]! = y at lb hv
      have la0 := fun n os => (la n os).1
      have la1 := fun n os => (la n os).2
      have lb0 := fun n os => (lb n os).1
      have lb1 := fun n os => (lb n os).2
      clear la lb
      have hd : decide (cmpF x y < 0) = false := decide_eq_false hv
      have hc := cmp_in x y wr
      go_wp2_with fail
      go_quiet_grown (first | (go_at_fn 205; refine Calls.grown_of (hc _ _)))
      have S2 : Aside (SWK encX 2 w0 blk off d (grow (wr.drewN nq) osq)) := S1.out.grown nq osq
      clear la0 la1 lb0 lb1 hc S1
      generalize grow (wr.drewN nq) osq = w2 at S2 ⊢
      clear nq osq
      go_wp2_with fail
      go_roundg (r - (c + 1))
      case measure => omega
      case rel => exact ⟨c + 1, r, by go_num, rfl, by omega, by omega, hr0, by omega, fun _ => by rw [show nn - (c + 1) = nn - 1 - c by omega]; exact HL.out, HHI, S2⟩
    | true =>
      have ea : (((nn - 1 - c : Nat) : Int)).toNat = nn - 1 - c := by omega
      have pa : (0 : Int) ≤ ((nn - 1 - c : Nat) : Int) := by omega
      have ba : ((nn - 1 - c : Nat) : Int) < (d.size : Int) := by omega
      have ec : ((c : Int)).toNat = c := by omega
      have pc : (0 : Int) ≤ (c : Int) := by omega
      have bc : (c : Int) < (d.size : Int) := by omega
      have la := swk_in S1.out RR.out (by omega) (nn - 1 - c) (by omega)
      have lb := swk_in S1.out RR.out (by omega) (c) (by omega)
      have hv := ltF_true hL
      have HL := hid hL
      clear hL
      generalize d[nn - 1 - c]! = x at la hv
      generalize d[c]! = y at lb hv
      have la0 := fun n os => (la n os).1
      have la1 := fun n os => (la n os).2
      have lb0 := fun n os => (lb n os).1
      have lb1 := fun n os => (lb n os).2
      clear la lb
      have hd : decide (cmpF x y < 0) = true := decide_eq_true hv
      have hc := cmp_in x y wr
      go_wp2_with fail
      go_quiet_grown (first | (go_at_fn 205; refine Calls.grown_of (hc _ _)))
      have S2 : Aside (SWK encX 2 w0 blk off d (grow (wr.drewN nq) osq)) := S1.out.grown nq osq
      clear la0 la1 lb0 lb1 hc S1
      generalize grow (wr.drewN nq) osq = w2 at S2 ⊢
      clear nq osq
      go_wp2_with fail
      go_roundg (c - s)
      case measure => omega
      case rel => exact ⟨s, c, rfl, rfl, hs0, h1, by omega, by omega, HLO, fun _ => HL.out, S2⟩
  have hltz : ¬ (s : Int) < (r : Int) := by omega
  obtain rfl : s = r := by omega
  obtain ⟨e, he⟩ : ∃ e, nn - s = e := ⟨_, rfl⟩
  have e7 : IntKind.i64.wrap ((nn : Int) - (s : Int)) = (e : Int) := by rw [IntKind.wrap_i64]; omega
  have hge : m ≤ e := by omega
  have heb : e ≤ b := by omega
  have hsm : s ≤ m := by omega
  have has : a ≤ s := by omega
  have hds : s + (e - m) = mid := by have := HNN.out; omega
  have hlow : a < s → e < b → ltOf cmpF d[e]! d[s - 1]! = false := fun h1 h2 => by
    have := HLO.out (by have := HCASE.out; have := HNN.out; omega)
    rw [he] at this; exact this
  have hhigh : s < m → m < e → ltOf cmpF d[e - 1]! d[s]! = true := fun h1 h2 => by
    have := HHI.out (by have := HCASE.out; have := HNN.out; omega)
    rw [show nn - 1 - s = e - 1 by omega] at this; exact this
  have HLOW := hid hlow
  have HHIGH := hid hhigh
  have ham : a < mid := by omega
  have hmb2 : mid < b := by omega
  clear hlow hhigh HLO HHI hsr2 hkx hlt he k4 k5
  go_upto_region 39 with fail
  go_cut [185] from 178 to 185 (fun v wx => wr = wx ∧ ∃ B : Bool, v = .bool B ∧ Hid (B = true ↔ (s < m ∧ m < e)))
  case first =>
    by_cases g1 : s < m
    · have g1z : (s : Int) < (m : Int) := by omega
      have g1d : decide ((s : Int) < (m : Int)) = true := decide_eq_true g1z
      by_cases g2 : m < e
      · have g2z : (m : Int) < (e : Int) := by omega
        have g2d : decide ((m : Int) < (e : Int)) = true := decide_eq_true g2z
        go_wp2_with fail
        go_meet
        case rel => exact ⟨rfl, true, rfl, ⟨fun _ => ⟨g1, g2⟩, fun _ => rfl⟩⟩
      · have g2z : ¬ (m : Int) < (e : Int) := by omega
        have g2d : decide ((m : Int) < (e : Int)) = false := decide_eq_false g2z
        go_wp2_with fail
        go_meet
        case rel => exact ⟨rfl, false, rfl, ⟨fun h => Bool.noConfusion h, fun h => absurd h.2 g2⟩⟩
    · have g1z : ¬ (s : Int) < (m : Int) := by omega
      have g1d : decide ((s : Int) < (m : Int)) = false := decide_eq_false g1z
      go_wp2_with fail
      go_meet
      case rel => exact ⟨rfl, false, rfl, ⟨fun h => Bool.noConfusion h, fun h => absurd h.1 g1⟩⟩
  case rest =>
  obtain ⟨rfl, B, rfl, HB⟩ := hcut
  go_upto_if 185 with fail
  go_cut [] from 185 to 191 (fun wx => ∃ d1, Aside (SWK encX 2 w0 blk off d1 wx) ∧ d1.size = d.size ∧ Hid (Rot s m e d d1))
  case first =>
    cases B with
    | true =>
      have hc := HB.out.1 rfl
      have hr := rotate_any blk off cap s m e (.func (.func 205) #[] #[]) d0 d w0 wr RR.out hs S1.out hc.1 hc.2 (by omega) (by omega)
      have HRO := hid hr
      clear hr S1 hc
      go_wp2_with (first | (go_at_call 244; refine HRO.out.mono ?_; rintro _ w1 ⟨rfl, d1, hs1, hr1⟩; have HS1 : Aside _ := hs1; have HR1 := hid hr1; clear hs1 hr1))
      go_meet
      case rel => exact ⟨d1, HS1, HR1.out.1, HR1⟩
    | false =>
      have hc : ¬ (s < m ∧ m < e) := fun h => Bool.noConfusion (HB.out.2 h)
      have hrot : Rot s m e d d := by
        by_cases e1 : s < m
        · rw [show e = m by omega]; exact rot_none _ _ _
        · rw [show s = m by omega]; exact rot_none' _ _ _
      have HRT := hid hrot
      clear hrot hc
      go_wp2_with fail
      go_meet
      case rel => exact ⟨d, S1, rfl, HRT⟩
  case rest =>
  clear S1
  obtain ⟨d1, S1, hz1, HRT⟩ := hcut
  have hcut2 := merge_cut (K := Fx.name) swoF ltF_ne HRT.out has hsm hge heb hb hds HSL.out HSR.out HLOW.out HHIGH.out
  obtain ⟨t1, t2, t3, t4⟩ := hcut2
  have HT1 := hid t1
  have HT2 := hid t2
  have HT3 := hid t3
  have HT4 := hid t4
  clear t1 t2 t3 t4 HLOW HHIGH HRT
  go_upto_region 41 with fail
  go_cut [199] from 192 to 199 (fun v wx => wc = wx ∧ ∃ B : Bool, v = .bool B ∧ Hid (B = true ↔ (a < s ∧ s < mid)))
  case first =>
    by_cases g1 : a < s
    · have g1z : (a : Int) < (s : Int) := by omega
      have g1d : decide ((a : Int) < (s : Int)) = true := decide_eq_true g1z
      by_cases g2 : s < mid
      · have g2z : (s : Int) < (mid : Int) := by omega
        have g2d : decide ((s : Int) < (mid : Int)) = true := decide_eq_true g2z
        go_wp2_with fail
        go_meet
        case rel => exact ⟨rfl, true, rfl, ⟨fun _ => ⟨g1, g2⟩, fun _ => rfl⟩⟩
      · have g2z : ¬ (s : Int) < (mid : Int) := by omega
        have g2d : decide ((s : Int) < (mid : Int)) = false := decide_eq_false g2z
        go_wp2_with fail
        go_meet
        case rel => exact ⟨rfl, false, rfl, ⟨fun h => Bool.noConfusion h, fun h => absurd h.2 g2⟩⟩
    · have g1z : ¬ (a : Int) < (s : Int) := by omega
      have g1d : decide ((a : Int) < (s : Int)) = false := decide_eq_false g1z
      go_wp2_with fail
      go_meet
      case rel => exact ⟨rfl, false, rfl, ⟨fun h => Bool.noConfusion h, fun h => absurd h.1 g1⟩⟩
  case rest =>
  obtain ⟨rfl, B, rfl, HB⟩ := hcut
  go_upto_if 199 with fail
  go_cut [] from 199 to 205 (fun wx => ∃ d2, Aside (SWK encX 2 w0 blk off d2 wx) ∧ Hid (Mrg (ltOf cmpF) Fx.name a mid d1 d2))
  case first =>
    cases B with
    | true =>
      have hc := HB.out.1 rfl
      have hr := HIH.out a s mid hc.1 hc.2 (by omega) d1 wc (by omega) (by omega) S1.out HT1.out HT2.out
      rw [hz1] at hr
      have HRO := hid hr
      clear hr S1 hc
      go_wp2_with (first | (go_at_call 242; refine HRO.out.mono ?_; rintro _ w1 ⟨rfl, d2, hs1, hr1⟩; have HS1 : Aside _ := hs1; have HR1 := hid hr1; clear hs1 hr1))
      go_meet
      case rel => exact ⟨d2, HS1, HR1⟩
    | false =>
      have hc : ¬ (a < s ∧ s < mid) := fun h => Bool.noConfusion (HB.out.2 h)
      have HRT := hid (HT3.out hc)
      clear hc
      go_wp2_with fail
      go_meet
      case rel => exact ⟨d1, S1, HRT⟩
  case rest =>
  clear S1
  obtain ⟨d2, S1, HM2⟩ := hcut
  obtain ⟨t1, t2, t3, t4⟩ := HT4.out d2 HM2.out
  have hz2 : d2.size = d1.size := HM2.out.1.1
  have HU1 := hid t1
  have HU2 := hid t2
  have HU3 := hid t3
  have HU4 := hid t4
  clear t1 t2 t3 t4 HT1 HT2 HT3 HT4 HM2
  go_upto_region 43 with fail
  go_cut [213] from 206 to 213 (fun v wx => wc = wx ∧ ∃ B : Bool, v = .bool B ∧ Hid (B = true ↔ (mid < e ∧ e < b)))
  case first =>
    by_cases g1 : mid < e
    · have g1z : (mid : Int) < (e : Int) := by omega
      have g1d : decide ((mid : Int) < (e : Int)) = true := decide_eq_true g1z
      by_cases g2 : e < b
      · have g2z : (e : Int) < (b : Int) := by omega
        have g2d : decide ((e : Int) < (b : Int)) = true := decide_eq_true g2z
        go_wp2_with fail
        go_meet
        case rel => exact ⟨rfl, true, rfl, ⟨fun _ => ⟨g1, g2⟩, fun _ => rfl⟩⟩
      · have g2z : ¬ (e : Int) < (b : Int) := by omega
        have g2d : decide ((e : Int) < (b : Int)) = false := decide_eq_false g2z
        go_wp2_with fail
        go_meet
        case rel => exact ⟨rfl, false, rfl, ⟨fun h => Bool.noConfusion h, fun h => absurd h.2 g2⟩⟩
    · have g1z : ¬ (mid : Int) < (e : Int) := by omega
      have g1d : decide ((mid : Int) < (e : Int)) = false := decide_eq_false g1z
      go_wp2_with fail
      go_meet
      case rel => exact ⟨rfl, false, rfl, ⟨fun h => Bool.noConfusion h, fun h => absurd h.1 g1⟩⟩
  case rest =>
  obtain ⟨rfl, B, rfl, HB⟩ := hcut
  cases B with
  | true =>
    have hc := HB.out.1 rfl
    have hr := HIH.out mid e b hc.1 hc.2 (by omega) d2 wc (by omega) (by omega) S1.out HU1.out HU2.out
    rw [hz2, hz1] at hr
    have HRO := hid hr
    clear hr S1 hc
    go_wp2_with (first | (go_at_call 242; refine HRO.out.mono ?_; rintro _ w1 ⟨rfl, d3, hs1, hr1⟩; have HS1 : Aside _ := hs1; have HR1 := hid hr1; clear hs1 hr1))
    go_end0
    exact ⟨rfl, d3, HS1.out, HU4.out d3 HR1.out⟩
  | false =>
    have hc : ¬ (mid < e ∧ e < b) := fun h => Bool.noConfusion (HB.out.2 h)
    have HRT := hid (HU4.out d2 (HU3.out hc))
    clear hc
    go_wp2_with fail
    go_end0
    exact ⟨rfl, d2, S1.out, HRT.out⟩
theorem sym_any (blk off cap : Nat) (d0 : Array Fx) (w0 : World) (R : RowK encX 2 w0 blk off d0) (hsz : d0.size < 2305843009213693952) : ∀ (n a m b : Nat), b - a ≤ n → a < m → m < b → SymIs blk off cap d0 w0 a m b
  | 0, a, m, b, hn, h1, h2 => by omega
  | n + 1, a, m, b, hn, h1, h2 => by
    by_cases c1 : m = a + 1
    · intro d w hs hb S hL hR
      exact sym_left blk off cap a m b d0 d w0 w R hs S c1 h2 hb (by omega) hR
    · by_cases c2 : b = m + 1
      · intro d w hs hb S hL hR
        exact sym_right blk off cap a m b d0 d w0 w R hs S (by omega) c2 hb (by omega) hL
      · exact sym_general blk off cap a m b d0 w0 R (by omega) (by omega) hsz (fun a' m' b' k1 k2 k3 => sym_any blk off cap d0 w0 R hsz n a' m' b' (by omega) k1 k2)
end Go.Proofs.YtpdccbeeoapplaaGreatDoor

namespace Go.Proofs.YtpdccbeeoapplaaGreatDoor
open Go.RowKit Go.Sort Go.Lib Go.Shelf
theorem ins_swk (blk off cap a b : Nat) (d0 dk : Array Fx) (w0 W : World) (R : RowK encX 2 w0 blk off d0) (hs : d0.size = dk.size) (S : SWK encX 2 w0 blk off dk W) (hab : a ≤ b) (hb : b ≤ dk.size) (hsz : dk.size < 1152921504606846976) :
    Calls Tryz.prog 241 #[.slice (some ⟨blk, off, none⟩) dk.size cap, .int .i64 a, .int .i64 b, .func (.func 205) #[] #[]] W fun e w' =>
      e = .returned (.tuple #[]) ∧ ∃ dl, SWK encX 2 w0 blk off dl w' ∧ PermIn a b dk dl ∧ SortedIn (ltOf cmpF) a b dl ∧ Stab Fx.name dk dl := by
  refine (ins_any blk off cap a b dk W (S.holds R.hblk R.hH hs.symm) (S.lt R.hblk) hab hb (by omega)).mono ?_
  rintro e w' ⟨rfl, n, os, rfl⟩
  obtain ⟨h1, h2⟩ := insertionSort_holds swoF dk a b hab hb
  exact ⟨rfl, _, S.on R.hblk n _ os h1.1, h1, h2, insertionSort_stab (K := Fx.name) ltF_ne dk a b hb⟩
set_option maxHeartbeats 4000000 in
set_option maxRecDepth 1000000 in
theorem stable_any (blk off cap : Nat) (d : Array Fx) (w : World) (hH : HoldsK encX 2 w blk off d) (hblk : blk < w.heap.size) (hsz : d.size < 1152921504606846976) :
    Calls Tryz.prog 231 #[.slice (some ⟨blk, off, none⟩) d.size cap, .int .i64 d.size, .func (.func 205) #[] #[]] w fun e w' => e = .returned (.tuple #[]) ∧ Sorts w blk off d w' := by
  have RR : Aside (RowK encX 2 w blk off d) := ⟨fun _ => rfl, encX_one, hH, hblk⟩
  have S0 : Aside (SWK encX 2 w blk off d w) := SWK.start hH
  clear hH hblk
  go_enter Tryz.func231, Tryz.ntmps231
  go_wp2_with fail
  go_loopg [7, 8] d.size (fun kx va vb wr => ∃ (A B q : Nat) (dk : Array Fx), va = .int .i64 A ∧ vb = .int .i64 B ∧ B = A + 20 ∧ Hid (A = q * 20) ∧ A ≤ d.size ∧ d.size - A ≤ kx ∧ Aside (Way Fx.name d dk) ∧ Aside (SegTo (ltOf cmpF) 20 q dk) ∧ Aside (SWK encX 2 w blk off dk wr))
  case atStart => exact ⟨0, 20, 0, d, rfl, rfl, rfl, (show Hid _ from by simp [Hid]), by omega, by omega, Way.refl _ _, segTo_zero _ _ _, S0⟩
  case round =>
  clear S0
  obtain ⟨A, B, q, dk, rfl, rfl, hB, HA, hAn, hkx, HW, HG, S1⟩ := hrel
  have hdk : dk.size = d.size := HW.out.size
  by_cases hlt : B ≤ d.size
  · have hltz : (B : Int) ≤ (d.size : Int) := by omega
    have hc := ins_swk blk off cap A B d dk w wr RR.out hdk.symm S1.out (by omega) (by omega) (by omega)
    rw [hdk] at hc
    have HC := hid hc
    have HB := hid hB
    have hAB : A < B := by omega
    clear hc S1 hB
    go_wp2_with (first | (go_at_call 241; refine HC.out.mono ?_; rintro e w1 ⟨rfl, dl, hs1, hp1, ho1, ht1⟩; have HS1 : Aside _ := hs1; have HP1 := hid hp1; have HO1 := hid ho1; have HT1 := hid ht1; clear hs1 hp1 ho1 ht1))
    go_roundg (d.size - B)
    case measure => omega
    case rel =>
      have hb := HB.out
      have ha := HA.out
      have hp := HP1.out
      have ho := HO1.out
      rw [hb, ha] at hp ho
      exact ⟨B, B + 20, q + 1, dl, by first | rfl | go_num, by first | rfl | go_num, rfl, (show Hid _ from by show B = _; omega), hlt, by omega, HW.out.step HP1.out hlt HT1.out, HG.out.step hp ho, HS1⟩
  have hltz : ¬ (B : Int) ≤ (d.size : Int) := by omega
  have hc := ins_swk blk off cap A d.size d dk w wr RR.out hdk.symm S1.out hAn (by omega) (by omega)
  rw [hdk] at hc
  have HC := hid hc
  have hseg : ∀ dl, PermIn A d.size dk dl → SortedIn (ltOf cmpF) A d.size dl → SegFrom (ltOf cmpF) 20 0 d.size dl := fun dl h1 h2 => by
    have ha := HA.out
    refine HG.out.last (by omega) ?_ ?_
    · rw [← ha]; exact h1
    · rw [← ha]; exact h2
  have HSEG := hid hseg
  clear hc S1 hseg hB hkx
  go_wp2_with (first | (go_at_call 241; refine HC.out.mono ?_; rintro e w1 ⟨rfl, dl, hs1, hp1, ho1, ht1⟩; have HS1 : Aside _ := hs1; have HW1 : Aside (Way Fx.name d dl) := HW.out.step hp1 (Nat.le_refl _) ht1; have HF1 : Aside _ := HSEG.out dl hp1 ho1; clear hs1 hp1 ho1 ht1))
  clear HC HSEG HW HG HA hdk
  go_loopg [6] d.size (fun kx vc wr => ∃ (c : Nat) (dk : Array Fx), vc = .int .i64 c ∧ 0 < c ∧ d.size - c ≤ kx ∧ Aside (Way Fx.name d dk) ∧ Aside (SegFrom (ltOf cmpF) c 0 d.size dk) ∧ Aside (SWK encX 2 w blk off dk wr))
  case atStart => exact ⟨20, dl, rfl, by omega, by omega, HW1, HF1, HS1⟩
  case round =>
  clear HW1 HF1 HS1
  obtain ⟨c, dk, rfl, hc0, hkx, HW, HF, S1⟩ := hrel
  by_cases hlt : c < d.size
  · have hltz2 : (c : Int) < (d.size : Int) := by omega
    go_wp2_with fail
    go_loopg [7, 8] d.size (fun kx va vb wr => ∃ (A B q : Nat) (dk : Array Fx), va = .int .i64 A ∧ vb = .int .i64 B ∧ B = A + 2 * c ∧ Hid (A = q * (2 * c)) ∧ A ≤ d.size ∧ d.size - A ≤ kx ∧ Aside (Way Fx.name d dk) ∧ Aside (SegTo (ltOf cmpF) (2 * c) q dk) ∧ Aside (SegFrom (ltOf cmpF) c A d.size dk) ∧ Aside (SWK encX 2 w blk off dk wr))
    case atStart => exact ⟨0, 2 * c, 0, dk, rfl, by first | rfl | go_num, by omega, (show Hid _ from by simp [Hid]), by omega, by omega, HW, segTo_zero _ _ _, HF, S1⟩
    case round =>
    clear HW HF S1
    obtain ⟨A, B, q, dm, rfl, rfl, hB, HA, hAn, hkx2, HW, HG, HF, S1⟩ := hrel
    have hdm : dm.size = d.size := HW.out.size
    obtain ⟨M, hM⟩ : ∃ M, A + c = M := ⟨_, rfl⟩
    have hMz : (A : Int) + (c : Int) = (M : Int) := by omega
    by_cases hlt3 : B ≤ d.size
    · have hltz3 : (B : Int) ≤ (d.size : Int) := by omega
      have hc := sym_any blk off cap d w RR.out (by omega) (B - A) A M B (Nat.le_refl _) (by omega) (by omega) dm wr hdm.symm (by omega) S1.out (by rw [← hM]; exact HF.out.first (by omega)) (by rw [← hM]; exact HF.out.second (by omega) hlt3)
      rw [hdm] at hc
      have HC := hid hc
      have HB := hid hB
      have hAB : A < B := by omega
      have hBw : IntKind.i64.wrap ((B : Int) + 2 * (c : Int)) = (B : Int) + 2 * (c : Int) := by rw [IntKind.wrap_i64]; omega
      clear hc S1 hB hM
      go_wp2_with (first | (go_at_call 242; refine HC.out.mono ?_; rintro e w1 ⟨rfl, dl, hs1, hm1⟩; have HS1 : Aside _ := hs1; have HM1 := hid hm1; clear hs1 hm1))
      go_roundg (d.size - B)
      case measure => omega
      case rel =>
        obtain ⟨hp1, ho1, ht1⟩ := HM1.out
        have hb := HB.out
        have ha := HA.out
        have hp := hp1
        have ho := ho1
        have hp2 := hp1
        rw [hb] at hp2
        rw [hb, ha] at hp ho
        refine ⟨B, B + 2 * c, q + 1, dl, by first | rfl | go_num, by first | rfl | go_num, rfl, (show Hid _ from ?_), hlt3, by omega, HW.out.step hp1 hlt3 ht1, HG.out.step hp ho, ?_, HS1⟩
        · show B = (q + 1) * (2 * c)
          rw [Nat.add_mul, Nat.one_mul, ← ha]; exact hb
        · rw [hb]; exact HF.out.step hp2
    have hltz3 : ¬ (B : Int) ≤ (d.size : Int) := by omega
    have hcw : IntKind.i64.wrap ((c : Int) * 2) = (c : Int) * 2 := by rw [IntKind.wrap_i64]; omega
    have hseg : ∀ dl, PermIn A d.size dm dl → SortedIn (ltOf cmpF) A d.size dl → SegFrom (ltOf cmpF) (2 * c) 0 d.size dl := fun dl h1 h2 => by
      have ha := HA.out
      refine HG.out.last (by omega) ?_ ?_
      · rw [← ha]; exact h1
      · rw [← ha]; exact h2
    have HSEG := hid hseg
    clear hseg
    by_cases hlt4 : M < d.size
    · have hltz4 : (M : Int) < (d.size : Int) := by omega
      have hc := sym_any blk off cap d w RR.out (by omega) (d.size - A) A M d.size (Nat.le_refl _) (by omega) hlt4 dm wr hdm.symm (by omega) S1.out (by rw [← hM]; exact HF.out.first (by omega)) (by rw [← hM]; exact HF.out.second (by omega) (Nat.le_refl _))
      rw [hdm] at hc
      have HC := hid hc
      clear hc S1 hM hB
      go_wp2_with (first | (go_at_call 242; refine HC.out.mono ?_; rintro e w1 ⟨rfl, dl, hs1, hm1⟩; have HS1 : Aside _ := hs1; have HM1 := hid hm1; clear hs1 hm1))
      go_roundg (d.size - 2 * c)
      case measure => omega
      case rel =>
        obtain ⟨hp1, ho1, ht1⟩ := HM1.out
        exact ⟨2 * c, dl, by first | rfl | go_num, by omega, by omega, HW.out.step hp1 (Nat.le_refl _) ht1, HSEG.out dl hp1 ho1, HS1⟩
    · have hltz4 : ¬ (M : Int) < (d.size : Int) := by omega
      have HSO := hid (HF.out.short (show d.size ≤ A + c by omega))
      clear hM hB
      go_wp2_with fail
      go_roundg (d.size - 2 * c)
      case measure => omega
      case rel => exact ⟨2 * c, dm, by first | rfl | go_num, by omega, by omega, HW, HSEG.out dm (permIn_refl _ _ _) HSO.out, S1⟩
  · have hltz2 : ¬ (c : Int) < (d.size : Int) := by omega
    go_wp2_with fail
    go_end0
    obtain ⟨n, os, hw⟩ := S1.out
    exact ⟨rfl, dk, n, os, HW.out.1, HF.out.short (by omega), HW.out.2, hw⟩
set_option maxHeartbeats 1000000 in
theorem sort_any (blk off cap : Nat) (d : Array Fx) (w : World) (hH : HoldsK encX 2 w blk off d) (hblk : blk < w.heap.size) (hsz : d.size < 1152921504606846976) :
    Calls Tryz.prog 204 #[.slice (some ⟨blk, off, none⟩) d.size cap, .func (.func 205) #[] #[]] w fun e w' => e = .returned (.tuple #[]) ∧ Sorts w blk off d w' := by
  have HI := hid (stable_any blk off cap d w hH hblk hsz)
  clear hH
  go_enter Tryz.func204, Tryz.ntmps204
  go_wp2_with (first | (go_at_call 231; refine HI.out.mono ?_; rintro e w1 ⟨rfl, hs⟩))
  go_end0
  exact ⟨rfl, hs⟩
end Go.Proofs.YtpdccbeeoapplaaGreatDoor

namespace Go.Proofs.YtpdccbeeoapplaaGreatDoor
open Go.RowKit Go.Sort Go.Lib
theorem step_txt0 {ops : Array Oper} {o : Oper} {a : Act} {K : Act → World → Prop} {Q : Exit → Act → World → Prop} {E : Prop} (w : World) (hgd : o.guard = none) (s x : Operand)
    (ho : o.op = .call { callee := .builtin .append, args := #[s, x], argTypes := #[45, 45] }) (q : Option Addr) (n cap : Nat) (p : Option Addr) (c : Nat)
    (hs : a.eval s = .slice q n cap) (hcap : n ≤ cap) (hx : a.eval x = .slice p 0 c) (hq : q = none → n = 0 ∧ cap = 0)
    (h : K (a.put o.dst (.slice q n cap)) w) :
    if Region.wanted o (yielded ops a.tmps) = true then Oper.wp Tryz.prog o a w K Q else E := by
  have hw : Region.wanted o (yielded ops a.tmps) = true := by simp [Region.wanted, hgd]
  rw [if_pos hw]
  obtain ⟨i0, hi0, _, _, _⟩ := info_parts Tryz.infoStr
  have hrun : (Builtin.append_ #[45, 45] o.type #[.slice q n cap, .slice p 0 c]).run Tryz.prog w = .ok (.slice q n cap) w := by
    cases q with
    | none =>
      obtain ⟨rfl, rfl⟩ := hq rfl
      cases p <;> simp [Builtin.append_, run_underlying Tryz.underlying45, Builtin.lenOf, Builtin.firstCells, sizeOf, typeInfo, hi0, loadCells, loadCellsFrom]
    | some q =>
      cases p <;> simp [Builtin.append_, run_underlying Tryz.underlying45, Builtin.lenOf, Builtin.firstCells, sizeOf, typeInfo, hi0, storeCells, loadCells, loadCellsFrom, hcap]
  unfold Oper.wp
  simp [execOp, ho, resolve, invoke, builtin, hs, hx, hrun, Result.andThen]
  exact h
theorem joined_kept {N : Nat} {w : World} {o : List Fx} {x : Fx} {go cp : Nat} (h : OwnJ N w (.slice (some ⟨go, 0, none⟩) (o.length + 1) cp) (o ++ [x])) :
    OwnJ N (w.setCell ⟨go, o.length * 2 + 1, none⟩ x.sl) (.slice (some ⟨go, 0, none⟩) (o.length + 1) cp) (o ++ [x]) := by
  obtain ⟨⟨hrow, htx⟩, hap⟩ := h
  have hlen : (o ++ [x]).length = o.length + 1 := by simp
  rw [hlen] at hrow
  have hst := hrow.stored (o.length * 2 + 1) x.sl
  have hget := (cellsX_get (o ++ [x]) o.length (by simp)).2
  simp only [List.getElem_concat_length] at hget
  have e1 : (cellsX (o ++ [x])).set (o.length * 2 + 1) x.sl = cellsX (o ++ [x]) := by
    apply List.ext_getElem?
    intro j
    rw [List.getElem?_set]
    split
    · rename_i hj
      subst hj
      rw [if_pos (by rw [cellsX_len]; simp; omega)]
      exact hget.symm
    · rfl
  rw [e1] at hst
  refine ⟨⟨by rw [hlen]; exact hst.1, fun y hy => own_else (htx y hy) hrow (by decide) (grown_set w go _ _)⟩, hap⟩
theorem joined_put {N : Nat} {w w4 : World} {v v' : Value} {o : List Fx} {x : Fx} {M : Nat} (h : OwnJ N w v o) (hx : OwnT M w x.sl x.txt) (hM : ∀ y ∈ o, ∀ k, y.sl.ownBlock = some k → k < M) (hNM : N ≤ M)
    (hown : w4.ownsRow N 47 2 v' (o.length + 1) (cellsX o ++ cellsX [x])) (hg : w.grownBy w4 v.ownBlock) : OwnJ N w4 v' (o ++ [x]) := by
  refine ⟨h.1.put (own_weak hx hNM) hown hg, apart_snoc h.2 fun y hy => ?_⟩
  rcases hb : y.sl.ownBlock with _ | k
  · exact Or.inl rfl
  · right
    intro e
    have h1 := hM y hy k hb
    have h2 := (World.ownsRow.lt hx k e.symm).1
    omega
def NewX (w : World) (B : Nat) (f : Fx) : Prop := w.heap[B]? = some (.cells #[.string f.name, .slice f.p f.txt.length f.cap] 47 (0, 0))
theorem step_putX {ops : Array Oper} {o : Oper} {a : Act} {K : Act → World → Prop} {Q : Exit → Act → World → Prop} {E : Prop} (w : World) (hgd : o.guard = none) (s x : Operand)
    (ho : o.op = .call { callee := .builtin .append, args := #[s, x], argTypes := #[36, 36] }) (N : Nat) (v : Value) (os : List Fx) (n : Nat) (hs : a.eval s = v) (hoj : OwnJ N w v os) (hn : os.length = n) (B : Nat) (f : Fx)
    (hx : a.eval x = .slice (some ⟨B, 0, none⟩) 1 1) (hB : NewX w B f) (hl : (n + 1) * 40 ≤ 140737488355328) (hN : N ≤ w.heap.size)
    (h : ∀ g cap w', w'.ownsRow N 47 2 (.slice (some ⟨g, 0, none⟩) (n + 1) cap) (n + 1) (cellsX os ++ cellsX [f]) → w.grownBy w' v.ownBlock → K (a.put o.dst (.slice (some ⟨g, 0, none⟩) (n + 1) cap)) w') :
    if Region.wanted o (yielded ops a.tmps) = true then Oper.wp Tryz.prog o a w K Q else E := by
  subst hn
  obtain ⟨j0, hj, hj0, hj1, hj2⟩ := info_parts Tryz.infoFld
  refine step_append_lies w hgd s x 36 ho N 47 j0 (.agg #[.string ⟨#[]⟩, .slice none 0 0]) 2 40 Tryz.underlying36 hj hj0 hj1 hj2 rfl (by decide) v os.length (cellsX os) hs hoj.1.1 ⟨B, 0, none⟩ 1 1 (cellsX [f]) hx rfl (fun j u hju => ?_) (cellsX_one _) (by decide) (by unfold maxLen; omega) hl hN _ rfl (fun g cap w' h1 h2 _ _ => h g cap w' h1 h2)
  exact World.news_of_block hB j u hju
def JoinSt (w2 : World) (ds : List Fx) (i : Nat) (v : Value) (wr : World) : Prop :=
  ∃ o : List Fx, OwnJ w2.heap.size wr v o ∧ o.map Fx.fld = joinS ((ds.map Fx.fld).take i) ∧ Below w2.heap.size w2 wr
theorem sl_shape {n0 : Nat} {w : World} {x : Fx} (h : OwnT n0 w x.sl x.txt) : x.txt.length ≤ x.cap ∧ (x.p = none → x.txt.length = 0 ∧ x.cap = 0) := by
  rcases h.2 with ⟨hv, h0⟩ | ⟨g, cap, cur, hv, _, _, h1, _⟩
  · unfold Fx.sl at hv
    injection hv with h1 h2 h3
    rw [h0, h3]
    exact ⟨Nat.le_refl _, fun _ => ⟨rfl, rfl⟩⟩
  · unfold Fx.sl at hv
    injection hv with h3 h4 h5
    rw [h5]
    exact ⟨h1, fun h => by rw [h3] at h; cases h⟩
def SortOf (d ds : List Fx) : Prop := ds.Perm d ∧ (ds.Pairwise fun x y => ltOf cmpF y x = false) ∧ ∀ c, ds.filter (fun x => decide (x.name = c)) = d.filter fun x => decide (x.name = c)
theorem sortX_any (u : Value) (d : List Fx) (n0 : Nat) (w : World) (hn : n0 ≤ w.heap.size) (ho : w.ownsRow n0 47 2 u d.length (cellsX d)) (h20 : d.length < 1152921504606846976) :
    Calls Tryz.prog 204 #[u, .func (.func 205) #[] #[]] w fun e w' =>
      e = .returned (.tuple #[]) ∧ ∃ (ds : List Fx) (p : Option Addr) (cap : Nat), u = .slice p ds.length cap ∧ (ds = [] ∨ ∃ g, p = some ⟨g, 0, none⟩ ∧ XsAt w' g 0 ds) ∧ SortOf d ds ∧ Below n0 w w' := by
  rcases ho.2 with ⟨rfl, h0⟩ | ⟨g, cap, cur, rfl, hN, hg, _, _, hsz, htk⟩
  · obtain rfl := List.length_eq_zero_iff.1 h0
    refine (sort_none none 0 _ w).mono ?_
    rintro e w' ⟨rfl, rfl⟩
    exact ⟨rfl, [], none, 0, rfl, Or.inl rfl, ⟨List.Perm.refl _, List.Pairwise.nil, fun _ => rfl⟩, Below.refl _ _⟩
  · have hgl := (Array.getElem?_eq_some_iff.1 hg).1
    have hH : HoldsK encX 2 w g 0 d.toArray := holds_of_heap d.toArray hg (by simpa using htk)
    have hs : d.toArray.size = d.length := by simp
    have hc := sort_any g 0 cap d.toArray w hH hgl (by rw [hs]; exact h20)
    rw [hs] at hc
    refine hc.mono ?_
    rintro e w' ⟨rfl, hso⟩
    obtain ⟨ds, h1, h2, h3, h4, h5⟩ := sorted_xs hH hgl hso
    obtain ⟨d', n, os, _, _, _, hw⟩ := hso
    refine ⟨rfl, ds, _, cap, by rw [h1, hs], Or.inr ⟨g, rfl, h2⟩, ⟨by simpa using h3, h4, by simpa using h5⟩, ?_⟩
    rw [hw]
    exact below_sortWorld (Below.refl _ _) hn g 0 n d' os hN
def JoinPost (w : World) (d : List Fx) (e : Ending) (w' : World) : Prop :=
  ∃ (u : Value) (ds o : List Fx), e = .returned u ∧ SortOf d ds ∧ OwnJ w.heap.size w' u o ∧ o.map Fx.fld = joinS (ds.map Fx.fld) ∧ Below w.heap.size w w'
set_option maxHeartbeats 8000000 in
set_option maxRecDepth 100000 in
theorem joined_any (v : Value) (d : List Fx) (w : World) (hv : IsXs w v d) (hl : d.length * 40 ≤ 140737488355328) (htot : totF (d.map Fx.fld) * 16 ≤ 140737488355328) :
    Calls Tryz.prog 178 #[v] w fun e w' => JoinPost w d e w' := by
  obtain ⟨i0, hi, hz0, hz1, hz2⟩ := info_parts Tryz.infoStr
  obtain ⟨j0, hj, hj0, hj1, hj2⟩ := info_parts Tryz.infoFld
  have HI := hid hi
  have HJ := hid hj
  have HC := hid (cloneX_any v d w hv hl)
  have HTX := hid hv.at_all
  have HTOT := hid htot
  have HL := hid hl
  have h20 : d.length < 1152921504606846976 := by omega
  clear hv hi hj htot hl
  go_enter Tryz.func178, Tryz.ntmps178
  go_wp2_with (first | (go_at_call 203; refine HC.out.mono ?_; rintro e w1 ⟨u1, rfl, ho1, hb1⟩) | (go_at_call 204; refine (sortX_any _ d w.heap.size _ hb1.size ho1 h20).mono ?_; rintro e w2 ⟨rfl, ds, p, cap, rfl, hds, hso, hb2⟩; have HDS := hid hds; have HSO := hid hso; clear hds hso))
  have hbw2 : Below w.heap.size w w2 := hb1.trans hb2
  have hlen : ds.length = d.length := HSO.out.1.length_eq
  have hlz : ds.length ≤ 9223372036854775807 := by omega
  have HTD : Hid (∀ x ∈ ds, x.at w2) := fun x hx => (HTX.out x (HSO.out.1.mem_iff.1 hx)).kept hbw2
  have HTT : Hid (totF (ds.map Fx.fld) * 16 ≤ 140737488355328) := by
    have : totF (ds.map Fx.fld) = totF (d.map Fx.fld) := ((HSO.out.1.map Fx.fld).map _).sum_nat
    show _ ≤ _
    rw [this]; exact HTOT.out
  have HB2 := hid hbw2
  have HL2 : Hid (ds.length * 40 ≤ 140737488355328) := by show _ ≤ _; rw [hlen]; exact HL.out
  clear ho1 hb1 hb2 hbw2 hlen
  have ST0 : Hid (JoinSt w2 ds 0 (.slice none 0 0) w2) := ⟨[], ⟨⟨World.ownsRow_nil _ _ _ _, fun x hx => by simp at hx⟩, List.Pairwise.nil⟩, rfl, Below.refl _ _⟩
  go_loopg [4, 14] ds.length (fun g v4 vi wr => ∃ i : Nat, vi = .int .i64 i ∧ i ≤ ds.length ∧ ds.length - i ≤ g ∧ JoinSt w2 ds i v4 wr)
  case atStart => exact ⟨0, rfl, by omega, by omega, ST0.out⟩
  case round =>
    obtain ⟨i, rfl, hi, hgk, o, hoj, hmap, hb⟩ := hrel
    by_cases hlt : i < ds.length
    · have hltz : (i : Int) < (ds.length : Int) := by omega
      have hiz : (0 : Int) ≤ i := by omega
      obtain ⟨g, rfl, hxs⟩ : ∃ g, p = some ⟨g, 0, none⟩ ∧ XsAt w2 g 0 ds := by
        rcases HDS.out with h | h
        · rw [h] at hlt; simp at hlt
        · exact h
      have hcs := hxs i hlt
      have c0 : wr.cell? ⟨g, i * 2, none⟩ = some (.string ds[i].name) := by
        have := (hb.cell (p := ⟨g, 0 + i * 2, none⟩) (cell_block hcs.1)).trans hcs.1
        simpa using this
      have c1 : wr.cell? ⟨g, i * 2 + 1, none⟩ = some ds[i].sl := by
        have := (hb.cell (p := ⟨g, 0 + i * 2 + 1, none⟩) (cell_block hcs.2)).trans hcs.2
        simpa using this
      have hfi : (ds[i]).at w2 := HTD.out _ (List.getElem_mem hlt)
      have htk : (ds.map Fx.fld).take (i + 1) = (ds.map Fx.fld).take i ++ [ds[i].fld] := by
        rw [List.take_succ_eq_append_getElem (by rw [List.length_map]; exact hlt)]; simp
      obtain ⟨f, hf⟩ : ∃ f, ds[i] = f := ⟨_, rfl⟩
      rw [hf] at c0 c1 hfi htk
      have hbound : (totF (o.map Fx.fld) + f.txt.length) * 16 ≤ 140737488355328 := by
        have h1 : totF ((ds.map Fx.fld).take (i + 1)) ≤ totF (ds.map Fx.fld) := by
          conv => rhs; rw [← List.take_append_drop (i + 1) (ds.map Fx.fld), totF_append]
          omega
        rw [htk, totF_append, totF_one, ← totF_joinS, ← hmap] at h1
        have h2 := HTT.out
        have h3 : (f.fld).2.length = f.txt.length := rfl
        omega
      have holen : o.length ≤ i := by
        have h1 := joinS_len ((ds.map Fx.fld).take i)
        rw [← hmap, List.length_map, List.length_take] at h1
        omega
      have HBND := hid hbound
      have HFI := hid (hfi.kept hb)
      have HNX : Hid (joinS ((ds.map Fx.fld).take (i + 1)) = joinStep (o.map Fx.fld) f.fld) := by show _ = _; rw [htk, joinS_snoc, hmap]
      have HB := hid hb
      have hsz := hb.size
      clear hxs hcs hfi htk hf hmap hb hbound
      unfold Fx.sl at c1
      rcases List.eq_nil_or_concat o with rfl | ⟨o', x, rfl⟩
      · obtain ⟨p4, cp4, rfl⟩ : ∃ p cp, u4 = .slice p 0 cp := by
          rcases hoj.1.1.2 with ⟨hv, _⟩ | ⟨g4, cap4, cur, hv, _⟩
          · exact ⟨none, 0, hv⟩
          · exact ⟨_, _, hv⟩
        have HUL : Hid (∀ k, (Value.slice p4 0 cp4).ownBlock = some k → k < wr.heap.size) := fun k hk => (World.ownsRow.lt hoj.1.1 k hk).2
        have cb : decide ((0 : Int) ≤ -1) = false := by decide
        have HOJ := hid hoj
        clear hoj
        go_wp2_with fail
        obtain ⟨W1, hW1⟩ : ∃ W1, wr.alloc (.cells #[.string f.name, .slice f.p f.txt.length f.cap] 47) = W1 := ⟨_, rfl⟩
        have hgr1 : Below wr.heap.size wr W1 := by rw [← hW1]; exact (Below.refl _ _).alloc (Nat.le_refl _) _
        have b0 : W1.cell? ⟨wr.heap.size, 0, none⟩ = some (.string f.name) := by rw [← hW1]; simp
        have b1 : W1.cell? ⟨wr.heap.size, 1, none⟩ = some (.slice f.p f.txt.length f.cap) := by rw [← hW1]; simp
        have HOJ1 := hid (HOJ.out.on hgr1)
        have HFI1 := hid (HFI.out.kept hgr1)
        have HB1 := hid (HB.out.trans (hgr1.mono hsz))
        have HJS : Hid (joinStep (([] : List Fx).map Fx.fld) f.fld = (([] : List Fx).map Fx.fld) ++ [f.fld]) := rfl
        rw [hW1]
        clear c0 c1 hgr1 hW1
        · go_quiet (fail)
          go_wp2_with fail
          have b0' : (W1.drewN nq).cell? ⟨wr.heap.size, 0, none⟩ = some (.string f.name) := b0
          have b1' : (W1.drewN nq).cell? ⟨wr.heap.size, 1, none⟩ = some (.slice f.p f.txt.length f.cap) := b1
          have HOJ2 : Hid (OwnJ w2.heap.size (W1.drewN nq).drew (.slice p4 0 cp4) []) := HOJ1.out
          have HFI2 : Hid (f.at (W1.drewN nq)) := HFI1.out
          have HB3 : Hid (Below w2.heap.size w2 (W1.drewN nq).drew) := (bel_drewN HB1.out nq).drew
          clear b0 b1
          generalize W1.drewN nq = W2 at b0' b1' HOJ2 HFI2 HB3 ⊢
          have F0 : Hid (∀ w' : World, Below W2.drew.heap.size W2.drew w' → w'.cell? ⟨wr.heap.size, 0, none⟩ = some (.string f.name) ∧ w'.cell? ⟨wr.heap.size, 1, none⟩ = some (.slice f.p f.txt.length f.cap)) := fun w' hb => ⟨(hb.cell (p := ⟨wr.heap.size, 0, none⟩) (cell_block (w := W2.drew) b0')).trans b0', (hb.cell (p := ⟨wr.heap.size, 1, none⟩) (cell_block (w := W2.drew) b1')).trans b1'⟩
          have HCT := hid (cloneT_any f.p f.cap f.txt W2.drew HFI2.out (by have := HBND.out; omega))
          have hFl : wr.heap.size < W2.heap.size := cell_block b0'
          have FA : Hid (∀ w3 w4 : World, (w3.cell? ⟨wr.heap.size, 0, none⟩ = some (.string f.name) ∧ w3.cell? ⟨wr.heap.size, 1, none⟩ = some (.slice f.p f.txt.length f.cap)) → w3.grownBy w4 (Value.slice p4 0 cp4).ownBlock → w4.cell? ⟨wr.heap.size, 0, none⟩ = some (.string f.name) ∧ w4.cell? ⟨wr.heap.size, 1, none⟩ = some (.slice f.p f.txt.length f.cap)) := fun w3 w4 h hg =>
            ⟨(hg.cell_far ⟨wr.heap.size, 0, none⟩ (cell_block h.1) (fun e => Nat.lt_irrefl _ (HUL.out _ e.symm))).trans h.1, (hg.cell_far ⟨wr.heap.size, 1, none⟩ (cell_block h.2) (fun e => Nat.lt_irrefl _ (HUL.out _ e.symm))).trans h.2⟩
          go_region_held3 (fun w' => w'.cell? ⟨wr.heap.size, 0, none⟩ = some (.string f.name) ∧ w'.cell? ⟨wr.heap.size, 1, none⟩ = some (.slice f.p f.txt.length f.cap))
            (first | exact ⟨b0', b1'⟩ | exact q5 | exact q6 | exact q7)
            (first
              | (go_at_call 206; refine HCT.out.mono ?_; rintro e w5 ⟨sv, rfl, hot5, hb5⟩; obtain ⟨pc, capc, rfl⟩ := own_slice hot5; have q5 := F0.out w5 hb5; have hb6 : Below W2.drew.heap.size W2.drew (w5.alloc (.cells #[.string f.name, .slice pc f.txt.length capc] 47)) := Below.alloc hb5 hb5.size _; have q6 := F0.out _ hb6; have hoj6 : OwnJ w2.heap.size (w5.alloc (.cells #[.string f.name, .slice pc f.txt.length capc] 47)) (Value.slice p4 0 cp4) ([] : List Fx) := OwnJ.on (w := W2.drew) HOJ2.out hb6; have hnew6 : NewX (w5.alloc (.cells #[.string f.name, .slice pc f.txt.length capc] 47)) w5.heap.size ⟨f.name, pc, capc, f.txt⟩ := heap_alloc_new w5 _; have hbase6 : w2.heap.size ≤ (w5.alloc (.cells #[.string f.name, .slice pc f.txt.length capc] 47)).heap.size := Nat.le_trans HB3.out.size hb6.size)
              | (refine step_putX _ (by rfl) (.tmp 45) (.tmp 52) (by rfl) w2.heap.size (Value.slice p4 0 cp4) ([] : List Fx) 0 (by rfl) (by assumption) (by simp) _ _ (by rfl) (by assumption) (by have := HL2.out; omega) (by assumption) ?_; intro g7 cap7 w7 hown7 hg7; have q7 := FA.out _ _ (by assumption) hg7))
          have hoj7 := joined_put (x := ⟨f.name, pc, capc, f.txt⟩) (M := W2.drew.heap.size) hoj6 (OwnT.on hot5 ((Below.refl _ _).alloc (Nat.le_refl _) _)) (fun y hy k hk => (World.ownsRow.lt (HOJ2.out.1.2 y hy) k hk).2) HB3.out.size hown7 hg7
          have HB7 : Hid (Below w2.heap.size w2 w7) := (HB3.out.trans (hb6.mono HB3.out.size)).grown hg7 hbase6 (fun k hk => (World.ownsRow.lt hoj6.1.1 k hk).1)
          have HOJ7 := hid hoj7
          clear hoj7 hown7 hg7 hoj6 hnew6 hot5 hb5 hb6 q5 q6 q7
          go_wp2_with fail
          go_roundg (ds.length - (i + 1))
          case measure => omega
          refine ⟨i + 1, by go_num, by omega, by omega, _, HOJ7.out, ?_, HB7.out⟩
          rw [HNX.out, HJS.out, List.map_append]
          rfl
      · rw [List.concat_eq_append] at *
        obtain ⟨go, cp, rfl, hNgo, hgol⟩ := hoj.1.1.form (by simp)
        have hol : (o' ++ [x]).length = o'.length + 1 := by simp
        rw [hol] at hoj ⊢ holen
        have hgo0 : wr.cell? ⟨go, o'.length * 2, none⟩ = some (.string x.name) := by
          have h1 := hoj.1.1
          rw [hol] at h1
          have h2 := cellsX_get (o' ++ [x]) o'.length (by simp)
          simp only [List.getElem_concat_length] at h2
          rw [h1.cellAt _ (by omega)]; exact h2.1
        have hgo1 : wr.cell? ⟨go, o'.length * 2 + 1, none⟩ = some (.slice x.p x.txt.length x.cap) := by
          have h1 := hoj.1.1
          rw [hol] at h1
          have h2 := cellsX_get (o' ++ [x]) o'.length (by simp)
          simp only [List.getElem_concat_length] at h2
          rw [h1.cellAt _ (by omega)]; exact h2.2
        have hz : (o'.length : Int) + 1 - 1 = (o'.length : Int) := by omega
        have z1 : (0 : Int) ≤ (o'.length : Int) := by omega
        have z2 : (o'.length : Int) < (o'.length : Int) + 1 := by omega
        have z3 : o'.length ≤ 9223372036854775806 := by omega
        have HOJ := hid hoj
        clear hoj
        go_wp2_with fail
        obtain ⟨W1, hW1⟩ : ∃ W1, wr.alloc (.cells #[.string f.name, .slice f.p f.txt.length f.cap] 47) = W1 := ⟨_, rfl⟩
        have hgr1 : Below wr.heap.size wr W1 := by rw [← hW1]; exact (Below.refl _ _).alloc (Nat.le_refl _) _
        have b0 : W1.cell? ⟨wr.heap.size, 0, none⟩ = some (.string f.name) := by rw [← hW1]; simp
        have b1 : W1.cell? ⟨wr.heap.size, 1, none⟩ = some (.slice f.p f.txt.length f.cap) := by rw [← hW1]; simp
        have r0 : W1.cell? ⟨go, o'.length * 2, none⟩ = some (.string x.name) := (hgr1.cell (p := ⟨go, o'.length * 2, none⟩) hgol).trans hgo0
        have r1 : W1.cell? ⟨go, o'.length * 2 + 1, none⟩ = some (.slice x.p x.txt.length x.cap) := (hgr1.cell (p := ⟨go, o'.length * 2 + 1, none⟩) hgol).trans hgo1
        have HOJ1 := hid (HOJ.out.on hgr1)
        have HFI1 := hid (HFI.out.kept hgr1)
        have HB1 := hid (HB.out.trans (hgr1.mono hsz))
        rw [hW1]
        clear c0 c1 hgo0 hgo1 hgr1 hW1
        cases hq : (x.name.toList == f.name.toList) with
        | true =>
          have hnm : x.name = f.name := by rw [toList_eq, decide_eq_true_eq] at hq; exact hq
          have HJS : Hid (joinStep ((o' ++ [x]).map Fx.fld) f.fld = (o'.map Fx.fld) ++ [(x.name, x.txt ++ f.txt)]) := by
            show _ = _
            rw [List.map_append]
            exact joinStep_same _ _ _ hnm
          have hxt : x.txt.length + f.txt.length ≤ totF ((o' ++ [x]).map Fx.fld) + f.txt.length := by
            have := totF_mem (fs := (o' ++ [x]).map Fx.fld) (f := x.fld) (List.mem_map.2 ⟨x, by simp, rfl⟩)
            simp only [Fx.fld] at this; omega
          have hxb : (x.txt.length + f.txt.length) * 16 ≤ 140737488355328 := by have := HBND.out; omega
          clear hxt hnm
          go_quiet (fail)
          go_wp2_with fail
          have b1' : (W1.drewN nq).cell? ⟨wr.heap.size, 1, none⟩ = some (.slice f.p f.txt.length f.cap) := b1
          have r1' : (W1.drewN nq).cell? ⟨go, o'.length * 2 + 1, none⟩ = some (.slice x.p x.txt.length x.cap) := r1
          have HOJ2 : Hid (OwnJ w2.heap.size (W1.drewN nq).drew (.slice (some ⟨go, 0, none⟩) (o'.length + 1) cp) (o' ++ [x])) := HOJ1.out
          have HFI2 : Hid (f.at (W1.drewN nq)) := HFI1.out
          have HB3 : Hid (Below w2.heap.size w2 (W1.drewN nq).drew) := (bel_drewN HB1.out nq).drew
          clear b0 b1 r0 r1
          generalize W1.drewN nq = W2 at b1' r1' HOJ2 HFI2 HB3 ⊢
          have fz : W2.frozen? ⟨go, o'.length * 2 + 1, none⟩ = false := by
            have h1 := HOJ2.out.1.1
            rw [hol] at h1
            exact h1.frozenAt _
          by_cases hf0 : f.txt = []
          · have hf0l : f.txt.length = 0 := by rw [hf0]; rfl
            have HSH := hid (sl_shape (HOJ2.out.1.2 x (by simp)))
            have HOK := hid (joined_kept HOJ2.out)
            rw [hf0l] at b1' ⊢
            go_region_law (first
              | (refine step_txt0 _ (by rfl) (.tmp 39) (.tmp 41) (by rfl) x.p x.txt.length x.cap f.p f.cap (by rfl) HSH.out.1 (by rfl) HSH.out.2 ?_))
            all_goals
              go_wp2_with fail
              go_roundg (ds.length - (i + 1))
              case measure => omega
              refine ⟨i + 1, by go_num, by omega, by omega, o' ++ [x], HOK.out, ?_, HB3.out.setCell (p := ⟨go, o'.length * 2 + 1, none⟩) hNgo _⟩
              rw [HNX.out, HJS.out, hf0, List.append_nil, List.map_append]
              rfl
          · obtain ⟨b, off, hfp, hcl⟩ : ∃ b off, f.p = some ⟨b, off, none⟩ ∧ ∀ i, (h : i < f.txt.length) → W2.cell? ⟨b, off + i, none⟩ = some (.string f.txt[i]) := by
              rcases HFI2.out with h | h
              · exact absurd h hf0
              · exact h
            have hpos : 0 < f.txt.length := List.length_pos_iff.2 hf0
            rw [hfp] at b1' ⊢
            have HOT : Hid (OwnT w2.heap.size W2.drew x.sl x.txt) := HOJ2.out.1.2 x (by simp)
            have HCL : Hid (∀ j u, (f.txt.map Value.string)[j]? = some u → W2.drew.cell? ((⟨b, off, none⟩ : Addr).add j) = some u) := fun j u hj => by
              rw [addr_add]
              have hjl : j < f.txt.length := by have := (List.getElem?_eq_some_iff.1 hj).1; simpa using this
              rw [List.getElem?_map, List.getElem?_eq_getElem hjl] at hj
              rw [← Option.some.inj hj]
              exact hcl j hjl
            have HNB : Hid (w2.heap.size ≤ W2.drew.heap.size) := HB3.out.size
            clear hcl
            go_region_law (first
              | (refine step_append_lies _ (by rfl) (.tmp 39) (.tmp 41) 45 (by rfl) w2.heap.size 9 i0 (.string ⟨#[]⟩) 1 16 Tryz.underlying45 HI.out hz0 hz1 hz2 rfl (by decide) x.sl x.txt.length (x.txt.map Value.string) (by rfl) HOT.out ⟨b, off, none⟩ f.txt.length f.cap (f.txt.map Value.string) (by rfl) (by simp) HCL.out (by intro u hu; obtain ⟨t, _, rfl⟩ := List.mem_map.1 hu; rfl) hpos (by unfold maxLen; omega) hxb HNB.out _ rfl ?_; intro g4 cap4 w4 hown4 hg4 hat4 hlt4; obtain ⟨k1, k2, hoj4⟩ := joined_grown HOJ2.out hown4 hg4 hat4))
            all_goals
              have HOJ4 := hid hoj4
              have HB4 : Hid (Below w2.heap.size w2 w4) := HB3.out.grown hg4 HNB.out (fun k hk => (World.ownsRow.lt HOT.out k hk).1)
              clear hoj4 hown4 hg4 hat4
              go_wp2_with fail
              go_roundg (ds.length - (i + 1))
              case measure => omega
              refine ⟨i + 1, by go_num, by omega, by omega, _, HOJ4.out, ?_, HB4.out.setCell (p := ⟨go, o'.length * 2 + 1, none⟩) hNgo _⟩
              rw [HNX.out, HJS.out, List.map_append]
              rfl
        | false =>
          have hnm : x.name ≠ f.name := by rw [toList_eq, decide_eq_false_iff_not] at hq; exact hq
          have HJS : Hid (joinStep ((o' ++ [x]).map Fx.fld) f.fld = ((o' ++ [x]).map Fx.fld) ++ [f.fld]) := by
            show _ = _
            rw [List.map_append]
            exact joinStep_other _ _ _ hnm
          clear hnm
          go_quiet (fail)
          go_wp2_with fail
          have b0' : (W1.drewN nq).cell? ⟨wr.heap.size, 0, none⟩ = some (.string f.name) := b0
          have b1' : (W1.drewN nq).cell? ⟨wr.heap.size, 1, none⟩ = some (.slice f.p f.txt.length f.cap) := b1
          have HOJ2 : Hid (OwnJ w2.heap.size (W1.drewN nq).drew (.slice (some ⟨go, 0, none⟩) (o'.length + 1) cp) (o' ++ [x])) := HOJ1.out
          have HFI2 : Hid (f.at (W1.drewN nq)) := HFI1.out
          have HB3 : Hid (Below w2.heap.size w2 (W1.drewN nq).drew) := (bel_drewN HB1.out nq).drew
          clear b0 b1 r0 r1
          generalize W1.drewN nq = W2 at b0' b1' HOJ2 HFI2 HB3 ⊢
          have F0 : Hid (∀ w' : World, Below W2.drew.heap.size W2.drew w' → w'.cell? ⟨wr.heap.size, 0, none⟩ = some (.string f.name) ∧ w'.cell? ⟨wr.heap.size, 1, none⟩ = some (.slice f.p f.txt.length f.cap)) := fun w' hb => ⟨(hb.cell (p := ⟨wr.heap.size, 0, none⟩) (cell_block (w := W2.drew) b0')).trans b0', (hb.cell (p := ⟨wr.heap.size, 1, none⟩) (cell_block (w := W2.drew) b1')).trans b1'⟩
          have HCT := hid (cloneT_any f.p f.cap f.txt W2.drew HFI2.out (by have := HBND.out; omega))
          have hFl : wr.heap.size < W2.heap.size := cell_block b0'
          have FA : Hid (∀ w3 w4 : World, (w3.cell? ⟨wr.heap.size, 0, none⟩ = some (.string f.name) ∧ w3.cell? ⟨wr.heap.size, 1, none⟩ = some (.slice f.p f.txt.length f.cap)) → w3.grownBy w4 (Value.slice (some ⟨go, 0, none⟩) (o'.length + 1) cp).ownBlock → w4.cell? ⟨wr.heap.size, 0, none⟩ = some (.string f.name) ∧ w4.cell? ⟨wr.heap.size, 1, none⟩ = some (.slice f.p f.txt.length f.cap)) := fun w3 w4 h hg =>
            ⟨(hg.cell_far ⟨wr.heap.size, 0, none⟩ (cell_block h.1) (fun e => by have : wr.heap.size = go := (by simpa [Value.ownBlock] using e); omega)).trans h.1, (hg.cell_far ⟨wr.heap.size, 1, none⟩ (cell_block h.2) (fun e => by have : wr.heap.size = go := (by simpa [Value.ownBlock] using e); omega)).trans h.2⟩
          go_region_held3 (fun w' => w'.cell? ⟨wr.heap.size, 0, none⟩ = some (.string f.name) ∧ w'.cell? ⟨wr.heap.size, 1, none⟩ = some (.slice f.p f.txt.length f.cap))
            (first | exact ⟨b0', b1'⟩ | exact q5 | exact q6 | exact q7)
            (first
              | (go_at_call 206; refine HCT.out.mono ?_; rintro e w5 ⟨sv, rfl, hot5, hb5⟩; obtain ⟨pc, capc, rfl⟩ := own_slice hot5; have q5 := F0.out w5 hb5; have hb6 : Below W2.drew.heap.size W2.drew (w5.alloc (.cells #[.string f.name, .slice pc f.txt.length capc] 47)) := Below.alloc hb5 hb5.size _; have q6 := F0.out _ hb6; have hoj6 : OwnJ w2.heap.size (w5.alloc (.cells #[.string f.name, .slice pc f.txt.length capc] 47)) (Value.slice (some ⟨go, 0, none⟩) (o'.length + 1) cp) (o' ++ [x]) := OwnJ.on (w := W2.drew) HOJ2.out hb6; have hnew6 : NewX (w5.alloc (.cells #[.string f.name, .slice pc f.txt.length capc] 47)) w5.heap.size ⟨f.name, pc, capc, f.txt⟩ := heap_alloc_new w5 _; have hbase6 : w2.heap.size ≤ (w5.alloc (.cells #[.string f.name, .slice pc f.txt.length capc] 47)).heap.size := Nat.le_trans HB3.out.size hb6.size)
              | (refine step_putX _ (by rfl) (.tmp 45) (.tmp 52) (by rfl) w2.heap.size (Value.slice (some ⟨go, 0, none⟩) (o'.length + 1) cp) (o' ++ [x]) (o'.length + 1) (by rfl) (by assumption) (by simp) _ _ (by rfl) (by assumption) (by have := HL2.out; omega) (by assumption) ?_; intro g7 cap7 w7 hown7 hg7; have q7 := FA.out _ _ (by assumption) hg7))
          have hoj7 := joined_put (x := ⟨f.name, pc, capc, f.txt⟩) (M := W2.drew.heap.size) hoj6 (OwnT.on hot5 ((Below.refl _ _).alloc (Nat.le_refl _) _)) (fun y hy k hk => (World.ownsRow.lt (HOJ2.out.1.2 y hy) k hk).2) HB3.out.size (by rw [hol]; exact hown7) hg7
          have HB7 : Hid (Below w2.heap.size w2 w7) := (HB3.out.trans (hb6.mono HB3.out.size)).grown hg7 hbase6 (fun k hk => (World.ownsRow.lt hoj6.1.1 k hk).1)
          have HOJ7 := hid hoj7
          clear hoj7 hown7 hg7 hoj6 hnew6 hot5 hb5 hb6 q5 q6 q7
          go_wp2_with fail
          go_roundg (ds.length - (i + 1))
          case measure => omega
          refine ⟨i + 1, by go_num, by omega, by omega, _, HOJ7.out, ?_, HB7.out⟩
          rw [HNX.out, HJS.out, List.map_append]
          rfl
    · have hltz : ¬ (i : Int) < (ds.length : Int) := by omega
      obtain rfl : i = ds.length := by omega
      have HP : Hid (OwnJ w2.heap.size wr u4 o ∧ o.map Fx.fld = joinS (ds.map Fx.fld) ∧ Below w2.heap.size w2 wr) := by
        rw [List.take_of_length_le (by simp)] at hmap
        exact ⟨hoj, hmap, hb⟩
      clear hoj hmap hb
      go_wp2_with fail
      go_ret
      obtain ⟨h1, h2, h3⟩ := HP.out
      have hsz := HB2.out.size
      exact ⟨_, ds, o, rfl, HSO.out, ⟨⟨own_weak h1.1.1 hsz, fun x hx => own_weak (h1.1.2 x hx) hsz⟩, h1.2⟩, h2, HB2.out.trans (h3.mono hsz)⟩
end Go.Proofs.YtpdccbeeoapplaaGreatDoor

namespace Go.Proofs.YtpdccbeeoapplaaGreatDoor
open Go.RowKit Go.Sort Go.Lib
theorem joinS_all {P : ByteArray → Prop} {Q : ByteArray → Prop} (fs : List Fld) (h : ∀ f ∈ fs, P f.1 ∧ ∀ t ∈ f.2, Q t) : ∀ f ∈ joinS fs, P f.1 ∧ ∀ t ∈ f.2, Q t := by
  have : ∀ (l o : List Fld), (∀ f ∈ l, P f.1 ∧ ∀ t ∈ f.2, Q t) → (∀ f ∈ o, P f.1 ∧ ∀ t ∈ f.2, Q t) → ∀ f ∈ l.foldl joinStep o, P f.1 ∧ ∀ t ∈ f.2, Q t := by
    intro l
    induction l with
    | nil => intro o _ ho; exact ho
    | cons g l ih =>
      intro o hl ho
      rw [List.foldl_cons]
      refine ih _ (fun f hf => hl f (by simp [hf])) ?_
      have hg := hl g (by simp)
      rcases List.eq_nil_or_concat o with rfl | ⟨o', x, rfl⟩
      · intro f hf; rw [joinStep_nil, List.mem_singleton] at hf; subst hf; exact hg
      · rw [List.concat_eq_append] at ho ⊢
        have hx := ho x (by simp)
        by_cases e : x.1 = g.1
        · rw [joinStep_same _ _ _ e]
          intro f hf
          rw [List.mem_append, List.mem_singleton] at hf
          rcases hf with hf | rfl
          · exact ho f (by simp [hf])
          · refine ⟨hx.1, fun t ht => ?_⟩
            rw [List.mem_append] at ht
            exact ht.elim (hx.2 t) (hg.2 t)
        · rw [joinStep_other _ _ _ e]
          intro f hf
          rw [List.mem_append, List.mem_singleton] at hf
          rcases hf with hf | rfl
          · exact ho f hf
          · exact hg
  exact this fs [] h (fun f hf => by simp at hf)
theorem enters_misnamed : ∀ args w, (callFunc 163 args).run Tryz.prog w = .ok (.enter 163 args) w := enters_of Tryz.func163 (by kernel_rfl) rfl
theorem enters_bare : ∀ args w, (callFunc 164 args).run Tryz.prog w = .ok (.enter 164 args) w := enters_of Tryz.func164 (by kernel_rfl) rfl
def Fy : Type := { x : Fx // x.name.size ≤ maxLen }
def fyNone : Fy := ⟨⟨⟨#[]⟩, none, 0, []⟩, Nat.zero_le _⟩
def misB (f : Fld) : Bool := !fieldB f.1.data.toList
def bareB (f : Fld) : Bool := f.2.isEmpty
set_option maxHeartbeats 1000000 in
theorem has_none (p : Option Addr) (c : Nat) (fv : Value) (w : World) :
    Calls Tryz.prog 177 #[.slice p 0 c, fv] w fun e w' => e = .returned (.bool false) ∧ w' = w := by
  have hix : Calls Tryz.prog 202 #[.slice p 0 c, fv] w fun e w' => e = .returned (.int .i64 (-1)) ∧ w' = w := by
    go_enter Tryz.func202, Tryz.ntmps202
    go_wp2_with fail
    refine wp_loop_rounds 1 ?_
    rw [rounds_succ]
    go_wp2_with fail
    go_ret
    exact ⟨rfl, rfl⟩
  have HX := hid hix
  clear hix
  go_enter Tryz.func177, Tryz.ntmps177
  go_wp2_with (first | (go_at_call 202; refine HX.out.mono ?_; rintro e w1 ⟨rfl, rfl⟩))
  go_ret
  exact ⟨rfl, rfl⟩
theorem xs_enc {w : World} {b off : Nat} {d : List Fx} (h : XsAt w b off d) (j : Nat) (hj : j < d.length) (i : Nat) (v : Value) (hv : (encX d[j])[i]? = some v) : w.cell? ⟨b, off + j * 2 + i, none⟩ = some v := by
  obtain ⟨c0, c1⟩ := h j hj
  match i, hv with
  | 0, hv => simp [encX] at hv; subst hv; exact c0
  | 1, hv => simp [encX] at hv; subst hv; exact c1
theorem hasMis_any (v : Value) (d : List Fx) (w : World) (hv : IsXs w v d) (hf : FitX d) :
    Calls Tryz.prog 177 #[v, .func (.func 163) #[] #[]] w fun e w' => e = .returned (.bool ((d.map Fx.fld).any misB)) ∧ Below w.heap.size w w' := by
  obtain ⟨p, cap, rfl, hd, _⟩ := hv
  rcases hd with rfl | ⟨b, off, rfl, hx⟩
  · refine (has_none p cap _ w).mono ?_
    rintro e w' ⟨rfl, rfl⟩
    exact ⟨rfl, Below.refl _ _⟩
  · by_cases h0 : d = []
    · subst h0
      refine (has_none _ cap _ w).mono ?_
      rintro e w' ⟨rfl, rfl⟩
      exact ⟨rfl, Below.refl _ _⟩
    · have hlen : 0 < d.length := List.length_pos_iff.2 h0
      have hfn : ∀ x ∈ d, x.name.size ≤ maxLen := fun x hx => (hf.2 x hx).1
      have hl := hf.1
      unfold maxLen at hl
      obtain ⟨zs, hzs⟩ : ∃ zs : List Fy, zs.map (·.1) = d := ⟨d.attachWith _ hfn, List.attachWith_map_subtype_val ..⟩
      have hzl : zs.length = d.length := by rw [← hzs, List.length_map]
      letI : Inhabited Fy := ⟨fyNone⟩
      have hc := AnyQ.slices_ContainsFunc (α := Fy) Tryz.hasFld 2 Tryz.isAgg47 Tryz.sizeOf47 (fun x => encX x.1) (fun _ => rfl) (fun x => misB x.1.fld) 163 #[] enters_misnamed b off d.length cap zs w
        (fun W x hb => (misnamed_any x.1 W x.2).mono fun _ _ ⟨h1, h2⟩ => ⟨h1, hb.trans (h2.below.mono hb.size)⟩) (by omega) (by omega) (cell_block (hx 0 hlen).1)
        (fun j hj i u hu => by
          have hj' : j < d.length := by omega
          rw [getElem!_pos zs j hj] at hu
          have e : (zs[j]).1 = d[j] := by subst hzs; simp
          rw [e] at hu
          exact xs_enc hx j hj' i u hu)
      change Calls Tryz.prog 177 _ _ _ at hc
      refine hc.mono ?_
      rintro e w' ⟨rfl, hb⟩
      refine ⟨ret_bool ?_, hb⟩
      rw [List.take_of_length_le (by omega), ← hzs]
      simp [List.any_map, Function.comp_def]
theorem hasBare_any (v : Value) (d : List Fx) (w : World) (hv : IsXs w v d) (hl : d.length ≤ maxLen) :
    Calls Tryz.prog 177 #[v, .func (.func 164) #[] #[]] w fun e w' => e = .returned (.bool ((d.map Fx.fld).any bareB)) ∧ Below w.heap.size w w' := by
  obtain ⟨p, cap, rfl, hd, _⟩ := hv
  unfold maxLen at hl
  rcases hd with rfl | ⟨b, off, rfl, hx⟩
  · refine (has_none p cap _ w).mono ?_
    rintro e w' ⟨rfl, rfl⟩
    exact ⟨rfl, Below.refl _ _⟩
  · by_cases h0 : d = []
    · subst h0
      refine (has_none _ cap _ w).mono ?_
      rintro e w' ⟨rfl, rfl⟩
      exact ⟨rfl, Below.refl _ _⟩
    · have hlen : 0 < d.length := List.length_pos_iff.2 h0
      have hc := AnyQ.slices_ContainsFunc (α := Fx) Tryz.hasFld 2 Tryz.isAgg47 Tryz.sizeOf47 encX (fun _ => rfl) (fun x => bareB x.fld) 164 #[] enters_bare b off d.length cap d w
        (fun W x hb => (bare_any x W).mono fun _ _ ⟨h1, h2⟩ => ⟨h1, hb.trans (h2.below.mono hb.size)⟩) (by omega) (by omega) (cell_block (hx 0 hlen).1)
        (fun j hj i u hu => by
          rw [getElem!_pos d j hj] at hu
          exact xs_enc hx j hj i u hu)
      change Calls Tryz.prog 177 _ _ _ at hc
      refine hc.mono ?_
      rintro e w' ⟨rfl, hb⟩
      refine ⟨ret_bool ?_, hb⟩
      rw [List.take_length]
      simp [List.any_map, Function.comp_def]
def NormPost (w : World) (d : List Fx) (e : Ending) (w' : World) : Prop :=
  (((d.map Fx.fld).any misB = true ∧ e = .returned (.tuple #[.slice none 0 0, .int .i64 2])) ∨
   ((d.map Fx.fld).any misB = false ∧ ∃ ds, SortOf d ds ∧
     (((joinS (ds.map Fx.fld)).any bareB = true ∧ e = .returned (.tuple #[.slice none 0 0, .int .i64 3])) ∨
      ((joinS (ds.map Fx.fld)).any bareB = false ∧ mayB (joinS (ds.map Fx.fld)) = false ∧ e = .returned (.tuple #[.slice none 0 0, .int .i64 5])) ∨
      ((joinS (ds.map Fx.fld)).any bareB = false ∧ mayB (joinS (ds.map Fx.fld)) = true ∧ ∃ u o, e = .returned (.tuple #[u, .int .i64 0]) ∧ OwnJ w.heap.size w' u o ∧ o.map Fx.fld = joinS (ds.map Fx.fld))))) ∧ Below w.heap.size w w'
theorem joined_fit {d ds o : List Fx} (hf : FitX d) (hso : SortOf d ds) (ho : o.map Fx.fld = joinS (ds.map Fx.fld)) (htot : totF (d.map Fx.fld) * 16 ≤ 140737488355328) : FitX o := by
  have hall : ∀ f ∈ ds.map Fx.fld, f.1.size ≤ maxLen ∧ ∀ t ∈ f.2, t.size ≤ maxLen := fun f hf' => by
    obtain ⟨x, hx, rfl⟩ := List.mem_map.1 hf'
    have := hf.2 x (hso.1.mem_iff.1 hx)
    exact ⟨this.1, this.2.2⟩
  have hj := joinS_all (P := fun n => n.size ≤ maxLen) (Q := fun t => t.size ≤ maxLen) _ hall
  have htt : totF (joinS (ds.map Fx.fld)) = totF (d.map Fx.fld) := by
    rw [totF_joinS]; exact ((hso.1.map Fx.fld).map _).sum_nat
  refine ⟨?_, fun x hx => ?_⟩
  · have h1 := joinS_len (ds.map Fx.fld)
    rw [← ho, List.length_map, List.length_map] at h1
    have := hso.1.length_eq
    have := hf.1
    omega
  · have hm : x.fld ∈ joinS (ds.map Fx.fld) := by rw [← ho]; exact List.mem_map.2 ⟨x, hx, rfl⟩
    obtain ⟨h1, h2⟩ := hj _ hm
    refine ⟨h1, ?_, h2⟩
    have := totF_mem hm
    rw [htt] at this
    unfold maxLen
    omega
set_option maxHeartbeats 2000000 in
set_option maxRecDepth 100000 in
theorem norm_any (v : Value) (d : List Fx) (w : World) (hv : IsXs w v d) (hf : FitX d) (hl : d.length * 40 ≤ 140737488355328) (htot : totF (d.map Fx.fld) * 16 ≤ 140737488355328) :
    Calls Tryz.prog 140 #[v] w fun e w' => NormPost w d e w' := by
  have HM := hid (hasMis_any v d w hv hf)
  cases hmis : (d.map Fx.fld).any misB with
  | true =>
    rw [hmis] at HM
    clear hv
    go_enter Tryz.func140, Tryz.ntmps140
    go_wp2_with (first | (go_at_call 177; refine HM.out.mono ?_; rintro e w1 ⟨rfl, hb1⟩))
    go_ret2
    exact ⟨Or.inl ⟨hmis, rfl⟩, hb1⟩
  | false =>
    rw [hmis] at HM
    have HV := hid hv
    have HF := hid hf
    clear hv hf
    go_enter Tryz.func140, Tryz.ntmps140
    go_wp2_with (first | (go_at_call 177; refine HM.out.mono ?_; rintro e w1 ⟨rfl, hb1⟩) | (go_at_call 178; refine (joined_any v d w1 (HV.out.kept hb1) hl htot).mono ?_; rintro e w2 ⟨u, ds, o, rfl, hso, hoj, hom, hb2⟩; have HSO := hid hso; have HOJ := hid hoj; have HOM := hid hom; clear hso hoj hom))
    have hfo := joined_fit HF.out HSO.out HOM.out htot
    have hbar := hasBare_any u o w2 HOJ.out.1.is hfo.1
    rw [HOM.out] at hbar
    have HBA := hid hbar
    have HFO := hid hfo
    clear hbar hfo
    have hbw : Below w.heap.size w w2 := hb1.trans (hb2.mono hb1.size)
    cases hbb : (joinS (ds.map Fx.fld)).any bareB with
    | true =>
      rw [hbb] at HBA
      go_wp2_with (first | (go_at_call 177; refine HBA.out.mono ?_; rintro e w3 ⟨rfl, hb3⟩))
      go_ret2
      exact ⟨Or.inr ⟨hmis, ds, HSO.out, Or.inl ⟨hbb, rfl⟩⟩, hbw.trans (hb3.mono hbw.size)⟩
    | false =>
      rw [hbb] at HBA
      cases hmm : mayB (joinS (ds.map Fx.fld)) with
      | false =>
        go_wp2_with (first | (go_at_call 177; refine HBA.out.mono ?_; rintro e w3 ⟨rfl, hb3⟩; have hmy := hid (may_any u o w3 (HOJ.out.1.is.kept hb3) HFO.out); rw [HOM.out, hmm] at hmy) | (go_at_call 83; refine hmy.out.mono ?_; rintro e w4 ⟨rfl, hg4⟩))
        go_ret2
        exact ⟨Or.inr ⟨hmis, ds, HSO.out, Or.inr (Or.inl ⟨hbb, hmm, rfl⟩)⟩, (hbw.trans (hb3.mono hbw.size)).trans (hg4.below.mono (hbw.trans (hb3.mono hbw.size)).size)⟩
      | true =>
        go_wp2_with (first | (go_at_call 177; refine HBA.out.mono ?_; rintro e w3 ⟨rfl, hb3⟩; have hmy := hid (may_any u o w3 (HOJ.out.1.is.kept hb3) HFO.out); rw [HOM.out, hmm] at hmy) | (go_at_call 83; refine hmy.out.mono ?_; rintro e w4 ⟨rfl, hg4⟩))
        go_ret2
        have hoj4 := (HOJ.out.on hb3).on hg4.below
        exact ⟨Or.inr ⟨hmis, ds, HSO.out, Or.inr (Or.inr ⟨hbb, hmm, u, o, rfl, ⟨⟨own_weak hoj4.1.1 hb1.size, fun x hx => own_weak (hoj4.1.2 x hx) hb1.size⟩, hoj4.2⟩, HOM.out⟩)⟩, (hbw.trans (hb3.mono hbw.size)).trans (hg4.below.mono (hbw.trans (hb3.mono hbw.size)).size)⟩
end Go.Proofs.YtpdccbeeoapplaaGreatDoor
