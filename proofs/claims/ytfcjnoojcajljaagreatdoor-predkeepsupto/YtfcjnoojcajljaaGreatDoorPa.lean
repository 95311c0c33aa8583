/-
  Texts of this claim, one behind the other: Plain Leaf Tac Rng Shelf Ix Spl Spell Fld Bld Dec0 Dec1 May0 May Dec2 Gen Ord Ltb Trm Rname Rp0 Rp1 Rp2 Pc0 Pc1.
-/
import GoSem.Claim
import Derived.Test.YtfcjnoojcajljaaGreatDoorProg
import Derived.WalkKit
import Derived.WalkSpells
import Derived.WalkLawsBesides
import Derived.Laws.Rows
import Derived.Deep.LoopGhost
import Derived.Deep.QuietTactic
import Derived.Deep.DrawnRows
import Derived.Deep.RegionHeld3
import Derived.Deep.AppendLies
import Derived.BigQuiet
import Derived.BigRegion
import Derived.LoopN
import Derived.OwnWalk
import Derived.Laws.OwnMore
import Derived.Laws.MakeOwn
import Derived.Shelf.SlSortCmp.QuietGrown
import Derived.RangeFuncNested
import Derived.RangeFuncBound
import Derived.RangeFuncCalls
import Derived.RangeFuncLeaves
import Derived.Shelf.Strings.Builder1
import Derived.Shelf.Strings.OnBuilder
import Derived.Shelf.Small.Utf8
import Derived.Shelf.Small.Bits
import Derived.Shelf.Small.Strs
import Derived.Shelf.Small.Wraps
import Derived.Shelf.Strconv.Itoa0
import Derived.Shelf.Strings.Search1
import Derived.Shelf.Strings.Search2
import Derived.Shelf.Strings.Search3
import Derived.Shelf.Strings.Prefix
import Derived.Shelf.Strings.Runes
import Derived.Shelf.Strings.IndexAny
import Derived.Shelf.Strings.AsciiSet
import Derived.Shelf.Strings.IndexAnyAll
import Derived.Shelf.Unicode.DecodeSlow
import Derived.Shelf.Unicode.DecodeAny
import Derived.Ground.Names2Prog
import Derived.Shelf.Slices.Clone
import Derived.Shelf.Slices.SearchI
import Derived.Ground.SlgnProg
import Derived.Shelf.SlicesE.Clone
import Derived.Ground.SlgfProg
import Derived.Shelf.SlicesE.IndexFunc
import Derived.Shelf.SlGeneric
import Derived.Shelf.SlicesQ.IndexFunc
import Derived.Shelf.SlSortCmp.InsertionK
import Derived.Ground.SlgqProg
import Derived.Ground.SlsfProg
import Derived.Shelf.SlLaysE0
import Derived.Shelf.SlLaysF0
import Derived.Shelf.SlLaysH0
import Derived.Shelf.SlLaysQ
import Derived.Shelf.SlSortCmp.SmallK
import Derived.Shelf.SlicesQ.Equal
import Derived.Lib.Bytealg
import Derived.Lib.IndexBytes
import Derived.Shelf.Abstract
import Derived.Shelf.RegionOpen
import Derived.OwnWalkIn
import Derived.TacticsInMore
import Derived.LoopNIn
import Derived.LoopIn
import Derived.Lib.Strings
import Derived.Deep.CutRange
import Derived.Laws.StructEq
import Derived.Lib.SlicesCompact
import Derived.Lib.SliceRun
/-
  The plain mathematics of package name: which bytes and which texts are what, with no word of the program.
-/
namespace Go.Proofs.YtfcjnoojcajljaaGreatDoor

def bigB (n : Int) : Bool := decide (65 ≤ n) && decide (n ≤ 90)
def smallB (n : Int) : Bool := decide (97 ≤ n) && decide (n ≤ 122)
def digB (n : Int) : Bool := decide (48 ≤ n) && decide (n ≤ 57)
def letB (n : Int) : Bool := bigB n || smallB n
def lodB (n : Int) : Bool := letB n || digB n
def idB (n : Int) : Bool := lodB n || n == 45 || n == 46

theorem bigB_true {n : Int} : bigB n = true ↔ 65 ≤ n ∧ n ≤ 90 := by simp [bigB]
theorem smallB_true {n : Int} : smallB n = true ↔ 97 ≤ n ∧ n ≤ 122 := by simp [smallB]
theorem digB_true {n : Int} : digB n = true ↔ 48 ≤ n ∧ n ≤ 57 := by simp [digB]

/-- A text of 1 to 32 bytes: the first as f says, each behind it as g says. -/
def spell (f g : Int → Bool) (l : List UInt8) : Bool :=
  match l with
  | [] => false
  | c :: r => decide (r.length + 1 ≤ 32) && f (c.toNat : Int) && r.all fun x => g (x.toNat : Int)

def typeB (l : List UInt8) : Bool := spell bigB letB l
def idenB (l : List UInt8) : Bool := spell idB idB l
def fieldB (l : List UInt8) : Bool := spell smallB lodB l
def tempB (l : List UInt8) : Bool := spell lodB lodB l

theorem spell_unfold (f g : Int → Bool) (s : ByteArray) (h : 0 < s.size) :
    spell f g s.data.toList = (decide (s.size ≤ 32) && f (s[0].toNat : Int) && (s.data.toList.drop 1).all fun x => g (x.toNat : Int)) := by
  obtain ⟨⟨l⟩⟩ := s
  cases l with
  | nil => exact absurd h (Nat.lt_irrefl 0)
  | cons c r => rfl

theorem spell_empty (f g : Int → Bool) (s : ByteArray) (h : s.size = 0) : spell f g s.data.toList = false := by
  obtain ⟨⟨l⟩⟩ := s
  cases l with
  | nil => rfl
  | cons c r => exact absurd h (Nat.succ_ne_zero _)

theorem spell_long (f g : Int → Bool) (s : ByteArray) (h : 32 < s.size) : spell f g s.data.toList = false := by
  rw [spell_unfold f g s (by omega)]
  have : ¬ s.size ≤ 32 := by omega
  simp [this]

theorem spell_first (f g : Int → Bool) (s : ByteArray) (h : 0 < s.size) (hf : f (s[0].toNat : Int) = false) : spell f g s.data.toList = false := by
  rw [spell_unfold f g s h]
  simp [hf]

theorem byte_at (s : ByteArray) (k : Nat) (h : k < s.size) : s.data.toList[k]'(by simpa using h) = s[k] := rfl

theorem spell_at (f g : Int → Bool) (s : ByteArray) (k : Nat) (h1 : 1 ≤ k) (h : k < s.size) (hg : g (s[k].toNat : Int) = false) : spell f g s.data.toList = false := by
  rw [spell_unfold f g s (by omega)]
  have : ((s.data.toList.drop 1).all fun x => g (x.toNat : Int)) = false := by
    rw [Bool.eq_false_iff]
    intro hall
    rw [List.all_eq_true] at hall
    have hl : k < s.data.toList.length := by simpa using h
    have hm : s[k] ∈ s.data.toList.drop 1 := by
      rw [← byte_at s k h, List.mem_iff_getElem]
      refine ⟨k - 1, by simp at hl ⊢; omega, ?_⟩
      rw [List.getElem_drop]
      congr 1
      omega
    have := hall _ hm
    rw [hg] at this
    cases this
  rw [this]; simp

theorem spell_true (f g : Int → Bool) (s : ByteArray) (h : 0 < s.size) (h32 : s.size ≤ 32) (hf : f (s[0].toNat : Int) = true)
    (hg : ∀ k, 1 ≤ k → (hk : k < s.size) → g (s[k].toNat : Int) = true) : spell f g s.data.toList = true := by
  rw [spell_unfold f g s h]
  have : ((s.data.toList.drop 1).all fun x => g (x.toNat : Int)) = true := by
    rw [List.all_eq_true]
    intro x hx
    rw [List.mem_iff_getElem] at hx
    obtain ⟨j, hj, rfl⟩ := hx
    rw [List.getElem_drop]
    have hj2 : 1 + j < s.size := by simp at hj; omega
    exact hg (1 + j) (by omega) hj2
  rw [this]; simp [h32, hf]

end Go.Proofs.YtfcjnoojcajljaaGreatDoor

/-
  The contracts of the functions that look at one byte.
-/
namespace Go.Proofs.YtfcjnoojcajljaaGreatDoor
open Go.RowKit

theorem hid {p : Prop} (h : p) : Hid p := h
theorem ret_bool {a b : Bool} (h : a = b) : Ending.returned (.bool a) = .returned (.bool b) := by rw [h]
theorem ret_int {k : IntKind} {a b : Int} (h : a = b) : Ending.returned (.int k a) = .returned (.int k b) := by rw [h]

set_option maxHeartbeats 400000 in
theorem big_any (n : Int) (w : World) : Calls Tryz.prog 131 #[.int .u8 n] w fun e w' => e = .returned (.bool (bigB n)) ∧ w' = w := by
  go_enter Tryz.func131, Tryz.ntmps131
  go_wp2
  all_goals go_ret
  all_goals refine ⟨ret_bool ?_, rfl⟩
  all_goals (rw [Bool.eq_iff_iff]; simp [bigB]; try omega)

set_option maxHeartbeats 400000 in
theorem small_any (n : Int) (w : World) : Calls Tryz.prog 93 #[.int .u8 n] w fun e w' => e = .returned (.bool (smallB n)) ∧ w' = w := by
  go_enter Tryz.func93, Tryz.ntmps93
  go_wp2
  all_goals go_ret
  all_goals refine ⟨ret_bool ?_, rfl⟩
  all_goals (rw [Bool.eq_iff_iff]; simp [smallB]; try omega)

set_option maxHeartbeats 400000 in
theorem letter_any (n : Int) (w : World) : Calls Tryz.prog 120 #[.int .u8 n] w fun e w' => e = .returned (.bool (letB n)) ∧ w' = w := by
  go_enter Tryz.func120, Tryz.ntmps120
  go_wp2
  all_goals go_ret
  all_goals refine ⟨ret_bool ?_, rfl⟩
  all_goals (rw [Bool.eq_iff_iff]; simp [letB, bigB, smallB]; try omega)

set_option maxHeartbeats 400000 in
theorem lod_any (n : Int) (w : World) : Calls Tryz.prog 94 #[.int .u8 n] w fun e w' => e = .returned (.bool (lodB n)) ∧ w' = w := by
  go_enter Tryz.func94, Tryz.ntmps94
  go_wp2
  all_goals go_ret
  all_goals refine ⟨ret_bool ?_, rfl⟩
  all_goals (rw [Bool.eq_iff_iff]; simp [lodB, digB, letB, bigB, smallB]; try omega)

end Go.Proofs.YtfcjnoojcajljaaGreatDoor

/-
  The kit's tactics that the walks of package value take, in one place.
-/
namespace Go.Proofs.YtfcjnoojcajljaaGreatDoor
open Go.RowKit

theorem bel_drewN {B : Nat} {a w : World} (h : Below B a w) (n : Nat) : Below B a (w.drewN n) := ⟨h.os, h.tape, h.output, h.size, h.block⟩

theorem bel_then {B : Nat} {a b c : World} (h : Below B a b) (hB : B ≤ b.heap.size) (k : Below b.heap.size b c) : Below B a c := h.trans (k.mono hB)

theorem Tryz.mixed : Tryz.prog.follows .mixedOrders = true := by kernel_rfl

/-- The world has drawn, and new blocks lie behind it; nothing else has turned. -/
def Grown (w w' : World) : Prop := ∃ q os, w' = Sort.grow (w.drewN q) os

theorem Grown.refl (w : World) : Grown w w := ⟨0, #[], by rw [Sort.grow_empty]; rfl⟩
theorem Grown.draws (w : World) (n : Nat) : Grown w (w.drewN n) := ⟨n, #[], by rw [Sort.grow_empty]⟩
theorem Grown.trans {a b c : World} (h : Grown a b) (k : Grown b c) : Grown a c := by
  obtain ⟨q, os, rfl⟩ := h
  obtain ⟨q', os', rfl⟩ := k
  exact ⟨q + q', os ++ os', by show Sort.grow (Sort.grow ((a.drewN q).drewN q') os) os' = _; rw [Sort.grow_grow, World.drewN_drewN]⟩
theorem Grown.alloc {a w : World} (h : Grown a w) (o : Obj) : Grown a (w.alloc o) := h.trans ⟨0, #[o], by rw [Sort.alloc_eq_grow]; rfl⟩
theorem Grown.drewN {a w : World} (h : Grown a w) (n : Nat) : Grown a (w.drewN n) := h.trans (Grown.draws w n)
theorem Grown.on {a w : World} {q : Nat} {os : Array Obj} (h : Grown a w) : Grown a (Sort.grow (w.drewN q) os) := h.trans ⟨q, os, rfl⟩
theorem Grown.below {w w' : World} (h : Grown w w') : Below w.heap.size w w' := by
  obtain ⟨q, os, rfl⟩ := h
  refine ⟨rfl, rfl, rfl, by simp [Sort.grow, World.drewN], fun k hk => ?_⟩
  show (w.heap ++ os)[k]? = w.heap[k]?
  rw [Array.getElem?_append_left hk]

theorem drewN_heap (w : World) (n : Nat) : (w.drewN n).heap = w.heap := rfl

end Go.Proofs.YtfcjnoojcajljaaGreatDoor

/-
  A range over an iterator that keeps its place in a box of its own: the law that the walk of Parse takes, after the library's law for one that only reads.
-/
namespace Go.Proofs.YtfcjnoojcajljaaGreatDoor
open Go.RowKit

/-- The iterator's contract: it may store into the box Bs between two rounds; a round that goes on keeps what Kp says. -/
def SeqB {α : Type} (F : Fence) (n : Nat) (P : Program) (g : Nat) (lb : Array Value) (encs : α → Array Value) (Kp : World → World → Prop) (S Sp : List α → Prop) (N Bs : Nat) (w : World) : Prop :=
  ∀ (l : Nat) (J Jx : List α → World → Prop) (W : World), Below w.heap.size w W → (∀ s W v, J s W → J s (W.setCell ⟨Bs, 0, none⟩ v)) →
    (∀ pre x W1, J pre W1 → pre.length < N → YieldAt F (n - 1) P l (encs x) W1 fun e W' =>
      (e = .returned (.bool true) ∧ J (pre ++ [x]) W' ∧ Kp W1 W') ∨ (e = .returned (.bool false) ∧ Jx (pre ++ [x]) W')) →
    J [] W →
    CallsIn F n P g (#[.func (.yield l) #[] #[]] ++ lb) W fun e W' => (∃ v, e = .returned v) ∧ ((∃ xs, S xs ∧ J xs W') ∨ (∃ pre, Sp pre ∧ Jx pre W'))

variable {F : Fence} {n : Nat} {P : Program}

theorem wpIn_rangeFunc_box {α : Type} {g : Operand} {ps : Array Tmp} {assign body : Code} {Q : Exit → Act → World → Prop} {a : Act} {w : World}
    (hro : F.round = none) (h1 : 1 ≤ n) {gf : Nat} {lb : Array Value} (hg : a.eval g = .func (.func gf) #[] lb) (hFg : F.fn gf) (eg : ∀ args w, (callFunc gf args).run P w = .ok (.enter gf args) w)
    {encs : α → Array Value} {Kp : World → World → Prop} {S Sp : List α → Prop} {N Bs : Nat} (hBs : Bs < w.heap.size) (hseq : SeqB F (n - 1) P gf lb encs Kp S Sp N Bs w)
    (hKt : ∀ {A B C : World}, Kp A B → Kp B C → Kp A C) (hKb : ∀ (W : World) (l : Nat) (o' : Obj), w.heap.size ≤ l → Kp W (W.putObj l o')) (hps : ∀ x, (encs x).size = ps.size)
    (I : List α → World → Prop) (Ix : Code → List α → World → Prop)
    (hIp : ∀ s W o', I s W → I s (W.putObj (w.heap.size + 1) o')) (hIb : ∀ s W v, I s W → I s (W.setCell ⟨Bs, 0, none⟩ v)) (hXp : ∀ c s W o', Ix c s W → Ix c s (W.putObj (w.heap.size + 1) o'))
    (h0 : ∀ o1 o2, I [] ((w.alloc o1).alloc o2)) (a₁ : α → Act)
    (hassign : ∀ (l : Nat) (x : α) (W : World) (K : Act → World → Prop), K (a₁ x) W →
      assign.wpIn (F.inRound l) (n - 1 - 1) P (Exit.then K (fun _ _ _ => False)) { tmps := (ps.zip (encs x)).foldl (fun t (p, v) => t.setIfInBounds p v) a.tmps, defers := [] } W)
    (hbody : ∀ (l : Nat) (pre : List α) (x : α) (W : World), w.heap.size + 1 < W.heap.size → I pre W → pre.length < N → body.wpIn (F.inRound l) (n - 1 - 1) P (ownPostG w.heap.size Kp I Ix (pre ++ [x]) W) (a₁ x) W)
    (hdone : ∀ (xs : List α) (W : World), S xs → I xs W → W.heap[w.heap.size]? = some (.deferred (some [])) → Q .normal { a with defers := { target := .collected w.heap.size, args := #[] } :: a.defers } W)
    (hstop : ∀ (c : Code) (pre : List α) (W : World), Sp pre → Ix c pre W → W.heap[w.heap.size]? = some (.deferred (some [])) → c.wpIn F n P Q { a with defers := { target := .collected w.heap.size, args := #[] } :: a.defers } W) :
    (Code.rangeFunc g ps assign body).wpIn F n P Q a w := by
  refine wpIn_rangeFunc ?_
  intro fn hfn
  rw [hro]
  obtain ⟨rec, hrec⟩ : ∃ rec : LoopState → Option Code → Loop, rec = fun st pe => { state := st, pending := pe, fn, tmps := a.tmps, params := ps, assign, body, defers := w.heap.size } := ⟨_, rfl⟩
  obtain ⟨W1, hW1⟩ : ∃ W1, (w.alloc (.deferred (some []))).alloc (.loop (rec .ready none)) = W1 := ⟨_, rfl⟩
  have hL1 : W1.heap[w.heap.size + 1]? = some (.loop (rec .ready none)) := by
    rw [← hW1]; have := World.alloc_heap_new (w.alloc (.deferred (some []))) (.loop (rec .ready none)); rwa [World.size_alloc] at this
  have hK1 : W1.heap[w.heap.size]? = some (.deferred (some [])) := by
    rw [← hW1]; exact (Below.heap_alloc _ _ _ (by simp)).trans (World.alloc_heap_new w _)
  have hb1 : Below w.heap.size w W1 := by
    rw [← hW1]; exact ((Below.refl _ w).alloc (Nat.le_refl _) _).alloc (by simp) _
  refine ⟨w.heap.size + 1, [{ target := .collected w.heap.size, args := #[] }], W1, { target := .fn (.func gf) lb, args := #[.func (.yield (w.heap.size + 1)) #[] #[]] }, W1, gf,
    #[.func (.yield (w.heap.size + 1)) #[] #[]] ++ lb, W1, ?_, ?_, ?_, ?_, fun _ => h1, ?_⟩
  · rw [← hW1, hrec]; exact run_enterLoop_outer _ _ _ _ _
  · simp only [resolve, hg]
    simp [go_sem]
  · intro f' hf'; simp [Target.leads] at hf'; subst hf'; exact hFg
  · simp [invoke, go_sem, eg]
  · refine (hseq (w.heap.size + 1)
      (fun pre W => I pre W ∧ W.heap[w.heap.size + 1]? = some (.loop (rec .ready none)) ∧ W.heap[w.heap.size]? = some (.deferred (some [])))
      (fun pre W => ∃ c, Ix c pre W ∧ W.heap[w.heap.size + 1]? = some (.loop (rec .done (some c))) ∧ W.heap[w.heap.size]? = some (.deferred (some [])))
      W1 hb1
      (fun s W v hs => ⟨hIb s W v hs.1, (Below.heap_setCell W ⟨Bs, 0, none⟩ v _ (by show _ ≠ Bs; omega)).trans hs.2.1, (Below.heap_setCell W ⟨Bs, 0, none⟩ v _ (by show _ ≠ Bs; omega)).trans hs.2.2⟩)
      ?_ ⟨by rw [← hW1]; exact h0 _ _, hL1, hK1⟩).mono ?_
    · rintro pre x W ⟨hi, hl, hk⟩ hlen
      have hlt : w.heap.size + 1 < W.heap.size := (Array.getElem?_eq_some_iff.1 hl).1
      have hy := run_yield (P := P) (args := encs x) hl (by rw [hrec]; exact hps x)
      rw [hrec] at hy
      refine ⟨fn, _, assign, body, hy, roundIn_of_wpIn hfn (hassign _ x W _ ⟨_, run_beginRound hl (by rw [hrec]), ?_⟩)⟩
      have hl2 : (W.putObj (w.heap.size + 1) (.loop { rec .ready none with state := .busy })).heap[w.heap.size + 1]? = some (.loop { rec .ready none with state := .busy }) := World.putObj_heap_same hlt
      have hk2 : (W.putObj (w.heap.size + 1) (.loop { rec .ready none with state := .busy })).heap[w.heap.size]? = some (.deferred (some [])) := (World.putObj_heap_other (by omega)).trans hk
      have hw2 : Kp W (W.putObj (w.heap.size + 1) (.loop { rec .ready none with state := .busy })) := hKb _ _ _ (by omega)
      refine wpIn_mono (hbody _ pre x _ (Array.getElem?_eq_some_iff.1 hl2).1 (hIp _ _ _ hi) hlen) ?_
      have fin : ∀ (jump : Option Code) (W3 : World), KeepsFrom w.heap.size (W.putObj (w.heap.size + 1) (.loop { rec .ready none with state := .busy })) W3 →
          (Instr.endRound (w.heap.size + 1) jump).run P W3 = .ok (.bool jump.isNone) (W3.putObj (w.heap.size + 1) (.loop (rec (if jump.isNone then .ready else .done) jump))) ∧
          (W3.putObj (w.heap.size + 1) (.loop (rec (if jump.isNone then .ready else .done) jump))).heap[w.heap.size + 1]? = some (.loop (rec (if jump.isNone then .ready else .done) jump)) ∧
          (W3.putObj (w.heap.size + 1) (.loop (rec (if jump.isNone then .ready else .done) jump))).heap[w.heap.size]? = some (.deferred (some [])) := fun jump W3 hk3 => by
        have hl3 := hk3.same _ _ (by omega) hl2 rfl
        have := run_endRound (P := P) jump hl3
        rw [hrec] at this ⊢
        exact ⟨this, World.putObj_heap_same (Array.getElem?_eq_some_iff.1 hl3).1, (World.putObj_heap_other (by omega)).trans (hk3.same _ _ (Nat.le_refl _) hk2 rfl)⟩
      rintro e a3 W3 hp
      cases e with
      | normal =>
        obtain ⟨hk3, hkp3, hi3⟩ := hp
        obtain ⟨hr, hl4, hk4⟩ := fin none W3 hk3
        exact ⟨_, _, hr, .inl ⟨rfl, ⟨hIp _ _ _ hi3, hl4, hk4⟩, hKt (hKt hw2 hkp3) (hKb _ _ _ (by omega))⟩⟩
      | ret =>
        obtain ⟨hk3, hi3⟩ := hp
        obtain ⟨hr, hl4, hk4⟩ := fin (some .ret) W3 hk3
        exact ⟨_, _, hr, .inr ⟨rfl, .ret, hXp _ _ _ _ hi3, hl4, hk4⟩⟩
      | exit id =>
        obtain ⟨hk3, hi3⟩ := hp
        obtain ⟨hr, hl4, hk4⟩ := fin (some (.exit id)) W3 hk3
        exact ⟨_, _, hr, .inr ⟨rfl, .exit id, hXp _ _ _ _ hi3, hl4, hk4⟩⟩
      | goto t =>
        obtain ⟨hk3, hi3⟩ := hp
        obtain ⟨hr, hl4, hk4⟩ := fin (some (.goto t)) W3 hk3
        exact ⟨_, _, hr, .inr ⟨rfl, .goto t, hXp _ _ _ _ hi3, hl4, hk4⟩⟩
      | panic ch => exact hp.elim
      | outgrown => exact hp.elim
    · rintro e W2 ⟨⟨v, rfl⟩, (⟨xs, hS, hi, hl, hk⟩ | ⟨pre, hSp, c, hi, hl, hk⟩)⟩
      · exact ⟨none, _, by have := run_endLoop (P := P) hl (by rw [hrec]; simp); rw [hrec] at this; exact this, hdone xs _ hS (hIp _ _ _ hi) ((World.putObj_heap_other (by omega)).trans hk)⟩
      · exact ⟨some c, _, by have := run_endLoop (P := P) hl (by rw [hrec]; simp); rw [hrec] at this; exact this, hstop c pre _ hSp (hXp _ _ _ _ hi) ((World.putObj_heap_other (by omega)).trans hk)⟩

end Go.Proofs.YtfcjnoojcajljaaGreatDoor

/-
  The library's functions at this program's own numbers: the tables that tie each to the contract that the library proves once.
-/
namespace Go.Proofs
open Go.Shelf
def Tryz.lays169_ren : Go.Shelf.Ren := ⟨fun | 169 => 71 | n => n, fun | 70 => 77 | 9 => 9 | 0 => 0 | 72 => 80 | 37 => 78 | 127 => 112 | 3 => 3 | 5 => 5 | n => n, fun | n => n⟩
theorem Tryz.lays169 : Go.Proofs.Lays.n169 Tryz.prog Tryz.lays169_ren := {
  mixed := by kernel_rfl
  f169 := Tryz.func71.trans (congrArg some (by kernel_rfl))
  t0 := Tryz.underlying0
  a0 := Tryz.isAgg0
  z0 := Tryz.sizeOf0
  v0 := Tryz.zeroValue0
  t3 := Tryz.underlying3
  a3 := Tryz.isAgg3
  z3 := Tryz.sizeOf3
  v3 := Tryz.zeroValue3
  t9 := Tryz.underlying9
  a9 := Tryz.isAgg9
  z9 := Tryz.sizeOf9
  v9 := Tryz.zeroValue9
  t37 := Tryz.underlying78
  a37 := Tryz.isAgg78
  z37 := Tryz.sizeOf78
  v37 := Tryz.zeroValue78
  t70 := Tryz.underlying77
  a70 := Tryz.isAgg77
  z70 := Tryz.sizeOf77
  v70 := Tryz.zeroValue77
  t72 := Tryz.underlying80
  a72 := Tryz.isAgg80
  z72 := Tryz.sizeOf80
  v72 := Tryz.zeroValue80
  t127 := Tryz.underlying112
  a127 := Tryz.isAgg112
  z127 := Tryz.sizeOf112
  v127 := Tryz.zeroValue112 }
theorem Tryz.Builder_Extra_169 : Builder.Extra Tryz.prog Tryz.lays169_ren := {
  sizeBuilder := by kernel_rfl
  liesBuilder := by kernel_rfl
  t5 := Tryz.underlying5
  a5 := Tryz.isAgg5
  z5 := Tryz.sizeOf5
  v5 := Tryz.zeroValue5
  infoByte := by kernel_rfl
  cellsByte := by kernel_rfl
  sizeByte := by kernel_rfl
  neB5 := by decide }
open Go.RowKit in
theorem Tryz.Builder_String_any (B b : Nat) (l : List UInt8) (w : World) (h : Lib.IsBuilder 80 5 B b (Lib.byteCells l) w) (hBw : B ≤ w.heap.size) :
    Calls Tryz.prog 71 #[.pointer (some ⟨b, 0, none⟩)] w fun e w' => e = .returned (.string ⟨l.toArray⟩) ∧ Below B w w' := Any.Builder_String_any Tryz.lays169 Tryz.Builder_Extra_169 B b l w h hBw
def Tryz.lays106_ren : Go.Shelf.Ren := ⟨fun | 106 => 51 | 213 => 90 | 265 => 119 | n => n, fun | 9 => 9 | 3 => 3 | n => n, fun | n => n⟩
theorem Tryz.lays106 : Go.Proofs.Lays.n106 Tryz.prog Tryz.lays106_ren := {
  mixed := by kernel_rfl
  f106 := Tryz.func51.trans (congrArg some (by kernel_rfl))
  f213 := Tryz.func90.trans (congrArg some (by kernel_rfl))
  f265 := Tryz.func119.trans (congrArg some (by kernel_rfl))
  t3 := Tryz.underlying3
  a3 := Tryz.isAgg3
  z3 := Tryz.sizeOf3
  v3 := Tryz.zeroValue3
  t9 := Tryz.underlying9
  a9 := Tryz.isAgg9
  z9 := Tryz.sizeOf9
  v9 := Tryz.zeroValue9 }
open Go.RowKit in
theorem Tryz.strings_Compare (a b : ByteArray) (w : World) :
    Calls Tryz.prog 51 #[.string a, .string b] w fun e w' => e = .returned (.int .i64 (Lib.compareBytes a.data.toList b.data.toList)) ∧ w' = w := Any.strings_Compare Tryz.lays106 a b w
def Tryz.lays137_ren : Go.Shelf.Ren := ⟨fun | 137 => 76 | 217 => 111 | 266 => 129 | n => n, fun | 9 => 9 | 5 => 5 | 3 => 3 | n => n, fun | n => n⟩
theorem Tryz.lays137 : Go.Proofs.Lays.n137 Tryz.prog Tryz.lays137_ren := {
  mixed := by kernel_rfl
  f137 := Tryz.func76.trans (congrArg some (by kernel_rfl))
  f217 := Tryz.func111.trans (congrArg some (by kernel_rfl))
  f266 := Tryz.func129.trans (congrArg some (by kernel_rfl))
  t3 := Tryz.underlying3
  a3 := Tryz.isAgg3
  z3 := Tryz.sizeOf3
  v3 := Tryz.zeroValue3
  t5 := Tryz.underlying5
  a5 := Tryz.isAgg5
  z5 := Tryz.sizeOf5
  v5 := Tryz.zeroValue5
  t9 := Tryz.underlying9
  a9 := Tryz.isAgg9
  z9 := Tryz.sizeOf9
  v9 := Tryz.zeroValue9 }
open Go.RowKit in
theorem Tryz.strings_IndexByte (s : ByteArray) (c : Int) (w : World) :
    Calls Tryz.prog 76 #[.string s, .int .u8 c] w fun e w' => e = .returned (.int .i64 (Lib.indexByte s.data.toList c.toNat.toUInt8)) ∧ w' = w := Any.strings_IndexByte Tryz.lays137 s c w
def Tryz.lays219_ren : Go.Shelf.Ren := ⟨fun | 219 => 125 | 217 => 111 | 225 => 128 | 224 => 127 | 267 => 133 | 266 => 129 | 314 => 134 | n => n, fun | 9 => 9 | 3 => 3 | 4 => 4 | 5 => 5 | 46 => 68 | 146 => 145 | 51 => 101 | n => n, fun | 1 => 0 | n => n⟩
theorem Tryz.lays219 : Go.Proofs.Lays.n219 Tryz.prog Tryz.lays219_ren := {
  mixed := by kernel_rfl
  f217 := Tryz.func111.trans (congrArg some (by kernel_rfl))
  f219 := Tryz.func125.trans (congrArg some (by kernel_rfl))
  f224 := Tryz.func127.trans (congrArg some (by kernel_rfl))
  f225 := Tryz.func128.trans (congrArg some (by kernel_rfl))
  f266 := Tryz.func129.trans (congrArg some (by kernel_rfl))
  f267 := Tryz.func133.trans (congrArg some (by kernel_rfl))
  f314 := Tryz.func134.trans (congrArg some (by kernel_rfl))
  t3 := Tryz.underlying3
  a3 := Tryz.isAgg3
  z3 := Tryz.sizeOf3
  v3 := Tryz.zeroValue3
  t4 := Tryz.underlying4
  a4 := Tryz.isAgg4
  z4 := Tryz.sizeOf4
  v4 := Tryz.zeroValue4
  t5 := Tryz.underlying5
  a5 := Tryz.isAgg5
  z5 := Tryz.sizeOf5
  v5 := Tryz.zeroValue5
  t9 := Tryz.underlying9
  a9 := Tryz.isAgg9
  z9 := Tryz.sizeOf9
  v9 := Tryz.zeroValue9
  t46 := Tryz.underlying68
  a46 := Tryz.isAgg68
  z46 := Tryz.sizeOf68
  v46 := Tryz.zeroValue68
  t51 := Tryz.underlying101
  a51 := Tryz.isAgg101
  z51 := Tryz.sizeOf101
  v51 := Tryz.zeroValue101
  t146 := Tryz.underlying145
  a146 := Tryz.isAgg145
  z146 := Tryz.sizeOf145
  v146 := Tryz.zeroValue145
  g1 := by kernel_rfl }
open Go.RowKit Go.Lib in
theorem Tryz.stringslite_Index_one (s : ByteArray) (c : UInt8) (w : World) :
    Calls Tryz.prog 125 #[.string s, .string ⟨#[c]⟩] w fun e w' => e = .returned (.int .i64 (Lib.indexByte s.data.toList c)) ∧ w' = w := Any.stringslite_Index_one Tryz.lays219 s c w
def Tryz.lays143_ren : Go.Shelf.Ren := ⟨fun | 143 => 106 | 219 => 125 | 217 => 111 | 225 => 128 | 224 => 127 | 267 => 133 | 266 => 129 | 314 => 134 | n => n, fun | 9 => 9 | 3 => 3 | 4 => 4 | 5 => 5 | 46 => 68 | 146 => 145 | 51 => 101 | n => n, fun | 1 => 0 | n => n⟩
theorem Tryz.lays143 : Go.Proofs.Lays.n143 Tryz.prog Tryz.lays143_ren := {
  mixed := by kernel_rfl
  f143 := Tryz.func106.trans (congrArg some (by kernel_rfl))
  f217 := Tryz.func111.trans (congrArg some (by kernel_rfl))
  f219 := Tryz.func125.trans (congrArg some (by kernel_rfl))
  f224 := Tryz.func127.trans (congrArg some (by kernel_rfl))
  f225 := Tryz.func128.trans (congrArg some (by kernel_rfl))
  f266 := Tryz.func129.trans (congrArg some (by kernel_rfl))
  f267 := Tryz.func133.trans (congrArg some (by kernel_rfl))
  f314 := Tryz.func134.trans (congrArg some (by kernel_rfl))
  t3 := Tryz.underlying3
  a3 := Tryz.isAgg3
  z3 := Tryz.sizeOf3
  v3 := Tryz.zeroValue3
  t4 := Tryz.underlying4
  a4 := Tryz.isAgg4
  z4 := Tryz.sizeOf4
  v4 := Tryz.zeroValue4
  t5 := Tryz.underlying5
  a5 := Tryz.isAgg5
  z5 := Tryz.sizeOf5
  v5 := Tryz.zeroValue5
  t9 := Tryz.underlying9
  a9 := Tryz.isAgg9
  z9 := Tryz.sizeOf9
  v9 := Tryz.zeroValue9
  t46 := Tryz.underlying68
  a46 := Tryz.isAgg68
  z46 := Tryz.sizeOf68
  v46 := Tryz.zeroValue68
  t51 := Tryz.underlying101
  a51 := Tryz.isAgg101
  z51 := Tryz.sizeOf101
  v51 := Tryz.zeroValue101
  t146 := Tryz.underlying145
  a146 := Tryz.isAgg145
  z146 := Tryz.sizeOf145
  v146 := Tryz.zeroValue145
  g1 := by kernel_rfl }
open Go.RowKit Go.Lib in
theorem Tryz.strings_Index_one (s : ByteArray) (c : UInt8) (w : World) :
    Calls Tryz.prog 106 #[.string s, .string ⟨#[c]⟩] w fun e w' => e = .returned (.int .i64 (Lib.indexByte s.data.toList c)) ∧ w' = w := Any.strings_Index_one Tryz.lays143 s c w
def Tryz.lays144_ren : Go.Shelf.Ren := ⟨fun | 144 => 96 | 143 => 106 | 219 => 125 | 217 => 111 | 225 => 128 | 224 => 127 | 267 => 133 | 266 => 129 | 314 => 134 | n => n, fun | 9 => 9 | 4 => 4 | 3 => 3 | 5 => 5 | 46 => 68 | 146 => 145 | 51 => 101 | n => n, fun | 1 => 0 | n => n⟩
theorem Tryz.lays144 : Go.Proofs.Lays.n144 Tryz.prog Tryz.lays144_ren := {
  mixed := by kernel_rfl
  f143 := Tryz.func106.trans (congrArg some (by kernel_rfl))
  f144 := Tryz.func96.trans (congrArg some (by kernel_rfl))
  f217 := Tryz.func111.trans (congrArg some (by kernel_rfl))
  f219 := Tryz.func125.trans (congrArg some (by kernel_rfl))
  f224 := Tryz.func127.trans (congrArg some (by kernel_rfl))
  f225 := Tryz.func128.trans (congrArg some (by kernel_rfl))
  f266 := Tryz.func129.trans (congrArg some (by kernel_rfl))
  f267 := Tryz.func133.trans (congrArg some (by kernel_rfl))
  f314 := Tryz.func134.trans (congrArg some (by kernel_rfl))
  t3 := Tryz.underlying3
  a3 := Tryz.isAgg3
  z3 := Tryz.sizeOf3
  v3 := Tryz.zeroValue3
  t4 := Tryz.underlying4
  a4 := Tryz.isAgg4
  z4 := Tryz.sizeOf4
  v4 := Tryz.zeroValue4
  t5 := Tryz.underlying5
  a5 := Tryz.isAgg5
  z5 := Tryz.sizeOf5
  v5 := Tryz.zeroValue5
  t9 := Tryz.underlying9
  a9 := Tryz.isAgg9
  z9 := Tryz.sizeOf9
  v9 := Tryz.zeroValue9
  t46 := Tryz.underlying68
  a46 := Tryz.isAgg68
  z46 := Tryz.sizeOf68
  v46 := Tryz.zeroValue68
  t51 := Tryz.underlying101
  a51 := Tryz.isAgg101
  z51 := Tryz.sizeOf101
  v51 := Tryz.zeroValue101
  t146 := Tryz.underlying145
  a146 := Tryz.isAgg145
  z146 := Tryz.sizeOf145
  v146 := Tryz.zeroValue145
  g1 := by kernel_rfl }
open Go.RowKit Go.Lib in
theorem Tryz.strings_Contains_one (s : ByteArray) (c : UInt8) (w : World) :
    Calls Tryz.prog 96 #[.string s, .string ⟨#[c]⟩] w fun e w' => e = .returned (.bool (decide (0 ≤ Lib.indexByte s.data.toList c))) ∧ w' = w := Any.strings_Contains_one Tryz.lays144 s c w
def Tryz.lays156_ren : Go.Shelf.Ren := ⟨fun | 156 => 42 | 165 => 69 | 166 => 70 | 169 => 71 | 240 => 102 | 241 => 103 | 276 => 122 | 277 => 123 | n => n, fun | 31 => 41 | 9 => 9 | 3 => 3 | 4 => 4 | 0 => 0 | 20 => 20 | 72 => 80 | 76 => 84 | 70 => 77 | 37 => 78 | 75 => 83 | 127 => 112 | 164 => 132 | 5 => 5 | 80 => 86 | n => n, fun | n => n⟩
theorem Tryz.lays156 : Go.Proofs.Lays.n156 Tryz.prog Tryz.lays156_ren := {
  mixed := by kernel_rfl
  f156 := Tryz.func42.trans (congrArg some (by kernel_rfl))
  f165 := Tryz.func69.trans (congrArg some (by kernel_rfl))
  f166 := Tryz.func70.trans (congrArg some (by kernel_rfl))
  f169 := Tryz.func71.trans (congrArg some (by kernel_rfl))
  f240 := Tryz.func102.trans (congrArg some (by kernel_rfl))
  f241 := Tryz.func103.trans (congrArg some (by kernel_rfl))
  f276 := Tryz.func122.trans (congrArg some (by kernel_rfl))
  f277 := Tryz.func123.trans (congrArg some (by kernel_rfl))
  t0 := Tryz.underlying0
  a0 := Tryz.isAgg0
  z0 := Tryz.sizeOf0
  v0 := Tryz.zeroValue0
  t3 := Tryz.underlying3
  a3 := Tryz.isAgg3
  z3 := Tryz.sizeOf3
  v3 := Tryz.zeroValue3
  t4 := Tryz.underlying4
  a4 := Tryz.isAgg4
  z4 := Tryz.sizeOf4
  v4 := Tryz.zeroValue4
  t9 := Tryz.underlying9
  a9 := Tryz.isAgg9
  z9 := Tryz.sizeOf9
  v9 := Tryz.zeroValue9
  t20 := Tryz.underlying20
  a20 := Tryz.isAgg20
  z20 := Tryz.sizeOf20
  v20 := Tryz.zeroValue20
  t31 := Tryz.underlying41
  a31 := Tryz.isAgg41
  z31 := Tryz.sizeOf41
  v31 := Tryz.zeroValue41
  t37 := Tryz.underlying78
  a37 := Tryz.isAgg78
  z37 := Tryz.sizeOf78
  v37 := Tryz.zeroValue78
  t70 := Tryz.underlying77
  a70 := Tryz.isAgg77
  z70 := Tryz.sizeOf77
  v70 := Tryz.zeroValue77
  t72 := Tryz.underlying80
  a72 := Tryz.isAgg80
  z72 := Tryz.sizeOf80
  v72 := Tryz.zeroValue80
  t75 := Tryz.underlying83
  a75 := Tryz.isAgg83
  z75 := Tryz.sizeOf83
  v75 := Tryz.zeroValue83
  t76 := Tryz.underlying84
  a76 := Tryz.isAgg84
  z76 := Tryz.sizeOf84
  v76 := Tryz.zeroValue84
  t127 := Tryz.underlying112
  a127 := Tryz.isAgg112
  z127 := Tryz.sizeOf112
  v127 := Tryz.zeroValue112
  t164 := Tryz.underlying132
  a164 := Tryz.isAgg132
  z164 := Tryz.sizeOf132
  v164 := Tryz.zeroValue132 }
theorem Tryz.Builder_Extra_156 : Builder.Extra Tryz.prog Tryz.lays156_ren := {
  sizeBuilder := by kernel_rfl
  liesBuilder := by kernel_rfl
  t5 := Tryz.underlying5
  a5 := Tryz.isAgg5
  z5 := Tryz.sizeOf5
  v5 := Tryz.zeroValue5
  infoByte := by kernel_rfl
  cellsByte := by kernel_rfl
  sizeByte := by kernel_rfl
  neB5 := by decide }
open Go.RowKit in
theorem Tryz.strings_Join (bk o c : Nat) (xs : List ByteArray) (sep : ByteArray) (w : World) (hcells : ∀ (j : Nat) x, xs[j]? = some x → w.cell? ⟨bk, o + j, none⟩ = some (.string x)) (hbk : bk < w.heap.size) (hN : xs.length ≤ 140737488355328) (hcap : xs.length ≤ c) (hlen : (Lib.join (xs.map (·.data.toList)) sep.data.toList).length ≤ 140737488355328) :
    Calls Tryz.prog 42 #[.slice (some ⟨bk, o, none⟩) xs.length c, .string sep] w fun e w' => e = .returned (.string ⟨(Lib.join (xs.map (·.data.toList)) sep.data.toList).toArray⟩) ∧ Below w.heap.size w w' := Any.strings_Join Tryz.lays156 Tryz.Builder_Extra_156 bk o c xs sep w hcells hbk hN hcap hlen
open Go.RowKit in
theorem Tryz.strings_Join_none (a : Option Addr) (c : Nat) (sep : ByteArray) (w : World) :
    Calls Tryz.prog 42 #[.slice a 0 c, .string sep] w fun e w' => e = .returned (.string ⟨#[]⟩) ∧ w' = w := Any.strings_Join_none Tryz.lays156 Tryz.Builder_Extra_156 a c sep w
def Tryz.laysNm216_ren : Go.Shelf.Ren := ⟨fun | 16 => 64 | n => n, fun | 24 => 41 | 9 => 9 | 4 => 4 | n => n, fun | n => n⟩
theorem Tryz.laysNm216 : Go.Proofs.Lays2.n16 Tryz.prog Tryz.laysNm216_ren := {
  mixed := by kernel_rfl
  f16 := Tryz.func64.trans (congrArg some (by kernel_rfl))
  t4 := Tryz.underlying4
  a4 := Tryz.isAgg4
  z4 := Tryz.sizeOf4
  v4 := Tryz.zeroValue4
  t9 := Tryz.underlying9
  a9 := Tryz.isAgg9
  z9 := Tryz.sizeOf9
  v9 := Tryz.zeroValue9
  t24 := Tryz.underlying41
  a24 := Tryz.isAgg41
  z24 := Tryz.sizeOf41
  v24 := Tryz.zeroValue41
  i9 := by kernel_rfl }
open Go.RowKit Go.Lib in
theorem Tryz.slices_Clone_string (b off n c : Nat) (zs : List ByteArray) (w : World) (hz : n ≤ zs.length) (hbig : n * 16 ≤ 140737488355328) (hc : ∀ j, j < zs.length → w.cell? ⟨b, off + j, none⟩ = some (.string (zs.getD j ByteArray.empty))) :
    Calls Tryz.prog 64 #[.slice (some ⟨b, off, none⟩) n c] w fun e w' => ∃ v', e = .returned v' ∧ w'.ownsRow w.heap.size 9 1 v' n ((zs.take n).map (Value.string)) ∧ v' ≠ .slice none 0 0 ∧ Below w.heap.size w w' := Any.slices_Clone_string Tryz.laysNm216 b off n c zs w hz hbig hc
open Go.RowKit Go.Lib in
theorem Tryz.slices_Clone_string_nil (n c : Nat) (w : World) :
    Calls Tryz.prog 64 #[.slice none n c] w fun e w' => e = .returned (.slice none 0 0) ∧ w' = w := Any.slices_Clone_string_nil Tryz.laysNm216 n c w
open Go.RowKit Go.Lib in
theorem Tryz.slices_Clone_string_zero (a : Addr) (c : Nat) (w : World) :
    Calls Tryz.prog 64 #[.slice (some a) 0 c] w fun e w' => ∃ v', e = .returned v' ∧ w'.ownsRow w.heap.size 9 1 v' 0 [] ∧ v' ≠ .slice none 0 0 ∧ Below w.heap.size w w' := Any.slices_Clone_string_zero Tryz.laysNm216 a c w
def Tryz.laysSlH8_f63_ren : Go.Shelf.Ren := ⟨fun | 8 => 63 | 6 => 98 | n => n, fun | 22 => 41 | 23 => 9 | 25 => 37 | 4 => 4 | 3 => 3 | 0 => 0 | n => n, fun | n => n⟩
theorem Tryz.laysSlH8_f63 : Go.Proofs.SlLaysH.n8 Tryz.prog Tryz.laysSlH8_f63_ren := {
  mixed := by kernel_rfl
  f6 := ⟨Tryz.f98.name, by decide, Tryz.func98.trans (congrArg some (by kernel_rfl))⟩
  f8 := ⟨Tryz.f63.name, by decide, Tryz.func63.trans (congrArg some (by kernel_rfl))⟩
  t0 := Tryz.underlying0
  a0 := Tryz.isAgg0
  z0 := Tryz.sizeOf0
  v0 := Tryz.zeroValue0
  t3 := Tryz.underlying3
  a3 := Tryz.isAgg3
  z3 := Tryz.sizeOf3
  v3 := Tryz.zeroValue3
  t4 := Tryz.underlying4
  a4 := Tryz.isAgg4
  z4 := Tryz.sizeOf4
  v4 := Tryz.zeroValue4
  t22 := Tryz.underlying41
  a22 := Tryz.isAgg41
  z22 := Tryz.sizeOf41
  v22 := Tryz.zeroValue41
  a23 := Tryz.isAgg9
  z23 := Tryz.sizeOf9
  t25 := Tryz.underlying37
  a25 := Tryz.isAgg37
  z25 := Tryz.sizeOf37
  v25 := Tryz.zeroValue37 }
open Go.RowKit Go.Lib in
theorem Tryz.slices_ContainsFunc {α : Type} [Inhabited α] (enc : α → Value) (p : α → Bool) (g : Nat) (lb : Array Value) (eg : ∀ args w, (callFunc g args).run Tryz.prog w = .ok (.enter g args) w) (b off n c : Nat) (zs : List α) (w : World) (hp : PredAt Tryz.prog g lb enc p w) (hz : n ≤ zs.length) (hbig : n ≤ 9223372036854775807) (hc : ∀ j, j < zs.length → w.cell? ⟨b, off + j, none⟩ = some (enc zs[j]!)) :
    Calls Tryz.prog 63 #[.slice (some ⟨b, off, none⟩) n c, .func (.func g) #[] lb] w fun e w' => e = .returned (.bool ((zs.take n).any p)) ∧ ∃ q, w' = w.drewN q := AnyE.slices_ContainsFunc Tryz.laysSlH8_f63 enc p g lb eg b off n c zs w hp hz hbig hc
open Go.RowKit Go.Lib in
theorem Tryz.slices_ContainsFunc_empty {α : Type} [Inhabited α] (a : Option Addr) (c : Nat) (fv : Value) (w : World) :
    Calls Tryz.prog 63 #[.slice a 0 c, fv] w fun e w' => e = .returned (.bool false) ∧ w' = w := AnyE.slices_ContainsFunc_empty Tryz.laysSlH8_f63 a c fv w
def Tryz.lays122_ren : Go.Shelf.Ren := ⟨fun | 122 => 52 | 215 => 91 | n => n, fun | 3 => 3 | 4 => 4 | n => n, fun | n => n⟩
theorem Tryz.lays122 : Go.Proofs.Lays.n122 Tryz.prog Tryz.lays122_ren := {
  mixed := by kernel_rfl
  f122 := Tryz.func52.trans (congrArg some (by kernel_rfl))
  f215 := Tryz.func91.trans (congrArg some (by kernel_rfl))
  t3 := Tryz.underlying3
  a3 := Tryz.isAgg3
  z3 := Tryz.sizeOf3
  v3 := Tryz.zeroValue3
  t4 := Tryz.underlying4
  a4 := Tryz.isAgg4
  z4 := Tryz.sizeOf4
  v4 := Tryz.zeroValue4 }
open Go.RowKit in
theorem Tryz.cmp_Compare_int (x y : Int) (w : World) :
    Calls Tryz.prog 52 #[.int .i64 x, .int .i64 y] w fun e w' => e = .returned (.int .i64 (Lib.compareInt x y)) ∧ w' = w := Any.cmp_Compare_int Tryz.lays122 x y w
def Tryz.lays99_ren : Go.Shelf.Ren := ⟨fun | 99 => 59 | 206 => 97 | n => n, fun | 9 => 9 | 4 => 4 | 3 => 3 | n => n, fun | n => n⟩
theorem Tryz.lays99 : Go.Proofs.Lays.n99 Tryz.prog Tryz.lays99_ren := {
  mixed := by kernel_rfl
  f99 := Tryz.func59.trans (congrArg some (by kernel_rfl))
  f206 := Tryz.func97.trans (congrArg some (by kernel_rfl))
  t3 := Tryz.underlying3
  a3 := Tryz.isAgg3
  z3 := Tryz.sizeOf3
  v3 := Tryz.zeroValue3
  t4 := Tryz.underlying4
  a4 := Tryz.isAgg4
  z4 := Tryz.sizeOf4
  v4 := Tryz.zeroValue4
  t9 := Tryz.underlying9
  a9 := Tryz.isAgg9
  z9 := Tryz.sizeOf9
  v9 := Tryz.zeroValue9 }
open Go.RowKit Go.Lib in
theorem Tryz.strings_HasPrefix (s p : ByteArray) (w : World) :
    Calls Tryz.prog 59 #[.string s, .string p] w fun e w' => e = .returned (.bool (Lib.hasPrefix s.data.toList p.data.toList)) ∧ w' = w := Any.strings_HasPrefix Tryz.lays99 s p w
def Tryz.lays125_ren : Go.Shelf.Ren := ⟨fun | 125 => 49 | 128 => 88 | 129 => 89 | n => n, fun | 46 => 68 | 3 => 3 | 51 => 101 | 53 => 103 | 4 => 4 | 5 => 5 | 9 => 9 | n => n, fun | n => n⟩
theorem Tryz.lays125 : Go.Proofs.Lays.n125 Tryz.prog Tryz.lays125_ren := {
  mixed := by kernel_rfl
  f125 := Tryz.func49.trans (congrArg some (by kernel_rfl))
  f128 := Tryz.func88.trans (congrArg some (by kernel_rfl))
  f129 := Tryz.func89.trans (congrArg some (by kernel_rfl))
  t3 := Tryz.underlying3
  a3 := Tryz.isAgg3
  z3 := Tryz.sizeOf3
  v3 := Tryz.zeroValue3
  t4 := Tryz.underlying4
  a4 := Tryz.isAgg4
  z4 := Tryz.sizeOf4
  v4 := Tryz.zeroValue4
  t5 := Tryz.underlying5
  a5 := Tryz.isAgg5
  z5 := Tryz.sizeOf5
  v5 := Tryz.zeroValue5
  t9 := Tryz.underlying9
  a9 := Tryz.isAgg9
  z9 := Tryz.sizeOf9
  v9 := Tryz.zeroValue9
  t46 := Tryz.underlying68
  a46 := Tryz.isAgg68
  z46 := Tryz.sizeOf68
  v46 := Tryz.zeroValue68
  t51 := Tryz.underlying101
  a51 := Tryz.isAgg101
  z51 := Tryz.sizeOf101
  v51 := Tryz.zeroValue101
  t53 := Tryz.underlying103
  a53 := Tryz.isAgg103
  z53 := Tryz.sizeOf103
  v53 := Tryz.zeroValue103 }
theorem Tryz.bits_Len (x : Int) (w : World) (h0 : 0 ≤ x) (h1 : x ≤ 18446744073709551615) :
    Calls Tryz.prog 49 #[.int .u64 x] w fun e w' => e = .returned (.int .i64 (Lib.bitLen x.toNat)) ∧ w' = w := Any.bits_Len Tryz.lays125 x w h0 h1
def Tryz.lays228_ren : Go.Shelf.Ren := ⟨fun | 228 => 110 | n => n, fun | 124 => 137 | 5 => 5 | 4 => 4 | 0 => 0 | 116 => 117 | n => n, fun | n => n⟩
theorem Tryz.lays228 : Go.Proofs.Lays.n228 Tryz.prog Tryz.lays228_ren := {
  mixed := by kernel_rfl
  f228 := Tryz.func110.trans (congrArg some (by kernel_rfl))
  t0 := Tryz.underlying0
  a0 := Tryz.isAgg0
  z0 := Tryz.sizeOf0
  v0 := Tryz.zeroValue0
  t4 := Tryz.underlying4
  a4 := Tryz.isAgg4
  z4 := Tryz.sizeOf4
  v4 := Tryz.zeroValue4
  t5 := Tryz.underlying5
  a5 := Tryz.isAgg5
  z5 := Tryz.sizeOf5
  v5 := Tryz.zeroValue5
  t116 := Tryz.underlying117
  a116 := Tryz.isAgg117
  z116 := Tryz.sizeOf117
  t124 := Tryz.underlying137
  a124 := Tryz.isAgg137
  z124 := Tryz.sizeOf137
  v124 := Tryz.zeroValue137 }
open Go.RowKit Go.Lib in
theorem Tryz.asciiSet_contains (b : Nat) (x : UInt8) (v : Bool) (w : World) (hc : w.cell? ⟨b, x.toNat, none⟩ = some (.bool v)) :
    Calls Tryz.prog 110 #[.pointer (some ⟨b, 0, none⟩), .int .u8 x.toNat] w fun e w' => e = .returned (.bool v) ∧ w' = w := Any.asciiSet_contains Tryz.lays228 b x v w hc
def Tryz.lays119_ren : Go.Shelf.Ren := ⟨fun | 119 => 126 | n => n, fun | 21 => 21 | 4 => 4 | n => n, fun | n => n⟩
theorem Tryz.lays119 : Go.Proofs.Lays.n119 Tryz.prog Tryz.lays119_ren := {
  mixed := by kernel_rfl
  f119 := Tryz.func126.trans (congrArg some (by kernel_rfl))
  t4 := Tryz.underlying4
  a4 := Tryz.isAgg4
  z4 := Tryz.sizeOf4
  v4 := Tryz.zeroValue4
  t21 := Tryz.underlying21
  a21 := Tryz.isAgg21
  z21 := Tryz.sizeOf21
  v21 := Tryz.zeroValue21 }
theorem Tryz.utf8_ValidRune (r : Int) (w : World) :
    Calls Tryz.prog 126 #[.int .i32 r] w fun e w' => e = .returned (.bool (Lib.validRune r)) ∧ w' = w := Any.utf8_ValidRune Tryz.lays119 r w
def Tryz.lays152_ren : Go.Shelf.Ren := ⟨fun | 152 => 107 | 137 => 76 | 119 => 126 | 224 => 127 | 225 => 128 | 217 => 111 | 266 => 129 | n => n, fun | 9 => 9 | 21 => 21 | 3 => 3 | 4 => 4 | 5 => 5 | 0 => 0 | 46 => 68 | n => n, fun | n => n⟩
theorem Tryz.lays152 : Go.Proofs.Lays.n152 Tryz.prog Tryz.lays152_ren := {
  mixed := by kernel_rfl
  f119 := Tryz.func126.trans (congrArg some (by kernel_rfl))
  f137 := Tryz.func76.trans (congrArg some (by kernel_rfl))
  f152 := Tryz.func107.trans (congrArg some (by kernel_rfl))
  f217 := Tryz.func111.trans (congrArg some (by kernel_rfl))
  f224 := Tryz.func127.trans (congrArg some (by kernel_rfl))
  f225 := Tryz.func128.trans (congrArg some (by kernel_rfl))
  f266 := Tryz.func129.trans (congrArg some (by kernel_rfl))
  t0 := Tryz.underlying0
  a0 := Tryz.isAgg0
  z0 := Tryz.sizeOf0
  v0 := Tryz.zeroValue0
  t3 := Tryz.underlying3
  a3 := Tryz.isAgg3
  z3 := Tryz.sizeOf3
  v3 := Tryz.zeroValue3
  t4 := Tryz.underlying4
  a4 := Tryz.isAgg4
  z4 := Tryz.sizeOf4
  v4 := Tryz.zeroValue4
  t5 := Tryz.underlying5
  a5 := Tryz.isAgg5
  z5 := Tryz.sizeOf5
  v5 := Tryz.zeroValue5
  t9 := Tryz.underlying9
  a9 := Tryz.isAgg9
  z9 := Tryz.sizeOf9
  v9 := Tryz.zeroValue9
  t21 := Tryz.underlying21
  a21 := Tryz.isAgg21
  z21 := Tryz.sizeOf21
  v21 := Tryz.zeroValue21
  t46 := Tryz.underlying68
  a46 := Tryz.isAgg68
  z46 := Tryz.sizeOf68
  v46 := Tryz.zeroValue68 }
open Go.RowKit Go.Lib in
theorem Tryz.strings_IndexRune_ascii (s : ByteArray) (r : Int) (w : World) (h0 : 0 ≤ r) (h1 : r < 128) :
    Calls Tryz.prog 107 #[.string s, .int .i32 r] w fun e w' => e = .returned (.int .i64 (Lib.indexByte s.data.toList r.toNat.toUInt8)) ∧ w' = w := Any.strings_IndexRune_ascii Tryz.lays152 s r w h0 h1
def Tryz.lays227_ren : Go.Shelf.Ren := ⟨fun | 227 => 109 | n => n, fun | 9 => 9 | 116 => 117 | 4 => 4 | 0 => 0 | 3 => 3 | 5 => 5 | n => n, fun | n => n⟩
theorem Tryz.lays227 : Go.Proofs.Lays.n227 Tryz.prog Tryz.lays227_ren := {
  mixed := by kernel_rfl
  f227 := Tryz.func109.trans (congrArg some (by kernel_rfl))
  t0 := Tryz.underlying0
  a0 := Tryz.isAgg0
  z0 := Tryz.sizeOf0
  v0 := Tryz.zeroValue0
  t3 := Tryz.underlying3
  a3 := Tryz.isAgg3
  z3 := Tryz.sizeOf3
  v3 := Tryz.zeroValue3
  t4 := Tryz.underlying4
  a4 := Tryz.isAgg4
  z4 := Tryz.sizeOf4
  v4 := Tryz.zeroValue4
  t5 := Tryz.underlying5
  a5 := Tryz.isAgg5
  z5 := Tryz.sizeOf5
  v5 := Tryz.zeroValue5
  t9 := Tryz.underlying9
  a9 := Tryz.isAgg9
  z9 := Tryz.sizeOf9
  v9 := Tryz.zeroValue9
  t116 := Tryz.underlying117
  a116 := Tryz.isAgg117
  z116 := Tryz.sizeOf117 }
open Go.RowKit Go.Lib in
theorem Tryz.strings_makeASCIISet (hv116 : ∀ w, (zeroValue 117).run Tryz.prog w = .ok (.agg (Array.replicate 256 (.bool false))) w) (chars : ByteArray) (w : World) (hs : chars.size < 4294967281) (hascii : ∀ (j : Nat) b, chars.data.toList[j]? = some b → b.toNat < 128) :
    Calls Tryz.prog 109 #[.string chars] w fun e w' => e = .returned (.tuple #[.agg (Lib.setCells chars.data.toList), .bool true]) ∧ w' = w.alloc (.cells (Lib.setCells chars.data.toList) 117) := Any.strings_makeASCIISet Tryz.lays227 hv116 (by kernel_rfl) chars w hs hascii
def Tryz.lays226_ren : Go.Shelf.Ren := ⟨fun | 226 => 108 | n => n, fun | 3 => 3 | 4 => 4 | n => n, fun | n => n⟩
theorem Tryz.lays226 : Go.Proofs.Lays.n226 Tryz.prog Tryz.lays226_ren := {
  mixed := by kernel_rfl
  f226 := Tryz.func108.trans (congrArg some (by kernel_rfl))
  t3 := Tryz.underlying3
  a3 := Tryz.isAgg3
  z3 := Tryz.sizeOf3
  v3 := Tryz.zeroValue3
  t4 := Tryz.underlying4
  a4 := Tryz.isAgg4
  z4 := Tryz.sizeOf4
  v4 := Tryz.zeroValue4 }
open Go.RowKit Go.Lib in
theorem Tryz.strings_shouldUseASCIISet (n : Int) (w : World) :
    Calls Tryz.prog 108 #[.int .i64 n] w fun e w' => e = .returned (.bool (decide (8 < n))) ∧ w' = w := Any.strings_shouldUseASCIISet Tryz.lays226 n w
def Tryz.lays153_ren : Go.Shelf.Ren := ⟨fun | 153 => 75 | 152 => 107 | 226 => 108 | 227 => 109 | 228 => 110 | 137 => 76 | 119 => 126 | 224 => 127 | 225 => 128 | 217 => 111 | 266 => 129 | n => n, fun | 9 => 9 | 3 => 3 | 4 => 4 | 5 => 5 | 21 => 21 | 117 => 118 | 116 => 117 | 0 => 0 | 46 => 68 | 124 => 137 | n => n, fun | n => n⟩
theorem Tryz.lays153 : Go.Proofs.Lays.n153 Tryz.prog Tryz.lays153_ren := {
  mixed := by kernel_rfl
  f119 := Tryz.func126.trans (congrArg some (by kernel_rfl))
  f137 := Tryz.func76.trans (congrArg some (by kernel_rfl))
  f152 := Tryz.func107.trans (congrArg some (by kernel_rfl))
  f153 := Tryz.func75.trans (congrArg some (by kernel_rfl))
  f217 := Tryz.func111.trans (congrArg some (by kernel_rfl))
  f224 := Tryz.func127.trans (congrArg some (by kernel_rfl))
  f225 := Tryz.func128.trans (congrArg some (by kernel_rfl))
  f226 := Tryz.func108.trans (congrArg some (by kernel_rfl))
  f227 := Tryz.func109.trans (congrArg some (by kernel_rfl))
  f228 := Tryz.func110.trans (congrArg some (by kernel_rfl))
  f266 := Tryz.func129.trans (congrArg some (by kernel_rfl))
  t0 := Tryz.underlying0
  a0 := Tryz.isAgg0
  z0 := Tryz.sizeOf0
  v0 := Tryz.zeroValue0
  t3 := Tryz.underlying3
  a3 := Tryz.isAgg3
  z3 := Tryz.sizeOf3
  v3 := Tryz.zeroValue3
  t4 := Tryz.underlying4
  a4 := Tryz.isAgg4
  z4 := Tryz.sizeOf4
  v4 := Tryz.zeroValue4
  t5 := Tryz.underlying5
  a5 := Tryz.isAgg5
  z5 := Tryz.sizeOf5
  v5 := Tryz.zeroValue5
  t9 := Tryz.underlying9
  a9 := Tryz.isAgg9
  z9 := Tryz.sizeOf9
  v9 := Tryz.zeroValue9
  t21 := Tryz.underlying21
  a21 := Tryz.isAgg21
  z21 := Tryz.sizeOf21
  v21 := Tryz.zeroValue21
  t46 := Tryz.underlying68
  a46 := Tryz.isAgg68
  z46 := Tryz.sizeOf68
  v46 := Tryz.zeroValue68
  t116 := Tryz.underlying117
  a116 := Tryz.isAgg117
  z116 := Tryz.sizeOf117
  t117 := Tryz.underlying118
  a117 := Tryz.isAgg118
  z117 := Tryz.sizeOf118
  v117 := Tryz.zeroValue118
  t124 := Tryz.underlying137
  a124 := Tryz.isAgg137
  z124 := Tryz.sizeOf137
  v124 := Tryz.zeroValue137 }
open Go.RowKit Go.Lib in
theorem Tryz.strings_IndexAny_long (hv116 : ∀ w, (zeroValue 117).run Tryz.prog w = .ok (.agg (Array.replicate 256 (.bool false))) w) (s chars : ByteArray) (w : World) (h2 : 2 ≤ chars.size) (h8 : 8 < s.size) (hs : s.size < 4294967281) (hcs : chars.size < 4294967281) (hascii : ∀ (j : Nat) b, chars.data.toList[j]? = some b → b.toNat < 128) :
    Calls Tryz.prog 75 #[.string s, .string chars] w fun e w' => e = .returned (.int .i64 (Lib.indexAny s.data.toList chars.data.toList)) ∧ w' = ((w.alloc (.cells (Lib.setCells chars.data.toList) 117)).alloc (.cells (Lib.setCells chars.data.toList) 117)) := Any.strings_IndexAny_long Tryz.lays153 hv116 (by kernel_rfl) s chars w h2 h8 hs hcs hascii
def Tryz.cloneTrm_ren : Go.Shelf.Ren := ⟨fun | 41 => 24 | n => n, fun | 22 => 22 | 23 => 39 | 4 => 4 | n => n, fun | n => n⟩
theorem Tryz.cloneTrm : Go.Proofs.SlLaysE0.n41 Tryz.prog Tryz.cloneTrm_ren := {
  mixed := by kernel_rfl
  f41 := ⟨Tryz.f24.name, by decide, Tryz.func24.trans (congrArg some (by kernel_rfl))⟩
  t4 := Tryz.underlying4
  a4 := Tryz.isAgg4
  z4 := Tryz.sizeOf4
  v4 := Tryz.zeroValue4
  t22 := Tryz.underlying22
  a22 := Tryz.isAgg22
  z22 := Tryz.sizeOf22
  v22 := Tryz.zeroValue22 }
def Tryz.hasTrm_ren : Go.Shelf.Ren := ⟨fun | 8 => 29 | 6 => 53 | n => n, fun | 22 => 22 | 23 => 39 | 25 => 49 | 4 => 4 | 3 => 3 | 0 => 0 | n => n, fun | n => n⟩
theorem Tryz.hasTrm : Go.Proofs.SlLaysH0.n8 Tryz.prog Tryz.hasTrm_ren := {
  mixed := by kernel_rfl
  f6 := ⟨Tryz.f53.name, by decide, Tryz.func53.trans (congrArg some (by kernel_rfl))⟩
  f8 := ⟨Tryz.f29.name, by decide, Tryz.func29.trans (congrArg some (by kernel_rfl))⟩
  t0 := Tryz.underlying0
  a0 := Tryz.isAgg0
  z0 := Tryz.sizeOf0
  v0 := Tryz.zeroValue0
  t3 := Tryz.underlying3
  a3 := Tryz.isAgg3
  z3 := Tryz.sizeOf3
  v3 := Tryz.zeroValue3
  t4 := Tryz.underlying4
  a4 := Tryz.isAgg4
  z4 := Tryz.sizeOf4
  v4 := Tryz.zeroValue4
  t22 := Tryz.underlying22
  a22 := Tryz.isAgg22
  z22 := Tryz.sizeOf22
  v22 := Tryz.zeroValue22
  t25 := Tryz.underlying49
  a25 := Tryz.isAgg49
  z25 := Tryz.sizeOf49
  v25 := Tryz.zeroValue49 }
def Tryz.sortTrm_ren : Go.Shelf.Ren := ⟨fun | 6 => 25 | 15 => 49 | 14 => 48 | 28 => 88 | 29 => 89 | 20 => 80 | 21 => 81 | 22 => 82 | 23 => 83 | 24 => 84 | 25 => 85 | 26 => 86 | 27 => 87 | 46 => 114 | 47 => 115 | 48 => 116 | 49 => 117 | 50 => 118 | 57 => 130 | n => n, fun | 22 => 22 | 24 => 39 | 25 => 46 | 3 => 3 | 39 => 68 | 0 => 0 | 53 => 101 | 55 => 103 | 4 => 4 | 46 => 94 | 45 => 93 | 50 => 98 | 5 => 5 | 9 => 9 | 66 => 122 | 70 => 126 | 76 => 138 | 77 => 139 | n => n, fun | n => n⟩
theorem Tryz.sortTrm : Go.Proofs.SlLaysF0.n6 Tryz.prog Tryz.sortTrm_ren := {
  mixed := by kernel_rfl
  f6 := ⟨Tryz.f25.name, by decide, Tryz.func25.trans (congrArg some (by kernel_rfl))⟩
  f14 := ⟨Tryz.f48.name, by decide, Tryz.func48.trans (congrArg some (by kernel_rfl))⟩
  f15 := Tryz.func49.trans (congrArg some (by kernel_rfl))
  f20 := ⟨Tryz.f80.name, by decide, Tryz.func80.trans (congrArg some (by kernel_rfl))⟩
  f21 := ⟨Tryz.f81.name, by decide, Tryz.func81.trans (congrArg some (by kernel_rfl))⟩
  f22 := ⟨Tryz.f82.name, by decide, Tryz.func82.trans (congrArg some (by kernel_rfl))⟩
  f23 := ⟨Tryz.f83.name, by decide, Tryz.func83.trans (congrArg some (by kernel_rfl))⟩
  f24 := ⟨Tryz.f84.name, by decide, Tryz.func84.trans (congrArg some (by kernel_rfl))⟩
  f25 := ⟨Tryz.f85.name, by decide, Tryz.func85.trans (congrArg some (by kernel_rfl))⟩
  f26 := ⟨Tryz.f86.name, by decide, Tryz.func86.trans (congrArg some (by kernel_rfl))⟩
  f27 := ⟨Tryz.f87.name, by decide, Tryz.func87.trans (congrArg some (by kernel_rfl))⟩
  f28 := Tryz.func88.trans (congrArg some (by kernel_rfl))
  f29 := Tryz.func89.trans (congrArg some (by kernel_rfl))
  f46 := ⟨Tryz.f114.name, by decide, Tryz.func114.trans (congrArg some (by kernel_rfl))⟩
  f47 := Tryz.func115.trans (congrArg some (by kernel_rfl))
  f48 := Tryz.func116.trans (congrArg some (by kernel_rfl))
  f49 := ⟨Tryz.f117.name, by decide, Tryz.func117.trans (congrArg some (by kernel_rfl))⟩
  f50 := ⟨Tryz.f118.name, by decide, Tryz.func118.trans (congrArg some (by kernel_rfl))⟩
  f57 := ⟨Tryz.f130.name, by decide, Tryz.func130.trans (congrArg some (by kernel_rfl))⟩
  t0 := Tryz.underlying0
  a0 := Tryz.isAgg0
  z0 := Tryz.sizeOf0
  v0 := Tryz.zeroValue0
  t3 := Tryz.underlying3
  a3 := Tryz.isAgg3
  z3 := Tryz.sizeOf3
  v3 := Tryz.zeroValue3
  t4 := Tryz.underlying4
  a4 := Tryz.isAgg4
  z4 := Tryz.sizeOf4
  v4 := Tryz.zeroValue4
  t5 := Tryz.underlying5
  a5 := Tryz.isAgg5
  z5 := Tryz.sizeOf5
  v5 := Tryz.zeroValue5
  t9 := Tryz.underlying9
  a9 := Tryz.isAgg9
  z9 := Tryz.sizeOf9
  v9 := Tryz.zeroValue9
  t22 := Tryz.underlying22
  a22 := Tryz.isAgg22
  z22 := Tryz.sizeOf22
  v22 := Tryz.zeroValue22
  t25 := Tryz.underlying46
  a25 := Tryz.isAgg46
  z25 := Tryz.sizeOf46
  v25 := Tryz.zeroValue46
  t39 := Tryz.underlying68
  a39 := Tryz.isAgg68
  z39 := Tryz.sizeOf68
  v39 := Tryz.zeroValue68
  t45 := Tryz.underlying93
  a45 := Tryz.isAgg93
  z45 := Tryz.sizeOf93
  v45 := Tryz.zeroValue93
  t46 := Tryz.underlying94
  a46 := Tryz.isAgg94
  z46 := Tryz.sizeOf94
  v46 := Tryz.zeroValue94
  t50 := Tryz.underlying98
  a50 := Tryz.isAgg98
  z50 := Tryz.sizeOf98
  v50 := Tryz.zeroValue98
  t53 := Tryz.underlying101
  a53 := Tryz.isAgg101
  z53 := Tryz.sizeOf101
  v53 := Tryz.zeroValue101
  t55 := Tryz.underlying103
  a55 := Tryz.isAgg103
  z55 := Tryz.sizeOf103
  v55 := Tryz.zeroValue103
  t66 := Tryz.underlying122
  a66 := Tryz.isAgg122
  z66 := Tryz.sizeOf122
  v66 := Tryz.zeroValue122
  t70 := Tryz.underlying126
  a70 := Tryz.isAgg126
  z70 := Tryz.sizeOf126
  v70 := Tryz.zeroValue126
  t76 := Tryz.underlying138
  a76 := Tryz.isAgg138
  z76 := Tryz.sizeOf138
  v76 := Tryz.zeroValue138
  t77 := Tryz.underlying139
  a77 := Tryz.isAgg139
  z77 := Tryz.sizeOf139
  v77 := Tryz.zeroValue139 }
def Tryz.eqTrm_ren : Go.Shelf.Ren := ⟨fun | 8 => 34 | n => n, fun | 22 => 22 | 24 => 39 | 4 => 4 | 3 => 3 | 0 => 0 | n => n, fun | n => n⟩
theorem Tryz.eqTrm : Go.Proofs.SlLaysQ.n8 Tryz.prog Tryz.eqTrm_ren := {
  mixed := by kernel_rfl
  f8 := ⟨Tryz.f34.name, by decide, Tryz.func34.trans (congrArg some (by kernel_rfl))⟩
  t0 := Tryz.underlying0
  a0 := Tryz.isAgg0
  z0 := Tryz.sizeOf0
  v0 := Tryz.zeroValue0
  t3 := Tryz.underlying3
  a3 := Tryz.isAgg3
  z3 := Tryz.sizeOf3
  v3 := Tryz.zeroValue3
  t4 := Tryz.underlying4
  a4 := Tryz.isAgg4
  z4 := Tryz.sizeOf4
  v4 := Tryz.zeroValue4
  t22 := Tryz.underlying22
  a22 := Tryz.isAgg22
  z22 := Tryz.sizeOf22
  v22 := Tryz.zeroValue22 }
end Go.Proofs

/-
  Where a byte first stands in a text, in plain lists.
-/
namespace Go.Proofs.YtfcjnoojcajljaaGreatDoor

theorem ix_cases (l : List UInt8) (c : UInt8) :
    (Lib.indexByte l c = -1 ∧ c ∉ l) ∨ ∃ i : Nat, Lib.indexByte l c = (i : Int) ∧ i < l.length ∧ l[i]? = some c ∧ c ∉ l.take i := by
  induction l with
  | nil => left; exact ⟨rfl, by simp⟩
  | cons b l ih =>
    by_cases hb : b = c
    · right
      refine ⟨0, ?_, by simp, by simp [hb], by simp⟩
      unfold Lib.indexByte; simp [hb]
    · have hbc : (b == c) = false := by simp [hb]
      rcases ih with ⟨h1, h2⟩ | ⟨i, h1, h2, h3, h4⟩
      · left
        refine ⟨?_, ?_⟩
        · unfold Lib.indexByte; rw [hbc]; simp [h1]
        · simp only [List.mem_cons, not_or]; exact ⟨fun h => hb h.symm, h2⟩
      · right
        refine ⟨i + 1, ?_, by simp; omega, by simpa using h3, ?_⟩
        · unfold Lib.indexByte; rw [hbc, h1]
          have : ((i : Int) == -1) = false := by rw [beq_eq_false_iff_ne]; omega
          simp [this]
        · simp only [List.take_succ_cons, List.mem_cons, not_or]; exact ⟨fun h => hb h.symm, h4⟩

/-- The split of a text at its first byte c. -/
theorem ix_split (l : List UInt8) (c : UInt8) (i : Nat) (h1 : i < l.length) (h2 : l[i]? = some c) : l = l.take i ++ c :: l.drop (i + 1) := by
  have h3 : l[i] = c := by rw [List.getElem?_eq_getElem h1] at h2; exact Option.some.inj h2
  calc l = l.take i ++ l.drop i := (List.take_append_drop i l).symm
    _ = l.take i ++ c :: l.drop (i + 1) := by rw [List.drop_eq_getElem_cons h1, h3]

theorem ix_uniq {a b a' b' : List UInt8} {c : UInt8} (h : a ++ c :: b = a' ++ c :: b') (ha : c ∉ a) (ha' : c ∉ a') : a = a' ∧ b = b' := by
  induction a generalizing a' with
  | nil =>
    cases a' with
    | nil => simp at h; exact ⟨rfl, h⟩
    | cons x a' => simp at h; simp [h.1] at ha'
  | cons x a ih =>
    cases a' with
    | nil => simp at h; simp [h.1] at ha
    | cons y a' =>
      simp only [List.cons_append, List.cons.injEq] at h
      simp only [List.mem_cons, not_or] at ha ha'
      obtain ⟨e1, e2⟩ := ih h.2 ha.2 ha'.2
      exact ⟨by rw [h.1, e1], e2⟩

theorem ext_head (s : ByteArray) (i : Nat) : (s.extract 0 i).data.toList = s.data.toList.take i := by
  rw [Lib.extract_data]; simp

theorem ext_tail (s : ByteArray) (i : Nat) : (s.extract i s.size).data.toList = s.data.toList.drop i := Lib.extract_to_end s i

end Go.Proofs.YtfcjnoojcajljaaGreatDoor

/-
  The contracts of strings.SplitSeq at one blank, and of the iterator that it makes.
-/
namespace Go.Proofs.YtfcjnoojcajljaaGreatDoor
open Go.RowKit
attribute [local go_sem] Oper.semAt_some

theorem ix_lt (l : List UInt8) (c : UInt8) (h : ¬ Lib.indexByte l c = -1) : (Lib.indexByte l c).toNat < l.length := by
  rcases ix_cases l c with ⟨h1, _⟩ | ⟨i, h1, h2, _⟩
  · exact absurd h1 h
  · rw [h1]; simpa using h2

/-- A text cut at each blank. -/
def splitL (l : List UInt8) : List (List UInt8) :=
  if h : Lib.indexByte l 32 = -1 then [l] else l.take (Lib.indexByte l 32).toNat :: splitL (l.drop ((Lib.indexByte l 32).toNat + 1))
  termination_by l.length
  decreasing_by have := ix_lt l 32 h; rw [List.length_drop]; omega

theorem splitL_no {l : List UInt8} (h : Lib.indexByte l 32 = -1) : splitL l = [l] := by unfold splitL; rw [dif_pos h]
theorem splitL_yes {l : List UInt8} {i : Nat} (h : Lib.indexByte l 32 = (i : Int)) : splitL l = l.take i :: splitL (l.drop (i + 1)) := by
  conv => lhs; unfold splitL
  rw [dif_neg (by rw [h]; omega), h, Int.toNat_natCast]

/-- A word of at most M bytes. -/
abbrev Wd (M : Nat) : Type := { t : ByteArray // t.size ≤ M }
def encW {M : Nat} (x : Wd M) : Array Value := #[.string x.1]
def plainW {M : Nat} (xs : List (Wd M)) : List (List UInt8) := xs.map fun x => x.1.data.toList

/-- Three boxes stay as they are. -/
def Kp3 (b1 b2 b3 : Nat) (W W' : World) : Prop := W'.heap[b1]? = W.heap[b1]? ∧ W'.heap[b2]? = W.heap[b2]? ∧ W'.heap[b3]? = W.heap[b3]?

/-- The iterator's boxes: the blank, what is left, and 0. -/
def Boxes (b1 b2 b3 : Nat) (t : ByteArray) (W : World) : Prop :=
  W.heap[b1]? = some (.cells #[.string ⟨#[32]⟩] 9 (0, 0)) ∧ W.heap[b2]? = some (.cells #[.string t] 9 (0, 0)) ∧ W.heap[b3]? = some (.cells #[.int .i64 0] 3 (0, 0)) ∧ b1 ≠ b2 ∧ b3 ≠ b2

def leftOf (b2 : Nat) (W : World) : Nat := match W.cell? ⟨b2, 0, none⟩ with
  | some (.string t) => t.size
  | _ => 0

def SplitSt {M : Nat} (b1 b2 b3 : Nat) (s : ByteArray) (J : List (Wd M) → World → Prop) (wr : World) : Prop :=
  ∃ (pre : List (Wd M)) (t : ByteArray), Boxes b1 b2 b3 t wr ∧ t.size ≤ M ∧ splitL s.data.toList = plainW pre ++ splitL t.data.toList ∧ J pre wr

theorem splitL_pos (l : List UInt8) : 0 < (splitL l).length := by
  rcases ix_cases l 32 with ⟨h, _⟩ | ⟨i, h, _⟩
  · rw [splitL_no h]; simp
  · rw [splitL_yes h]; simp

theorem boxes_cells {b1 b2 b3 : Nat} {t : ByteArray} {W : World} (h : Boxes b1 b2 b3 t W) : W.cell? ⟨b1, 0, none⟩ = some (.string ⟨#[32]⟩) ∧ W.cell? ⟨b2, 0, none⟩ = some (.string t) ∧ W.cell? ⟨b3, 0, none⟩ = some (.int .i64 0) ∧ W.frozen? ⟨b2, 0, none⟩ = false :=
  ⟨by rw [Lib.cell_of_heap h.1]; rfl, by rw [Lib.cell_of_heap h.2.1]; rfl, by rw [Lib.cell_of_heap h.2.2.1]; rfl, Lib.frozen_of_heap h.2.1 0⟩

theorem Boxes.kp {b1 b2 b3 : Nat} {t : ByteArray} {W W' : World} (h : Boxes b1 b2 b3 t W) (hk : Kp3 b1 b2 b3 W W') : Boxes b1 b2 b3 t W' :=
  ⟨hk.1.trans h.1, hk.2.1.trans h.2.1, hk.2.2.trans h.2.2.1, h.2.2.2⟩

theorem Boxes.put {b1 b2 b3 : Nat} {t u : ByteArray} {W : World} (h : Boxes b1 b2 b3 t W) : Boxes b1 b2 b3 u (W.setCell ⟨b2, 0, none⟩ (.string u)) :=
  ⟨(Below.heap_setCell W ⟨b2, 0, none⟩ _ b1 h.2.2.2.1).trans h.1, heap_setCell_same W b2 0 _ _ _ h.2.1, (Below.heap_setCell W ⟨b2, 0, none⟩ _ b3 h.2.2.2.2).trans h.2.2.1, h.2.2.2⟩

theorem leftOf_eq {b1 b2 b3 : Nat} {t : ByteArray} {W : World} (h : Boxes b1 b2 b3 t W) : leftOf b2 W = t.size := by
  unfold leftOf
  rw [(boxes_cells h).2.1]

set_option maxHeartbeats 4000000 in
set_option maxRecDepth 100000 in
theorem split1_in (n : Nat) (hn : 1 ≤ n) (M l b1 b2 b3 : Nat) (s : ByteArray) (hs : s.size ≤ M) (hM : M ≤ maxLen) (J Jx : List (Wd M) → World → Prop)
    (hJ : ∀ s W v, J s W → J s (W.setCell ⟨b2, 0, none⟩ v))
    (hY : ∀ pre x W, J pre W → pre.length < (splitL s.data.toList).length → YieldAt Fence.wide (n - 1) Tryz.prog l (encW x) W fun e W' =>
      (e = .returned (.bool true) ∧ J (pre ++ [x]) W' ∧ Kp3 b1 b2 b3 W W') ∨ (e = .returned (.bool false) ∧ Jx (pre ++ [x]) W'))
    (W : World) (hB : Boxes b1 b2 b3 s W) (h0 : J [] W) :
    CallsIn Fence.wide n Tryz.prog 104 #[.func (.yield l) #[] #[], .pointer (some ⟨b1, 0, none⟩), .pointer (some ⟨b2, 0, none⟩), .pointer (some ⟨b3, 0, none⟩)] W fun e W' => (∃ v, e = .returned v) ∧
      ((∃ ys, plainW ys = splitL s.data.toList ∧ J ys W') ∨ (∃ pre, plainW pre <+: splitL s.data.toList ∧ Jx pre W')) := by
  refine callsIn_of_wp Tryz.func104 rfl trivial ?_ rfl
  simp only [Tryz.ntmps104, List.size_toArray, List.length_cons, List.length_nil, Nat.reduceAdd, Nat.reduceSub, Array.replicate_succ, Array.replicate_zero, List.push_toArray, List.append_toArray, List.nil_append, List.cons_append]
  have c1 : W.cell? ⟨b1, 0, none⟩ = some (.string ⟨#[32]⟩) := by rw [Lib.cell_of_heap hB.1]; rfl
  have HB := hid hB
  clear hB
  gi_wp2
  clear c1
  have ST0 : Hid (SplitSt b1 b2 b3 s J W) := ⟨[], s, HB.out, hs, rfl, h0⟩
  gi_loopw [7] (fun _ wr => SplitSt b1 b2 b3 s J wr) (fun _ wr => leftOf b2 wr)
  case atStart => exact ST0.out
  case round =>
    obtain ⟨pre, t, hB, ht, hsp, hJs⟩ := hrel
    obtain ⟨k1, k2, k3, k4⟩ := boxes_cells hB
    have hlen : pre.length < (splitL s.data.toList).length := by
      rw [hsp, List.length_append]
      have := splitL_pos t.data.toList
      have e : (plainW pre).length = pre.length := by simp [plainW]
      omega
    unfold maxLen at hM
    rcases ix_cases t.data.toList 32 with ⟨hix, _⟩ | ⟨i, hix, hil, _, _⟩
    · have HX := hid hix
      have hsn := splitL_no hix
      have HF : Hid (plainW (pre ++ [⟨t, ht⟩]) = splitL s.data.toList) := by
        show _ = _
        rw [hsp, hsn]; simp [plainW]
      obtain ⟨fn, tmps, assign, body, hy, hR⟩ := hY pre ⟨t, ht⟩ wr hJs hlen
      simp only [encW] at hy
      clear hix hsn hsp
      gi_wp2_with (refine ⟨trivial, ?_⟩; gi_at_call 106; refine (callsIn_wide.2 (Tryz.strings_Index_one _ _ _)).mono ?_; rintro e w' ⟨rfl, rfl⟩; rw [HX.out])
      refine hR.mono ?_
      rintro e W3 (⟨rfl, hJ3, _⟩ | ⟨rfl, hJx3⟩)
      · gi_wp2
        go_end0
        exact ⟨⟨_, rfl⟩, .inl ⟨_, HF.out, hJ3⟩⟩
      · gi_wp2
        go_end0
        exact ⟨⟨_, rfl⟩, .inr ⟨_, ⟨[], by rw [HF.out]; simp⟩, hJx3⟩⟩
    · have HX := hid hix
      have hsn := splitL_yes hix
      have hil' : i < t.size := by simpa using hil
      have hxs : (t.extract 0 i).size ≤ M := by simp; omega
      have e1 : (t.extract 0 i).data.toList = t.data.toList.take i := by rw [Lib.extract_data]; simp
      have e2 : (t.extract (i + 1) t.size).data.toList = t.data.toList.drop (i + 1) := Lib.extract_to_end t (i + 1)
      have HF : Hid (splitL s.data.toList = plainW (pre ++ [(⟨t.extract 0 i, hxs⟩ : Wd M)]) ++ splitL (t.extract (i + 1) t.size).data.toList) := by
        show _ = _
        rw [hsp, hsn, e2]
        simp only [plainW, List.map_append, List.map_cons, List.map_nil, e1, List.append_assoc, List.cons_append, List.nil_append]
      obtain ⟨fn, tmps, assign, body, hy, hR⟩ := hY pre ⟨t.extract 0 i, hxs⟩ wr hJs hlen
      simp only [encW] at hy
      have z0 : (0 : Int) ≤ (i : Int) := by omega
      have z1 : (i : Int) ≤ (t.size : Int) := by omega
      have z2 : (0 : Int) ≤ (i : Int) + 1 := by omega
      have z3 : (i : Int) + 1 ≤ (t.size : Int) := by omega
      have HB2 := hid hB
      clear hix hsn hsp e1 e2 hil hB
      gi_wp2_with (refine ⟨trivial, ?_⟩; gi_at_call 106; refine (callsIn_wide.2 (Tryz.strings_Index_one _ _ _)).mono ?_; rintro e w' ⟨rfl, rfl⟩; rw [HX.out])
      refine hR.mono ?_
      rintro e W3 (⟨rfl, hJ3, hk3⟩ | ⟨rfl, hJx3⟩)
      · have hB3 := HB2.out.kp hk3
        obtain ⟨m1, m2, m3, m4⟩ := boxes_cells hB3
        have HJ3 := hid (hJ _ W3 (.string (t.extract (i + 1) t.size)) hJ3)
        have HB4 : Hid (Boxes b1 b2 b3 (t.extract (i + 1) t.size) (W3.setCell ⟨b2, 0, none⟩ (.string (t.extract (i + 1) t.size)))) := hB3.put
        have HM1 := hid (leftOf_eq HB2.out)
        have HM2 := hid (leftOf_eq HB4.out)
        clear hJ3 hB3 hk3
        gi_wp2
        go_roundw
        case rel => exact ⟨_, _, HB4.out, by simp; omega, HF.out, HJ3.out⟩
        case measure => rw [HM1.out, HM2.out]; simp; omega
      · gi_wp2
        refine bodyPost_ret (results_none rfl _ _ _) rfl ?_
        exact ⟨⟨_, rfl⟩, .inr ⟨_, ⟨_, HF.out.symm⟩, hJx3⟩⟩

/-- The iterator's contract. -/
theorem split1_seq (n : Nat) (hn : 1 ≤ n) (M b1 b2 b3 : Nat) (s : ByteArray) (hs : s.size ≤ M) (hM : M ≤ maxLen) (w : World) (hB : Boxes b1 b2 b3 s w) :
    SeqB Fence.wide n Tryz.prog 104 #[.pointer (some ⟨b1, 0, none⟩), .pointer (some ⟨b2, 0, none⟩), .pointer (some ⟨b3, 0, none⟩)] (encW (M := M)) (Kp3 b1 b2 b3) (fun xs => plainW xs = splitL s.data.toList) (fun pre => plainW pre <+: splitL s.data.toList) (splitL s.data.toList).length b2 w := by
  intro l J Jx W hb hJ hY h0
  have l1 : b1 < w.heap.size := (Array.getElem?_eq_some_iff.1 hB.1).1
  have l2 : b2 < w.heap.size := (Array.getElem?_eq_some_iff.1 hB.2.1).1
  have l3 : b3 < w.heap.size := (Array.getElem?_eq_some_iff.1 hB.2.2.1).1
  exact split1_in n hn M l b1 b2 b3 s hs hM J Jx hJ hY W (hB.kp ⟨hb.block _ l1, hb.block _ l2, hb.block _ l3⟩) h0

set_option maxHeartbeats 1000000 in
theorem splitSeq_any (s : ByteArray) (w : World) :
    Calls Tryz.prog 44 #[.string s, .string ⟨#[32]⟩] w fun e w' => e = .returned (.func (.func 104) #[] #[.pointer (some ⟨w.heap.size + 1, 0, none⟩), .pointer (some ⟨w.heap.size, 0, none⟩), .pointer (some ⟨w.heap.size + 2, 0, none⟩)]) ∧ Boxes (w.heap.size + 1) w.heap.size (w.heap.size + 2) s w' ∧ Below w.heap.size w w' ∧ w'.heap.size = w.heap.size + 3 := by
  have hin : Calls Tryz.prog 74 #[.string s, .string ⟨#[32]⟩, .int .i64 0] w fun e w' => e = .returned (.func (.func 104) #[] #[.pointer (some ⟨w.heap.size + 1, 0, none⟩), .pointer (some ⟨w.heap.size, 0, none⟩), .pointer (some ⟨w.heap.size + 2, 0, none⟩)]) ∧ w' = ((w.alloc (.cells #[.string s] 9)).alloc (.cells #[.string ⟨#[32]⟩] 9)).alloc (.cells #[.int .i64 0] 3) := by
    go_enter Tryz.func74, Tryz.ntmps74
    go_wp2_with fail
    go_ret
    exact ⟨rfl, rfl⟩
  have HI := hid hin
  clear hin
  go_enter Tryz.func44, Tryz.ntmps44
  go_wp2_with (first | (go_at_call 74; refine HI.out.mono ?_; rintro e w1 ⟨rfl, rfl⟩))
  go_ret
  refine ⟨rfl, ⟨?_, ?_, ?_, by omega, by omega⟩, (((Below.refl _ w).alloc (Nat.le_refl _) _).alloc (by simp) _).alloc (by simp; omega) _, by simp⟩
  · rw [Below.heap_alloc _ _ _ (by simp)]
    have := heap_alloc_new (w.alloc (.cells #[.string s] 9)) (.cells #[.string ⟨#[32]⟩] 9)
    simpa using this
  · rw [Below.heap_alloc _ _ _ (by simp; omega), Below.heap_alloc _ _ _ (by simp)]
    exact heap_alloc_new w _
  · have := heap_alloc_new ((w.alloc (.cells #[.string s] 9)).alloc (.cells #[.string ⟨#[32]⟩] 9)) (.cells #[.int .i64 0] 3)
    simpa using this

end Go.Proofs.YtfcjnoojcajljaaGreatDoor

/-
  The contracts of spelled, and of the four words that stand on it.
-/
namespace Go.Proofs.YtfcjnoojcajljaaGreatDoor
open Go.RowKit

theorem nat_pos {n : Nat} (h : ¬ (n : Int) < 1) : 0 < n := by omega

set_option maxHeartbeats 800000 in
theorem spelled_field (s : ByteArray) (w : World) (hs : s.size ≤ maxLen) :
    Calls Tryz.prog 92 #[.string s, .func (.func 93) #[] #[], .func (.func 94) #[] #[]] w fun e w' => e = .returned (.bool (fieldB s.data.toList)) ∧ w' = w := by
  unfold maxLen at hs
  by_cases he : s.size = 0
  · have hb := spell_empty smallB lodB s he
    have hlt : (s.size : Int) < 1 := by omega
    have HB : Hid (spell smallB lodB s.data.toList = false) := hb
    clear he hb
    go_enter Tryz.func92, Tryz.ntmps92
    go_wp2_with fail
    go_ret
    exact ⟨ret_bool HB.out.symm, rfl⟩
  have hpos : 0 < s.size := by omega
  have hnl : ¬ (s.size : Int) < 1 := by omega
  by_cases hl : 32 < s.size
  · have hb := spell_long smallB lodB s hl
    have HB : Hid (spell smallB lodB s.data.toList = false) := hb
    have hgt : (32 : Int) < (s.size : Int) := by omega
    clear he hb
    go_enter Tryz.func92, Tryz.ntmps92
    go_wp2_with fail
    go_ret
    exact ⟨ret_bool HB.out.symm, rfl⟩
  have hle : ¬ (32 : Int) < (s.size : Int) := by omega
  clear he
  cases hc : smallB (s[0].toNat : Int) with
  | false =>
    have HB : Hid (spell smallB lodB s.data.toList = false) := spell_first smallB lodB s hpos hc
    go_enter Tryz.func92, Tryz.ntmps92
    go_wp2_with (go_at_call 93; refine (small_any _ _).mono ?_; rintro e w' ⟨rfl, rfl⟩)
    go_ret
    exact ⟨ret_bool HB.out.symm, rfl⟩
  | true =>
    have HT : Hid ((∀ k, 1 ≤ k → (hk : k < s.size) → lodB (s[k].toNat : Int) = true) → spell smallB lodB s.data.toList = true) := spell_true smallB lodB s hpos (by omega) hc
    have HA : Hid (∀ k, 1 ≤ k → (hk : k < s.size) → lodB (s[k].toNat : Int) = false → spell smallB lodB s.data.toList = false) := fun k h1 hk => spell_at smallB lodB s k h1 hk
    go_enter Tryz.func92, Tryz.ntmps92
    go_wp2_with (go_at_call 93; refine (small_any _ _).mono ?_; rintro e w' ⟨rfl, rfl⟩)
    go_loop [7] (fun i => ∃ k : Nat, 1 ≤ k ∧ k ≤ s.size ∧ i = .int .i64 k ∧ (∀ j, 1 ≤ j → j < k → (hj : j < s.size) → lodB (s[j].toNat : Int) = true)) (fun i => s.size - (intOf i).toNat)
    case atStart => exact ⟨1, by omega, by omega, rfl, fun j h1 h2 => by omega⟩
    case round =>
      obtain ⟨k, hk1, hk, rfl, hall⟩ := hrel
      have HL : Hid (∀ j, 1 ≤ j → j < k → (hj : j < s.size) → lodB (s[j].toNat : Int) = true) := hall
      clear hall
      by_cases hlt : k < s.size
      · cases hd : lodB (s[k].toNat : Int) with
        | false =>
          go_wp2_with (go_at_call 94; refine (lod_any _ _).mono ?_; rintro e w' ⟨rfl, rfl⟩)
          go_ret
          exact ⟨ret_bool (HA.out k hk1 hlt hd).symm, rfl⟩
        | true =>
          go_wp2_with (go_at_call 94; refine (lod_any _ _).mono ?_; rintro e w' ⟨rfl, rfl⟩)
          go_round
          case rel =>
            refine ⟨k + 1, by omega, by omega, by go_num, fun j h1 h2 hj => ?_⟩
            by_cases hjk : j = k
            · subst hjk; exact hd
            · exact HL.out j h1 (by omega) hj
          case measure => simp [intOf]; omega
      · go_wp2_with fail
        go_ret
        exact ⟨ret_bool (HT.out fun j h1 hj => HL.out j h1 (by omega) hj).symm, rfl⟩

set_option maxHeartbeats 400000 in
theorem field_any (s : ByteArray) (w : World) (hs : s.size ≤ maxLen) :
    Calls Tryz.prog 54 #[.string s] w fun e w' => e = .returned (.bool (fieldB s.data.toList)) ∧ w' = w := by
  go_enter Tryz.func54, Tryz.ntmps54
  go_wp2_with (go_at_call 92; refine (spelled_field _ _ hs).mono ?_; rintro e w' ⟨rfl, rfl⟩)
  go_ret
  exact ⟨rfl, rfl⟩

end Go.Proofs.YtfcjnoojcajljaaGreatDoor

/-
  Fields: the plain words, how they lie in memory, and the contracts of the functions that look at one field.
-/
namespace Go.Proofs.YtfcjnoojcajljaaGreatDoor
open Go.RowKit

/-- A field: its name, and its texts. -/
abbrev Fld := ByteArray × List ByteArray

/-- A field as it lies: its name, its texts' address and capacity; and, beside it, what its texts are. -/
structure Fx where
  name : ByteArray
  p : Option Addr
  cap : Nat
  txt : List ByteArray
  deriving Inhabited

def Fx.sl (x : Fx) : Value := .slice x.p x.txt.length x.cap
def Fx.fld (x : Fx) : Fld := (x.name, x.txt)
def encX (x : Fx) : List Value := [.string x.name, x.sl]
def Fx.val (x : Fx) : Value := .agg (encX x).toArray

/-- The texts of x lie where its slice says. -/
def TxtAt (w : World) (p : Option Addr) (ts : List ByteArray) : Prop :=
  ts = [] ∨ ∃ b off, p = some ⟨b, off, none⟩ ∧ ∀ i, (h : i < ts.length) → w.cell? ⟨b, off + i, none⟩ = some (.string ts[i])

def Fx.at (w : World) (x : Fx) : Prop := TxtAt w x.p x.txt

/-- The fields d lie from off on in block b. -/
def XsAt (w : World) (b off : Nat) (d : List Fx) : Prop :=
  ∀ i, (h : i < d.length) → w.cell? ⟨b, off + i * 2, none⟩ = some (.string d[i].name) ∧ w.cell? ⟨b, off + i * 2 + 1, none⟩ = some d[i].sl

/-- v is a slice that holds the fields d. -/
def IsXs (w : World) (v : Value) (d : List Fx) : Prop :=
  ∃ p cap, v = .slice p d.length cap ∧ (d = [] ∨ ∃ b off, p = some ⟨b, off, none⟩ ∧ XsAt w b off d) ∧ ∀ x ∈ d, x.at w

/-- Texts, and fields, that a machine can hold. -/
def FitT (ts : List ByteArray) : Prop := ts.length ≤ maxLen ∧ ∀ t ∈ ts, t.size ≤ maxLen
def FitF (f : Fld) : Prop := f.1.size ≤ maxLen ∧ FitT f.2
def FitX (d : List Fx) : Prop := d.length ≤ maxLen ∧ ∀ x ∈ d, FitF x.fld

theorem cell_block {w : World} {a : Addr} {v : Value} (h : w.cell? a = some v) : a.block < w.heap.size := by
  rcases Nat.lt_or_ge a.block w.heap.size with h' | h'
  · exact h'
  · simp [World.cell?, Array.getElem?_eq_none h'] at h

theorem TxtAt.kept {w w' : World} {p : Option Addr} {ts : List ByteArray} (h : TxtAt w p ts) (hb : Below w.heap.size w w') : TxtAt w' p ts := by
  rcases h with h | ⟨b, off, hp, h⟩
  · exact Or.inl h
  · exact Or.inr ⟨b, off, hp, fun i hi => (hb.cell (p := ⟨b, off + i, none⟩) (cell_block (h i hi))).trans (h i hi)⟩

theorem XsAt.kept {w w' : World} {b off : Nat} {d : List Fx} (h : XsAt w b off d) (hb : Below w.heap.size w w') : XsAt w' b off d :=
  fun i hi => ⟨(hb.cell (p := ⟨b, off + i * 2, none⟩) (cell_block (h i hi).1)).trans (h i hi).1, (hb.cell (p := ⟨b, off + i * 2 + 1, none⟩) (cell_block (h i hi).2)).trans (h i hi).2⟩

theorem IsXs.at_all {w : World} {v : Value} {d : List Fx} (h : IsXs w v d) : ∀ x ∈ d, x.at w := by
  obtain ⟨_, _, _, _, h⟩ := h
  exact h

theorem IsXs.kept {w w' : World} {v : Value} {d : List Fx} (h : IsXs w v d) (hb : Below w.heap.size w w') : IsXs w' v d := by
  obtain ⟨p, cap, rfl, h, ht⟩ := h
  refine ⟨p, cap, rfl, ?_, fun x hx => (ht x hx).kept hb⟩
  rcases h with h | ⟨b, off, hp, h⟩
  · exact Or.inl h
  · exact Or.inr ⟨b, off, hp, h.kept hb⟩

/-- A field that a normal value may have. -/
def longB (t : ByteArray) : Bool := decide (128 < t.size)
def fitsB (f : Fld) : Bool := fieldB f.1.data.toList && !f.2.isEmpty && decide (f.2.length ≤ 8) && !f.2.any longB

end Go.Proofs.YtfcjnoojcajljaaGreatDoor

/-
  The contracts of a strings.Builder's copyCheck and WriteByte at this program's own bodies.
-/
namespace Go.Proofs.YtfcjnoojcajljaaGreatDoor
open Go.RowKit Go.Shelf

theorem Tryz.infoByte : (Tryz.prog.info? 5).map (fun i => (i.zero, i.size, i.bytes)) = some (some (.int .u8 0), 1, 1) := by kernel_rfl
theorem Tryz.sizeBuilder : (Tryz.prog.info? 80).map (·.size) = some 2 := by kernel_rfl

theorem own_on {w w' : World} {base : Nat} {e : TypeId} {size : Nat} {v : Value} {n : Nat} {xs : List Value} (h : w.ownsRow base e size v n xs) (hb : Below w.heap.size w w') : w'.ownsRow base e size v n xs :=
  h.kept (row := none) ⟨hb.os, hb.tape, hb.output, hb.size, fun k hk _ => hb.block k hk⟩ (Classical.em _)

theorem bldAt_on {T e : TypeId} {B b : Nat} {p : Value} {bs : List Value} {w w' : World} (h : Lib.BuilderAt T e B b p bs w) (hb : Below w.heap.size w w') : Lib.BuilderAt T e B b p bs w' := by
  have hlt := h.lt
  obtain ⟨hB, v, hv, hown, hne⟩ := h
  exact ⟨hB, v, (hb.block b hlt).trans hv, own_on hown hb, hne⟩

theorem bld_on {T e : TypeId} {B b : Nat} {bs : List Value} {w w' : World} (h : Lib.IsBuilder T e B b bs w) (hb : Below w.heap.size w w') : Lib.IsBuilder T e B b bs w' :=
  h.elim (fun x => .inl (bldAt_on x hb)) (fun x => .inr (bldAt_on x hb))

set_option maxHeartbeats 1000000 in
set_option maxRecDepth 100000 in
theorem check_used (b : Nat) (w : World) (h0 : w.cell? ⟨b, 0, none⟩ = some (.pointer (some ⟨b, 0, none⟩))) :
    Calls Tryz.prog 102 #[.pointer (some ⟨b, 0, none⟩)] w fun e w' => e = .returned (.tuple #[]) ∧ w' = w := by
  obtain ⟨j, hj, _⟩ := Option.map_eq_some_iff.1 Tryz.sizeBuilder
  go_enter Tryz.func102, Tryz.ntmps102
  go_wp2
  rw [Lib.run_neq_ptr_same w _ Tryz.underlying77 hj]
  go_wp2
  go_end0
  exact ⟨rfl, rfl⟩

set_option maxHeartbeats 1000000 in
set_option maxRecDepth 100000 in
theorem check_fresh (b : Nat) (w : World) (h0 : w.cell? ⟨b, 0, none⟩ = some (.pointer none)) (hsh : w.shape? b = some (80, 2)) (hfz : w.frozen? ⟨b, 0, none⟩ = false) :
    Calls Tryz.prog 102 #[.pointer (some ⟨b, 0, none⟩)] w fun e w' => e = .returned (.tuple #[]) ∧ w' = w.setCell ⟨b, 0, none⟩ (.pointer (some ⟨b, 0, none⟩)) := by
  obtain ⟨j, hj, hjs⟩ := Option.map_eq_some_iff.1 Tryz.sizeBuilder
  go_enter Tryz.func102, Tryz.ntmps102
  go_wp2
  rw [Lib.run_to_unsafe w ⟨b, 0, none⟩ Tryz.underlying77 Tryz.underlying132 hj (by rw [hjs]; decide) hsh (Nat.zero_lt_succ 1)]
  simp only [Result.andThen]
  rw [Oper.upon_value]
  go_wp2
  rw [run_callFunc_extern Tryz.func122 (by kernel_rfl) (by kernel_rfl) (by kernel_rfl) (e := Extern.AbiNoEscape.same) (by kernel_rfl)]
  rw [Lib.run_noEscape]
  simp only [Result.andThen]
  rw [Oper.upon_value]
  go_wp2
  rw [Lib.run_from_unsafe w ⟨b, 0, none⟩ Tryz.underlying132 Tryz.underlying77 hj hsh Tryz.Builder_Extra_169.liesBuilder]
  simp only [Result.andThen]
  rw [Oper.upon_value]
  go_wp2
  go_end0
  exact ⟨rfl, rfl⟩

theorem check_any (B b : Nat) (bs : List Value) (w : World) (h : Lib.IsBuilder 80 5 B b bs w) :
    Calls Tryz.prog 102 #[.pointer (some ⟨b, 0, none⟩)] w fun e w' => e = .returned (.tuple #[]) ∧ (Lib.BuilderAt 80 5 B b (.pointer (some ⟨b, 0, none⟩)) bs w' ∧ Below B w w') := by
  rcases h with h | h
  · refine (check_fresh b w h.cell0 h.shape h.frozen0).mono ?_
    rintro e w' ⟨rfl, rfl⟩
    exact ⟨rfl, h.used _, (Below.refl B w).setCell (p := ⟨b, 0, none⟩) h.1 _⟩
  · refine (check_used b w h.cell0).mono ?_
    rintro e w' ⟨rfl, rfl⟩
    exact ⟨rfl, h, Below.refl B _⟩

set_option maxHeartbeats 2000000 in
set_option maxRecDepth 100000 in
theorem wbyte_any (B b : Nat) (bs : List Value) (c : Int) (w : World) (h : Lib.IsBuilder 80 5 B b bs w) (hlen : bs.length + 1 ≤ 140737488355328) (hBw : B ≤ w.heap.size) :
    Calls Tryz.prog 101 #[.pointer (some ⟨b, 0, none⟩), .int .u8 c] w fun e w' => e = .returned .nilIface ∧ Lib.IsBuilder 80 5 B b (bs ++ [.int .u8 c]) w' ∧ Below B w w' := by
  obtain ⟨i0, hi, hz0, hz1, hz2⟩ := info_parts Tryz.infoByte
  go_enter Tryz.func101, Tryz.ntmps101
  go_wp2_with (go_at_call 102; refine (check_any B b bs _ h).mono ?_)
  rintro e w1 ⟨rfl, h1, hb1⟩
  obtain ⟨hB, v, hbk, hown, hne⟩ := h1
  have c0 : w1.cell? ⟨b, 0, none⟩ = some (.pointer (some ⟨b, 0, none⟩)) := by rw [Lib.cell_of_heap hbk]; rfl
  have c1 : w1.cell? ⟨b, 1, none⟩ = some v := by rw [Lib.cell_of_heap hbk]; rfl
  go_wp2_with (at_builtin; refine wpList_append_own _ rfl _ _ 78 rfl B 5 i0 (.int .u8 0) 1 1 Tryz.underlying78 hi hz0 hz1 hz2 rfl (by decide) _ _ _ rfl (hown.alloc _) ⟨w1.heap.size, 0, none⟩ 1 1 [.int .u8 c] rfl rfl ?c1 ?c2 ?c3 ?c4 ?c5 ?_)
  case c1 =>
    intro j u hj
    match j, hj with
    | 0, hj => simp at hj; subst hj; simp [Addr.add]
  case c2 => intro u hu; simp at hu; subst hu; rfl
  case c3 => unfold maxLen; omega
  case c4 => omega
  case c5 => have := hb1.size; simp; omega
  intro v' w2 hown' hgrow _
  have hlt : b < w1.heap.size := by
    rcases Nat.lt_or_ge b w1.heap.size with h' | h'
    · exact h'
    · simp [Array.getElem?_eq_none h'] at hbk
  have hb2 : w2.heap[b]? = some (.cells #[.pointer (some ⟨b, 0, none⟩), v] 80 (0, 0)) := by
    rw [hgrow.block b (by simp; omega) (fun e => hne e.symm), Lib.alloc_old w1 _ b hlt]
    exact hbk
  have d0 : w2.cell? ⟨b, 0, none⟩ = some (.pointer (some ⟨b, 0, none⟩)) := by rw [Lib.cell_of_heap hb2]; rfl
  have d1 : w2.cell? ⟨b, 1, none⟩ = some v := by rw [Lib.cell_of_heap hb2]; rfl
  have f1 : w2.frozen? ⟨b, 1, none⟩ = false := Lib.frozen_of_heap hb2 1
  obtain ⟨g, cap, rfl⟩ : ∃ g cap, v' = .slice (some ⟨g, 0, none⟩) (bs.length + 1) cap := by
    rcases hown'.2 with ⟨_, h0⟩ | ⟨g, cap, cur, hv, _⟩
    · omega
    · exact ⟨g, cap, hv⟩
  go_wp2
  go_ret
  refine ⟨rfl, Or.inr ?_, ?_⟩
  · exact Lib.BuilderAt.put (T := 80) (e := 5) hB hb2 (bs' := bs ++ [.int .u8 c]) (by simpa using hown') (by decide)
  · exact ((hb1.alloc (by have := hb1.size; omega) _).grown hgrow (by have := hb1.size; simp; omega) (fun k hk => (hown.lt k hk).1)).setCell (p := ⟨b, 1, none⟩) hB _

end Go.Proofs.YtfcjnoojcajljaaGreatDoor

/-
  The reader of bytes: its state, and the contracts of take, count and text.
-/
namespace Go.Proofs.YtfcjnoojcajljaaGreatDoor
open Go.RowKit

/-- A reader's state: what is left, and whether it came short. -/
abbrev Rst := List UInt8 × Bool
def takeS (n : Nat) (s : Rst) : List UInt8 × Rst := if s.1.length < n then ([], (s.1, true)) else (s.1.take n, (s.1.drop n, s.2))
def countS (s : Rst) : Nat × Rst := match takeS 1 s with
  | (c :: _, s') => (c.toNat, s')
  | ([], s') => (0, s')
def textS (s : Rst) : ByteArray × Rst := (⟨(takeS (countS s).1 (countS s).2).1.toArray⟩, (takeS (countS s).1 (countS s).2).2)
def textsS : Nat → Rst → List ByteArray × Rst
  | 0, s => ([], s)
  | n + 1, s => ((textS s).1 :: (textsS n (textS s).2).1, (textsS n (textS s).2).2)
def fieldS (s : Rst) : Fld × Rst := (((textS s).1, (textsS (countS (textS s).2).1 (countS (textS s).2).2).1), (textsS (countS (textS s).2).1 (countS (textS s).2).2).2)
def fieldsS : Nat → Rst → List Fld × Rst
  | 0, s => ([], s)
  | n + 1, s => ((fieldS s).1 :: (fieldsS n (fieldS s).2).1, (fieldsS n (fieldS s).2).2)
def valueS (s : Rst) : List Fld × Rst := fieldsS (countS s).1 (countS s).2

/-- v is a slice of the bytes l, in a block below R. -/
def RestAt (R : Nat) (w : World) (v : Value) (l : List UInt8) : Prop :=
  ∃ p cap, v = .slice p l.length cap ∧ l.length ≤ cap ∧ cap ≤ maxLen ∧ (l = [] ∨ ∃ b off, p = some ⟨b, off, none⟩ ∧ b < R ∧ ∀ i, (h : i < l.length) → w.cell? ⟨b, off + i, none⟩ = some (.int .u8 l[i].toNat))

theorem RestAt.kept {R : Nat} {w w' : World} {v : Value} {l : List UInt8} (h : RestAt R w v l) (hg : w.grownBy w' (some R)) : RestAt R w' v l := by
  obtain ⟨p, cap, rfl, h1, h2, h⟩ := h
  refine ⟨p, cap, rfl, h1, h2, ?_⟩
  rcases h with h | ⟨b, off, hp, hb, h⟩
  · exact Or.inl h
  · exact Or.inr ⟨b, off, hp, hb, fun i hi => (hg.cell_far ⟨b, off + i, none⟩ (cell_block (h i hi)) (by simp; omega)).trans (h i hi)⟩

theorem addr_add (b off i : Nat) : (⟨b, off, none⟩ : Addr).add i = ⟨b, off + i, none⟩ := by
  unfold Addr.add
  split
  · rename_i h; simp_all
  · rfl

theorem restAt_take {R : Nat} {w : World} {p : Option Addr} {cap : Nat} {l : List UInt8} (h : RestAt R w (.slice p l.length cap) l) (n : Nat) (hn : n ≤ l.length) :
    RestAt R w (.slice p n cap) (l.take n) := by
  obtain ⟨p', cap', e, h1, h2, h⟩ := h
  cases e
  refine ⟨p, cap, by rw [List.length_take, Nat.min_eq_left hn], by rw [List.length_take]; omega, h2, ?_⟩
  rcases h with h | ⟨b, off, hp, hb, h⟩
  · left; rw [h]; simp
  · by_cases h0 : n = 0
    · left; rw [h0]; simp
    · right
      refine ⟨b, off, hp, hb, fun i hi => ?_⟩
      · rw [List.length_take] at hi
        rw [h i (by omega), List.getElem_take]

theorem restAt_drop {R : Nat} {w : World} {p : Option Addr} {cap : Nat} {l : List UInt8} (h : RestAt R w (.slice p l.length cap) l) (n : Nat) (hn : n ≤ l.length) (q : Option Addr) (hq : q = if cap = n then p else p.map (·.add n)) :
    RestAt R w (.slice q (l.length - n) (cap - n)) (l.drop n) := by
  obtain ⟨p', cap', e, h1, h2, h⟩ := h
  cases e
  refine ⟨q, cap - n, by rw [List.length_drop], by rw [List.length_drop]; omega, by omega, ?_⟩
  rcases h with h | ⟨b, off, hp, hb, h⟩
  · left; rw [h]; simp
  · by_cases h0 : n = l.length
    · left; rw [h0]; simp
    · right
      refine ⟨b, off + n, ?_, hb, fun i hi => ?_⟩
      · rw [hq, if_neg (by omega), hp, Option.map_some, addr_add]
      · rw [List.length_drop] at hi
        rw [Nat.add_assoc, h (n + i) (by omega), List.getElem_drop]

theorem restAt_cons {R : Nat} {w : World} {u : Value} {c : UInt8} {r : List UInt8} (h : RestAt R w u (c :: r)) :
    ∃ b off cap, u = .slice (some ⟨b, off, none⟩) (r.length + 1) cap ∧ w.cell? ⟨b, off, none⟩ = some (.int .u8 c.toNat) := by
  obtain ⟨p, cap, rfl, _, _, h⟩ := h
  rcases h with h | ⟨b, off, rfl, _, h⟩
  · cases h
  · exact ⟨b, off, cap, rfl, h 0 (by simp)⟩

theorem grown_set (w : World) (R i : Nat) (v : Value) : w.grownBy (w.setCell ⟨R, i, none⟩ v) (some R) :=
  ⟨rfl, rfl, rfl, by simp [World.setCell], fun k _ hne => Below.heap_setCell w _ _ k (fun e => hne (by rw [e]))⟩

theorem grown_trans {a b c : World} {R : Nat} (h : a.grownBy b (some R)) (k : b.grownBy c (some R)) : a.grownBy c (some R) :=
  ⟨k.os.trans h.os, k.tape.trans h.tape, k.output.trans h.output, Nat.le_trans h.size k.size, fun i hi hn => (k.block i (Nat.lt_of_lt_of_le hi h.size) hn).trans (h.block i hi hn)⟩

theorem rd_set0 {w : World} {R : Nat} {v v' u : Value} {T : TypeId} (h : w.heap[R]? = some (.cells #[v, u] T (0, 0))) : (w.setCell ⟨R, 0, none⟩ v').heap[R]? = some (.cells #[v', u] T (0, 0)) := heap_setCell_same w R 0 _ T v' h
theorem rd_set1 {w : World} {R : Nat} {v u u' : Value} {T : TypeId} (h : w.heap[R]? = some (.cells #[v, u] T (0, 0))) : (w.setCell ⟨R, 1, none⟩ u').heap[R]? = some (.cells #[v, u'] T (0, 0)) := heap_setCell_same w R 1 _ T u' h

theorem conv_any {R : Nat} {w : World} {u : Value} {l : List UInt8} (h : RestAt R w u l) : (convert 78 9 u).run Tryz.prog w = .ok (.string ⟨l.toArray⟩) w := by
  obtain ⟨p, cap, rfl, _, _, h⟩ := h
  rcases h with rfl | ⟨b, off, rfl, _, h⟩
  · rw [run_convert_bytes_string w _ _ _ p _ cap Tryz.underlying78 Tryz.underlying5 Tryz.underlying9]
    cases p <;> simp [Conv.bytesToString, loadCells, loadCellsFrom, go_sem] <;> rfl
  · exact run_convert_bytes_back w _ _ _ ⟨b, off, none⟩ cap l Tryz.underlying78 Tryz.underlying5 Tryz.underlying9 (fun j hj => by rw [addr_add]; exact h j hj)

end Go.Proofs.YtfcjnoojcajljaaGreatDoor

/-
  The contract of the reader's field.
-/
namespace Go.Proofs.YtfcjnoojcajljaaGreatDoor
open Go.RowKit

theorem Tryz.infoStr : (Tryz.prog.info? 9).map (fun i => (i.zero, i.size, i.bytes)) = some (some (.string ⟨#[]⟩), 1, 16) := by kernel_rfl

/-- v owns the texts ts, in a row at or behind n0. -/
def OwnT (n0 : Nat) (w : World) (v : Value) (ts : List ByteArray) : Prop := w.ownsRow n0 9 1 v ts.length (ts.map Value.string)

theorem own_weak {w : World} {base base' : Nat} {e : TypeId} {size : Nat} {v : Value} {n : Nat} {xs : List Value} (h : w.ownsRow base e size v n xs) (hb : base' ≤ base) : w.ownsRow base' e size v n xs := by
  refine ⟨h.1, ?_⟩
  rcases h.2 with h2 | ⟨g, cap, cur, h3, h4, h5⟩
  · exact .inl h2
  · exact .inr ⟨g, cap, cur, h3, by omega, h5⟩

theorem OwnT.on {n0 : Nat} {w w' : World} {v : Value} {ts : List ByteArray} (h : OwnT n0 w v ts) (hb : Below w.heap.size w w') : OwnT n0 w' v ts := own_on h hb

theorem OwnT.grown {n0 : Nat} {w w' : World} {v : Value} {ts : List ByteArray} {R : Nat} (h : OwnT n0 w v ts) (hg : w.grownBy w' (some R)) (hR : R < n0) : OwnT n0 w' v ts := by
  refine World.ownsRow.kept h hg ?_
  rcases hv : v.ownBlock with _ | k
  · exact Or.inl rfl
  · right
    intro e
    have := (World.ownsRow.lt h k hv).1
    simp at e; omega

theorem countS_le (s : Rst) : (countS s).1 ≤ 255 := by
  unfold countS
  split
  · rename_i c _ _ _; have := c.toNat_lt; simp; omega
  · simp

theorem textsS_snoc (n : Nat) (s : Rst) : textsS (n + 1) s = ((textsS n s).1 ++ [(textS (textsS n s).2).1], (textS (textsS n s).2).2) := by
  induction n generalizing s with
  | zero => rfl
  | succ n ih =>
    rw [textsS, ih]
    simp [textsS]

theorem textsS_len (n : Nat) (s : Rst) : (textsS n s).1.length = n := by
  induction n generalizing s with
  | zero => rfl
  | succ n ih => rw [textsS]; simp [ih]

end Go.Proofs.YtfcjnoojcajljaaGreatDoor

/-
  The contract of fits.
-/
namespace Go.Proofs.YtfcjnoojcajljaaGreatDoor
open Go.RowKit

end Go.Proofs.YtfcjnoojcajljaaGreatDoor

/-
  The contract of May.
-/
namespace Go.Proofs.YtfcjnoojcajljaaGreatDoor
open Go.RowKit

def ltN (a b : ByteArray) : Bool := Op.bytesLess a.toList b.toList
def stepOk (fs : List Fld) (i : Nat) : Bool := fitsB (fs.getD i default) && (decide (i = 0) || ltN (fs.getD (i - 1) default).1 (fs.getD i default).1)
def mayB (fs : List Fld) : Bool := decide (fs.length ≤ 16) && (List.range fs.length).all (stepOk fs)

theorem flds_at {d : List Fx} {i : Nat} (h : i < d.length) : (d.map Fx.fld).getD i default = d[i].fld := by
  rw [List.getD_eq_getElem?_getD, List.getElem?_map, List.getElem?_eq_getElem h]; rfl

theorem may_long {fs : List Fld} (h : 16 < fs.length) : mayB fs = false := by
  unfold mayB; rw [decide_eq_false (by omega)]; rfl
theorem may_no {fs : List Fld} {i : Nat} (h : i < fs.length) (hs : stepOk fs i = false) : mayB fs = false := by
  unfold mayB
  have : (List.range fs.length).all (stepOk fs) = false := by
    rw [Bool.eq_false_iff]
    intro ha
    rw [List.all_eq_true] at ha
    have := ha i (List.mem_range.2 h)
    rw [hs] at this; cases this
  rw [this]; simp
theorem may_yes {fs : List Fld} (h : fs.length ≤ 16) (hs : ∀ i, i < fs.length → stepOk fs i = true) : mayB fs = true := by
  unfold mayB
  have : (List.range fs.length).all (stepOk fs) = true := by
    rw [List.all_eq_true]
    exact fun i hi => hs i (List.mem_range.1 hi)
  rw [this, decide_eq_true h]; rfl

theorem x_new (w : World) (x : Fx) (w' : World) (hb : Below (w.alloc (.cells #[.string x.name, .slice x.p x.txt.length x.cap] 43)).heap.size (w.alloc (.cells #[.string x.name, .slice x.p x.txt.length x.cap] 43)) w') :
    w'.cell? ⟨w.heap.size, 0, none⟩ = some (.string x.name) ∧ w'.cell? ⟨w.heap.size, 1, none⟩ = some (.slice x.p x.txt.length x.cap) :=
  ⟨(hb.cell (p := ⟨w.heap.size, 0, none⟩) (by simp)).trans (by simp [go_sem]), (hb.cell (p := ⟨w.heap.size, 1, none⟩) (by simp)).trans (by simp [go_sem])⟩

end Go.Proofs.YtfcjnoojcajljaaGreatDoor

/-
  The contracts of the reader's value, and of Decode.
-/
namespace Go.Proofs.YtfcjnoojcajljaaGreatDoor
open Go.RowKit

theorem Tryz.infoFld : (Tryz.prog.info? 43).map (fun i => (i.zero, i.size, i.bytes)) = some (some (.agg #[.string ⟨#[]⟩, .slice none 0 0]), 2, 40) := by kernel_rfl

def cellsX (d : List Fx) : List Value := d.flatMap encX
theorem cellsX_append (d e : List Fx) : cellsX (d ++ e) = cellsX d ++ cellsX e := List.flatMap_append
theorem cellsX_len (d : List Fx) : (cellsX d).length = d.length * 2 := by
  induction d with
  | nil => rfl
  | cons x d ih => simp [cellsX, encX] at ih ⊢; omega
theorem cellsX_get (d : List Fx) (i : Nat) (h : i < d.length) : (cellsX d)[i * 2]? = some (.string d[i].name) ∧ (cellsX d)[i * 2 + 1]? = some d[i].sl := by
  induction d generalizing i with
  | nil => simp at h
  | cons x d ih =>
    have e : cellsX (x :: d) = .string x.name :: x.sl :: cellsX d := rfl
    rw [e]
    cases i with
    | zero => simp
    | succ i =>
      have := ih i (by simpa using h)
      rw [show (i + 1) * 2 = i * 2 + 1 + 1 by omega]
      simpa using this

/-- v owns the fields d, and each of them its texts, in rows at or behind n0. -/
def OwnXs (n0 : Nat) (w : World) (v : Value) (d : List Fx) : Prop := w.ownsRow n0 43 2 v d.length (cellsX d) ∧ ∀ x ∈ d, OwnT n0 w x.sl x.txt

theorem OwnT.txtAt {n0 : Nat} {w : World} {p : Option Addr} {cap : Nat} {ts : List ByteArray} (h : OwnT n0 w (.slice p ts.length cap) ts) : TxtAt w p ts := by
  rcases h.2 with ⟨_, h0⟩ | ⟨g, c, cur, hv, _, hg, _, _, hsz, htk⟩
  · exact Or.inl (List.length_eq_zero_iff.1 h0)
  · right
    injection hv with hp
    refine ⟨g, 0, hp, fun i hi => ?_⟩
    rw [Nat.zero_add, cell_of_row w g i cur _ _ hg]
    have : (ts.map Value.string)[i]? = cur.toList[i]? := by
      rw [← htk, List.getElem?_take, if_pos (by omega)]
    rw [← Array.getElem?_toList, ← this]
    simp [hi]

theorem OwnXs.is {n0 : Nat} {w : World} {v : Value} {d : List Fx} (h : OwnXs n0 w v d) : IsXs w v d := by
  obtain ⟨h1, h2⟩ := h
  rcases h1.2 with ⟨rfl, h0⟩ | ⟨g, c, cur, rfl, _, hg, _, _, hsz, htk⟩
  · obtain rfl := List.length_eq_zero_iff.1 h0
    exact ⟨none, 0, rfl, Or.inl rfl, fun x hx => by simp at hx⟩
  · refine ⟨_, c, rfl, Or.inr ⟨g, 0, rfl, fun i hi => ?_⟩, fun x hx => OwnT.txtAt (h2 x hx)⟩
    obtain ⟨c0, c1⟩ := cellsX_get d i hi
    have e : ∀ j, j < d.length * 2 → (cellsX d)[j]? = cur[j]? := fun j hj => by
      rw [← htk, List.getElem?_take, if_pos hj, Array.getElem?_toList]
    rw [Nat.zero_add, cell_of_row w g _ cur _ _ hg, cell_of_row w g _ cur _ _ hg, ← e _ (by omega), ← e _ (by omega)]
    exact ⟨c0, c1⟩

theorem OwnXs.on {n0 : Nat} {w w' : World} {v : Value} {d : List Fx} (h : OwnXs n0 w v d) (hb : Below w.heap.size w w') : OwnXs n0 w' v d := ⟨own_on h.1 hb, fun x hx => (h.2 x hx).on hb⟩

theorem OwnXs.far {n0 R : Nat} {w w' : World} {v : Value} {d : List Fx} (h : OwnXs n0 w v d) (hg : w.grownBy w' (some R)) (hR : R < n0) : OwnXs n0 w' v d := by
  refine ⟨World.ownsRow.kept h.1 hg ?_, fun x hx => (h.2 x hx).grown hg hR⟩
  rcases hv : v.ownBlock with _ | k
  · exact Or.inl rfl
  · right
    intro e
    have := (World.ownsRow.lt h.1 k hv).1
    simp at e; omega

/-- Texts lie in no row of fields. -/
theorem OwnT.rowX {n0 : Nat} {w w' : World} {sv v : Value} {ts : List ByteArray} {n m : Nat} {xs : List Value} {m0 : Nat} (h : OwnT n0 w sv ts) (hv : w.ownsRow m0 43 n v m xs) (hg : w.grownBy w' v.ownBlock) : OwnT n0 w' sv ts := by
  refine World.ownsRow.kept h hg ?_
  rcases h.2 with ⟨rfl, _⟩ | ⟨g, c, cur, rfl, _, hgb, _⟩
  · exact Or.inl rfl
  · right
    intro e
    rcases hv.2 with ⟨rfl, _⟩ | ⟨g', c', cur', rfl, _, hgb', _⟩
    · cases e
    · have : g = g' := by simpa [Value.ownBlock] using e
      subst this
      rw [hgb] at hgb'
      injection hgb' with hgb'
      injection hgb' with _ ht
      exact absurd ht (by decide)

theorem fieldsS_snoc (n : Nat) (s : Rst) : fieldsS (n + 1) s = ((fieldsS n s).1 ++ [(fieldS (fieldsS n s).2).1], (fieldS (fieldsS n s).2).2) := by
  induction n generalizing s with
  | zero => rfl
  | succ n ih =>
    rw [fieldsS, ih]
    simp [fieldsS]

theorem own_slice {n0 : Nat} {w : World} {sv : Value} {ts : List ByteArray} (h : OwnT n0 w sv ts) : ∃ p cap, sv = .slice p ts.length cap := by
  rcases h.2 with ⟨hv, h0⟩ | ⟨g, cap, cur, hv, _⟩
  · exact ⟨none, 0, by rw [hv, h0]⟩
  · exact ⟨_, _, hv⟩

theorem news_x (w : World) (x : Fx) : ∀ j u, (cellsX [x])[j]? = some u → (w.alloc (.cells #[.string x.name, .slice x.p x.txt.length x.cap] 43)).cell? ((⟨w.heap.size, 0, none⟩ : Addr).add j) = some u := by
  intro j u hj
  have e : cellsX [x] = [.string x.name, .slice x.p x.txt.length x.cap] := rfl
  rw [e] at hj
  match j, hj with
  | 0, hj => simp at hj; subst hj; simp [Addr.add]
  | 1, hj => simp at hj; subst hj; rw [addr_add]; simp

theorem cellsX_one (d : List Fx) : ∀ u ∈ cellsX d, u.oneCell' = true := by
  intro u hu
  obtain ⟨x, _, hx⟩ := List.mem_flatMap.1 hu
  simp [encX] at hx
  rcases hx with rfl | rfl <;> rfl

/-- One field more behind a row of fields. -/
theorem OwnXs.put {n0 : Nat} {w w' : World} {v v' : Value} {d : List Fx} {x : Fx} (h : OwnXs n0 w v d) (hx : OwnT n0 w x.sl x.txt) (hown : w'.ownsRow n0 43 2 v' (d.length + 1) (cellsX d ++ cellsX [x])) (hg : w.grownBy w' v.ownBlock) : OwnXs n0 w' v' (d ++ [x]) := by
  refine ⟨?_, fun y hy => ?_⟩
  · rw [cellsX_append, List.length_append]; exact hown
  · rw [List.mem_append, List.mem_singleton] at hy
    rcases hy with hy | rfl
    · exact (h.2 y hy).rowX h.1 hg
    · exact hx.rowX h.1 hg

def decodeO (l : List UInt8) : Option (List Fld) := if (valueS (l, false)).2.2 = true ∨ 0 < (valueS (l, false)).2.1.length ∨ mayB (valueS (l, false)).1 = false then none else some (valueS (l, false)).1

def DecPost (w : World) (l : List UInt8) (e : Ending) (w' : World) : Prop :=
  (decodeO l = none ∧ e = .returned (.tuple #[.slice none 0 0, .int .i64 4]) ∨ ∃ fs, decodeO l = some fs ∧ ∃ u d, e = .returned (.tuple #[u, .int .i64 0]) ∧ OwnXs w.heap.size w' u d ∧ d.map Fx.fld = fs) ∧ Below w.heap.size w w'

/-- What a reader gives, a machine can hold. -/
theorem takeS_small (n : Nat) (s : Rst) : (takeS n s).1.length ≤ n := by
  unfold takeS
  split
  · simp
  · simp; omega
theorem textS_small (s : Rst) : (textS s).1.size ≤ 255 := by
  have h1 := takeS_small (countS s).1 (countS s).2
  have h2 := countS_le s
  show (takeS (countS s).1 (countS s).2).1.toArray.size ≤ 255
  rw [List.size_toArray]; omega
theorem textsS_small (n : Nat) (s : Rst) : ∀ t ∈ (textsS n s).1, t.size ≤ 255 := by
  induction n generalizing s with
  | zero => intro t ht; simp [textsS] at ht
  | succ n ih =>
    intro t ht
    rw [textsS, List.mem_cons] at ht
    rcases ht with rfl | ht
    · exact textS_small s
    · exact ih _ t ht
theorem fieldS_small (s : Rst) : FitF (fieldS s).1 := by
  refine ⟨?_, ?_, fun t ht => ?_⟩
  · have := textS_small s; show (textS s).1.size ≤ maxLen; unfold maxLen; omega
  · show (textsS _ _).1.length ≤ maxLen
    rw [textsS_len]; have := countS_le (textS s).2; unfold maxLen; omega
  · have := textsS_small _ _ t ht; unfold maxLen; omega
theorem fieldsS_small (n : Nat) (s : Rst) : ∀ f ∈ (fieldsS n s).1, FitF f := by
  induction n generalizing s with
  | zero => intro t ht; simp [fieldsS] at ht
  | succ n ih =>
    intro t ht
    rw [fieldsS, List.mem_cons] at ht
    rcases ht with rfl | ht
    · exact fieldS_small s
    · exact ih _ t ht

theorem fitX_of {d : List Fx} {fs : List Fld} (h : d.map Fx.fld = fs) (hl : d.length ≤ maxLen) (hf : ∀ f ∈ fs, FitF f) : FitX d :=
  ⟨hl, fun x hx => hf _ (by rw [← h]; exact List.mem_map.2 ⟨x, hx, rfl⟩)⟩

end Go.Proofs.YtfcjnoojcajljaaGreatDoor

/-
  Rows of plain elements, whatever their kind: how they lie in memory, and who owns them.
-/
namespace Go.Proofs.YtfcjnoojcajljaaGreatDoor
open Go.RowKit

/-- A kind of element: its type, how many cells it has, and which. -/
structure Kind (α : Type) where
  T : TypeId
  k : Nat
  enc : α → List Value
  len : ∀ x, (enc x).length = k
  pos : 0 < k
  one : ∀ x, ∀ u ∈ enc x, u.oneCell' = true

def Kind.cells {α : Type} (K : Kind α) (d : List α) : List Value := d.flatMap K.enc

theorem Kind.cells_nil {α : Type} (K : Kind α) : K.cells [] = [] := rfl
theorem Kind.cells_one {α : Type} (K : Kind α) (x : α) : K.cells [x] = K.enc x := by simp [Kind.cells]
theorem Kind.cells_append {α : Type} (K : Kind α) (a b : List α) : K.cells (a ++ b) = K.cells a ++ K.cells b := List.flatMap_append
theorem Kind.cells_len {α : Type} (K : Kind α) (d : List α) : (K.cells d).length = d.length * K.k := by
  induction d with
  | nil => simp [Kind.cells]
  | cons x d ih =>
    have e : K.cells (x :: d) = K.enc x ++ K.cells d := rfl
    rw [e, List.length_append, K.len, ih, List.length_cons, Nat.add_mul, Nat.one_mul, Nat.add_comm]

theorem Kind.cells_get {α : Type} (K : Kind α) (d : List α) (i : Nat) (h : i < d.length) (j : Nat) (hj : j < K.k) : (K.cells d)[i * K.k + j]? = (K.enc d[i])[j]? := by
  induction d generalizing i with
  | nil => simp at h
  | cons x d ih =>
    have e : K.cells (x :: d) = K.enc x ++ K.cells d := rfl
    rw [e]
    cases i with
    | zero => rw [Nat.zero_mul, Nat.zero_add, List.getElem?_append_left (by rw [K.len]; exact hj)]; rfl
    | succ i =>
      have hl : (K.enc x).length ≤ (i + 1) * K.k + j := by rw [K.len, Nat.add_mul, Nat.one_mul]; omega
      rw [List.getElem?_append_right hl, K.len]
      have e2 : (i + 1) * K.k + j - K.k = i * K.k + j := by rw [Nat.add_mul, Nat.one_mul]; omega
      rw [e2]
      exact ih i (by simpa using h)

theorem Kind.cells_ones {α : Type} (K : Kind α) (d : List α) : ∀ u ∈ K.cells d, u.oneCell' = true := by
  intro u hu
  obtain ⟨x, _, hx⟩ := List.mem_flatMap.1 hu
  exact K.one x u hx

/-- The elements d lie from off on in block b. -/
def Kind.At {α : Type} (K : Kind α) (w : World) (b off : Nat) (d : List α) : Prop :=
  ∀ i, (h : i < d.length) → ∀ j u, (K.enc d[i])[j]? = some u → w.cell? ⟨b, off + i * K.k + j, none⟩ = some u

/-- v is a slice that holds the elements d. -/
def Kind.Is {α : Type} (K : Kind α) (w : World) (v : Value) (d : List α) : Prop :=
  ∃ p cap, v = .slice p d.length cap ∧ (d = [] ∨ ∃ b off, p = some ⟨b, off, none⟩ ∧ K.At w b off d)

/-- v owns a row of the elements d, in a block at or behind n0. -/
def Kind.Own {α : Type} (K : Kind α) (n0 : Nat) (w : World) (v : Value) (d : List α) : Prop := w.ownsRow n0 K.T K.k v d.length (K.cells d)

theorem Kind.at_kept {α : Type} {K : Kind α} {w w' : World} {b off : Nat} {d : List α} (h : K.At w b off d) (hb : Below w.heap.size w w') : K.At w' b off d :=
  fun i hi j u hu => (hb.cell (p := ⟨b, off + i * K.k + j, none⟩) (cell_block (h i hi j u hu))).trans (h i hi j u hu)

theorem Kind.is_kept {α : Type} {K : Kind α} {w w' : World} {v : Value} {d : List α} (h : K.Is w v d) (hb : Below w.heap.size w w') : K.Is w' v d := by
  obtain ⟨p, cap, rfl, h⟩ := h
  refine ⟨p, cap, rfl, ?_⟩
  rcases h with h | ⟨b, off, hp, h⟩
  · exact Or.inl h
  · exact Or.inr ⟨b, off, hp, K.at_kept h hb⟩

theorem Kind.is_nil {α : Type} (K : Kind α) (w : World) : K.Is w (.slice none 0 0) [] := ⟨none, 0, rfl, Or.inl rfl⟩
theorem Kind.own_nil {α : Type} (K : Kind α) (n0 : Nat) (w : World) : K.Own n0 w (.slice none 0 0) [] := World.ownsRow_nil _ _ _ _

theorem Kind.own_on {α : Type} {K : Kind α} {n0 : Nat} {w w' : World} {v : Value} {d : List α} (h : K.Own n0 w v d) (hb : Below w.heap.size w w') : K.Own n0 w' v d := _root_.Go.Proofs.YtfcjnoojcajljaaGreatDoor.own_on h hb
theorem Kind.own_weak {α : Type} {K : Kind α} {n0 n1 : Nat} {w : World} {v : Value} {d : List α} (h : K.Own n0 w v d) (hn : n1 ≤ n0) : K.Own n1 w v d := _root_.Go.Proofs.YtfcjnoojcajljaaGreatDoor.own_weak h hn

theorem Kind.own_shape {α : Type} {K : Kind α} {n0 : Nat} {w : World} {v : Value} {d : List α} (h : K.Own n0 w v d) : ∃ p cap, v = .slice p d.length cap := by
  rcases h.2 with ⟨hv, h0⟩ | ⟨g, cap, cur, hv, _⟩
  · exact ⟨none, 0, by rw [hv, h0]⟩
  · exact ⟨_, _, hv⟩

theorem Kind.own_is {α : Type} {K : Kind α} {n0 : Nat} {w : World} {v : Value} {d : List α} (h : K.Own n0 w v d) : K.Is w v d := by
  rcases h.2 with ⟨rfl, h0⟩ | ⟨g, c, cur, rfl, _, hg, _, _, hsz, htk⟩
  · obtain rfl := List.length_eq_zero_iff.1 h0
    exact K.is_nil w
  · refine ⟨_, c, rfl, Or.inr ⟨g, 0, rfl, fun i hi j u hu => ?_⟩⟩
    have hj : j < K.k := by
      have := (List.getElem?_eq_some_iff.1 hu).1
      rwa [K.len] at this
    have hlt : i * K.k + j < d.length * K.k := by
      have h1 : (i + 1) * K.k ≤ d.length * K.k := Nat.mul_le_mul_right _ hi
      rw [Nat.add_mul, Nat.one_mul] at h1
      omega
    rw [Nat.zero_add, cell_of_row w g _ cur _ _ hg, ← Array.getElem?_toList]
    have : (K.cells d)[i * K.k + j]? = cur.toList[i * K.k + j]? := by rw [← htk, List.getElem?_take, if_pos hlt]
    rw [← this, K.cells_get d i hi j hj, hu]

/-- What a slice of elements gives an append. -/
theorem Kind.src {α : Type} {K : Kind α} {w : World} {p : Option Addr} {d : List α} (h : d = [] ∨ ∃ b off, p = some ⟨b, off, none⟩ ∧ K.At w b off d) :
    d.length = 0 ∨ ∃ ad, p = some ad ∧ ∀ j u, (K.cells d)[j]? = some u → w.cell? (ad.add j) = some u := by
  rcases h with rfl | ⟨b, off, rfl, hx⟩
  · exact Or.inl rfl
  · refine Or.inr ⟨_, rfl, fun j u hu => ?_⟩
    have hj : j < d.length * K.k := by
      have := (List.getElem?_eq_some_iff.1 hu).1
      rwa [K.cells_len] at this
    have hk : j / K.k < d.length := (Nat.div_lt_iff_lt_mul K.pos).2 hj
    have hm : j % K.k < K.k := Nat.mod_lt _ K.pos
    have e : j / K.k * K.k + j % K.k = j := by rw [Nat.mul_comm]; exact Nat.div_add_mod j K.k
    have hg := K.cells_get d (j / K.k) hk (j % K.k) hm
    rw [e, hu] at hg
    have := hx (j / K.k) hk (j % K.k) u hg.symm
    rw [addr_add]
    rw [Nat.add_assoc, e] at this
    exact this

/-- A literal row of one element. -/
theorem Kind.news {α : Type} (K : Kind α) (w : World) (x : α) : ∀ j u, (K.cells [x])[j]? = some u → (w.alloc (.cells (K.enc x).toArray K.T)).cell? ((⟨w.heap.size, 0, none⟩ : Addr).add j) = some u := by
  intro j u hu
  rw [K.cells_one] at hu
  rw [addr_add, Nat.zero_add, cell_of_row _ _ _ _ _ _ (heap_alloc_new w _)]
  simpa using hu

theorem Kind.own_snoc {α : Type} {K : Kind α} {n0 : Nat} {w : World} {v : Value} {d : List α} {x : α} {n : Nat} {xs : List Value} (h : w.ownsRow n0 K.T K.k v n xs) (hn : n = d.length + 1) (hx : xs = K.cells d ++ K.cells [x]) : K.Own n0 w v (d ++ [x]) := by
  subst hn hx
  unfold Kind.Own
  rw [K.cells_append, List.length_append]
  exact h

end Go.Proofs.YtfcjnoojcajljaaGreatDoor

/-
  The plain mathematics of the order of texts by their bytes.
-/
namespace Go.Proofs.YtfcjnoojcajljaaGreatDoor

theorem cb_self (a : List UInt8) : Lib.compareBytes a a = 0 := by
  induction a with
  | nil => rfl
  | cons x a ih => unfold Lib.compareBytes; simp [ih]

theorem cb_zero (a b : List UInt8) : Lib.compareBytes a b = 0 ↔ a = b := by
  constructor
  · induction a generalizing b with
    | nil => cases b with
      | nil => intro _; rfl
      | cons y b => intro h; simp [Lib.compareBytes] at h
    | cons x a ih => cases b with
      | nil => intro h; simp [Lib.compareBytes] at h
      | cons y b =>
        intro h
        unfold Lib.compareBytes at h
        split at h
        · simp at h
        · split at h
          · simp at h
          · rename_i h1 h2
            have : x = y := by
              apply UInt8.toNat_inj.1
              rw [UInt8.lt_iff_toNat_lt] at h1 h2
              omega
            rw [this, ih b h]
  · rintro rfl; exact cb_self a

theorem cb_neg (a b : List UInt8) : Lib.compareBytes b a = - Lib.compareBytes a b := by
  induction a generalizing b with
  | nil => cases b <;> simp [Lib.compareBytes]
  | cons x a ih => cases b with
    | nil => simp [Lib.compareBytes]
    | cons y b =>
      unfold Lib.compareBytes
      by_cases h1 : x < y
      · have h2 : ¬ y < x := by rw [UInt8.lt_iff_toNat_lt] at h1 ⊢; omega
        simp [h1, h2]
      · by_cases h2 : y < x
        · simp [h1, h2]
        · simp [h1, h2, ih b]

theorem cb_range (a b : List UInt8) : Lib.compareBytes a b = -1 ∨ Lib.compareBytes a b = 0 ∨ Lib.compareBytes a b = 1 := by
  induction a generalizing b with
  | nil => cases b <;> simp [Lib.compareBytes]
  | cons x a ih => cases b with
    | nil => simp [Lib.compareBytes]
    | cons y b =>
      unfold Lib.compareBytes
      by_cases h1 : x < y
      · simp [h1]
      · by_cases h2 : y < x
        · simp [h1, h2]
        · simpa [h1, h2] using ih b

theorem cb_lt_trans (a b c : List UInt8) (h1 : Lib.compareBytes a b < 0) (h2 : Lib.compareBytes b c < 0) : Lib.compareBytes a c < 0 := by
  induction a generalizing b c with
  | nil => cases c with
    | nil => cases b <;> simp [Lib.compareBytes] at h1 h2
    | cons z c => simp [Lib.compareBytes]
  | cons x a ih => cases b with
    | nil => simp [Lib.compareBytes] at h1
    | cons y b => cases c with
      | nil => simp [Lib.compareBytes] at h2
      | cons z c =>
        unfold Lib.compareBytes at h1 h2 ⊢
        simp only [UInt8.lt_iff_toNat_lt] at h1 h2 ⊢
        by_cases p1 : x.toNat < y.toNat
        · by_cases q1 : y.toNat < z.toNat
          · rw [if_pos (by omega)]; decide
          · rw [if_neg q1] at h2
            by_cases q2 : z.toNat < y.toNat
            · rw [if_pos q2] at h2; simp at h2
            · rw [if_pos (by omega)]; decide
        · rw [if_neg p1] at h1
          by_cases p2 : y.toNat < x.toNat
          · rw [if_pos p2] at h1; simp at h1
          · rw [if_neg p2] at h1
            by_cases q1 : y.toNat < z.toNat
            · rw [if_pos (by omega)]; decide
            · rw [if_neg q1] at h2
              by_cases q2 : z.toNat < y.toNat
              · rw [if_pos q2] at h2; simp at h2
              · rw [if_neg q2] at h2
                rw [if_neg (by omega), if_neg (by omega)]
                exact ih b c h1 h2

theorem cb_less (a b : List UInt8) : decide (Lib.compareBytes a b < 0) = Op.bytesLess a b := by
  induction a generalizing b with
  | nil => cases b <;> simp [Lib.compareBytes, Op.bytesLess]
  | cons x a ih => cases b with
    | nil => simp [Lib.compareBytes, Op.bytesLess]
    | cons y b =>
      unfold Lib.compareBytes Op.bytesLess
      rw [← ih b]
      by_cases h1 : x < y
      · simp [h1]
      · by_cases h2 : y < x
        · have hne : (x == y) = false := by
            rw [beq_eq_false_iff_ne]; rintro rfl; exact h1 h2
          simp [h1, h2, hne]
        · have he : x = y := by
            apply UInt8.toNat_inj.1
            rw [UInt8.lt_iff_toNat_lt] at h1 h2
            omega
          simp [he]

/-- The order of pairs: by the first, then by the second. -/
def pairI (x y : Int) : Int := if x = 0 then y else x

end Go.Proofs.YtfcjnoojcajljaaGreatDoor

/-
  The order of texts, byte by byte.
-/
namespace Go.Proofs.YtfcjnoojcajljaaGreatDoor
open Go.RowKit Go.Lib

def ltB (a b : ByteArray) : Bool := decide (Lib.compareBytes a.data.toList b.data.toList < 0)

theorem ba_eq {a b : ByteArray} (h : a.data.toList = b.data.toList) : a = b := by
  obtain ⟨⟨a⟩⟩ := a
  obtain ⟨⟨b⟩⟩ := b
  cases h
  rfl

theorem ltB_anti {a b : ByteArray} (h : ltB a b = false) (k : ltB b a = false) : a = b := by
  unfold ltB at *
  rw [decide_eq_false_iff_not] at *
  refine ba_eq ((cb_zero _ _).1 ?_)
  have := cb_neg a.data.toList b.data.toList
  omega

theorem ltB_irrefl (a : ByteArray) : ltB a a = false := by
  unfold ltB; rw [cb_self]; rfl

theorem ltB_asymm {a b : ByteArray} (h : ltB a b = true) : ltB b a = false := by
  unfold ltB at *
  rw [decide_eq_true_iff] at h
  rw [decide_eq_false_iff_not]
  have := cb_neg a.data.toList b.data.toList
  omega

theorem ltB_trans {a b c : ByteArray} (h : ltB a b = true) (k : ltB b c = true) : ltB a c = true := by
  unfold ltB at *
  rw [decide_eq_true_iff] at *
  exact cb_lt_trans _ _ _ h k

theorem ltB_cases (a b : ByteArray) : ltB a b = true ∨ a = b ∨ ltB b a = true := by
  cases h : ltB a b with
  | true => exact Or.inl rfl
  | false =>
    cases k : ltB b a with
    | true => exact Or.inr (Or.inr rfl)
    | false => exact Or.inr (Or.inl (ltB_anti h k))

/-- not b < a, b < c: a < c. -/
theorem ltB_le_lt {a b c : ByteArray} (h : ltB b a = false) (k : ltB b c = true) : ltB a c = true := by
  rcases ltB_cases a b with h1 | rfl | h1
  · exact ltB_trans h1 k
  · exact k
  · rw [h] at h1; cases h1

theorem sless_of {a b : ByteArray} {c : Bool} (h : ltB a b = c) : Op.bytesLess a.toList b.toList = c := by
  rw [← h]
  unfold ltB
  rw [Lib.toList_data, Lib.toList_data, cb_less]

theorem seq_false {a b : ByteArray} (h : a ≠ b) : (a.toList == b.toList) = false := by
  rw [Lib.toList_data, Lib.toList_data, beq_eq_false_iff_ne]
  exact fun e => h (ba_eq e)
theorem seq_true {a b : ByteArray} (h : a = b) : (a.toList == b.toList) = true := by rw [h]; simp

theorem sempty_of {a : ByteArray} (h : a.size = 0) : a.toList.isEmpty = true := by
  rw [Lib.toList_data]
  have : a.data.toList = [] := List.length_eq_zero_iff.1 (by simpa using h)
  rw [this]; rfl
theorem sfull_of {a : ByteArray} (h : a.size ≠ 0) : a.toList.isEmpty = false := by
  rw [Lib.toList_data]
  cases e : a.data.toList with
  | nil => exact absurd (by simpa using congrArg List.length e) h
  | cons _ _ => rfl

end Go.Proofs.YtfcjnoojcajljaaGreatDoor

/-
  The plain mathematics of terms: which may be, their order, and what is normal.
-/
namespace Go.Proofs.YtfcjnoojcajljaaGreatDoor
open Go.RowKit

/-- A term: its field's name, its operator, its text. -/
abbrev Tm := ByteArray × Int × ByteArray

def encM (x : Tm) : List Value := [.string x.1, .int .i64 x.2.1, .string x.2.2]

def KM : Kind Tm := ⟨39, 3, encM, fun _ => rfl, by decide, fun x u hu => by simp [encM] at hu; rcases hu with rfl | rfl | rfl <;> rfl⟩

/-- Terms that a machine can hold. -/
def FitM (p : List Tm) : Prop := p.length ≤ maxLen ∧ ∀ x ∈ p, x.1.size ≤ maxLen ∧ x.2.2.size ≤ maxLen ∧ -9223372036854775808 ≤ x.2.1 ∧ x.2.1 ≤ 9223372036854775807

def rightM (x : Tm) : Bool := decide (1 ≤ x.2.1) && decide (x.2.1 ≤ 7) && (decide (x.2.1 < 6) || decide (x.2.2.size = 0))
def namedM (x : Tm) : Bool := fieldB x.1.data.toList
def shortM (x : Tm) : Bool := decide (x.2.2.size ≤ 128)
/-- What May answers. -/
def mayM (p : List Tm) : Int := if 8 < p.length then 5 else if p.all namedM = false then 2 else if p.all rightM = false then 1 else if p.all shortM = false then 5 else 0

/-- The order of terms. -/
def ltM (a b : Tm) : Bool := if a.1 ≠ b.1 then ltB a.1 b.1 else if a.2.1 ≠ b.2.1 then decide (a.2.1 < b.2.1) else ltB a.2.2 b.2.2

theorem ltM_irrefl (a : Tm) : ltM a a = false := by simp [ltM, ltB_irrefl]

theorem ltB_eq_false {a b : ByteArray} (h : ltB a b = true) : a ≠ b := by
  rintro rfl
  rw [ltB_irrefl] at h
  cases h

theorem ltM_cases (a b : Tm) : ltM a b = true ∨ a = b ∨ ltM b a = true := by
  obtain ⟨a1, a2, a3⟩ := a
  obtain ⟨b1, b2, b3⟩ := b
  unfold ltM
  simp only
  by_cases h1 : a1 = b1
  · subst h1
    by_cases h2 : a2 = b2
    · subst h2
      rcases ltB_cases a3 b3 with h | h | h
      · left; simpa using h
      · right; left; rw [h]
      · right; right; simpa using h
    · have h2' : b2 ≠ a2 := fun e => h2 e.symm
      rcases Int.lt_or_gt_of_ne h2 with h | h
      · left; simp [h2, h]
      · right; right; simp [h2', h]
  · have h1' : b1 ≠ a1 := fun e => h1 e.symm
    rcases ltB_cases a1 b1 with h | h | h
    · left; simp [h1, h]
    · exact absurd h h1
    · right; right; simp [h1', h]

theorem ltM_trans {a b c : Tm} (h : ltM a b = true) (k : ltM b c = true) : ltM a c = true := by
  obtain ⟨a1, a2, a3⟩ := a
  obtain ⟨b1, b2, b3⟩ := b
  obtain ⟨c1, c2, c3⟩ := c
  unfold ltM at *
  simp only at *
  by_cases h1 : a1 = b1
  · subst h1
    by_cases k1 : a1 = c1
    · subst k1
      simp only [ne_eq, not_true_eq_false, if_false] at *
      by_cases h2 : a2 = b2
      · subst h2
        by_cases k2 : a2 = c2
        · subst k2
          simp only [not_true_eq_false, if_false] at *
          exact ltB_trans h k
        · simp only [not_true_eq_false, if_false, k2, not_false_eq_true, if_true] at *
          exact k
      · by_cases k2 : b2 = c2
        · subst k2
          simp only [h2, not_false_eq_true, if_true] at *
          exact h
        · simp only [h2, k2, not_false_eq_true, if_true, decide_eq_true_eq] at h k
          have h3 : a2 ≠ c2 := by omega
          simp only [h3, not_false_eq_true, if_true, decide_eq_true_eq]
          omega
    · simp only [ne_eq, k1, not_false_eq_true, if_true] at *
      exact k
  · by_cases k1 : b1 = c1
    · subst k1
      simp only [ne_eq, h1, not_false_eq_true, if_true] at *
      exact h
    · simp only [ne_eq, h1, k1, not_false_eq_true, if_true] at h k
      have h3 : ltB a1 c1 = true := ltB_trans h k
      have h4 : a1 ≠ c1 := ltB_eq_false h3
      simp only [ne_eq, h4, not_false_eq_true, if_true]
      exact h3

theorem ltM_asymm {a b : Tm} (h : ltM a b = true) : ltM b a = false := by
  cases k : ltM b a with
  | false => rfl
  | true =>
    have := ltM_trans h k
    rw [ltM_irrefl] at this
    cases this

theorem ltM_ne {a b : Tm} (h : ltM a b = true) : a ≠ b := by
  rintro rfl
  rw [ltM_irrefl] at h
  cases h

def RisingM (l : List Tm) : Prop := l.Pairwise fun x y => ltM x y = true

/-- Rising lists of the same terms are one. -/
theorem rising_unique : ∀ (a b : List Tm), RisingM a → RisingM b → (∀ x, x ∈ a ↔ x ∈ b) → a = b
  | [], [], _, _, _ => rfl
  | [], y :: b, _, _, h => by have := (h y).2 (by simp); simp at this
  | x :: a, [], _, _, h => by have := (h x).1 (by simp); simp at this
  | x :: a, y :: b, ha, hb, h => by
    have ha' := List.pairwise_cons.1 ha
    have hb' := List.pairwise_cons.1 hb
    have hxy : x = y := by
      rcases List.mem_cons.1 ((h x).1 (by simp)) with e | e
      · exact e
      · rcases List.mem_cons.1 ((h y).2 (by simp)) with e2 | e2
        · exact e2.symm
        · have h1 := hb'.1 x e
          have h2 := ha'.1 y e2
          rw [ltM_asymm h1] at h2
          cases h2
    subst hxy
    congr 1
    refine rising_unique a b ha'.2 hb'.2 fun z => ⟨fun hz => ?_, fun hz => ?_⟩
    · rcases List.mem_cons.1 ((h z).1 (by simp [hz])) with e | e
      · exact absurd e.symm (ltM_ne (ha'.1 z hz))
      · exact e
    · rcases List.mem_cons.1 ((h z).2 (by simp [hz])) with e | e
      · exact absurd e.symm (ltM_ne (hb'.1 z hz))
      · exact e

/-- x put where it belongs, if it isn't there. -/
def insM (x : Tm) : List Tm → List Tm
  | [] => [x]
  | y :: l => if ltM x y then x :: y :: l else if x = y then y :: l else y :: insM x l

/-- The terms, rising, each once. -/
def sortM (p : List Tm) : List Tm := p.foldl (fun acc x => insM x acc) []

theorem mem_insM (x z : Tm) (l : List Tm) : z ∈ insM x l ↔ z = x ∨ z ∈ l := by
  induction l with
  | nil => simp [insM]
  | cons y l ih =>
    unfold insM
    split
    · simp
    · split
      · rename_i h; subst h; simp
      · simp [ih, or_left_comm]

theorem insM_rising (x : Tm) (l : List Tm) (h : RisingM l) : RisingM (insM x l) := by
  induction l with
  | nil => exact List.pairwise_singleton _ _
  | cons y l ih =>
    have h' := List.pairwise_cons.1 h
    unfold insM
    split
    · rename_i hlt
      refine List.pairwise_cons.2 ⟨fun z hz => ?_, h⟩
      rcases List.mem_cons.1 hz with rfl | hz
      · exact hlt
      · exact ltM_trans hlt (h'.1 z hz)
    · rename_i hlt
      split
      · exact h
      · rename_i hne
        refine List.pairwise_cons.2 ⟨fun z hz => ?_, ih h'.2⟩
        rcases (mem_insM x z l).1 hz with rfl | hz
        · rcases ltM_cases z y with h1 | h1 | h1
          · exact absurd h1 hlt
          · exact absurd h1 hne
          · exact h1
        · exact h'.1 z hz

theorem sortM_spec (p : List Tm) : RisingM (sortM p) ∧ ∀ x, x ∈ sortM p ↔ x ∈ p := by
  have : ∀ (l acc : List Tm), RisingM acc → RisingM (l.foldl (fun acc x => insM x acc) acc) ∧ ∀ x, x ∈ l.foldl (fun acc x => insM x acc) acc ↔ x ∈ acc ∨ x ∈ l := by
    intro l
    induction l with
    | nil => intro acc h; exact ⟨h, fun x => by simp⟩
    | cons y l ih =>
      intro acc h
      obtain ⟨h1, h2⟩ := ih (insM y acc) (insM_rising y acc h)
      refine ⟨h1, fun x => ?_⟩
      rw [List.foldl_cons, h2, mem_insM, List.mem_cons]
      constructor
      · rintro ((h | h) | h)
        · exact Or.inr (Or.inl h)
        · exact Or.inl h
        · exact Or.inr (Or.inr h)
      · rintro (h | h | h)
        · exact Or.inl (Or.inr h)
        · exact Or.inl (Or.inl h)
        · exact Or.inr h
  obtain ⟨h1, h2⟩ := this p [] List.Pairwise.nil
  exact ⟨h1, fun x => by rw [sortM, h2]; simp⟩

theorem sortM_unique {p l : List Tm} (h1 : RisingM l) (h2 : ∀ x, x ∈ l ↔ x ∈ p) : l = sortM p :=
  rising_unique _ _ h1 (sortM_spec p).1 fun x => (h2 x).trans ((sortM_spec p).2 x).symm

theorem sortM_len (p : List Tm) : (sortM p).length ≤ p.length := by
  have key : ∀ (x : Tm) (l : List Tm), (insM x l).length ≤ l.length + 1 := by
    intro x l
    induction l with
    | nil => simp [insM]
    | cons y l ih =>
      unfold insM
      split
      · simp
      · split
        · simp
        · simp; omega
  have : ∀ (l acc : List Tm), (l.foldl (fun acc x => insM x acc) acc).length ≤ acc.length + l.length := by
    intro l
    induction l with
    | nil => intro acc; simp
    | cons y l ih =>
      intro acc
      have h1 := ih (insM y acc)
      have h2 := key y acc
      rw [List.foldl_cons, List.length_cons]
      omega
  simpa [sortM] using this p []

theorem mayM_perm {p q : List Tm} (h : ∀ x, x ∈ p ↔ x ∈ q) (hl : p.length ≤ 8) (hm : q.length ≤ 8) : mayM p = mayM q := by
  have key : ∀ f : Tm → Bool, p.all f = q.all f := fun f => by
    rw [Bool.eq_iff_iff, List.all_eq_true, List.all_eq_true]
    exact ⟨fun H x hx => H x ((h x).2 hx), fun H x hx => H x ((h x).1 hx)⟩
  unfold mayM
  rw [if_neg (show ¬ 8 < p.length by omega), key namedM, key rightM, key shortM, if_neg (show ¬ 8 < q.length by omega)]

/-- What Norm answers. -/
def ansM (p : List Tm) : List Tm := if mayM p = 0 then sortM p else []

theorem mayM_zero {p : List Tm} (h : mayM p = 0) : p.length ≤ 8 ∧ p.all namedM = true ∧ p.all rightM = true ∧ p.all shortM = true := by
  unfold mayM at h
  split at h
  · omega
  · rename_i h1
    split at h
    · omega
    · rename_i h2
      split at h
      · omega
      · rename_i h3
        split at h
        · omega
        · rename_i h4
          exact ⟨by omega, by simpa using h2, by simpa using h3, by simpa using h4⟩

end Go.Proofs.YtfcjnoojcajljaaGreatDoor

/-
  The contracts of the reference's class and Field.
-/
namespace Go.Proofs.YtfcjnoojcajljaaGreatDoor
open Go.RowKit

def cls (n : Int) : Int := if bigB n then 1 else if smallB n then 2 else if digB n then 3 else if n = 45 ∨ n = 46 then 4 else 0

theorem cls_cases (n : Int) :
    (cls n = 1 ∧ bigB n = true ∧ smallB n = false ∧ letB n = true ∧ lodB n = true ∧ idB n = true) ∨
    (cls n = 2 ∧ bigB n = false ∧ smallB n = true ∧ letB n = true ∧ lodB n = true ∧ idB n = true) ∨
    (cls n = 3 ∧ bigB n = false ∧ smallB n = false ∧ letB n = false ∧ lodB n = true ∧ idB n = true) ∨
    (cls n = 4 ∧ bigB n = false ∧ smallB n = false ∧ letB n = false ∧ lodB n = false ∧ idB n = true) ∨
    (cls n = 0 ∧ bigB n = false ∧ smallB n = false ∧ letB n = false ∧ lodB n = false ∧ idB n = false) := by
  cases h1 : bigB n
  · cases h2 : smallB n
    · cases h3 : digB n
      · by_cases h4 : n = 45 ∨ n = 46
        · right; right; right; left
          refine ⟨by simp [cls, h1, h2, h3, h4], rfl, rfl, by simp [letB, h1, h2], by simp [lodB, letB, h1, h2, h3], ?_⟩
          rcases h4 with rfl | rfl <;> decide
        · right; right; right; right
          have h45 : (n == 45) = false := beq_eq_false_iff_ne.2 fun e => h4 (.inl e)
          have h46 : (n == 46) = false := beq_eq_false_iff_ne.2 fun e => h4 (.inr e)
          exact ⟨by simp [cls, h1, h2, h3, h4], rfl, rfl, by simp [letB, h1, h2], by simp [lodB, letB, h1, h2, h3], by simp [idB, lodB, letB, h1, h2, h3, h45, h46]⟩
      · right; right; left
        exact ⟨by simp [cls, h1, h2, h3], rfl, rfl, by simp [letB, h1, h2], by simp [lodB, h3], by simp [idB, lodB, h3]⟩
    · right; left
      exact ⟨by simp [cls, h1, h2], rfl, rfl, by simp [letB, h2], by simp [lodB, letB, h2], by simp [idB, lodB, letB, h2]⟩
  · left
    have h2 : smallB n = false := by
      rw [bigB_true] at h1
      rw [Bool.eq_false_iff, Ne, smallB_true]; omega
    exact ⟨by simp [cls, h1], rfl, h2, by simp [letB, h1], by simp [lodB, letB, h1], by simp [idB, lodB, letB, h1]⟩

set_option maxHeartbeats 400000 in
theorem class_any (n : Int) (w : World) : Calls Tryz.prog 55 #[.int .u8 n] w fun e w' => e = .returned (.int .i64 (cls n)) ∧ w' = w := by
  go_enter Tryz.func55, Tryz.ntmps55
  go_wp2
  all_goals go_ret
  all_goals refine ⟨ret_int ?_, rfl⟩
  all_goals (simp_all [cls, bigB, smallB, digB]; try omega)

set_option maxHeartbeats 1000000 in
theorem rfield_any (s : ByteArray) (w : World) (hs : s.size ≤ maxLen) :
    Calls Tryz.prog 33 #[.string s] w fun e w' => e = .returned (.bool (fieldB s.data.toList)) ∧ w' = w := by
  unfold maxLen at hs
  have HE := hid (spell_empty smallB lodB s)
  have HG := hid (spell_long smallB lodB s)
  have HF := hid (spell_first smallB lodB s)
  have HA := hid (spell_at smallB lodB s)
  have HT := hid (spell_true smallB lodB s)
  have HB : Hid (fieldB s.data.toList = spell smallB lodB s.data.toList) := rfl
  go_enter Tryz.func33, Tryz.ntmps33
  go_wp2
  go_loop [3] (fun i => ∃ k : Nat, k ≤ s.size ∧ i = .int .i64 k ∧ (∀ j, j < k → (hj : j < s.size) → (j = 0 → smallB (s[j].toNat : Int) = true) ∧ (1 ≤ j → lodB (s[j].toNat : Int) = true))) (fun i => s.size - (intOf i).toNat)
  case atStart => exact ⟨0, by omega, rfl, fun j h => by omega⟩
  case round =>
    obtain ⟨k, hk, rfl, hall⟩ := hrel
    have HL := hid hall
    clear hall
    by_cases hlt : k < s.size
    · rcases Nat.eq_zero_or_pos k with h0 | h0
      · have HZ := hid h0
        have hz : ((k : Int) == 0) = true := by rw [h0]; rfl
        clear h0
        rcases cls_cases (s[k].toNat : Int) with h | h | h | h | h
        all_goals
          have HC := hid h
          clear h
          go_wp2_with (go_at_call 55; refine (class_any _ _).mono ?_; rintro e w' ⟨rfl, rfl⟩; rw [HC.out.1])
          first
          | (go_ret; exact ⟨ret_bool (by rw [HB.out]; have hz' := HZ.out; subst hz'; exact (HF.out hlt (by first | exact HC.out.2.1 | exact HC.out.2.2.1 | exact HC.out.2.2.2.2.1 | exact HC.out.2.2.2.2.2)).symm), rfl⟩)
          | (go_round
             case rel =>
               refine ⟨k + 1, by omega, by go_num, fun j h1 hj => ?_⟩
               have hz' := HZ.out
               have hj0 : j = k := by omega
               subst hj0
               exact ⟨fun _ => (by first | exact HC.out.2.1 | exact HC.out.2.2.1 | exact HC.out.2.2.2.2.1 | exact HC.out.2.2.2.2.2), fun _ => by omega⟩
             case measure => simp [intOf]; omega)
      · have HZ := hid h0
        have hz : ((k : Int) == 0) = false := by rw [beq_eq_false_iff_ne]; omega
        clear h0
        rcases cls_cases (s[k].toNat : Int) with h | h | h | h | h
        all_goals
          have HC := hid h
          clear h
          go_wp2_with (go_at_call 55; refine (class_any _ _).mono ?_; rintro e w' ⟨rfl, rfl⟩; rw [HC.out.1])
          first
          | (go_ret; exact ⟨ret_bool (by rw [HB.out]; exact (HA.out k HZ.out hlt (by first | exact HC.out.2.2.2.1 | exact HC.out.2.2.2.2.1 | exact HC.out.2.2.2.2.2)).symm), rfl⟩)
          | (go_round
             case rel =>
               refine ⟨k + 1, by omega, by go_num, fun j h1 hj => ?_⟩
               by_cases hjk : j = k
               · subst hjk
                 exact ⟨fun e => by have := HZ.out; omega, fun _ => (by first | exact HC.out.2.2.2.1 | exact HC.out.2.2.2.2.1 | exact HC.out.2.2.2.2.2)⟩
               · exact HL.out j (by omega) hj
             case measure => simp [intOf]; omega)
    · have hks : k = s.size := by omega
      rcases Nat.eq_zero_or_pos s.size with hz | hz
      · have hn : ¬ (0 : Int) < (s.size : Int) := by omega
        have HZ := hid hz
        clear hz hks
        go_wp2_with fail
        go_ret
        exact ⟨ret_bool (by rw [HB.out]; exact (HE.out HZ.out).symm), rfl⟩
      · have hn : (0 : Int) < (s.size : Int) := by omega
        by_cases hm : s.size ≤ 32
        · have hm' : (s.size : Int) ≤ 32 := by omega
          have HK := hid hks
          clear hks
          go_wp2_with fail
          go_ret
          refine ⟨ret_bool (by rw [HB.out]; exact (HT.out hz hm ((HL.out 0 (by have := HK.out; omega) hz).1 rfl) (fun j h1 hj => (HL.out j (by have := HK.out; omega) hj).2 h1)).symm), rfl⟩
        · have hm' : ¬ (s.size : Int) ≤ 32 := by omega
          clear hks
          go_wp2_with fail
          go_ret
          exact ⟨ret_bool (by rw [HB.out]; exact (HG.out (by omega)).symm), rfl⟩

end Go.Proofs.YtfcjnoojcajljaaGreatDoor

/-
  The contracts of the reference's less, May and Same of terms.
-/
namespace Go.Proofs.YtfcjnoojcajljaaGreatDoor
open Go.RowKit

theorem km_cells {w : World} {b off : Nat} {p : List Tm} (h : KM.At w b off p) (i : Nat) (hi : i < p.length) :
    w.cell? ⟨b, off + i * 3, none⟩ = some (.string (p[i]).1) ∧ w.cell? ⟨b, off + i * 3 + 1, none⟩ = some (.int .i64 (p[i]).2.1) ∧ w.cell? ⟨b, off + i * 3 + 2, none⟩ = some (.string (p[i]).2.2) :=
  ⟨h i hi 0 _ rfl, h i hi 1 _ rfl, h i hi 2 _ rfl⟩

set_option maxHeartbeats 1000000 in
theorem rless_any (a b : Tm) (w : World) : Calls Tryz.prog 28 #[.agg #[.string a.1, .int .i64 a.2.1, .string a.2.2], .agg #[.string b.1, .int .i64 b.2.1, .string b.2.2]] w fun e w' => e = .returned (.bool (ltM a b)) ∧ Grown w w' := by
  obtain ⟨a1, a2, a3⟩ := a
  obtain ⟨b1, b2, b3⟩ := b
  simp only
  obtain ⟨r, hr⟩ : ∃ r, ltM (a1, a2, a3) (b1, b2, b3) = r := ⟨_, rfl⟩
  rw [hr]
  unfold ltM at hr
  simp only at hr
  by_cases h1 : a1 = b1
  · have f1 := seq_true h1
    by_cases h2 : a2 = b2
    · have f2 : (a2 == b2) = true := beq_iff_eq.2 h2
      have f2' : (a2 != b2) = false := by simp [h2]
      rw [if_neg (by simp [h1]), if_neg (by simp [h2])] at hr
      have f3 := sless_of hr
      clear h1 h2 hr
      go_enter Tryz.func28, Tryz.ntmps28
      go_wp2_with fail
      go_ret
      exact ⟨rfl, ((Grown.refl _).alloc _).alloc _⟩
    · have f2 : (a2 == b2) = false := beq_eq_false_iff_ne.2 h2
      have f2' : (a2 != b2) = true := by simp [h2]
      rw [if_neg (by simp [h1]), if_pos h2] at hr
      have HR := hid hr
      clear h1 h2 hr
      go_enter Tryz.func28, Tryz.ntmps28
      go_wp2_with fail
      go_ret
      exact ⟨ret_bool HR.out, ((Grown.refl _).alloc _).alloc _⟩
  · have f1 := seq_false h1
    rw [if_pos h1] at hr
    have f3 := sless_of hr
    clear h1 hr
    go_enter Tryz.func28, Tryz.ntmps28
    go_wp2_with fail
    go_ret
    exact ⟨rfl, ((Grown.refl _).alloc _).alloc _⟩

theorem all_snoc {p : List Tm} {f : Tm → Bool} {i : Nat} (h : i < p.length) : (p.take (i + 1)).all f = ((p.take i).all f && f p[i]) := by
  rw [List.take_succ_eq_append_getElem h, List.all_append]
  simp

set_option maxHeartbeats 4000000 in
set_option maxRecDepth 100000 in
theorem rmayM_any (v : Value) (p : List Tm) (w : World) (hv : KM.Is w v p) (hf : FitM p) :
    Calls Tryz.prog 14 #[v] w fun e w' => e = .returned (.int .i64 (mayM p)) ∧ w' = w := by
  obtain ⟨q, cap, rfl, hd⟩ := hv
  have hl := hf.1
  unfold maxLen at hl
  have HD := hid hd
  have HF := hid hf.2
  obtain ⟨r, hr⟩ : ∃ r, mayM p = r := ⟨_, rfl⟩
  rw [hr]
  have HR := hid hr
  clear hd hf hr
  by_cases h8 : 8 < p.length
  · have h8z : (8 : Int) < (p.length : Int) := by omega
    have H0 : Hid (r = 5) := by show _ = _; rw [← HR.out]; unfold mayM; rw [if_pos h8]
    clear h8
    go_enter Tryz.func14, Tryz.ntmps14
    go_wp2_with fail
    go_ret
    exact ⟨ret_int H0.out.symm, rfl⟩
  · have h8z : ¬ (8 : Int) < (p.length : Int) := by omega
    have HR2 : Hid (r = if p.all namedM = false then 2 else if p.all rightM = false then 1 else if p.all shortM = false then 5 else 0) := by show _ = _; rw [← HR.out]; unfold mayM; rw [if_neg h8]
    clear h8
    go_enter Tryz.func14, Tryz.ntmps14
    go_wp2_with fail
    go_loopg [3, 4, 5, 6] p.length (fun g v3 v4 v5 vi wr => ∃ i : Nat, vi = .int .i64 i ∧ i ≤ p.length ∧ p.length - i ≤ g ∧ v3 = .bool ((p.take i).all namedM) ∧ v4 = .bool ((p.take i).all rightM) ∧ v5 = .bool ((p.take i).all shortM) ∧ w = wr)
    case atStart => exact ⟨0, rfl, by omega, by omega, by simp, by simp, by simp, rfl⟩
    case round =>
    obtain ⟨i, rfl, hi, hgk, rfl, rfl, rfl, rfl⟩ := hrel
    by_cases hlt : i < p.length
    · have hltz : (i : Int) < (p.length : Int) := by omega
      have hiz : (0 : Int) ≤ (i : Int) := by omega
      obtain ⟨b, off, rfl, hat⟩ : ∃ b off, q = some ⟨b, off, none⟩ ∧ KM.At w b off p := by
        rcases HD.out with h | h
        · subst h; simp at hlt
        · exact h
      obtain ⟨c0, c1, c2⟩ := km_cells hat i hlt
      have hfx := HF.out _ (List.getElem_mem hlt)
      have HN := hid (all_snoc (f := namedM) hlt)
      have HG := hid (all_snoc (f := rightM) hlt)
      have HS := hid (all_snoc (f := shortM) hlt)
      obtain ⟨x, hx⟩ : ∃ x, p[i] = x := ⟨_, rfl⟩
      rw [hx] at c0 c1 c2 hfx HN HG HS
      obtain ⟨xf, xo, xt⟩ := x
      simp only at c0 c1 c2
      obtain ⟨B1, hB1⟩ : ∃ B, (p.take i).all namedM = B := ⟨_, rfl⟩
      obtain ⟨B2, hB2⟩ : ∃ B, (p.take i).all rightM = B := ⟨_, rfl⟩
      obtain ⟨B3, hB3⟩ : ∃ B, (p.take i).all shortM = B := ⟨_, rfl⟩
      rw [hB1] at HN ⊢
      rw [hB2] at HG ⊢
      rw [hB3] at HS ⊢
      obtain ⟨hs1, hs2, hs3, hs4⟩ := hfx
      simp only at hs1 hs2 hs3 hs4
      have HFC : Hid (∀ W, Calls Tryz.prog 33 #[.string xf] W fun e w' => e = .returned (.bool (fieldB xf.data.toList)) ∧ w' = W) := fun W => rfield_any xf W hs1
      unfold maxLen at hs2
      clear hat hx hB1 hB2 hB3 hs1
      go_upto_region 7 with fail
      go_cut [3] from 10 to 67 (fun v wx => w = wx ∧ v = .bool (B1 && fieldB xf.data.toList))
      case first =>
        cases B1 with
        | false =>
          go_wp2_with fail
          go_meet
          case rel => exact ⟨rfl, rfl⟩
        | true =>
          go_wp2_with (first | (go_at_call 33; refine (HFC.out _).mono ?_; rintro e w1 ⟨rfl, rfl⟩))
          go_meet
          case rel => exact ⟨rfl, rfl⟩
      case rest =>
      obtain ⟨rfl, rfl⟩ := hcut
      go_upto_region 8 with fail
      go_cut [4] from 10 to 67 (fun v wx => w = wx ∧ v = .bool (B2 && rightM (xf, xo, xt)))
      case first =>
        have HRM : Hid (rightM (xf, xo, xt) = (decide (1 ≤ xo) && decide (xo ≤ 7) && (decide (xo < 6) || decide (xt.size = 0)))) := rfl
        cases B2 with
        | false =>
          go_wp2_with fail
          go_meet
          case rel => exact ⟨rfl, rfl⟩
        | true =>
          by_cases g1 : 1 ≤ xo
          · have d1 : decide (1 ≤ xo) = true := decide_eq_true g1
            by_cases g2 : xo ≤ 7
            · have d2 : decide (xo ≤ 7) = true := decide_eq_true g2
              by_cases g3 : xo < 6
              · have d3 : decide (xo < 6) = true := decide_eq_true g3
                have HV : Hid (rightM (xf, xo, xt) = true) := by show _ = _; rw [HRM.out, d1, d2, d3]; rfl
                go_wp2_with fail
                go_meet
                case rel => exact ⟨rfl, by rw [HV.out]; rfl⟩
              · have d3 : decide (xo < 6) = false := decide_eq_false g3
                by_cases g4 : xt.size = 0
                · have e4 := sempty_of g4
                  have HV : Hid (rightM (xf, xo, xt) = true) := by show _ = _; rw [HRM.out, d1, d2, d3, decide_eq_true g4]; rfl
                  clear g4
                  go_wp2_with fail
                  go_meet
                  case rel => exact ⟨rfl, by rw [HV.out]; rfl⟩
                · have e4 := sfull_of g4
                  have HV : Hid (rightM (xf, xo, xt) = false) := by show _ = _; rw [HRM.out, d1, d2, d3, decide_eq_false g4]; rfl
                  clear g4
                  go_wp2_with fail
                  go_meet
                  case rel => exact ⟨rfl, by rw [HV.out]; rfl⟩
            · have d2 : decide (xo ≤ 7) = false := decide_eq_false g2
              have HV : Hid (rightM (xf, xo, xt) = false) := by show _ = _; rw [HRM.out, d1, d2]; rfl
              go_wp2_with fail
              go_meet
              case rel => exact ⟨rfl, by rw [HV.out]; rfl⟩
          · have d1 : decide (1 ≤ xo) = false := decide_eq_false g1
            have HV : Hid (rightM (xf, xo, xt) = false) := by show _ = _; rw [HRM.out, d1]; rfl
            go_wp2_with fail
            go_meet
            case rel => exact ⟨rfl, by rw [HV.out]; rfl⟩
      case rest =>
      obtain ⟨rfl, rfl⟩ := hcut
      have HSM : Hid (shortM (xf, xo, xt) = decide (xt.size ≤ 128)) := rfl
      cases B3 with
      | false =>
        go_wp2_with fail
        go_roundg (p.length - (i + 1))
        case measure => omega
        case rel => exact ⟨i + 1, by go_num, by omega, by omega, by rw [HN.out]; rfl, by rw [HG.out], by rw [HS.out]; rfl, rfl⟩
      | true =>
        by_cases g1 : xt.size ≤ 128
        · have g1z : (xt.size : Int) ≤ 128 := by omega
          have HV : Hid (shortM (xf, xo, xt) = true) := by show _ = _; rw [HSM.out]; exact decide_eq_true g1
          go_wp2_with fail
          go_roundg (p.length - (i + 1))
          case measure => omega
          case rel => exact ⟨i + 1, by go_num, by omega, by omega, by rw [HN.out]; rfl, by rw [HG.out], by rw [HS.out, HV.out]; rfl, rfl⟩
        · have g1z : ¬ (xt.size : Int) ≤ 128 := by omega
          have HV : Hid (shortM (xf, xo, xt) = false) := by show _ = _; rw [HSM.out]; exact decide_eq_false g1
          go_wp2_with fail
          go_roundg (p.length - (i + 1))
          case measure => omega
          case rel => exact ⟨i + 1, by go_num, by omega, by omega, by rw [HN.out]; rfl, by rw [HG.out], by rw [HS.out, HV.out]; rfl, rfl⟩
    · have hltz : ¬ (i : Int) < (p.length : Int) := by omega
      rw [List.take_of_length_le (by omega)]
      cases h1 : p.all namedM with
      | false =>
        have H0 : Hid (r = 2) := by show _ = _; rw [HR2.out, h1]; rfl
        clear h1
        go_wp2_with fail
        go_ret
        exact ⟨ret_int H0.out.symm, rfl⟩
      | true =>
        cases h2 : p.all rightM with
        | false =>
          have H0 : Hid (r = 1) := by show _ = _; rw [HR2.out, h1, h2]; rfl
          clear h1 h2
          go_wp2_with fail
          go_ret
          exact ⟨ret_int H0.out.symm, rfl⟩
        | true =>
          cases h3 : p.all shortM with
          | false =>
            have H0 : Hid (r = 5) := by show _ = _; rw [HR2.out, h1, h2, h3]; rfl
            clear h1 h2 h3
            go_wp2_with fail
            go_ret
            exact ⟨ret_int H0.out.symm, rfl⟩
          | true =>
            have H0 : Hid (r = 0) := by show _ = _; rw [HR2.out, h1, h2, h3]; rfl
            clear h1 h2 h3
            go_wp2_with fail
            go_ret
            exact ⟨ret_int H0.out.symm, rfl⟩

end Go.Proofs.YtfcjnoojcajljaaGreatDoor

/-
  The contracts of the reference's Same and Norm of terms.
-/
namespace Go.Proofs.YtfcjnoojcajljaaGreatDoor
open Go.RowKit

theorem Tryz.infoTrm : (Tryz.prog.info? 39).map (fun i => (i.zero, i.size, i.bytes)) = some (some (.agg #[.string ⟨#[]⟩, .int .i64 0, .string ⟨#[]⟩]), 3, 40) := by kernel_rfl

theorem neq_term (a b : Tm) (w : World) : (binOp .neq 39 (.agg #[.string a.1, .int .i64 a.2.1, .string a.2.2]) (.agg #[.string b.1, .int .i64 b.2.1, .string b.2.2])).run Tryz.prog w = .ok (.bool (!decide (a = b))) w := by
  obtain ⟨a1, a2, a3⟩ := a
  obtain ⟨b1, b2, b3⟩ := b
  have hS : Tryz.prog.underlying 39 = some (.struct (Tryz.prog.fieldsOf 39)) := by kernel_rfl
  have hp : Tryz.prog.stoodInHeld 39 = false := by kernel_rfl
  have u9 := Tryz.underlying9
  have a9 := Tryz.isAgg9
  have z9 := Tryz.sizeOf9
  have u3 := Tryz.underlying3
  have a3' := Tryz.isAgg3
  have z3 := Tryz.sizeOf3
  rw [run_neq_struct, show (10000 : Nat) = 9999 + 1 from rfl, run_equalIn_agg w 9999 39 _ _ hS hp]
  simp only [Program.fieldsOf, Tryz.underlying39]
  go_simp
  by_cases h1 : a1 = b1
  · subst h1
    by_cases h2 : a2 = b2
    · subst h2
      by_cases h3 : a3 = b3
      · subst h3; simp
      · have e3 := beq_eq_false_iff_ne.1 (seq_false h3)
        simp [h3, e3]
    · simp [h2]
  · have e1 := beq_eq_false_iff_ne.1 (seq_false h1)
    simp [h1, e1]

set_option maxHeartbeats 2000000 in
set_option maxRecDepth 100000 in
theorem rsameM_any (v u : Value) (p q : List Tm) (w : World) (hv : KM.Is w v p) (hu : KM.Is w u q) (hl1 : p.length ≤ maxLen) :
    Calls Tryz.prog 12 #[v, u] w fun e w' => e = .returned (.bool (decide (p = q))) ∧ ∃ n, w' = w.drewN n := by
  unfold maxLen at hl1
  obtain ⟨a1, k1, rfl, hd1⟩ := hv
  obtain ⟨a2, k2, rfl, hd2⟩ := hu
  obtain ⟨r, hr⟩ : ∃ r, decide (p = q) = r := ⟨_, rfl⟩
  rw [hr]
  have HR := hid hr
  have HD1 := hid hd1
  have HD2 := hid hd2
  clear hr hd1 hd2
  by_cases hl : p.length = q.length
  · have hb : ((p.length : Int) != (q.length : Int)) = false := by simp [hl]
    have HL := hid hl
    clear hl
    go_enter Tryz.func12, Tryz.ntmps12
    go_wp2_with fail
    go_loopg [5] p.length (fun g vi wr => ∃ i m : Nat, vi = .int .i64 i ∧ i ≤ p.length ∧ p.length - i ≤ g ∧ wr = w.drewN m ∧ Hid (∀ j, j < i → p[j]? = q[j]?))
    case atStart => exact ⟨0, 0, rfl, by omega, by omega, rfl, fun j h => by omega⟩
    case round =>
      obtain ⟨i, m, rfl, hi, hg, rfl, HJ⟩ := hrel
      by_cases hlt : i < p.length
      · have hlt2 : i < q.length := by rw [← HL.out]; exact hlt
        have i1 : (0 : Int) ≤ ↑i := by omega
        have i2 : (↑i : Int) < ↑p.length := by omega
        have i3 : (↑i : Int) < ↑q.length := by omega
        rcases HD1.out with hn | ⟨b1, o1, rfl, k1⟩
        · rw [hn] at hlt; simp at hlt
        rcases HD2.out with hn | ⟨b2, o2, rfl, k2⟩
        · rw [hn] at hlt2; simp at hlt2
        obtain ⟨x0, x1, x2⟩ := km_cells k1 i hlt
        obtain ⟨y0, y1, y2⟩ := km_cells k2 i hlt2
        have hne := fun W => neq_term p[i] q[i] W
        have G1 := hid (List.getElem?_eq_getElem hlt)
        have G2 := hid (List.getElem?_eq_getElem hlt2)
        obtain ⟨x, hx⟩ : ∃ x, p[i] = x := ⟨_, rfl⟩
        obtain ⟨y, hy⟩ : ∃ y, q[i] = y := ⟨_, rfl⟩
        rw [hx] at x0 x1 x2 hne G1
        rw [hy] at y0 y1 y2 hne G2
        clear k1 k2 hx hy
        by_cases hst : x = y
        · have hd := decide_eq_true hst
          rw [hd] at hne
          have HS := hid hst
          clear hst hd
          go_wp2_with fail
          go_quiet (fail)
          go_wp2_with fail
          go_roundg (p.length - (i + 1))
          case measure => omega
          refine ⟨i + 1, _, by go_num, by omega, by omega, rfl, fun j hj => ?_⟩
          by_cases e : j = i
          · subst e; rw [G1.out, G2.out, HS.out]
          · exact HJ.out j (by omega)
        · have hd := decide_eq_false hst
          rw [hd] at hne
          have H0 : Hid (r = false) := HR.out.symm.trans (decide_eq_false fun e => hst (by
            have := G1.out
            rw [e, G2.out] at this
            exact (Option.some.inj this).symm))
          clear hst hd
          go_wp2_with fail
          go_quiet (fail)
          go_wp2_with fail
          go_ret
          exact ⟨ret_bool H0.out.symm, _, by rw [World.drewN_drewN]⟩
      · have hltz : ¬ (i : Int) < (p.length : Int) := by omega
        have H0 : Hid (r = true) := HR.out.symm.trans (decide_eq_true (List.ext_getElem? fun j => by
          by_cases hj : j < p.length
          · exact HJ.out j (by omega)
          · rw [List.getElem?_eq_none (by omega), List.getElem?_eq_none (by have := HL.out; omega)]))
        go_wp2_with fail
        go_ret
        exact ⟨ret_bool H0.out.symm, _, rfl⟩
  · have hb : ((p.length : Int) != (q.length : Int)) = true := by simp; omega
    have H0 : Hid (r = false) := HR.out.symm.trans (decide_eq_false fun e => hl (by rw [e]))
    go_enter Tryz.func12, Tryz.ntmps12
    go_wp2_with fail
    go_ret
    exact ⟨ret_bool H0.out.symm, 0, rfl⟩

/-- May x stand behind the first k of G? -/
def eligB (G : List Tm) (k : Nat) (x : Tm) : Bool := decide (k = 0) || ltM (G.getD (k - 1) default) x

/-- What the scan has found among the first i: where it stands, or -1. -/
def ScanM (G p : List Tm) (k i : Nat) (at_ : Int) : Prop :=
  (at_ = -1 ∧ ∀ j, (h : j < p.length) → j < i → eligB G k p[j] = false) ∨
  (∃ m : Nat, at_ = m ∧ m < i ∧ ∃ hm : m < p.length, eligB G k p[m] = true ∧ ∀ j, (h : j < p.length) → j < i → eligB G k p[j] = true → ltM p[j] p[m] = false)

theorem RisingM.get {o : List Tm} (h : RisingM o) {i j : Nat} (hij : i < j) (hj : j < o.length) : ltM (o[i]'(by omega)) (o[j]) = true :=
  List.pairwise_iff_getElem.1 h i j (by omega) hj hij

theorem elig_ge {G : List Tm} (h : RisingM G) {k m : Nat} (hk : k ≤ G.length) (hm : m < G.length) : eligB G k G[m] = true ↔ k ≤ m := by
  unfold eligB
  constructor
  · intro he
    rw [Bool.or_eq_true] at he
    rcases he with he | he
    · have := of_decide_eq_true he; omega
    · refine Nat.le_of_not_lt fun hlt => ?_
      rw [List.getD_eq_getElem?_getD, List.getElem?_eq_getElem (show k - 1 < G.length by omega)] at he
      by_cases e : m = k - 1
      · subst e
        rw [Option.getD_some, ltM_irrefl] at he
        cases he
      · have := h.get (show m < k - 1 by omega) (by omega)
        rw [Option.getD_some] at he
        rw [ltM_asymm this] at he
        cases he
  · intro hkm
    by_cases h0 : k = 0
    · rw [decide_eq_true h0]; rfl
    · rw [Bool.or_eq_true]
      right
      rw [List.getD_eq_getElem?_getD, List.getElem?_eq_getElem (show k - 1 < G.length by omega), Option.getD_some]
      exact h.get (by omega) hm

theorem scan_end {G p : List Tm} (h1 : RisingM G) (h2 : ∀ x, x ∈ G ↔ x ∈ p) {k : Nat} (hk : k ≤ G.length) {at_ : Int} (hs : ScanM G p k p.length at_) :
    (at_ = -1 ∧ k = G.length) ∨ (∃ m : Nat, at_ = m ∧ ∃ hm : m < p.length, ∃ hg : k < G.length, p[m] = G[k]) := by
  rcases hs with ⟨e, hn⟩ | ⟨m, e, _, hm, he, hl⟩
  · left
    refine ⟨e, ?_⟩
    by_cases hkl : k = G.length
    · exact hkl
    · exfalso
      have hlt : k < G.length := by omega
      obtain ⟨j, hj, ej⟩ := List.mem_iff_getElem.1 ((h2 G[k]).1 (List.getElem_mem hlt))
      have := hn j hj hj
      rw [ej, (elig_ge h1 hk hlt).2 (Nat.le_refl _)] at this
      cases this
  · right
    obtain ⟨a, ha, ea⟩ := List.mem_iff_getElem.1 ((h2 p[m]).2 (List.getElem_mem hm))
    have hka : k ≤ a := by
      rw [← ea] at he
      exact (elig_ge h1 hk ha).1 he
    refine ⟨m, e, hm, by omega, ?_⟩
    by_cases hlt : k < a
    · exfalso
      obtain ⟨j, hj, ej⟩ := List.mem_iff_getElem.1 ((h2 G[k]).1 (List.getElem_mem (by omega)))
      have := hl j hj hj (by rw [ej]; exact (elig_ge h1 hk (by omega)).2 (Nat.le_refl _))
      rw [ej, ← ea, h1.get hlt ha] at this
      cases this
    · obtain rfl : a = k := by omega
      exact ea.symm

theorem scan_zero (G p : List Tm) (k : Nat) : ScanM G p k 0 (-1) := Or.inl ⟨rfl, fun j _ h => by omega⟩

theorem scan_skip {G p : List Tm} {k i : Nat} {a : Int} (h : ScanM G p k i a) (hi : i < p.length) (he : eligB G k p[i] = false) : ScanM G p k (i + 1) a := by
  rcases h with ⟨e, hn⟩ | ⟨m, e, hm1, hm, hme, hl⟩
  · refine Or.inl ⟨e, fun j hj hji => ?_⟩
    by_cases ej : j = i
    · subst ej; exact he
    · exact hn j hj (by omega)
  · refine Or.inr ⟨m, e, by omega, hm, hme, fun j hj hji hje => ?_⟩
    by_cases ej : j = i
    · subst ej; rw [he] at hje; cases hje
    · exact hl j hj (by omega) hje

theorem scan_first {G p : List Tm} {k i : Nat} (h : ScanM G p k i (-1)) (hi : i < p.length) (he : eligB G k p[i] = true) : ScanM G p k (i + 1) (i : Int) := by
  rcases h with ⟨_, hn⟩ | ⟨m, e, _⟩
  · refine Or.inr ⟨i, rfl, by omega, hi, he, fun j hj hji hje => ?_⟩
    by_cases ej : j = i
    · subst ej; exact ltM_irrefl _
    · rw [hn j hj (by omega)] at hje; cases hje
  · omega

theorem scan_less {G p : List Tm} {k i m : Nat} (h : ScanM G p k i (m : Int)) (hi : i < p.length) (hm : m < p.length) (he : eligB G k p[i] = true) (hl : ltM p[i] p[m] = true) : ScanM G p k (i + 1) (i : Int) := by
  rcases h with ⟨e, _⟩ | ⟨m', e, _, _, _, hll⟩
  · omega
  · obtain rfl : m = m' := by omega
    refine Or.inr ⟨i, rfl, by omega, hi, he, fun j hj hji hje => ?_⟩
    by_cases ej : j = i
    · subst ej; exact ltM_irrefl _
    · have := hll j hj (by omega) hje
      cases hc : ltM p[j] p[i] with
      | false => rfl
      | true => rw [ltM_trans hc hl] at this; cases this

theorem scan_keep {G p : List Tm} {k i m : Nat} (h : ScanM G p k i (m : Int)) (hi : i < p.length) (hm : m < p.length) (hl : ltM p[i] p[m] = false) : ScanM G p k (i + 1) (m : Int) := by
  rcases h with ⟨e, _⟩ | ⟨m', e, h1, h2, h3, hll⟩
  · omega
  · obtain rfl : m = m' := by omega
    refine Or.inr ⟨m, rfl, by omega, h2, h3, fun j hj hji hje => ?_⟩
    by_cases ej : j = i
    · subst ej; exact hl
    · exact hll j hj (by omega) hje

theorem scan_is {G p : List Tm} {k i : Nat} {a : Int} (h : ScanM G p k i a) : a = -1 ∨ ∃ m : Nat, a = m ∧ m < p.length := by
  rcases h with ⟨e, _⟩ | ⟨m, e, _, hm, _⟩
  · exact Or.inl e
  · exact Or.inr ⟨m, e, hm⟩

end Go.Proofs.YtfcjnoojcajljaaGreatDoor

/-
  The contract of the reference's Norm of terms.
-/
namespace Go.Proofs.YtfcjnoojcajljaaGreatDoor
open Go.RowKit

/-- What Norm answers, its row at or behind the world's end. -/
def NMPost (w : World) (p : List Tm) (e : Ending) (w' : World) : Prop :=
  (∃ u, e = .returned (.tuple #[u, .int .i64 (mayM p)]) ∧ KM.Own w.heap.size w' u (ansM p)) ∧ Below w.heap.size w w'

theorem km_grown {w W : World} {b off : Nat} {p : List Tm} (h : KM.At w b off p) (hb : Below w.heap.size w W) (i : Nat) (hi : i < p.length) (n : Nat) (os : Array Obj) :
    (Sort.grow (W.drewN n) os).cell? ⟨b, off + i * 3, none⟩ = some (.string (p[i]).1) ∧ (Sort.grow (W.drewN n) os).cell? ⟨b, off + i * 3 + 1, none⟩ = some (.int .i64 (p[i]).2.1) ∧ (Sort.grow (W.drewN n) os).cell? ⟨b, off + i * 3 + 2, none⟩ = some (.string (p[i]).2.2) := by
  have hg := (Grown.refl W).on (q := n) (os := os)
  exact km_cells (Kind.at_kept (Kind.at_kept h hb) hg.below) i hi

theorem own_last {N : Nat} {W : World} {p5 : Option Addr} {c5 k : Nat} {d : List Tm} (h : KM.Own N W (.slice p5 (k + 1) c5) d) (hk : d.length = k + 1) :
    ∃ g, p5 = some ⟨g, 0, none⟩ ∧ ∀ n os, (Sort.grow (W.drewN n) os).cell? ⟨g, k * 3, none⟩ = some (.string (d.getD k default).1) ∧ (Sort.grow (W.drewN n) os).cell? ⟨g, k * 3 + 1, none⟩ = some (.int .i64 (d.getD k default).2.1) ∧ (Sort.grow (W.drewN n) os).cell? ⟨g, k * 3 + 2, none⟩ = some (.string (d.getD k default).2.2) := by
  obtain ⟨p', c', hv, hd⟩ := Kind.own_is h
  rcases h.2 with ⟨_, h0⟩ | ⟨g, c, cur, hv2, _⟩
  · omega
  · injection hv2 with e1 _ _
    injection hv with e2 _ _
    rw [e1] at e2
    refine ⟨g, e1, fun n os => ?_⟩
    rcases hd with hd | ⟨b, off, hp, hat⟩
    · rw [hd] at hk; simp at hk
    · rw [← e2] at hp
      cases hp
      have := km_grown hat (Below.refl _ _) k (by omega) n os
      rw [Nat.zero_add] at this
      rw [List.getD_eq_getElem?_getD, List.getElem?_eq_getElem (show k < d.length by omega)]
      exact this

set_option maxHeartbeats 8000000 in
set_option maxRecDepth 100000 in
theorem rnormM_any (v : Value) (p : List Tm) (w : World) (hv : KM.Is w v p) (hf : FitM p) :
    Calls Tryz.prog 11 #[v] w fun e w' => NMPost w p e w' := by
  obtain ⟨j0, hj0, hy0, hy1, hy2⟩ := info_parts Tryz.infoTrm
  have HJ := hid hj0
  have HM := hid (rmayM_any v p w hv hf)
  obtain ⟨q, cap, rfl, hd⟩ := hv
  have hl := hf.1
  unfold maxLen at hl
  have HD := hid hd
  clear hd hf hj0
  by_cases hm0 : mayM p = 0
  · have h8 := (mayM_zero hm0).1
    have HA : Hid (ansM p = sortM p) := by show _ = _; unfold ansM; rw [if_pos hm0]
    rw [hm0] at HM
    have HM0 := hid hm0
    obtain ⟨s1, s2⟩ := sortM_spec p
    have hsl := sortM_len p
    obtain ⟨G, hG⟩ : ∃ G, sortM p = G := ⟨_, rfl⟩
    rw [hG] at s1 s2 hsl HA
    have S1 := hid s1
    have S2 := hid s2
    clear hm0 hG s1 s2
    go_enter Tryz.func11, Tryz.ntmps11
    go_wp2_with (first | (go_at_call 14; refine HM.out.mono ?_; rintro e w1 ⟨rfl, rfl⟩))
    have ST0 : Hid (KM.Own w1.heap.size w1 (.slice none 0 0) (G.take 0) ∧ Below w1.heap.size w1 w1) := ⟨KM.own_nil _ _, Below.refl _ _⟩
    go_loopg [5] G.length (fun g v5 ws => ∃ k : Nat, k ≤ G.length ∧ G.length - k ≤ g ∧ Hid (KM.Own w1.heap.size ws v5 (G.take k)) ∧ Hid (Below w1.heap.size w1 ws))
    case atStart => exact ⟨0, by omega, by omega, ST0.out.1, ST0.out.2⟩
    case round =>
    clear ST0
    obtain ⟨k, hk, hgk, HO, HB⟩ := hrel
    have hszk := HB.out.size
    obtain ⟨p5, c5, hv5⟩ := Kind.own_shape HO.out
    have hlk : (G.take k).length = k := by rw [List.length_take]; omega
    rw [hlk] at hv5
    subst hv5
    have HLK := hid hlk
    clear hlk
    have mixed := Tryz.mixed
    obtain ⟨W0, rfl⟩ : ∃ W0, W0 = wr := ⟨_, rfl⟩
    have G0 : Hid (Grown W0 W0) := Grown.refl _
    have SC0 := hid (scan_zero G p k)
    go_wp2_with fail
    go_loopg [6, 7] p.length (fun g va vi ws => ∃ (i : Nat) (a : Int), vi = .int .i64 i ∧ va = .int .i64 a ∧ i ≤ p.length ∧ p.length - i ≤ g ∧ Hid (ScanM G p k i a) ∧ Hid (Grown W0 ws))
    case atStart => exact ⟨0, -1, rfl, rfl, by omega, by omega, SC0, G0⟩
    case round =>
    clear SC0 G0
    obtain ⟨i, a, rfl, rfl, hi, hgi, HSC, HGW⟩ := hrel
    have HBW : Hid (Below w1.heap.size w1 wr) := bel_then HB.out hszk HGW.out.below
    by_cases hlt : i < p.length
    · have hltz : (i : Int) < (p.length : Int) := by omega
      have hiz : (0 : Int) ≤ (i : Int) := by omega
      obtain ⟨b, off, rfl, hat⟩ : ∃ b off, q = some ⟨b, off, none⟩ ∧ KM.At w1 b off p := by
        rcases HD.out with h | h
        · subst h; simp at hlt
        · exact h
      have kg := fun n os => km_grown hat HBW.out i hlt n os
      have HKG : Hid (∀ m, (hm : m < p.length) → ∀ n os, (Sort.grow (wr.drewN n) os).cell? ⟨b, off + m * 3, none⟩ = some (.string (p[m]).1) ∧ (Sort.grow (wr.drewN n) os).cell? ⟨b, off + m * 3 + 1, none⟩ = some (.int .i64 (p[m]).2.1) ∧ (Sort.grow (wr.drewN n) os).cell? ⟨b, off + m * 3 + 2, none⟩ = some (.string (p[m]).2.2)) := fun m hm n os => km_grown hat HBW.out m hm n os
      have HSK := hid (fun he => scan_skip HSC.out hlt he)
      have HSF : Hid (a = -1 → eligB G k p[i] = true → ScanM G p k (i + 1) (i : Int)) := fun e he => by have := HSC.out; rw [e] at this; exact scan_first this hlt he
      have HSL : Hid (∀ m : Nat, (hm : m < p.length) → a = m → eligB G k p[i] = true → ltM p[i] p[m] = true → ScanM G p k (i + 1) (i : Int)) := fun m hm e he hl => by have := HSC.out; rw [e] at this; exact scan_less this hlt hm he hl
      have HSP : Hid (∀ m : Nat, (hm : m < p.length) → a = m → ltM p[i] p[m] = false → ScanM G p k (i + 1) a) := fun m hm e hl => by have := HSC.out; rw [e] at this ⊢; exact scan_keep this hlt hm hl
      have HLE : Hid (∀ m, (hm : m < p.length) → ∀ W, Calls Tryz.prog 28 #[.agg #[.string (p[i]).1, .int .i64 (p[i]).2.1, .string (p[i]).2.2], .agg #[.string (p[m]).1, .int .i64 (p[m]).2.1, .string (p[m]).2.2]] W fun e w' => e = .returned (.bool (ltM p[i] p[m])) ∧ ∃ q os', w' = Sort.grow (W.drewN q) os') := fun m hm W => rless_any _ _ W
      have HLA : Hid (∀ a1 a2 a3 b1 b2 b3 c W, ltM (a1, a2, a3) (b1, b2, b3) = c → Calls Tryz.prog 28 #[.agg #[.string a1, .int .i64 a2, .string a3], .agg #[.string b1, .int .i64 b2, .string b3]] W fun e w' => e = .returned (.bool c) ∧ ∃ q os', w' = Sort.grow (W.drewN q) os') := fun a1 a2 a3 b1 b2 b3 c W h => by rw [← h]; exact rless_any (a1, a2, a3) (b1, b2, b3) W
      have HLG : Hid (∀ l : Tm, ∀ W, Calls Tryz.prog 28 #[.agg #[.string l.1, .int .i64 l.2.1, .string l.2.2], .agg #[.string (p[i]).1, .int .i64 (p[i]).2.1, .string (p[i]).2.2]] W fun e w' => e = .returned (.bool (ltM l p[i])) ∧ ∃ q os', w' = Sort.grow (W.drewN q) os') := fun l W => rless_any _ _ W
      obtain ⟨x, hx⟩ : ∃ x, p[i] = x := ⟨_, rfl⟩
      rw [hx] at kg HSK HSF HSL HSP HLE HLG
      obtain ⟨xf, xo, xt⟩ := x
      simp only at kg HLE HLG
      have q0 := fun n os => (kg n os).1
      have q1 := fun n os => (kg n os).2.1
      have q2 := fun n os => (kg n os).2.2
      have ha := scan_is HSC.out
      clear kg hat hx
      cases k with
      | zero =>
        have HE : Hid (eligB G 0 (xf, xo, xt) = true) := rfl
        rcases ha with rfl | ⟨m, rfl, hm⟩
        · have HS2 := hid (HSF.out rfl HE.out)
          go_wp2_with fail
          refine wp_region_quiet_grown mixed (by kernel_rfl) ?_
          repeat (go_big_quiet_step (fail))
          refine wpQuiet_nil ?_
          intro _ hw'
          obtain ⟨⟨nq, osq⟩, hw''⟩ := hw'
          subst hw''
          go_wp2_with fail
          go_roundg (p.length - (i + 1))
          case measure => omega
          case rel => exact ⟨i + 1, i, by go_num, rfl, by omega, by omega, HS2, HGW.out.on⟩
        · have hmd : decide ((m : Int) < 0) = false := decide_eq_false (by omega)
          have hm0 : (0 : Int) ≤ (m : Int) := by omega
          have hml : (m : Int) < (p.length : Int) := by omega
          have km := HKG.out m hm
          have HLm := hid (HLE.out m hm)
          have HT := hid (HSL.out m hm rfl HE.out)
          have HK := hid (HSP.out m hm rfl)
          obtain ⟨y, hy⟩ : ∃ y, p[m] = y := ⟨_, rfl⟩
          rw [hy] at km HLm HT HK
          obtain ⟨yf, yo, yt⟩ := y
          simp only at km HLm
          have r0 := fun n os => (km n os).1
          have r1 := fun n os => (km n os).2.1
          have r2 := fun n os => (km n os).2.2
          clear km hy
          cases hL : ltM (xf, xo, xt) (yf, yo, yt) with
          | true =>
            rw [hL] at HLm
            have HS2 := hid (HT.out hL)
            clear hL
            go_wp2_with fail
            refine wp_region_quiet_grown mixed (by kernel_rfl) ?_
            repeat (go_big_quiet_step (first | (go_at_call 28; refine Calls.grown_of (HLm.out _))))
            refine wpQuiet_nil ?_
            intro _ hw'
            obtain ⟨⟨nq, osq⟩, hw''⟩ := hw'
            subst hw''
            go_wp2_with fail
            go_roundg (p.length - (i + 1))
            case measure => omega
            case rel => exact ⟨i + 1, i, by go_num, rfl, by omega, by omega, HS2, HGW.out.on⟩
          | false =>
            rw [hL] at HLm
            have HS2 := hid (HK.out hL)
            clear hL
            go_wp2_with fail
            refine wp_region_quiet_grown mixed (by kernel_rfl) ?_
            repeat (go_big_quiet_step (first | (go_at_call 28; refine Calls.grown_of (HLm.out _))))
            refine wpQuiet_nil ?_
            intro _ hw'
            obtain ⟨⟨nq, osq⟩, hw''⟩ := hw'
            subst hw''
            go_wp2_with fail
            go_roundg (p.length - (i + 1))
            case measure => omega
            case rel => exact ⟨i + 1, m, by go_num, rfl, by omega, by omega, HS2, HGW.out.on⟩
      | succ k =>
        obtain ⟨g5, rfl, kl⟩ := own_last (Kind.own_on HO.out HGW.out.below) HLK.out
        have hgd : (G.take (k + 1)).getD k default = G.getD k default := by
          rw [List.getD_eq_getElem?_getD, List.getD_eq_getElem?_getD, List.getElem?_take, if_pos (by omega)]
        rw [hgd] at kl
        have HEL : Hid (eligB G (k + 1) (xf, xo, xt) = ltM (G.getD k default) (xf, xo, xt)) := rfl
        have HLl := hid (HLG.out (G.getD k default))
        obtain ⟨l, hl5⟩ : ∃ l, G.getD k default = l := ⟨_, rfl⟩
        rw [hl5] at kl HEL HLl
        obtain ⟨lf, lo, lt⟩ := l
        simp only at kl HLl
        have l0 := fun n os => (kl n os).1
        have l1 := fun n os => (kl n os).2.1
        have l2 := fun n os => (kl n os).2.2
        have hk0 : (((k : Int) + 1) == 0) = false := beq_eq_false_iff_ne.2 (by omega)
        have hk1 : (0 : Int) ≤ (k : Int) := by omega
        have hk2 : (k : Int) < (k : Int) + 1 := by omega
        clear kl hgd hl5
        cases hE : ltM (lf, lo, lt) (xf, xo, xt) with
        | false =>
          rw [hE] at HLl
          have HS2 := hid (HSK.out (HEL.out.trans hE))
          clear hE
          go_wp2_with fail
          refine wp_region_quiet_grown mixed (by kernel_rfl) ?_
          repeat (go_big_quiet_step (first | (go_at_call 28; refine Calls.grown_of (HLl.out _))))
          refine wpQuiet_nil ?_
          intro _ hw'
          obtain ⟨⟨nq, osq⟩, hw''⟩ := hw'
          subst hw''
          go_wp2_with fail
          go_roundg (p.length - (i + 1))
          case measure => omega
          case rel => exact ⟨i + 1, a, by go_num, rfl, by omega, by omega, HS2, HGW.out.on⟩
        | true =>
          rw [hE] at HLl
          have HE := hid (HEL.out.trans hE)
          rcases ha with rfl | ⟨m, rfl, hm⟩
          · have HS2 := hid (HSF.out rfl HE.out)
            go_wp2_with fail
            refine wp_region_quiet_grown mixed (by kernel_rfl) ?_
            repeat (go_big_quiet_step (first | (go_at_call 28; refine Calls.grown_of (HLl.out _))))
            refine wpQuiet_nil ?_
            intro _ hw'
            obtain ⟨⟨nq, osq⟩, hw''⟩ := hw'
            subst hw''
            go_wp2_with fail
            go_roundg (p.length - (i + 1))
            case measure => omega
            case rel => exact ⟨i + 1, i, by go_num, rfl, by omega, by omega, HS2, HGW.out.on⟩
          · have hmd : decide ((m : Int) < 0) = false := decide_eq_false (by omega)
            have hm0 : (0 : Int) ≤ (m : Int) := by omega
            have hml : (m : Int) < (p.length : Int) := by omega
            have km := HKG.out m hm
            have HLm := hid (HLE.out m hm)
            have HT := hid (HSL.out m hm rfl HE.out)
            have HK := hid (HSP.out m hm rfl)
            obtain ⟨y, hy⟩ : ∃ y, p[m] = y := ⟨_, rfl⟩
            rw [hy] at km HLm HT HK
            obtain ⟨yf, yo, yt⟩ := y
            simp only at km HLm
            have r0 := fun n os => (km n os).1
            have r1 := fun n os => (km n os).2.1
            have r2 := fun n os => (km n os).2.2
            clear km hy
            cases hL : ltM (xf, xo, xt) (yf, yo, yt) with
            | true =>
              rw [hL] at HLm
              have HS2 := hid (HT.out hL)
              go_wp2_with fail
              refine wp_region_quiet_grown mixed (by kernel_rfl) ?_
              repeat (go_big_quiet_step (first | (go_at_call 28; refine Calls.grown_of (HLA.out _ _ _ _ _ _ _ _ (by assumption)))))
              refine wpQuiet_nil ?_
              intro _ hw'
              obtain ⟨⟨nq, osq⟩, hw''⟩ := hw'
              subst hw''
              go_wp2_with fail
              go_roundg (p.length - (i + 1))
              case measure => omega
              case rel => exact ⟨i + 1, i, by go_num, rfl, by omega, by omega, HS2, HGW.out.on⟩
            | false =>
              rw [hL] at HLm
              have HS2 := hid (HK.out hL)
              go_wp2_with fail
              refine wp_region_quiet_grown mixed (by kernel_rfl) ?_
              repeat (go_big_quiet_step (first | (go_at_call 28; refine Calls.grown_of (HLA.out _ _ _ _ _ _ _ _ (by assumption)))))
              refine wpQuiet_nil ?_
              intro _ hw'
              obtain ⟨⟨nq, osq⟩, hw''⟩ := hw'
              subst hw''
              go_wp2_with fail
              go_roundg (p.length - (i + 1))
              case measure => omega
              case rel => exact ⟨i + 1, m, by go_num, rfl, by omega, by omega, HS2, HGW.out.on⟩
    · have hltz : ¬ (i : Int) < (p.length : Int) := by omega
      obtain rfl : i = p.length := by omega
      have HOW := hid (Kind.own_on HO.out HGW.out.below)
      rcases scan_end S1.out S2.out hk HSC.out with ⟨rfl, hkG⟩ | ⟨m, rfl, hm, hg, hmk⟩
      · have HRT : Hid (KM.Own w1.heap.size wr (.slice p5 k c5) (ansM p)) := by
          show KM.Own _ _ _ _
          rw [HA.out]
          have := HOW.out
          rwa [List.take_of_length_le (by omega)] at this
        clear hkG
        go_wp2_with fail
        go_ret2
        exact ⟨⟨.slice p5 k c5, by rw [HM0.out]; rfl, HRT.out⟩, HBW.out⟩
      · have hmd : ¬ ((m : Int) < 0) := by omega
        have hm0 : (0 : Int) ≤ (m : Int) := by omega
        have hml : (m : Int) < (p.length : Int) := by omega
        obtain ⟨b, off, rfl, hat⟩ : ∃ b off, q = some ⟨b, off, none⟩ ∧ KM.At w1 b off p := by
          rcases HD.out with h | h
          · rw [h] at hm; simp at hm
          · exact h
        obtain ⟨c0, c1, c2⟩ := km_cells (Kind.at_kept hat HBW.out) m hm
        rw [hmk] at c0 c1 c2
        have htk : G.take (k + 1) = G.take k ++ [G[k]] := List.take_succ_eq_append_getElem hg
        obtain ⟨x, hx⟩ : ∃ x, G[k] = x := ⟨_, rfl⟩
        rw [hx] at c0 c1 c2 htk
        have HTK := hid htk
        have hbw := HBW.out.size
        obtain ⟨xf, xo, xt⟩ := x
        simp only at c0 c1 c2
        have HOA : Hid ((wr.alloc (.cells #[.string xf, .int .i64 xo, .string xt] 39)).ownsRow w1.heap.size 39 3 (.slice p5 k c5) k (KM.cells (G.take k))) := by
          have := World.ownsRow.alloc HOW.out (.cells #[.string xf, .int .i64 xo, .string xt] 39)
          rw [HLK.out] at this
          exact this
        clear hat hmk hx htk
        go_wp2_with (first | (at_builtin; refine wpList_append_own _ rfl _ _ 22 rfl w1.heap.size 39 j0 (.agg #[.string ⟨#[]⟩, .int .i64 0, .string ⟨#[]⟩]) 3 40 Tryz.underlying22 HJ.out hy0 hy1 hy2 rfl (by decide) _ _ _ rfl HOA.out ⟨wr.heap.size, 0, none⟩ 1 1 (KM.cells [(xf, xo, xt)]) rfl rfl (KM.news wr (xf, xo, xt)) (KM.cells_ones _) (by unfold maxLen; omega) (by omega) (by simp; omega) ?_))
        intro v4 w4 hown4 hg4 _
        have HO4 : Hid (KM.Own w1.heap.size w4 v4 (G.take (k + 1))) := by
          show KM.Own _ _ _ _
          rw [HTK.out]
          exact Kind.own_snoc hown4 (by rw [HLK.out]) rfl
        have HB4 : Hid (Below w1.heap.size w1 w4) := (HBW.out.alloc hbw _).grown hg4 (by simp; omega) (fun z hz => (World.ownsRow.lt HOA.out z hz).1)
        clear hown4 hg4
        go_wp2_with fail
        go_roundg (G.length - (k + 1))
        case measure => omega
        case rel => exact ⟨k + 1, by omega, by omega, HO4, HB4⟩
  · have hne : (mayM p != 0) = true := by rw [bne_iff_ne]; exact hm0
    have HA : Hid (ansM p = []) := by show _ = _; unfold ansM; rw [if_neg hm0]
    obtain ⟨r, hr⟩ : ∃ r, mayM p = r := ⟨_, rfl⟩
    rw [hr] at HM hne
    have HR := hid hr
    clear hm0 hr
    go_enter Tryz.func11, Tryz.ntmps11
    go_wp2_with (first | (go_at_call 14; refine HM.out.mono ?_; rintro e w1 ⟨rfl, rfl⟩))
    go_ret2
    refine ⟨⟨.slice none 0 0, by rw [HR.out]; rfl, ?_⟩, Below.refl _ _⟩
    rw [HA.out]
    exact KM.own_nil _ _

end Go.Proofs.YtfcjnoojcajljaaGreatDoor

/-
  Rows of terms: one written over, cut short, sorted; the order as compare has it; what is left of a sorted row without its doubles.
-/
namespace Go.Proofs.YtfcjnoojcajljaaGreatDoor
open Go.RowKit Go.Sort Go.Lib

theorem Kind.cells_set {α : Type} (K : Kind α) (d : List α) (i : Nat) (h : i < d.length) (x : α) (j : Nat) : (K.cells (d.set i x))[j]? = if i * K.k ≤ j ∧ j < i * K.k + K.k then (K.enc x)[j - i * K.k]? else (K.cells d)[j]? := by
  by_cases hj : j < d.length * K.k
  · have hkp := K.pos
    have hq : j / K.k < d.length := (Nat.div_lt_iff_lt_mul hkp).2 hj
    have hm : j % K.k < K.k := Nat.mod_lt _ hkp
    have e : j / K.k * K.k + j % K.k = j := by rw [Nat.mul_comm]; exact Nat.div_add_mod j K.k
    have h1 := K.cells_get (d.set i x) (j / K.k) (by simpa using hq) (j % K.k) hm
    have h2 := K.cells_get d (j / K.k) hq (j % K.k) hm
    rw [e] at h1 h2
    rw [h1, h2, List.getElem_set]
    by_cases hi : i = j / K.k
    · rw [if_pos hi, if_pos (by rw [hi]; omega), hi]
      congr 1
      omega
    · rw [if_neg hi, if_neg]
      intro hh
      exact hi ((blk_iff K.k i j hkp).1 hh).symm
  · have h3 : (i + 1) * K.k ≤ d.length * K.k := Nat.mul_le_mul_right _ h
    rw [Nat.add_mul, Nat.one_mul] at h3
    rw [if_neg (by omega), List.getElem?_eq_none (by rw [K.cells_len, List.length_set]; omega), List.getElem?_eq_none (by rw [K.cells_len]; omega)]

theorem km_set (d : List Tm) (i : Nat) (h : i < d.length) (x : Tm) : KM.cells (d.set i x) = (((KM.cells d).set (i * 3) (.string x.1)).set (i * 3 + 1) (.int .i64 x.2.1)).set (i * 3 + 2) (.string x.2.2) := by
  apply List.ext_getElem?
  intro j
  rw [KM.cells_set d i h x j]
  have hl : (KM.cells d).length = d.length * 3 := KM.cells_len d
  have hk : KM.k = 3 := rfl
  rw [hk]
  simp only [List.getElem?_set, List.length_set, hl]
  by_cases h0 : j = i * 3
  · subst h0
    simp [KM, encM]
    omega
  · by_cases h1 : j = i * 3 + 1
    · subst h1
      simp [KM, encM]
      omega
    · by_cases h2 : j = i * 3 + 2
      · subst h2
        simp [KM, encM]
        omega
      · rw [if_neg (by omega), if_neg (fun e => h2 e.symm), if_neg (fun e => h1 e.symm), if_neg (fun e => h0 e.symm)]

/-- A term written over. -/
theorem own_put {n0 g n cap : Nat} {w : World} {d : List Tm} (h : KM.Own n0 w (.slice (some ⟨g, 0, none⟩) n cap) d) (hn : d.length = n) (i : Nat) (hi : i < d.length) (x : Tm) :
    KM.Own n0 (((w.setCell ⟨g, i * 3, none⟩ (.string x.1)).setCell ⟨g, i * 3 + 1, none⟩ (.int .i64 x.2.1)).setCell ⟨g, i * 3 + 2, none⟩ (.string x.2.2)) (.slice (some ⟨g, 0, none⟩) n cap) (d.set i x) := by
  subst hn
  have h1 := World.ownsRow.stored h (i * 3) (.string x.1)
  have h2 := World.ownsRow.stored h1.1 (i * 3 + 1) (.int .i64 x.2.1)
  have h3 := World.ownsRow.stored h2.1 (i * 3 + 2) (.string x.2.2)
  unfold Kind.Own
  rw [km_set d i hi x, List.length_set]
  exact h3.1

theorem km_take (d : List Tm) (k : Nat) : KM.cells (d.take k) = (KM.cells d).take (k * 3) := by
  apply List.ext_getElem?
  intro j
  by_cases hk : k ≤ d.length
  · rw [List.getElem?_take]
    by_cases hj : j < k * 3
    · rw [if_pos hj]
      have hq : j / 3 < k := by omega
      have hm : j % 3 < 3 := by omega
      have e : j / 3 * 3 + j % 3 = j := by omega
      have h1 := KM.cells_get (d.take k) (j / 3) (by rw [List.length_take]; omega) (j % 3) hm
      have h2 := KM.cells_get d (j / 3) (by omega) (j % 3) hm
      have hk3 : KM.k = 3 := rfl
      rw [hk3, e] at h1 h2
      rw [h1, h2, List.getElem_take]
    · rw [if_neg hj, List.getElem?_eq_none]
      have := KM.cells_len (d.take k)
      have hk3 : KM.k = 3 := rfl
      rw [this, hk3, List.length_take]
      omega
  · rw [List.take_of_length_le (by omega), List.take_of_length_le (by rw [KM.cells_len]; show d.length * 3 ≤ _; omega)]

/-- The row cut short. -/
theorem own_cut {n0 g n cap : Nat} {w : World} {d : List Tm} (h : KM.Own n0 w (.slice (some ⟨g, 0, none⟩) n cap) d) (k : Nat) (hk : k ≤ d.length) :
    KM.Own n0 w (.slice (some ⟨g, 0, none⟩) k cap) (d.take k) := by
  have hl : (d.take k).length = k := by rw [List.length_take]; omega
  rcases h.2 with ⟨hv, _⟩ | ⟨g', cap', cur, hv, h1, h2, h3, h4, h5, h6⟩
  · cases hv
  · injection hv with e1 e2 e3
    injection e1 with e1
    injection e1 with e1 _ _
    subst e1 e3
    refine ⟨by rw [KM.cells_len], Or.inr ⟨g, cap, cur, by rw [hl], h1, h2, by rw [hl]; omega, h4, h5, ?_⟩⟩
    rw [hl, km_take, ← h6, List.take_take]
    congr 1
    have hk3 : KM.k = 3 := rfl
    rw [hk3]
    omega

/-- Cells behind the row's end written over. -/
theorem own_past {n0 g n cap : Nat} {d : List Tm} (vs : List Value) : ∀ (w : World) (o : Nat), KM.Own n0 w (.slice (some ⟨g, 0, none⟩) n cap) d → d.length = n → n * 3 ≤ o → KM.Own n0 (w.setCells g o vs) (.slice (some ⟨g, 0, none⟩) n cap) d := by
  induction vs with
  | nil => intro w o h _ _; exact h
  | cons v vs ih =>
    intro w o h hn ho
    rw [World.setCells]
    refine ih _ _ ?_ hn (by omega)
    subst hn
    have h1 := (World.ownsRow.stored h o v).1
    rw [List.set_eq_of_length_le (by rw [KM.cells_len]; exact ho)] at h1
    exact h1

theorem grown_sets {g : Nat} (vs : List Value) : ∀ (w w0 : World) (o : Nat), w0.grownBy w (some g) → w0.grownBy (w.setCells g o vs) (some g) := by
  induction vs with
  | nil => intro w w0 o h; exact h
  | cons v vs ih => intro w w0 o h; rw [World.setCells]; exact ih _ _ _ (grown_trans h (grown_set w g o v))

theorem km_flat : ∀ (d : List Tm) (t : Nat), t < d.length * 3 → (KM.cells d)[t]? = some (encM d[t / 3]!)[t % 3]! := by
  intro d t h
  have hq : t / 3 < d.length := by omega
  have hm : t % 3 < 3 := by omega
  have e : t / 3 * 3 + t % 3 = t := by omega
  have h1 := KM.cells_get d (t / 3) hq (t % 3) hm
  have hk3 : KM.k = 3 := rfl
  rw [hk3, e] at h1
  rw [h1, getElem!_pos d (t / 3) hq]
  have hl : (encM d[t / 3]).length = 3 := rfl
  show (encM d[t / 3])[t % 3]? = _
  rw [List.getElem?_eq_getElem (by rw [hl]; exact hm), getElem!_pos _ _ (by rw [hl]; exact hm)]

theorem own_holds {n0 g n cap : Nat} {w : World} {d : List Tm} (h : KM.Own n0 w (.slice (some ⟨g, 0, none⟩) n cap) d) : HoldsK encM 3 w g 0 d.toArray := by
  rcases h.2 with ⟨hv, _⟩ | ⟨g', cap', cur, hv, h1, h2, h3, h4, h5, h6⟩
  · cases hv
  · injection hv with e1 e2 e3
    injection e1 with e1
    injection e1 with e1 _ _
    subst e1
    intro j hj
    rw [size_flatK] at hj
    have hj' : j < d.length * 3 := by simpa using hj
    have hg := km_flat d j hj'
    have hk3 : KM.k = 3 := rfl
    rw [← h6, hk3, List.getElem?_take_of_lt hj'] at hg
    rw [get_flatK _ _ _ _ hj]
    constructor
    · simp only [World.cell?, h2, Nat.zero_add]
      have he : d[j / 3]! = d.toArray[j / 3]! := by
        rw [getElem!_pos d (j / 3) (by omega), getElem!_pos d.toArray (j / 3) (by simp; omega)]; simp
      rw [← Array.getElem?_toList, hg, he]
      rfl
    · simp [World.frozen?, h2]

theorem below_sortM {B : Nat} {w0 w : World} (h : Below B w0 w) (hB : B ≤ w.heap.size) (blk off n : Nat) (d : Array Tm) (os : Array Obj) (hb : B ≤ blk) : Below B w0 (sortWorldK encM 3 w blk off n d os) := by
  refine h.trans ⟨rfl, rfl, rfl, ?_, ?_⟩
  · simp [sortWorldK, putRowK]
  · intro k hk
    have hks : k < w.heap.size := by omega
    simp only [sortWorldK, Sort.grow, putRowK, putRow, mapBlock, Sort.ahead]
    rw [Array.getElem?_append_left (by simpa using hks), Array.getElem?_modify, if_neg (by omega)]

/-- A row whose terms have been put in another order. -/
theorem own_sorted {n0 g n cap : Nat} {w : World} {d : List Tm} (h : KM.Own n0 w (.slice (some ⟨g, 0, none⟩) n cap) d) (e : Array Tm) (he : e.size = d.length) (m : Nat) (os : Array Obj) :
    KM.Own n0 (sortWorldK encM 3 w g 0 m e os) (.slice (some ⟨g, 0, none⟩) n cap) e.toList := by
  have hH := own_holds h
  rcases h.2 with ⟨hv, _⟩ | ⟨g', cap', cur, hv, h1, h2, h3, h4, h5, h6⟩
  · cases hv
  · injection hv with e1 e2 e3
    injection e1 with e1
    injection e1 with e1 _ _
    subst e1 e2 e3
    have hgl := (Array.getElem?_eq_some_iff.1 h2).1
    have hl : e.toList.length = d.length := by simpa using he
    have hheap : (sortWorldK encM 3 w g 0 m e os).heap[g]? = some (.cells (putCells id 0 (flatK encM 3 e) cur) KM.T (0, 0)) := by
      simp only [sortWorldK, Sort.grow, putRowK, putRow, mapBlock, Sort.ahead]
      rw [Array.getElem?_append_left (by simpa using hgl), Array.getElem?_modify, if_pos rfl, h2]
      rfl
    have hH2 : HoldsK encM 3 (sortWorldK encM 3 w g 0 m e os) g 0 e := by
      exact holdsK_grow encM 3 _ os g 0 _ (by simpa [putRowK] using hgl) (holdsK_putRowK encM 3 (Sort.ahead w m) g 0 _ _ (holdsK_ahead encM 3 w m g 0 _ hH) (by simpa using he))
    have hsz : (putCells id 0 (flatK encM 3 e) cur).size = cur.size := by simp [putCells]
    refine ⟨by rw [KM.cells_len], Or.inr ⟨g, cap, _, by rw [hl], h1, hheap, by rw [hl]; exact h3, h4, by rw [hsz]; exact h5, ?_⟩⟩
    apply List.ext_getElem?
    intro j
    have hk3 : KM.k = 3 := rfl
    rw [hl, hk3, List.getElem?_take]
    by_cases hj : j < d.length * 3
    · rw [if_pos hj, km_flat e.toList j (by omega)]
      have := (hH2 j (by rw [size_flatK]; omega)).1
      rw [get_flatK _ _ _ _ (by omega)] at this
      simp only [World.cell?, hheap, Nat.zero_add] at this
      simp only [Option.isSome_none, Bool.false_eq_true, if_false] at this
      rw [Array.getElem?_toList, this]
      have he2 : e.toList[j / 3]! = e[j / 3]! := by
        rw [getElem!_pos e (j / 3) (by omega), getElem!_pos e.toList (j / 3) (by simp; omega)]; simp
      rw [he2]
      rfl
    · rw [if_neg hj, List.getElem?_eq_none]
      rw [KM.cells_len, hk3, hl]
      omega

/-- What compare answers. -/
def cmpM (x y : Tm) : Int := pairI (Lib.compareBytes x.1.data.toList y.1.data.toList) (pairI (Lib.compareInt x.2.1 y.2.1) (Lib.compareBytes x.2.2.data.toList y.2.2.data.toList))

theorem pairI_zero (y : Int) : pairI 0 y = y := rfl
theorem pairI_ne {x : Int} (h : x ≠ 0) (y : Int) : pairI x y = x := by unfold pairI; rw [if_neg h]

theorem cmpM_lt (x y : Tm) : ltOf cmpM x y = ltM x y := by
  obtain ⟨a1, a2, a3⟩ := x
  obtain ⟨b1, b2, b3⟩ := y
  show decide (pairI (Lib.compareBytes a1.data.toList b1.data.toList) (pairI (Lib.compareInt a2 b2) (Lib.compareBytes a3.data.toList b3.data.toList)) < 0) = if a1 ≠ b1 then ltB a1 b1 else if a2 ≠ b2 then decide (a2 < b2) else ltB a3 b3
  by_cases h1 : a1 = b1
  · subst h1
    rw [if_neg (show ¬ (a1 ≠ a1) by simp), cb_self, pairI_zero]
    by_cases h2 : a2 = b2
    · subst h2
      have hc : Lib.compareInt a2 a2 = 0 := by unfold Lib.compareInt; simp
      rw [if_neg (show ¬ (a2 ≠ a2) by simp), hc, pairI_zero]
      rfl
    · rw [if_pos h2]
      rcases Int.lt_or_gt_of_ne h2 with h | h
      · have hc : Lib.compareInt a2 b2 = -1 := by unfold Lib.compareInt; simp [h]
        rw [hc, pairI_ne (by decide)]
        simp [h]
      · have hn : ¬ a2 < b2 := by omega
        have hc : Lib.compareInt a2 b2 = 1 := by unfold Lib.compareInt; simp [hn, h]
        rw [hc, pairI_ne (by decide)]
        simp [hn]
  · have hc : Lib.compareBytes a1.data.toList b1.data.toList ≠ 0 := fun e => h1 (ba_eq ((cb_zero _ _).1 e))
    rw [if_pos h1, pairI_ne hc]
    rfl

theorem swoM : SWO (ltOf cmpM) where
  irrefl x := by rw [cmpM_lt]; exact ltM_irrefl x
  trans x y z h1 h2 := by rw [cmpM_lt] at *; exact ltM_trans h1 h2
  ntrans x y z h1 h2 := by
    rw [cmpM_lt] at *
    cases h : ltM x z with
    | false => rfl
    | true =>
      rcases ltM_cases x y with h3 | h3 | h3
      · rw [h1] at h3; cases h3
      · rw [h3, h2] at h; cases h
      · rw [ltM_trans h3 h] at h2; cases h2

/-- A sorted row without its doubles is rising. -/
theorem compact_sorted {d : Array Tm} (hs : SortedIn (ltOf cmpM) 0 d.size d) : RisingM (compactUpTo d d.size) ∧ ∀ x, x ∈ compactUpTo d d.size ↔ x ∈ d.toList := by
  have hle : ∀ i j, i ≤ j → j < d.size → ltM d[j]! d[i]! = false := by
    intro i j hij hj
    rcases Nat.lt_or_ge i j with h | h
    · have := hs i j (Nat.zero_le _) h hj
      rwa [cmpM_lt] at this
    · obtain rfl : i = j := by omega
      exact ltM_irrefl _
  have key : ∀ m, m ≤ d.size → RisingM (compactUpTo d m) ∧ ∀ x, x ∈ compactUpTo d m ↔ ∃ j, j < m ∧ d[j]! = x := by
    intro m
    induction m with
    | zero => intro _; exact ⟨List.Pairwise.nil, fun x => by simp [compactUpTo]⟩
    | succ m ih =>
      intro hm
      obtain ⟨h1, h2⟩ := ih (by omega)
      rw [compactUpTo_succ]
      cases hk : keeps d m with
      | true =>
        rw [if_pos rfl]
        constructor
        · refine List.pairwise_append.2 ⟨h1, List.pairwise_singleton _ _, fun x hx y hy => ?_⟩
          rw [List.mem_singleton] at hy
          subst hy
          obtain ⟨j, hj, rfl⟩ := (h2 x).1 hx
          have hne : d[m]! ≠ d[m - 1]! := by
            unfold keeps at hk
            rcases of_decide_eq_true hk with h | h
            · omega
            · exact h
          have ha := hle j (m - 1) (by omega) (by omega)
          have hb := hle (m - 1) m (by omega) (by omega)
          rcases ltM_cases d[j]! d[m]! with h | h | h
          · exact h
          · rw [h] at ha
            rcases ltM_cases d[m - 1]! d[m]! with h' | h' | h'
            · rw [ha] at h'; cases h'
            · exact absurd h'.symm hne
            · rw [hb] at h'; cases h'
          · rw [hle j m (by omega) (by omega)] at h; cases h
        · intro x
          rw [List.mem_append, List.mem_singleton, h2]
          constructor
          · rintro (⟨j, hj, e⟩ | e)
            · exact ⟨j, by omega, e⟩
            · exact ⟨m, by omega, e.symm⟩
          · rintro ⟨j, hj, e⟩
            by_cases hjm : j = m
            · subst hjm; exact Or.inr e.symm
            · exact Or.inl ⟨j, by omega, e⟩
      | false =>
        rw [if_neg (by simp), List.append_nil]
        refine ⟨h1, fun x => ?_⟩
        rw [h2]
        constructor
        · rintro ⟨j, hj, e⟩
          exact ⟨j, by omega, e⟩
        · rintro ⟨j, hj, e⟩
          by_cases hjm : j = m
          · subst hjm
            have hh : ¬ (j = 0 ∨ d[j]! ≠ d[j - 1]!) := by unfold keeps at hk; exact of_decide_eq_false hk
            have h0 : j ≠ 0 := fun e => hh (Or.inl e)
            have h3 : d[j]! = d[j - 1]! := Classical.byContradiction fun e => hh (Or.inr e)
            exact ⟨j - 1, by omega, by rw [← h3]; exact e⟩
          · exact ⟨j, by omega, e⟩
  obtain ⟨h1, h2⟩ := key d.size (Nat.le_refl _)
  refine ⟨h1, fun x => (h2 x).trans ?_⟩
  rw [List.mem_iff_getElem]
  constructor
  · rintro ⟨j, hj, e⟩
    exact ⟨j, by simpa using hj, by rw [← e, getElem!_pos d j hj]; simp⟩
  · rintro ⟨j, hj, e⟩
    have hj' : j < d.size := by simpa using hj
    exact ⟨j, hj', by rw [getElem!_pos d j hj', ← e]; simp⟩

end Go.Proofs.YtfcjnoojcajljaaGreatDoor

/-
  The contracts of cmp.Or at three, of compare, and of slices.SortFunc over it.
-/
namespace Go.Proofs.YtfcjnoojcajljaaGreatDoor
open Go.RowKit Go.Sort Go.Lib

set_option maxHeartbeats 1000000 in
theorem or_any (g : Nat) (a b c : Int) (w : World) (c0 : w.cell? ⟨g, 0, none⟩ = some (.int .i64 a)) (c1 : w.cell? ⟨g, 1, none⟩ = some (.int .i64 b)) (c2 : w.cell? ⟨g, 2, none⟩ = some (.int .i64 c)) :
    Calls Tryz.prog 50 #[.slice (some ⟨g, 0, none⟩) 3 3] w fun e w' => e = .returned (.int .i64 (pairI a (pairI b c))) ∧ w' = w := by
  by_cases ha : a = 0
  · subst ha
    rw [pairI_zero]
    by_cases hb : b = 0
    · subst hb
      rw [pairI_zero]
      by_cases hc : c = 0
      · subst hc
        go_enter Tryz.func50, Tryz.ntmps50
        go_wp2_with fail
        refine wp_loop_rounds 4 ?_
        rw [rounds_succ]
        go_wp2_with fail
        rw [rounds_succ]
        go_wp2_with fail
        rw [rounds_succ]
        go_wp2_with fail
        rw [rounds_succ]
        go_wp2_with fail
        go_ret
        exact ⟨rfl, rfl⟩
      · have hcn : (c != 0) = true := by simpa using hc
        go_enter Tryz.func50, Tryz.ntmps50
        go_wp2_with fail
        refine wp_loop_rounds 3 ?_
        rw [rounds_succ]
        go_wp2_with fail
        rw [rounds_succ]
        go_wp2_with fail
        rw [rounds_succ]
        go_wp2_with fail
        go_ret
        exact ⟨rfl, rfl⟩
    · have hbn : (b != 0) = true := by simpa using hb
      rw [pairI_ne hb]
      go_enter Tryz.func50, Tryz.ntmps50
      go_wp2_with fail
      refine wp_loop_rounds 2 ?_
      rw [rounds_succ]
      go_wp2_with fail
      rw [rounds_succ]
      go_wp2_with fail
      go_ret
      exact ⟨rfl, rfl⟩
  · have han : (a != 0) = true := by simpa using ha
    rw [pairI_ne ha]
    go_enter Tryz.func50, Tryz.ntmps50
    go_wp2_with fail
    refine wp_loop_rounds 1 ?_
    rw [rounds_succ]
    go_wp2_with fail
    go_ret
    exact ⟨rfl, rfl⟩

set_option maxHeartbeats 4000000 in
set_option maxRecDepth 100000 in
theorem compare_any (x y : Tm) (w : World) : Calls Tryz.prog 26 #[.agg (encM x).toArray, .agg (encM y).toArray] w fun e w' => e = .returned (.int .i64 (cmpM x y)) ∧ Grown w w' := by
  obtain ⟨a1, a2, a3⟩ := x
  obtain ⟨b1, b2, b3⟩ := y
  simp only [encM]
  obtain ⟨p1, hp1⟩ : ∃ p, Lib.compareBytes a1.data.toList b1.data.toList = p := ⟨_, rfl⟩
  obtain ⟨p2, hp2⟩ : ∃ p, Lib.compareInt a2 b2 = p := ⟨_, rfl⟩
  obtain ⟨p3, hp3⟩ : ∃ p, Lib.compareBytes a3.data.toList b3.data.toList = p := ⟨_, rfl⟩
  have HC : Hid (cmpM (a1, a2, a3) (b1, b2, b3) = pairI p1 (pairI p2 p3)) := by show _ = _; rw [← hp1, ← hp2, ← hp3]; rfl
  have H1 : Hid (∀ w, Calls Tryz.prog 51 #[.string a1, .string b1] w fun e w' => e = .returned (.int .i64 p1) ∧ w' = w) := fun w => by rw [← hp1]; exact Tryz.strings_Compare _ _ _
  have H2 : Hid (∀ w, Calls Tryz.prog 52 #[.int .i64 a2, .int .i64 b2] w fun e w' => e = .returned (.int .i64 p2) ∧ w' = w) := fun w => by rw [← hp2]; exact Tryz.cmp_Compare_int _ _ _
  have H3 : Hid (∀ w, Calls Tryz.prog 51 #[.string a3, .string b3] w fun e w' => e = .returned (.int .i64 p3) ∧ w' = w) := fun w => by rw [← hp3]; exact Tryz.strings_Compare _ _ _
  clear hp1 hp2 hp3
  go_enter Tryz.func26, Tryz.ntmps26
  go_wp2_with fail
  obtain ⟨W, hW⟩ : ∃ W, (w.alloc (.cells #[.string a1, .int .i64 a2, .string a3] 39)).alloc (.cells #[.string b1, .int .i64 b2, .string b3] 39) = W := ⟨_, rfl⟩
  obtain ⟨N, hN⟩ : ∃ N, w.heap.size = N := ⟨_, rfl⟩
  have hs : W.heap.size = N + 2 := by rw [← hW, ← hN]; simp
  have hh0 : W.heap[N]? = some (.cells #[.string a1, .int .i64 a2, .string a3] 39 (0, 0)) := by
    rw [← hW, ← hN]; exact (Below.heap_alloc _ _ _ (by simp)).trans (heap_alloc_new w _)
  have hh1 : W.heap[N + 1]? = some (.cells #[.string b1, .int .i64 b2, .string b3] 39 (0, 0)) := by
    rw [← hW, ← hN]; have := heap_alloc_new (w.alloc (.cells #[.string a1, .int .i64 a2, .string a3] 39)) (.cells #[.string b1, .int .i64 b2, .string b3] 39); rwa [World.size_alloc] at this
  have HG : Hid (Grown w W) := by rw [← hW]; exact ((Grown.refl _).alloc _).alloc _
  have KS : Hid (∀ w' : World, w'.heap[N]? = W.heap[N]? → w'.heap[N + 1]? = W.heap[N + 1]? → w'.cell? ⟨N, 0, none⟩ = some (.string a1) ∧ w'.cell? ⟨N, 1, none⟩ = some (.int .i64 a2) ∧ w'.cell? ⟨N, 2, none⟩ = some (.string a3) ∧ w'.cell? ⟨N + 1, 0, none⟩ = some (.string b1) ∧ w'.cell? ⟨N + 1, 1, none⟩ = some (.int .i64 b2) ∧ w'.cell? ⟨N + 1, 2, none⟩ = some (.string b3)) := fun w' e e' => by
    rw [Lib.cell_of_heap (e.trans hh0), Lib.cell_of_heap (e.trans hh0), Lib.cell_of_heap (e.trans hh0), Lib.cell_of_heap (e'.trans hh1), Lib.cell_of_heap (e'.trans hh1), Lib.cell_of_heap (e'.trans hh1)]
    exact ⟨rfl, rfl, rfl, rfl, rfl, rfl⟩
  have q0 := KS.out W.drew rfl rfl
  have q1 := KS.out (W.drew.alloc (.cells #[.int .i64 p1, .int .i64 p2, .int .i64 p3] 3)) (Below.heap_alloc _ _ _ (by show N < W.heap.size; omega)) (Below.heap_alloc _ _ _ (by show N + 1 < W.heap.size; omega))
  have HO : Hid (Calls Tryz.prog 50 #[.slice (some ⟨W.heap.size, 0, none⟩) 3 3] (W.drew.alloc (.cells #[.int .i64 p1, .int .i64 p2, .int .i64 p3] 3)) fun e w' => e = .returned (.int .i64 (pairI p1 (pairI p2 p3))) ∧ w' = W.drew.alloc (.cells #[.int .i64 p1, .int .i64 p2, .int .i64 p3] 3)) :=
    or_any W.drew.heap.size p1 p2 p3 _ (by rw [Lib.cell_of_heap (heap_alloc_new W.drew _)]; rfl) (by rw [Lib.cell_of_heap (heap_alloc_new W.drew _)]; rfl) (by rw [Lib.cell_of_heap (heap_alloc_new W.drew _)]; rfl)
  clear hh0 hh1 hs
  rw [hN]
  rw [hW]
  clear hW hN
  go_region_held3 (fun w' => w'.cell? ⟨N, 0, none⟩ = some (.string a1) ∧ w'.cell? ⟨N, 1, none⟩ = some (.int .i64 a2) ∧ w'.cell? ⟨N, 2, none⟩ = some (.string a3) ∧ w'.cell? ⟨N + 1, 0, none⟩ = some (.string b1) ∧ w'.cell? ⟨N + 1, 1, none⟩ = some (.int .i64 b2) ∧ w'.cell? ⟨N + 1, 2, none⟩ = some (.string b3))
    (first | exact q0 | exact q1)
    (first
      | (go_at_call 51; refine (H1.out _).mono ?_; rintro e w1 ⟨rfl, rfl⟩)
      | (go_at_call 51; refine (H3.out _).mono ?_; rintro e w1 ⟨rfl, rfl⟩)
      | (go_at_call 52; refine (H2.out _).mono ?_; rintro e w1 ⟨rfl, rfl⟩)
      | (go_at_call 50; refine HO.out.mono ?_; rintro e w1 ⟨rfl, rfl⟩))
  go_wp2_with fail
  go_ret
  exact ⟨ret_int HC.out.symm, (HG.out.drewN 1).alloc _⟩

theorem cmpLaysM (blk off size : Nat) (w : World) : CmpLays Tryz.prog 26 #[] encM 3 cmpM blk off size w :=
  fun _ _ _ _ x y => compare_any x y _

theorem enters_compare : ∀ args w, (callFunc 26 args).run Tryz.prog w = .ok (.enter 26 args) w := enters_of Tryz.func26 (by kernel_rfl) rfl

theorem sortM_rows (n0 g n cap : Nat) (d : List Tm) (w : World) (h : KM.Own n0 w (.slice (some ⟨g, 0, none⟩) n cap) d) (hn : d.length = n) (h0 : n0 ≤ w.heap.size) (h12 : n ≤ 12) :
    Calls Tryz.prog 25 #[.slice (some ⟨g, 0, none⟩) n cap, .func (.func 26) #[] #[]] w fun e w' =>
      e = .returned (.tuple #[]) ∧ ∃ d' : Array Tm, d'.size = n ∧ d'.toList.Perm d ∧ SortedIn (ltOf cmpM) 0 d'.size d' ∧ KM.Own n0 w' (.slice (some ⟨g, 0, none⟩) n cap) d'.toList ∧ Below n0 w w' := by
  subst hn
  have hg : g < w.heap.size ∧ n0 ≤ g := by
    rcases h.2 with ⟨hv, _⟩ | ⟨g', cap', cur, hv, h1, h2, _⟩
    · cases hv
    · injection hv with e1 e2 e3
      injection e1 with e1
      injection e1 with e1 _ _
      subst e1
      exact ⟨(Array.getElem?_eq_some_iff.1 h2).1, h1⟩
  have hs : d.toArray.size = d.length := by simp
  have hc := AnyQ.slices_SortFunc_small_sorted Tryz.sortTrm 3 Tryz.isAgg39 Tryz.sizeOf39 encM (fun _ => rfl) KM.one cmpM 26 #[] swoM g 0 cap d.toArray w enters_compare (cmpLaysM g 0 _ w) (own_holds h) hg.1 (by rw [hs]; exact h12)
    (fun n W hn => (Tryz.bits_Len (n : Int) W (by omega) (by omega)).mono fun e w' ⟨h1, h2⟩ => ⟨⟨_, h1⟩, h2⟩)
  rw [hs] at hc
  change Calls Tryz.prog 25 _ _ _ at hc
  refine hc.mono ?_
  rintro e w' ⟨rfl, d', m, os, hp, hso, rfl⟩
  have hsz : d'.size = d.length := by have := hp.1; rwa [hs] at this
  refine ⟨rfl, d', hsz, ?_, by rw [hsz]; exact hso, own_sorted h d' hsz m os, below_sortM (Below.refl _ _) h0 g 0 m d' os hg.2⟩
  have := hp.2.2
  have e1 : d'.extract 0 d.length = d' := by rw [← hsz]; simp
  have e2 : d.toArray.extract 0 d.length = d.toArray := by rw [← hs]; simp
  rw [e1, e2] at this
  simpa using this

end Go.Proofs.YtfcjnoojcajljaaGreatDoor
