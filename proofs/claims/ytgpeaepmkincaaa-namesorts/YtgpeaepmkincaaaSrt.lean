/-
  The walk of NameSorts.
-/
import Derived.Test.YtgpeaepmkincaaaSrt1
import Derived.Deep.RegionHeld3
import Derived.Deep.DrawnRows
import Derived.Test.YtgpeaepmkincaaaBacka
import Derived.Deep.DeepCutAuto
namespace Go.Proofs.Ytgpeaepmkincaaa
open Go.RowKit

theorem fixed_again (w : World) : Calls Try.prog 9 #[] w fun e w' => e = .returned (.bool true) ∧ Below w.heap.size w w' := fixed_of fix_sort w

theorem room_keys {W : World} {base g n : Nat} {d e : List (ByteArray × ByteArray)} (h : Own W base (.slice (some ⟨g, 0, none⟩) n n) (d ++ e)) : KeysAt W g 0 d := by
  intro i hi
  have := h.keysAt.2 i (by simp; omega)
  rw [List.getElem_append_left hi] at this
  exact this

/-- What stays as it is, from the making of the row on: the arguments, and the row with its mark. -/
def St (w : World) (b off R : Nat) (d : List (ByteArray × ByteArray)) (W : World) : Prop :=
  Below w.heap.size w W ∧ KeysAt W b off d ∧ Own W R (.slice (some ⟨R, 0, none⟩) (d.length + 2) (d.length + 2)) (d ++ [(⟨#[109, 97, 114, 107]⟩, ⟨#[]⟩), (⟨#[]⟩, ⟨#[]⟩)])

theorem St.on {w : World} {b off R : Nat} {d : List (ByteArray × ByteArray)} {W w' : World} (h : St w b off R d W) (hq : Below W.heap.size W w') : St w b off R d w' :=
  ⟨h.1.trans (hq.mono h.1.size), h.2.1.kept hq, h.2.2.on hq⟩
theorem St.room {w : World} {b off R : Nat} {d : List (ByteArray × ByteArray)} {W : World} (h : St w b off R d W) : KeysAt W R 0 d := room_keys h.2.2

theorem own_form {W : World} {base : Nat} {v : Value} {r : List (ByteArray × ByteArray)} (h : Own W base v r) (hr : 0 < r.length) : ∃ g cap, v = .slice (some ⟨g, 0, none⟩) r.length cap ∧ base ≤ g ∧ g < W.heap.size ∧ r.length ≤ cap := by
  rcases h.2 with ⟨_, h0⟩ | ⟨g, cap, cur, rfl, hb, hg, hn, _⟩
  · omega
  · exact ⟨g, cap, rfl, hb, (Array.getElem?_eq_some_iff.1 hg).1, hn⟩

theorem rise_pos {r d : List (ByteArray × ByteArray)} (hd : 0 < d.length) (h : ∀ y, y ∈ r ↔ y ∈ d) : 0 < r.length := by
  have := (h (d[0]'hd)).2 (List.getElem_mem _)
  exact List.length_pos_of_mem this

theorem turn_at (turn : Int) (n : Nat) (h0 : 0 < n) (hn : n * 32 ≤ 140737488351232) : ∃ k : Nat, k < n ∧ wrap64 ((IntKind.u64.wrap turn).tmod (n : Int)) = (k : Int) := by
  have h1 : 0 ≤ IntKind.u64.wrap turn := by simp [IntKind.wrap, IntKind.bits, IntKind.signed]; omega
  have h2 : (IntKind.u64.wrap turn).tmod (n : Int) = (IntKind.u64.wrap turn) % (n : Int) := Int.tmod_eq_emod_of_nonneg h1
  have h3 : 0 ≤ (IntKind.u64.wrap turn) % (n : Int) := Int.emod_nonneg _ (by omega)
  have h4 : (IntKind.u64.wrap turn) % (n : Int) < (n : Int) := Int.emod_lt_of_pos _ (by omega)
  refine ⟨((IntKind.u64.wrap turn) % (n : Int)).toNat, by omega, ?_⟩
  rw [h2]
  generalize (IntKind.u64.wrap turn) % (n : Int) = r at *
  have : wrap64 r = r := by unfold wrap64; omega
  rw [this]
  omega

theorem below_new {w5 W : World} (o : Obj) (h : Below w5.heap.size w5 W) : Below w5.heap.size w5 (W.alloc o) := h.alloc h.size o

theorem own_fresh (W : World) (N B : Nat) (hN : N ≤ W.heap.size) (hB : B = W.heap.size) : Own (W.alloc (.cells #[] 26)) N (.slice (some ⟨B, 0, none⟩) 0 0) [] := by
  subst hB
  exact World.ownsRow_lit (e := 26) (size := 2) W #[] 0 hN (by unfold maxLen; omega) rfl

theorem el_new (W : World) (B : Nat) (x1 x2 : ByteArray) (hB : B = W.heap.size) : KeysAt (W.alloc (.cells #[.string x1, .string x2] 26)) B 0 [(x1, x2)] := by
  subst hB
  intro i hi
  have : i = 0 := by simpa using hi
  subst this
  exact ⟨new_cell W _ 26 0 _ rfl, new_cell W _ 26 1 _ rfl⟩

/-- What the turned list needs while it is made. -/
theorem turn_held {w5 : World} {b off : Nat} {d : List (ByteArray × ByteArray)} (hk : KeysAt w5 b off d) (k : Nat) (hkd : k < d.length) (x1 x2 : ByteArray) (hx : d[k] = (x1, x2)) {W : World} (hB : Below w5.heap.size w5 W) :
    Below w5.heap.size w5 W ∧ W.cell? ⟨b, off + k * 2, none⟩ = some (.string x1) ∧ W.cell? ⟨b, off + k * 2 + 1, none⟩ = some (.string x2) := by
  have := (hk.kept hB) k hkd
  rw [hx] at this
  exact ⟨hB, this.1, this.2⟩

theorem turn_ne {B g : Nat} {n cap : Nat} (h : B ≠ g) : some B ≠ (Value.slice (some ⟨g, 0, none⟩) n cap).ownBlock := by
  simp [Value.ownBlock]; exact h

/-- The element was laid behind the empty list. -/
theorem turn_el_b {w5 w6 : World} {x1 x2 : ByteArray} {g : Nat} (hg : (((w5.alloc (.cells #[] 26)).alloc (.cells #[.string x1, .string x2] 26)).drew).grownBy w6 (Value.slice (some ⟨w5.heap.size, 0, none⟩) 0 0).ownBlock)
    (hat : (Value.slice (some ⟨w5.heap.size, 0, none⟩) 0 0).ownBlock = some g ∨ g = (((w5.alloc (.cells #[] 26)).alloc (.cells #[.string x1, .string x2] 26)).drew).heap.size) : KeysAt w6 (w5.heap.size + 1) 0 [(x1, x2)] ∧ w5.heap.size + 1 ≠ g := by
  refine ⟨keys_far (w := ((w5.alloc (.cells #[] 26)).alloc (.cells #[.string x1, .string x2] 26)).drew) (el_new (w5.alloc (.cells #[] 26)) _ x1 x2 (by simp)) hg (by simp [Value.ownBlock]), ?_⟩
  rcases hat with h | h
  · simp [Value.ownBlock] at h; omega
  · rw [h]; simp

/-- The element was laid ahead of the empty list. -/
theorem turn_el_c {w5 w6 : World} {x1 x2 : ByteArray} {g : Nat} (hg : (((w5.alloc (.cells #[.string x1, .string x2] 26)).alloc (.cells #[] 26)).drew).grownBy w6 (Value.slice (some ⟨w5.heap.size + 1, 0, none⟩) 0 0).ownBlock)
    (hat : (Value.slice (some ⟨w5.heap.size + 1, 0, none⟩) 0 0).ownBlock = some g ∨ g = (((w5.alloc (.cells #[.string x1, .string x2] 26)).alloc (.cells #[] 26)).drew).heap.size) : KeysAt w6 w5.heap.size 0 [(x1, x2)] ∧ w5.heap.size ≠ g := by
  refine ⟨keys_far (w := ((w5.alloc (.cells #[.string x1, .string x2] 26)).alloc (.cells #[] 26)).drew) ((el_new w5 _ x1 x2 rfl).kept ((Below.refl _ _).alloc (Nat.le_refl _) _).drew) hg (by simp [Value.ownBlock]), ?_⟩
  rcases hat with h | h
  · simp [Value.ownBlock] at h; omega
  · rw [h]; simp; omega

/-- The element was laid between the first append and the second. -/
theorem turn_el_d {N n cap g : Nat} {w6 w7 : World} {xs : List (ByteArray × ByteArray)} {x1 x2 : ByteArray} (ho : Own w6 N (.slice (some ⟨g, 0, none⟩) n cap) xs)
    (hg : (w6.alloc (.cells #[.string x1, .string x2] 26)).grownBy w7 (Value.slice (some ⟨g, 0, none⟩) n cap).ownBlock) : KeysAt w7 w6.heap.size 0 [(x1, x2)] := by
  have := (World.ownsRow.lt ho g rfl).2
  exact keys_far (el_new w6 _ x1 x2 rfl) hg (by simp [Value.ownBlock]; omega)

theorem own_cap {W : World} {N g n cap : Nat} {xs : List (ByteArray × ByteArray)} (h : Own W N (.slice (some ⟨g, 0, none⟩) n cap) xs) : n ≤ cap := by
  have hn := h.keysAt.1
  rcases h.2 with ⟨h', _⟩ | ⟨_, _, _, h', _, _, hc, _⟩
  · simp at h'
  · simp only [Value.slice.injEq] at h'
    omega

theorem turn_mem {d : List (ByteArray × ByteArray)} {k : Nat} {x : ByteArray × ByteArray} (hk : k < d.length) (hx : d[k] = x) : ∀ y, y ∈ (([] ++ d.drop k) ++ d.take k) ++ [x] ↔ y ∈ d := by
  intro y
  rw [List.nil_append, List.mem_append, List.mem_append, List.mem_singleton]
  constructor
  · rintro ((h | h) | h)
    · exact List.mem_of_mem_drop h
    · exact List.mem_of_mem_take h
    · rw [h, ← hx]; exact List.getElem_mem _
  · intro h
    rw [← List.take_append_drop k d] at h
    rcases List.mem_append.1 h with h | h
    · exact .inl (.inr h)
    · exact .inl (.inl h)
theorem turn_mem0 {d : List (ByteArray × ByteArray)} {k : Nat} {x : ByteArray × ByteArray} (h0 : k = 0) (hk : k < d.length) (hx : d[k] = x) : ∀ y, y ∈ ([] ++ d.drop k) ++ [x] ↔ y ∈ d := by
  intro y
  subst h0
  rw [List.nil_append, List.drop_zero, List.mem_append, List.mem_singleton]
  constructor
  · rintro (h | h)
    · exact h
    · rw [h, ← hx]; exact List.getElem_mem _
  · exact .inl

/-- What must stay when got is written on. -/
def Rest (w : World) (b off R : Nat) (d : List (ByteArray × ByteArray)) (va vw : Value) (r : List (ByteArray × ByteArray)) (W : World) : Prop :=
  St w b off R d W ∧ Own W 0 va r ∧ Own W 0 vw r

theorem Rest.on {w : World} {b off R : Nat} {d r : List (ByteArray × ByteArray)} {va vw : Value} {W w' : World} (h : Rest w b off R d va vw r W) (hq : Below W.heap.size W w') : Rest w b off R d va vw r w' :=
  ⟨h.1.on hq, h.2.1.on hq, h.2.2.on hq⟩
theorem Rest.drewN {w : World} {b off R : Nat} {d r : List (ByteArray × ByteArray)} {va vw : Value} {W : World} (h : Rest w b off R d va vw r W) (n : Nat) : Rest w b off R d va vw r (W.drewN n) :=
  h.on (below_drewN (Below.refl _ _) n)

/-- The block g is none of those that must stay. -/
def Apart (w : World) (b R : Nat) (va vw : Value) (g : Nat) : Prop := w.heap.size ≤ g ∧ R ≠ g ∧ b ≠ g ∧ va.ownBlock ≠ some g ∧ vw.ownBlock ≠ some g

theorem Rest.grown {w : World} {b off R g : Nat} {d r : List (ByteArray × ByteArray)} {va vw : Value} {W w' : World} (h : Rest w b off R d va vw r W) (ha : Apart w b R va vw g) (hg : W.grownBy w' (some g)) : Rest w b off R d va vw r w' := by
  obtain ⟨⟨h1, h2, h3⟩, h4, h5⟩ := h
  obtain ⟨a1, a2, a3, a4, a5⟩ := ha
  refine ⟨⟨h1.grown hg h1.size (fun k hk => ?_), keys_far h2 hg (fun e => a3 (Option.some.inj e)), World.ownsRow.kept h3 hg (.inr fun e => a2 (Option.some.inj e))⟩, World.ownsRow.kept h4 hg (.inr a4), World.ownsRow.kept h5 hg (.inr a5)⟩
  rw [← Option.some.inj hk]; exact a1

/-- A block that is new is none of those that must stay. -/
theorem Rest.apart_new {w : World} {b off R g : Nat} {d r : List (ByteArray × ByteArray)} {va vw : Value} {W : World} (h : Rest w b off R d va vw r W) (hd : 0 < d.length) (hg : W.heap.size ≤ g) : Apart w b R va vw g := by
  obtain ⟨⟨h1, h2, h3⟩, h4, h5⟩ := h
  have e1 := h1.size
  have e2 := keys_lt h2 hd
  have e3 := own_len h3
  refine ⟨by omega, by omega, by omega, fun e => ?_, fun e => ?_⟩
  · have := (World.ownsRow.lt h4 g e).2; omega
  · have := (World.ownsRow.lt h5 g e).2; omega

theorem St.mark {w : World} {b off R : Nat} {d : List (ByteArray × ByteArray)} {W : World} (h : St w b off R d W) : W.cell? ⟨R, d.length * 2, none⟩ = some (.string ⟨#[109, 97, 114, 107]⟩) := by
  have := (own_atL h.2.2 d.length (by simp)).1
  simpa using this

theorem St.isRoom {w : World} {b off R : Nat} {d : List (ByteArray × ByteArray)} {W : World} (h : St w b off R d W) : IsKeys W (.slice (some ⟨R, 0, none⟩) d.length (d.length + 2)) d := ⟨_, _, rfl, .inr ⟨R, 0, rfl, h.room⟩⟩
theorem St.isKeys {w : World} {b off R c : Nat} {d : List (ByteArray × ByteArray)} {W : World} (h : St w b off R d W) : IsKeys W (.slice (some ⟨b, off, none⟩) d.length c) d := ⟨_, _, rfl, .inr ⟨b, off, rfl, h.2.1⟩⟩

attribute [local go_sem ↓] Go.wp_at_zero Go.wp_at_succ

set_option maxRecDepth 100000 in
set_option maxHeartbeats 2000000 in
theorem sorts_any (b off c : Nat) (d : List (ByteArray × ByteArray)) (turn : Int) (w : World) (hd0 : 0 < d.length) (hk : KeysAt w b off d) (hreach : d.length * 32 ≤ 140737488351232) (hdc : d.length ≤ c) :
    Calls Try.prog 7 #[.slice (some ⟨b, off, none⟩) d.length c, .int .i64 turn] w fun e w' => e = .returned (.bool true) ∧ Below w.heap.size w w' := by
  obtain ⟨i0, hi0, hz0, hz1, hz2⟩ := info_parts Try.info26
  have hmk0 : ∀ W : World, ∃ M : Array Value, M.toList = cellsL (List.replicate (d.length + 2) (⟨#[]⟩, ⟨#[]⟩)) ∧ (Instr.makeSlice 31 (.int .i64 (d.length : Int)) (.int .i64 ((d.length : Int) + 2))).run Try.prog W = .ok (.slice (some ⟨W.heap.size, 0, none⟩) d.length (d.length + 2)) (W.alloc (.cells M 26)) := by
    intro W
    refine ⟨_, made_zero (d.length + 2), ?_⟩
    have := run_make (P := Try.prog) W 31 26 i0 (.agg #[.string ⟨#[]⟩, .string ⟨#[]⟩]) Try.underlying31 hi0 hz0 .i64 .i64 (d.length : Int) ((d.length : Int) + 2) (by omega) (by omega) (by rw [hz2]; omega) (by omega)
    rw [hz1] at this
    rw [this]
    rfl
  have HMK := hid hmk0
  have HK := hid hk
  clear hmk0 hk hi0 hz0 hz1 hz2
  go_enter Try.func7, Try.ntmps7
  go_wp2_with fail
  refine (fixed_again _).mono ?_
  rintro e w1 ⟨rfl, hq1⟩
  obtain ⟨M, hM, hmk⟩ := HMK.out w1
  have hk1 := HK.out.kept hq1
  obtain ⟨W2, hcp, ho2, hb2, hs2⟩ := made_room w1 b off c d.length d rfl hk1 M hM (by omega)
  have HQ1 := hid hq1
  have HM := hid hM
  have HO2 := hid ho2
  have HB2 := hid hb2
  have HS2 := hid hs2
  obtain ⟨m1, m2, m3, m4⟩ := own_atL ho2 d.length (by simp)
  simp only [List.getElem_append_right (Nat.le_refl _), Nat.sub_self, List.getElem_cons_zero] at m1 m2
  clear hq1 hM hk1 ho2 hb2 hs2 HMK
  generalize hR : w1.heap.size = R at *
  have HR := hid hR
  clear hR
  have hst3 : St w b off R d ((W2.setCell ⟨R, d.length * 2, none⟩ (.string ⟨#[109, 97, 114, 107]⟩)).setCell ⟨R, d.length * 2 + 1, none⟩ (.string ⟨#[]⟩)) := by
    have hb3 : Below R w1 ((W2.setCell ⟨R, d.length * 2, none⟩ (.string ⟨#[109, 97, 114, 107]⟩)).setCell ⟨R, d.length * 2 + 1, none⟩ (.string ⟨#[]⟩)) := (HB2.out.setCell (Nat.le_refl _) _).setCell (Nat.le_refl _) _
    have hsz := HQ1.out.size
    have hR' := HR.out
    refine ⟨HQ1.out.trans (hb3.mono (by omega)), (HK.out.kept HQ1.out).kept (by rw [hR']; exact hb3), ?_⟩
    have h4 := own_storeL HO2.out d.length (by simp) ⟨#[109, 97, 114, 107]⟩ ⟨#[]⟩
    rw [List.set_append_right _ _ (Nat.le_refl _), Nat.sub_self, List.set_cons_zero] at h4
    exact h4
  have hs3 : ((W2.setCell ⟨R, d.length * 2, none⟩ (.string ⟨#[109, 97, 114, 107]⟩)).setCell ⟨R, d.length * 2 + 1, none⟩ (.string ⟨#[]⟩)).heap.size = R + 1 := by simp [HS2.out]
  have HST3 := hid hst3
  have HS3 := hid hs3
  clear hst3 hs3
  go_wp2_with fail
  generalize (W2.setCell ⟨R, d.length * 2, none⟩ (.string ⟨#[109, 97, 114, 107]⟩)).setCell ⟨R, d.length * 2 + 1, none⟩ (.string ⟨#[]⟩) = W3 at *
  refine (nsort_any R 0 (d.length + 2) d W3 HST3.out.room (by omega)).mono ?_
  rintro e w4 ⟨vg, rg, rfl, hrg, hmg, hlg, hog, hbg⟩
  have HST4 := hid (HST3.out.on hbg)
  have HG4 := hid (And.intro hrg (And.intro hmg (And.intro hlg (And.intro hog hbg))))
  clear hrg hmg hlg hog hbg m1 m2 m3 m4 hmk hcp
  go_wp2_with fail
  refine (nsort_any R 0 (d.length + 2) d w4 HST4.out.room (by omega)).mono ?_
  rintro e w5 ⟨va, ra, rfl, hra, hma, hla, hoa, hba⟩
  have HST5 := hid (HST4.out.on hba)
  have HG5 := hid (And.intro hra (And.intro hma (And.intro hla (And.intro hoa hba))))
  clear hra hma hla hoa hba
  obtain ⟨k, hkd, eat⟩ := turn_at turn d.length hd0 hreach
  have HE := hid eat
  clear eat
  go_wp2_with fail
  rw [HE.out]
  obtain ⟨⟨x1, x2⟩, hx⟩ : ∃ x, d[k] = x := ⟨_, rfl⟩
  have HX := hid hx
  clear hx
  have hN := HST5.out.1.size
  have j1 : (0 : Int) ≤ ↑k := by omega
  have j2 : (↑k : Int) < ↑d.length := by omega
  have j3 : (↑k : Int) ≤ ↑d.length := by omega
  have j4 : (↑k : Int) ≤ ↑c := by omega
  have hck : ¬ c = k := by omega
  have KS := hid (fun W (hB : Below w5.heap.size w5 W) => turn_held HST5.out.2.1 k hkd x1 x2 HX.out hB)
  have s0 := KS.out w5 (Below.refl _ _)
  obtain ⟨_, l1, l2⟩ := id s0
  go_cut [9] (fun v9 w' => ∃ rt : List (ByteArray × ByteArray), Own w' w5.heap.size v9 rt ∧ (∀ y, y ∈ rt ↔ y ∈ d) ∧ rt.length = d.length + 1 ∧ Below w5.heap.size w5 w')
  case first =>
    rcases Nat.eq_zero_or_pos k with hk0 | hk0
    · have HZ := hid hk0
      clear hk0
      go_region_held3 (fun w' => Below w5.heap.size w5 w' ∧ w'.cell? ⟨b, off + k * 2, none⟩ = some (.string x1) ∧ w'.cell? ⟨b, off + k * 2 + 1, none⟩ = some (.string x2))
        ((refine KS.out _ ?_; repeat (first | assumption | exact Below.refl _ _ | refine Below.drew ?_ | refine below_new _ ?_)))
        (first | (refine step_app _ (by rfl) (.tmp 48) (.tmp 51) (by rfl) w5 _ [] (by rfl) (by first | exact own_fresh w5 _ _ (Nat.le_refl _) rfl | exact World.ownsRow.alloc (own_fresh w5 _ _ (Nat.le_refl _) rfl) _ | exact own_fresh (w5.alloc _) _ _ (by simp) (by simp)) (by repeat (first | assumption | exact Below.refl _ _ | refine Below.drew ?_ | refine below_new _ ?_)) b (off + k * 2) (d.length - k) (c - k) (d.drop k) (by rfl) (by simp) (keys_drop (KeysAt.kept HST5.out.2.1 (by repeat (first | assumption | exact Below.refl _ _ | refine Below.drew ?_ | refine below_new _ ?_))) k) (by omega) (d.length - k) (by simp) (by omega) ?_; intro g1 cap1 w6 hown1 hgrow1 hat1 hB1; first | have hel1 := turn_el_b hgrow1 hat1 | have hel1 := turn_el_c hgrow1 hat1 | skip) | (refine step_app0 _ (by rfl) (.tmp 52) (.tmp 55) (by rfl) g1 (d.length - k) cap1 (some ⟨b, off, none⟩) k c (by rfl) (own_cap hown1) (by rfl) HZ.out ?_) | (refine step_app _ (by rfl) (.tmp 56) (.tmp 61) (by rfl) w5 _ ([] ++ d.drop k) (by rfl) (by first | exact hown1 | exact World.ownsRow.alloc hown1 _) (by repeat (first | assumption | exact Below.refl _ _ | refine Below.drew ?_ | refine below_new _ ?_)) _ 0 1 1 [(x1, x2)] (by rfl) (by rfl) (by first | exact hel1.1 | exact el_new w6 _ _ _ rfl) (by omega) (d.length - k + 1) (by simp) (by omega) ?_; intro g3 cap3 w8 hown3 hgrow3 hat3 hB3))
      all_goals
        go_wp2_with fail
        go_meet
        exact ⟨_, hown3, turn_mem0 HZ.out hkd HX.out, (by have := HZ.out; simp; omega), hB3⟩
    · go_region_held3 (fun w' => Below w5.heap.size w5 w' ∧ w'.cell? ⟨b, off + k * 2, none⟩ = some (.string x1) ∧ w'.cell? ⟨b, off + k * 2 + 1, none⟩ = some (.string x2))
        ((refine KS.out _ ?_; repeat (first | assumption | exact Below.refl _ _ | refine Below.drew ?_ | refine below_new _ ?_)))
        (first | (refine step_app _ (by rfl) (.tmp 48) (.tmp 51) (by rfl) w5 _ [] (by rfl) (by first | exact own_fresh w5 _ _ (Nat.le_refl _) rfl | exact World.ownsRow.alloc (own_fresh w5 _ _ (Nat.le_refl _) rfl) _ | exact own_fresh (w5.alloc _) _ _ (by simp) (by simp)) (by repeat (first | assumption | exact Below.refl _ _ | refine Below.drew ?_ | refine below_new _ ?_)) b (off + k * 2) (d.length - k) (c - k) (d.drop k) (by rfl) (by simp) (keys_drop (KeysAt.kept HST5.out.2.1 (by repeat (first | assumption | exact Below.refl _ _ | refine Below.drew ?_ | refine below_new _ ?_))) k) (by omega) (d.length - k) (by simp) (by omega) ?_; intro g1 cap1 w6 hown1 hgrow1 hat1 hB1; first | have hel1 := turn_el_b hgrow1 hat1 | have hel1 := turn_el_c hgrow1 hat1 | skip) | (refine step_app _ (by rfl) (.tmp 52) (.tmp 55) (by rfl) w5 _ ([] ++ d.drop k) (by rfl) (by first | exact hown1 | exact World.ownsRow.alloc hown1 _) (by repeat (first | assumption | exact Below.refl _ _ | refine Below.drew ?_ | refine below_new _ ?_)) b off k c (d.take k) (by rfl) (by simp; omega) (keys_take (KeysAt.kept HST5.out.2.1 (by repeat (first | assumption | exact Below.refl _ _ | refine Below.drew ?_ | refine below_new _ ?_))) k) (by omega) d.length (by simp; omega) (by omega) ?_; intro g2 cap2 w7 hown2 hgrow2 hat2 hB2; first | have hel2 := keys_far hel1.1 hgrow2 (turn_ne hel1.2) | have hel2 := turn_el_d hown1 hgrow2 | skip) | (refine step_app _ (by rfl) (.tmp 56) (.tmp 61) (by rfl) w5 _ (([] ++ d.drop k) ++ d.take k) (by rfl) (by first | exact hown2 | exact World.ownsRow.alloc hown2 _) (by repeat (first | assumption | exact Below.refl _ _ | refine Below.drew ?_ | refine below_new _ ?_)) _ 0 1 1 [(x1, x2)] (by rfl) (by rfl) (by first | exact hel2 | exact el_new w7 _ _ _ rfl) (by omega) (d.length + 1) (by simp; omega) (by omega) ?_; intro g3 cap3 w8 hown3 hgrow3 hat3 hB3))
      all_goals
        go_wp2_with fail
        go_meet
        exact ⟨_, hown3, turn_mem hkd HX.out, (by simp; omega), hB3⟩
  case rest =>
    obtain ⟨rt, hot, hmt, hlt, hbt⟩ := hcut
    obtain ⟨gt, capt, rfl, _, _, _⟩ := own_form hot (by omega)
    have HST6 := hid (HST5.out.on hbt)
    have HT6 := hid (And.intro (hot.keysAt.2) (And.intro hmt hlt))
    have HB6 := hid hbt
    have hrt32 : rt.length * 32 ≤ 140737488355328 := by omega
    have era : ra = rg := rises_uniq HG5.out.1 HG4.out.1 fun y => (HG5.out.2.1 y).trans (HG4.out.2.1 y).symm
    have ERA := hid era
    have hrg0 := rise_pos hd0 HG4.out.2.1
    have hrgl := HG4.out.2.2.1
    obtain ⟨gg, capg, rfl, hgg1, hgg2, hggc⟩ := own_form HG4.out.2.2.2.1 hrg0
    clear hot hmt hbt era j1 j2 j3 j4 hck s0 l1 l2
    go_wp2_with fail
    refine (rsort_any b off c d wc HST6.out.2.1 (by omega)).mono ?_
    rintro e w7 ⟨vw, rr, rfl, hrr, hmr, hlr, hor, hbr⟩
    have err : rr = rg := rises_uniq hrr HG4.out.1 fun y => (hmr y).trans (HG4.out.2.1 y).symm
    subst err
    have hog7 : Own w7 0 (.slice (some ⟨gg, 0, none⟩) rr.length capg) rr := (((HG4.out.2.2.2.1.on HG5.out.2.2.2.2).on HB6.out).on hbr).weak
    have hoa7 : Own w7 0 va rr := by have := ((HG5.out.2.2.2.1.on HB6.out).on hbr).weak; rwa [ERA.out] at this
    have hre7 : Rest w b off R d va vw rr w7 := ⟨HST6.out.on hbr, hoa7, hor.weak⟩
    have hap : Apart w b R va vw gg := by
      have e1 := HST3.out.1.size
      have e2 := keys_lt HST3.out.2.1 hd0
      have e3 := own_len HST3.out.2.2
      have e4 := HG5.out.2.2.2.2.size
      have e5 := HB6.out.size
      refine ⟨by omega, by omega, by omega, fun e => ?_, fun e => ?_⟩
      · have := (World.ownsRow.lt HG5.out.2.2.2.1 gg e).1; omega
      · have := (World.ownsRow.lt hor gg e).1; omega
    have HT7 := hid (HT6.out.1.kept hbr)
    have HOG := hid hog7
    have HRE := hid hre7
    have HAP := hid hap
    clear hrr hmr hlr hor hbr hog7 hoa7 hre7 hap
    go_wp2_with fail
    refine (same_any _ _ rr rr w7 HOG.out.is HRE.out.2.2.is (by unfold maxLen; omega) (by unfold maxLen; omega)).mono ?_
    rintro e w8 ⟨rfl, n1, rfl⟩
    rw [decide_eq_true (rfl : rr = rr)]
    clear HST3 HST4 HST5 HS3 HS2 HB2 HO2 HM HR HQ1 KS HX HE HK hgg1 hgg2 hggc hN
    have hso := nsort_any gt 0 capt rt (w7.drewN n1) HT7.out (by omega)
    rw [HT6.out.2.2] at hso
    have HSO := hid hso
    clear hso
    go_wp2_with fail
    refine HSO.out.mono ?_
    rintro e w9 ⟨vt, rts, rfl, hr1, hm1, hl1, ho1, hb1⟩
    have ert : rts = rr := rises_uniq hr1 HG4.out.1 fun y => ((hm1 y).trans (HT6.out.2.1 y)).trans (HG4.out.2.1 y).symm
    subst ert
    have HRE9 := hid ((HRE.out.drewN n1).on hb1)
    have HOG9 := hid (show Own w9 0 (.slice (some ⟨gg, 0, none⟩) rts.length capg) rts from Own.on (W := w7.drewN n1) HOG.out hb1)
    have HVT := hid ho1
    clear hr1 hm1 hl1 ho1 hb1
    go_wp2_with fail
    refine (same_any _ _ rts rts w9 HVT.out.is HRE9.out.2.2.is (by unfold maxLen; omega) (by unfold maxLen; omega)).mono ?_
    rintro e w10 ⟨rfl, n2, rfl⟩
    rw [decide_eq_true (rfl : rts = rts)]
    go_wp2_with fail
    refine (same_any _ _ d d (w9.drewN n2) (HRE9.out.drewN n2).1.isRoom (HRE9.out.drewN n2).1.isKeys (by unfold maxLen; omega) (by unfold maxLen; omega)).mono ?_
    rintro e w11 ⟨rfl, n3, rfl⟩
    rw [decide_eq_true (rfl : d = d)]
    have hmark := HRE9.out.1.mark
    go_wp2_with fail
    clear HSO HVT HOG HRE HT6 HT7 HB6 HG4 HG5 HST6 ERA hmark
    have hlen32 : rts.length * 32 ≤ 140737488351232 := by omega
    go_loopw [93] (fun i wr => ∃ (j : Nat) (dk : List (ByteArray × ByteArray)), j ≤ rts.length ∧ i = .int .i64 j ∧ dk.length = rts.length ∧ Own wr 0 (.slice (some ⟨gg, 0, none⟩) rts.length capg) dk ∧ Rest w b off R d va vw rts wr) (fun i _ => rts.length - (intOf i).toNat)
    case atStart => exact ⟨0, rts, by omega, rfl, rfl, HOG9.out, HRE9.out.drewN _⟩
    case round =>
      obtain ⟨j, dk, hj, rfl, hdk, hoj, hrj⟩ := hrel
      have HO := hid hoj
      have HRJ := hid hrj
      by_cases hjl : j < rts.length
      · obtain ⟨f1, f2, f3, f4⟩ := own_atL hoj j (by omega)
        generalize (dk[j]'(by omega)).1 = o1 at *
        generalize (dk[j]'(by omega)).2 = o2 at *
        clear hoj hrj
        have q1 : (0 : Int) ≤ ↑j := by omega
        have q2 : (↑j : Int) < ↑rts.length := by omega
        go_wp2_with fail
        exact ⟨⟨j + 1, dk.set j (⟨#[120]⟩, ⟨#[]⟩), by omega, by go_num, by simp [hdk], own_storeL HO.out j (by omega) _ _, HRJ.out.grown HAP.out (stored_two HO.out (j * 2) _ _)⟩, by simp [intOf]; omega⟩
      · clear hoj hrj
        go_wp2_with fail
        go_loopw [7, 101] (fun v7 i wr2 => ∃ (m gx cx : Nat) (dk2 : List (ByteArray × ByteArray)), m ≤ 8 ∧ i = .int .i64 m ∧ v7 = .slice (some ⟨gx, 0, none⟩) (rts.length + m) cx ∧ dk2.length = rts.length + m ∧ Own wr2 0 (.slice (some ⟨gx, 0, none⟩) (rts.length + m) cx) dk2 ∧ Apart w b R va vw gx ∧ Rest w b off R d va vw rts wr2) (fun _ i _ => 8 - (intOf i).toNat)
        case atStart => exact ⟨0, gg, capg, dk, by omega, rfl, rfl, hdk, HO.out, HAP.out, HRJ.out⟩
        case round =>
          obtain ⟨m, gx, cx, dk2, hm8, rfl, rfl, hdk2, ho2, ha2, hr2⟩ := hrel
          have HO2 := hid ho2
          have HA2 := hid ha2
          have HR2 := hid hr2
          clear ho2 ha2 hr2
          by_cases hm : m < 8
          · obtain ⟨i1, hi0, hz0, hz1, hz2⟩ := info_parts Try.info26
            have hown2 : Own (wr.alloc (.cells #[.string ⟨#[121]⟩, .string ⟨#[]⟩] 26)) 0 (.slice (some ⟨gx, 0, none⟩) (rts.length + m) cx) dk2 := World.ownsRow.alloc HO2.out _
            have hown3 : (wr.alloc (.cells #[.string ⟨#[121]⟩, .string ⟨#[]⟩] 26)).ownsRow 0 26 2 (.slice (some ⟨gx, 0, none⟩) (rts.length + m) cx) (rts.length + m) (cellsL dk2) := by
              have := hown2
              unfold Own at this
              rwa [hdk2] at this
            have H3 := hid hown3
            clear hown2 hown3
            go_wp2_with (at_builtin; refine wpList_append_lies _ rfl _ _ 31 rfl 0 26 i1 (.agg #[.string ⟨#[]⟩, .string ⟨#[]⟩]) 2 32 Try.underlying31 hi0 hz0 hz1 hz2 rfl (by decide) _ _ _ rfl H3.out ⟨wr.heap.size, 0, none⟩ 1 1 [.string ⟨#[121]⟩, .string ⟨#[]⟩] rfl rfl ?c1 ?c2 (by decide) ?c3 ?c4 (Nat.zero_le _) (wr.heap.size + 1) ?c6 ?_)
            case c1 => exact two_new _ _ rfl _ _
            case c2 => intro u hu; simp at hu; rcases hu with rfl | rfl <;> rfl
            case c3 => unfold maxLen; omega
            case c4 => omega
            case c6 => simp
            intro g2 cap2 w1' hown1 hgrow hat hg2
            have hb0 : Below wr.heap.size wr (wr.alloc (.cells #[.string ⟨#[121]⟩, .string ⟨#[]⟩] 26)) := (Below.refl _ _).alloc (Nat.le_refl _) _
            have hre : Rest w b off R d va vw rts w1' := (HR2.out.on hb0).grown HA2.out hgrow
            have hap2 : Apart w b R va vw g2 := by
              rcases hat with h | h
              · have : gx = g2 := by simpa [Value.ownBlock] using h
                rw [← this]; exact HA2.out
              · exact HR2.out.apart_new hd0 (by omega)
            have hown4 : Own w1' 0 (.slice (some ⟨g2, 0, none⟩) (rts.length + m + 1) cap2) (dk2 ++ [(⟨#[121]⟩, ⟨#[]⟩)]) := by
              unfold Own
              rw [cellsL_append, List.length_append, hdk2]
              exact hown1
            have HF := hid (And.intro hre (And.intro hap2 hown4))
            clear hown1 hgrow hat hg2 hb0 hre hap2 hown4 hi0 hz0 hz1 hz2
            go_wp2_with fail
            exact ⟨⟨m + 1, g2, cap2, _, by omega, by go_num, rfl, by simp [hdk2]; omega, HF.out.2.2, HF.out.2.1, HF.out.1⟩, by simp [intOf]; omega⟩
          · go_wp2_with fail
            refine (same_any _ _ rts rts wr HR2.out.2.1.is HR2.out.2.2.is (by unfold maxLen; omega) (by unfold maxLen; omega)).mono ?_
            rintro e w12 ⟨rfl, n4, rfl⟩
            rw [decide_eq_true (rfl : rts = rts)]
            go_wp2_with fail
            refine (same_any _ _ d d (wr.drewN n4) (HR2.out.drewN n4).1.isRoom (HR2.out.drewN n4).1.isKeys (by unfold maxLen; omega) (by unfold maxLen; omega)).mono ?_
            rintro e w13 ⟨rfl, n5, rfl⟩
            rw [decide_eq_true (rfl : d = d)]
            go_wp2_with fail
            go_ret
            exact ⟨rfl, below_drewN HR2.out.1.1 _⟩

end Go.Proofs.Ytgpeaepmkincaaa
