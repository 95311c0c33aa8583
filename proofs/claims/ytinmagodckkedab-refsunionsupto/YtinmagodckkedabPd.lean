/-
  Texts of this claim, one behind the other: Rbd Rrs Rr1 Rr2 Rr3 Rr4 Rrv Rr5 Rky Rkz Rfx Rlw.
-/
import Derived.Test.YtinmagodckkedabPc
import Derived.Test.YtinmagodckkedabPb
import Derived.Test.YtinmagodckkedabPa
/-
  The contract of bound of package refs: the map of binds.
-/
namespace Go.Proofs.Ytinmagodckkedab
open Go.RowKit Go.Lib Go.Maps Go.MapKept Go.ChangeMaps

/-- Binds that a machine can hold. -/
def FitBd (bs : List Bd) : Prop := bs.length ≤ 2000000 ∧ ∀ b ∈ bs, b.1.size ≤ maxLen ∧ b.2.1.size ≤ maxLen ∧ b.2.2.size ≤ maxLen
theorem FitBd.fitB {bs : List Bd} (h : FitBd bs) : FitB bs := fun b hb => (h.2 b hb).1

def BdPost (w : World) (bs : List Bd) (e : Ending) (w' : World) : Prop :=
  Below w.heap.size w w' ∧ ((bs.all bindOK = false ∧ e = .returned (.tuple #[.map none, .int .i64 2])) ∨
    (bs.all bindOK = true ∧ ¬ (bs.map (·.1)).Nodup ∧ e = .returned (.tuple #[.map none, .int .i64 16])) ∨
    (bs.all bindOK = true ∧ (bs.map (·.1)).Nodup ∧ ∃ b, e = .returned (.tuple #[.map (some b), .int .i64 0]) ∧ w.heap.size ≤ b ∧ MapB w' b bs))

theorem box3 {w w2 : World} {T : TypeId} {x y z : Value} (hb : Below (w.alloc (.cells #[x, y, z] T)).heap.size (w.alloc (.cells #[x, y, z] T)) w2) :
    w2.cell? ⟨w.heap.size, 0, none⟩ = some x ∧ w2.cell? ⟨w.heap.size, 1, none⟩ = some y ∧ w2.cell? ⟨w.heap.size, 2, none⟩ = some z := by
  have h0 : (w.alloc (.cells #[x, y, z] T)).heap[w.heap.size]? = some (.cells #[x, y, z] T (0, 0)) := heap_alloc_new w _
  have h1 := (hb.block _ (Array.getElem?_eq_some_iff.1 h0).1).trans h0
  rw [Lib.cell_of_heap h1, Lib.cell_of_heap h1, Lib.cell_of_heap h1]
  exact ⟨rfl, rfl, rfl⟩

theorem MapB.lt {W : World} {b : Nat} {bs : List Bd} (h : MapB W b bs) : b < W.heap.size := World.ownsMap.lt h

theorem run_makeMapH (n : Int) (W : World) : (Instr.makeMap 45 (some (.int .i64 n))).run Try.prog W = .ok (.map (some W.heap.size)) (W.alloc (.map #[] 0)) := by
  simp [Instr.makeMap, run_underlying Try.underlying45, asInt]
  rfl

set_option maxHeartbeats 4000000 in
set_option maxRecDepth 100000 in
theorem bound_is (v : Value) (bs : List Bd) (w : World) (hv : KB.Is w v bs) (hf : FitBd bs) :
    Calls Try.prog 13 #[v] w fun e w' => BdPost w bs e w' := by
  obtain ⟨p, cap, rfl, hd⟩ := hv
  have HD := hid hd
  have HF := hid hf
  have hl := hf.1
  clear hd hf
  have HM0 : Hid (MapB (w.alloc (.map #[] 0)) w.heap.size []) := mapB_made w
  have hmm := run_makeMapH
  go_enter Try.func13, Try.ntmps13
  go_wp2_with fail
  go_loopg [12] bs.length (fun g vi wr => ∃ i : Nat, vi = .int .i64 i ∧ i ≤ bs.length ∧ bs.length - i ≤ g ∧ Hid (Below w.heap.size w wr) ∧ Hid (MapB wr w.heap.size (bs.take i)) ∧ Hid ((bs.take i).all bindOK = true))
  case atStart => exact ⟨0, rfl, by omega, by omega, (Below.refl _ _).alloc (Nat.le_refl _) _, HM0.out, rfl⟩
  case round =>
    obtain ⟨i, rfl, hi, hgk, HB, HM, HA⟩ := hrel
    by_cases hlt : i < bs.length
    · have hltz : (i : Int) < (bs.length : Int) := by omega
      have hiz : (0 : Int) ≤ i := by omega
      obtain ⟨b, off, rfl, hat⟩ : ∃ b off, p = some ⟨b, off, none⟩ ∧ KB.At w b off bs := by
        rcases HD.out with h | h
        · subst h; simp at hlt
        · exact h
      obtain ⟨c0, c1, c2⟩ := kb_at (Kind.at_kept hat HB.out) i hlt
      obtain ⟨f0, f1, f2⟩ := HF.out.2 _ (List.getElem_mem hlt)
      have hmem := List.getElem_mem hlt
      have htk : bs.take (i + 1) = bs.take i ++ [bs[i]] := List.take_succ_eq_append_getElem hlt
      have hL : (bs.take i).length = i := by rw [List.length_take]; omega
      obtain ⟨x, hx⟩ : ∃ x, bs[i] = x := ⟨_, rfl⟩
      rw [hx] at c0 c1 c2 f0 f1 f2 hmem htk
      obtain ⟨nm, ka, kb⟩ := x
      simp only at c0 c1 c2 f0 f1 f2
      have HT := hid (fun W => temp_any nm W f0)
      have HK := hid (fun W => key_any ka kb W f1 f2)
      have hbd : bindOK (nm, ka, kb) = (tempB nm.data.toList && keyB ka kb) := rfl
      have HBD := hid hbd
      have HTK := hid htk
      have HME := hid hmem
      have HF0 := hid f0
      have hsz := HB.out.size
      have HB1 := hid (HB.out.alloc hsz (.cells #[.string nm, .string ka, .string kb] 35))
      have HM1 := hid (HM.out.on ((Below.refl _ wr).alloc (Nat.le_refl _) (.cells #[.string nm, .string ka, .string kb] 35)))
      obtain ⟨G, hG⟩ : ∃ G, bs.take i = G := ⟨_, rfl⟩
      rw [hG] at HM1 HTK HA hL
      clear hat hx hmem htk hbd HM f0 f1 f2 hG
      cases hT : tempB nm.data.toList with
      | false =>
        rw [hT] at HT
        have HX : Hid (bs.all bindOK = false) := by
          show _ = _
          rw [List.all_eq_false]
          exact ⟨_, HME.out, by rw [HBD.out, hT]; simp⟩
        go_wp2_with (first | (go_at_call 27; refine (HT.out _).mono ?_; rintro e w1 ⟨rfl, rfl⟩))
        go_ret2
        exact ⟨HB1.out, Or.inl ⟨HX.out, rfl⟩⟩
      | true =>
        rw [hT] at HT
        cases hK : keyB ka kb with
        | false =>
          rw [hK] at HK
          have HX : Hid (bs.all bindOK = false) := by
            show _ = _
            rw [List.all_eq_false]
            exact ⟨_, HME.out, by rw [HBD.out, hT, hK]; simp⟩
          go_wp2_with (first | (go_at_call 27; refine (HT.out _).mono ?_; rintro e w1 ⟨rfl, rfl⟩) | (go_at_call 28; refine (HK.out _).mono ?_; rintro e w2 ⟨rfl, hb2⟩))
          go_ret2
          exact ⟨bel_then HB1.out HB1.out.size hb2, Or.inl ⟨HX.out, rfl⟩⟩
        | true =>
          rw [hK] at HK
          have HX : Hid (bindOK (nm, ka, kb) = true) := by show _ = _; rw [HBD.out, hT, hK]; rfl
          go_wp2_with (first
            | (go_at_call 27; refine (HT.out _).mono ?_; rintro e w1 ⟨rfl, rfl⟩)
            | (go_at_call 28; refine (HK.out _).mono ?_; rintro e w2 ⟨rfl, hb2⟩; obtain ⟨d0, d1, d2⟩ := box3 hb2; have HM2 := hid (HM1.out.on hb2); have HB2 := hid (bel_then HB1.out HB1.out.size hb2); clear hb2)
            | (at_mapUpdate; refine wpList_mapUpdate_own _ rfl _ _ _ 45 rfl 9 33 keyedStr Try.underlying45 keyElem w.heap.size G.length (mapD G) rfl HM2.out (by unfold maxLen; omega) _ _ (nameL nm) rfl rfl (name_key HF0.out) (keyD (ka, kb)) [] rfl ?_; intro w3 hown3 hg3; have HO3 := hid hown3; have HG3 := hid hg3; clear hown3 hg3))
          go_roundg (bs.length - (i + 1))
          case measure => omega
          refine ⟨i + 1, by go_num, by omega, by omega, ?_, ?_, ?_⟩
          · exact HB2.out.grown HG3.out HB2.out.size (fun k hk => by cases hk; exact Nat.le_refl _)
          · rw [HTK.out]
            show MapB _ _ _
            unfold MapB
            rw [mapD_snoc, List.length_append]
            exact HO3.out
          · rw [HTK.out]
            show _ = _
            rw [List.all_append, HA.out]
            simpa using HX.out
    · have hltz : ¬ (i : Int) < (bs.length : Int) := by omega
      have hti : bs.take i = bs := List.take_of_length_le (by omega)
      rw [hti] at HM HA
      have hlen := fun ty => mapB_len HM.out ty
      obtain ⟨s1, s2⟩ := mapD_size bs HF.out.fitB
      have S2 := hid s2
      obtain ⟨M, hM⟩ : ∃ M, size (mapD bs) = M := ⟨_, rfl⟩
      rw [hM] at hlen s1 S2
      clear hti hM s2
      by_cases hlt2 : M < bs.length
      · have hz2 : (M : Int) < (bs.length : Int) := by omega
        have HN : Hid (¬ (bs.map (·.1)).Nodup) := fun h => by have := S2.out.2 h; omega
        go_wp2_with fail
        go_ret2
        exact ⟨HB.out, Or.inr (Or.inl ⟨HA.out, HN.out, rfl⟩)⟩
      · have hz2 : ¬ (M : Int) < (bs.length : Int) := by omega
        have HN : Hid ((bs.map (·.1)).Nodup) := S2.out.1 (by omega)
        go_wp2_with fail
        go_ret2
        exact ⟨HB.out, Or.inr (Or.inr ⟨HA.out, HN.out, _, rfl, Nat.le_refl _, HM.out⟩)⟩

end Go.Proofs.Ytinmagodckkedab

/-
  The contracts of Rename and Resolve of package refs.
-/
namespace Go.Proofs.Ytinmagodckkedab
open Go.RowKit Go.Lib Go.Maps

set_option maxHeartbeats 1000000 in
theorem rename1_any (A B : Nat) (s r t : ByteArray) (w : World) (h1 : w.cell? ⟨A, 0, none⟩ = some (.string s)) (h2 : w.cell? ⟨B, 0, none⟩ = some (.string r)) :
    Calls Try.prog 25 #[.string t, .pointer (some ⟨A, 0, none⟩), .pointer (some ⟨B, 0, none⟩)] w fun e w' => e = .returned (.string (if t = s then r else t)) ∧ w' = w := by
  by_cases h : t = s
  · rw [if_pos h]
    have hb := seq_true h
    clear h
    go_enter Try.func25, Try.ntmps25
    go_wp2_with fail
    go_ret
    exact ⟨rfl, rfl⟩
  · rw [if_neg h]
    have hb := seq_false h
    clear h
    go_enter Try.func25, Try.ntmps25
    go_wp2_with fail
    go_ret
    exact ⟨rfl, rfl⟩

theorem enters_rename1 : ∀ args w, (callFunc 25 args).run Try.prog w = .ok (.enter 25 args) w := enters_of Try.func25 (by kernel_rfl) rfl
theorem enters_resolve1 : ∀ args w, (callFunc 15 args).run Try.prog w = .ok (.enter 15 args) w := enters_of Try.func15 (by kernel_rfl) rfl

theorem ren_text {a b : Ky} (ha : keyOK a = true) (t : ByteArray) : (if t = refT a then refT b else t) = renT a b t := by
  unfold renT
  by_cases h : t = refT a
  · rw [if_pos h, if_pos ((named_iff ha t).2 h)]
  · rw [if_neg h, if_neg fun k => h ((named_iff ha t).1 k)]

/-- What Rename answers. -/
def renCode (a b : Ky) : Int := if keyOK a = true ∧ keyOK b = true then 0 else 2
def renAns (a b : Ky) (fs : List Fld) : List Fld := if keyOK a = true ∧ keyOK b = true then mapT (renT a b) fs else []

def AnsJ (w : World) (fs : List Fld) (c : Int) (e : Ending) (w' : World) : Prop := ∃ u o, e = .returned (.tuple #[u, .int .i64 c]) ∧ OwnJ w.heap.size w' u o ∧ o.map Fx.fld = fs ∧ Below w.heap.size w w'

theorem own_noneX (N : Nat) (w : World) : OwnJ N w (.slice none 0 0) [] := ⟨⟨World.ownsRow_nil _ _ _ _, fun x hx => by simp at hx⟩, List.Pairwise.nil⟩

/-- Sizes that allow a copy. -/
def CopyX (d : List Fx) : Prop := d.length * 40 ≤ 140737488355328 ∧ ∀ x ∈ d, x.txt.length * 16 ≤ 140737488355328

theorem own_weakJ {N M : Nat} {w : World} {u : Value} {o : List Fx} (h : OwnJ N w u o) (hm : M ≤ N) : OwnJ M w u o := ⟨⟨own_weak h.1.1 hm, fun x hx => own_weak (h.1.2 x hx) hm⟩, h.2⟩

set_option maxHeartbeats 4000000 in
set_option maxRecDepth 100000 in
theorem rename_any (v : Value) (d : List Fx) (a b : Ky) (w : World) (hv : IsXs w v d) (hf : FitX d) (hc : CopyX d) (ha1 : a.1.size ≤ maxLen) (ha2 : a.2.size ≤ maxLen) (hb1 : b.1.size ≤ maxLen) (hb2 : b.2.size ≤ maxLen) :
    Calls Try.prog 11 #[v, .agg #[.string a.1, .string a.2], .agg #[.string b.1, .string b.2]] w fun e w' => AnsJ w (renAns a b (d.map Fx.fld)) (renCode a b) e w' := by
  have hbx : Below w.heap.size w ((w.alloc (.cells #[.string a.1, .string a.2] 33)).alloc (.cells #[.string b.1, .string b.2] 33)) := ((Below.refl _ _).alloc (Nat.le_refl _) _).alloc (by simp) _
  cases ha : keyOK a with
  | false =>
    have HR : Hid (renCode a b = 2 ∧ renAns a b (d.map Fx.fld) = []) := by
      have : ¬ (keyOK a = true ∧ keyOK b = true) := by rw [ha]; simp
      exact ⟨if_neg this, if_neg this⟩
    rw [HR.out.1, HR.out.2]
    have HT := hid (fun W => text_no a W ha1 ha2 ha)
    have HBX := hid hbx
    obtain ⟨a1, a2⟩ := a
    obtain ⟨b1, b2⟩ := b
    simp only at HT HBX ⊢
    clear hv hf ha HR hbx
    go_enter Try.func11, Try.ntmps11
    go_wp2_with (first | (go_at_call 12; refine (HT.out _).mono ?_; rintro e w1 ⟨rfl, hq1⟩))
    go_ret2
    refine ⟨_, [], rfl, own_noneX _ _, rfl, ?_⟩
    exact (bel_then HBX.out HBX.out.size hq1).alloc (bel_then HBX.out HBX.out.size hq1).size _
  | true =>
    have HT := hid (fun W => text_yes a W ha)
    cases hb : keyOK b with
    | false =>
      have HR : Hid (renCode a b = 2 ∧ renAns a b (d.map Fx.fld) = []) := by
        have : ¬ (keyOK a = true ∧ keyOK b = true) := by rw [hb]; simp
        exact ⟨if_neg this, if_neg this⟩
      rw [HR.out.1, HR.out.2]
      have HT2 := hid (fun W => text_no b W hb1 hb2 hb)
      have HBX := hid hbx
      obtain ⟨s, hs⟩ : ∃ s, refT a = s := ⟨_, rfl⟩
      rw [hs] at HT
      obtain ⟨a1, a2⟩ := a
      obtain ⟨b1, b2⟩ := b
      simp only at HT HT2 HBX ⊢
      clear hv hf ha hb HR hbx hs
      have kb : ∀ W, Below ((w.alloc (.cells #[.string a1, .string a2] 33)).alloc (.cells #[.string b1, .string b2] 33)).heap.size ((w.alloc (.cells #[.string a1, .string a2] 33)).alloc (.cells #[.string b1, .string b2] 33)) W → ∀ o, (W.alloc o).cell? ⟨w.heap.size + 1, 0, none⟩ = some (.string b1) ∧ (W.alloc o).cell? ⟨w.heap.size + 1, 1, none⟩ = some (.string b2) := fun W hW o => by
        have h0 := heap_alloc_new (w.alloc (.cells #[.string a1, .string a2] 33)) (.cells #[.string b1, .string b2] 33)
        rw [World.size_alloc] at h0
        have hlt := (Array.getElem?_eq_some_iff.1 h0).1
        have h1 := (hW.block _ hlt).trans h0
        have h2 := (Below.heap_alloc W o (w.heap.size + 1) (Nat.lt_of_lt_of_le hlt hW.size)).trans h1
        rw [Lib.cell_of_heap h2, Lib.cell_of_heap h2]
        exact ⟨rfl, rfl⟩
      have KB1 := hid kb
      clear kb
      go_enter Try.func11, Try.ntmps11
      go_wp2_with fail
      refine (HT.out _).mono ?_
      rintro e w1 ⟨rfl, hq1⟩
      obtain ⟨kc0, kc1⟩ := KB1.out w1 hq1 (.cells #[.string s] 9)
      have HB1 := hid ((bel_then HBX.out HBX.out.size hq1).alloc (bel_then HBX.out HBX.out.size hq1).size (.cells #[.string s] 9))
      clear hq1
      go_wp2_with fail
      refine (HT2.out _).mono ?_
      rintro e w2 ⟨rfl, hq2⟩
      go_wp2_with fail
      go_ret2
      refine ⟨_, [], rfl, own_noneX _ _, rfl, ?_⟩
      exact (bel_then HB1.out HB1.out.size hq2).alloc (bel_then HB1.out HB1.out.size hq2).size _
    | true =>
      have HR : Hid (renCode a b = 0 ∧ renAns a b (d.map Fx.fld) = mapT (renT a b) (d.map Fx.fld)) := by
        have : keyOK a = true ∧ keyOK b = true := ⟨ha, hb⟩
        exact ⟨if_pos this, if_pos this⟩
      rw [HR.out.1, HR.out.2]
      have HT2 := hid (fun W => text_yes b W hb)
      have HBX := hid hbx
      have HCH : Hid (∀ (A B : Nat) W, Below w.heap.size w W → W.cell? ⟨A, 0, none⟩ = some (.string (refT a)) → W.cell? ⟨B, 0, none⟩ = some (.string (refT b)) → Calls Try.prog 14 #[v, .func (.func 25) #[] #[.pointer (some ⟨A, 0, none⟩), .pointer (some ⟨B, 0, none⟩)]] W fun e w' => ∃ u o, e = .returned u ∧ OwnJ W.heap.size w' u o ∧ o.map Fx.fld = mapT (renT a b) (d.map Fx.fld) ∧ Below W.heap.size W w') := fun A B W hW h1 h2 =>
        changed_any 25 _ (renT a b) v d W (hv.kept hW) hf (by have := hc.1; omega) (fun x hx => by have := hc.2 x hx; omega) enters_rename1 (fun t _ W' hW' => by
          have := rename1_any A B (refT a) (refT b) t W' ((hW'.cell (p := ⟨A, 0, none⟩) (cell_block h1)).trans h1) ((hW'.cell (p := ⟨B, 0, none⟩) (cell_block h2)).trans h2)
          rw [ren_text ha] at this
          exact this.mono fun e w' ⟨p1, p2⟩ => ⟨p1, by rw [p2]; exact Below.refl _ _⟩)
      obtain ⟨s, hs⟩ : ∃ s, refT a = s := ⟨_, rfl⟩
      obtain ⟨r, hr⟩ : ∃ r, refT b = r := ⟨_, rfl⟩
      rw [hs] at HT HCH
      rw [hr] at HT2 HCH
      obtain ⟨G, hG⟩ : ∃ G, mapT (renT a b) (d.map Fx.fld) = G := ⟨_, rfl⟩
      rw [hG] at HCH ⊢
      obtain ⟨a1, a2⟩ := a
      obtain ⟨b1, b2⟩ := b
      simp only at HT HT2 HBX HCH ⊢
      clear hv hf ha hb HR hbx hs hr hG hc
      have kb : ∀ W, Below ((w.alloc (.cells #[.string a1, .string a2] 33)).alloc (.cells #[.string b1, .string b2] 33)).heap.size ((w.alloc (.cells #[.string a1, .string a2] 33)).alloc (.cells #[.string b1, .string b2] 33)) W → ∀ o, (W.alloc o).cell? ⟨w.heap.size + 1, 0, none⟩ = some (.string b1) ∧ (W.alloc o).cell? ⟨w.heap.size + 1, 1, none⟩ = some (.string b2) := fun W hW o => by
        have h0 := heap_alloc_new (w.alloc (.cells #[.string a1, .string a2] 33)) (.cells #[.string b1, .string b2] 33)
        rw [World.size_alloc] at h0
        have hlt := (Array.getElem?_eq_some_iff.1 h0).1
        have h1 := (hW.block _ hlt).trans h0
        have h2 := (Below.heap_alloc W o (w.heap.size + 1) (Nat.lt_of_lt_of_le hlt hW.size)).trans h1
        rw [Lib.cell_of_heap h2, Lib.cell_of_heap h2]
        exact ⟨rfl, rfl⟩
      have KB1 := hid kb
      clear kb
      have hone : ∀ (W : World) (x : ByteArray), (W.alloc (.cells #[.string x] 9)).cell? ⟨W.heap.size, 0, none⟩ = some (.string x) := fun W x => by rw [Lib.cell_of_heap (heap_alloc_new W _)]; rfl
      have HONE := hid hone
      clear hone
      go_enter Try.func11, Try.ntmps11
      go_wp2_with fail
      refine (HT.out _).mono ?_
      rintro e w1 ⟨rfl, hq1⟩
      obtain ⟨kc0, kc1⟩ := KB1.out w1 hq1 (.cells #[.string s] 9)
      have HB1 := hid ((bel_then HBX.out HBX.out.size hq1).alloc (bel_then HBX.out HBX.out.size hq1).size (.cells #[.string s] 9))
      clear hq1
      go_wp2_with fail
      refine (HT2.out _).mono ?_
      rintro e w2 ⟨rfl, hq2⟩
      have HB2 := hid ((bel_then HB1.out HB1.out.size hq2).alloc (bel_then HB1.out HB1.out.size hq2).size (.cells #[.string r] 9))
      have HC1 := hid (kept_new (.cells #[.string r] 9) (kept hq2 (HONE.out w1 s)))
      clear hq2
      go_wp2_with fail
      refine (HCH.out w1.heap.size w2.heap.size _ HB2.out HC1.out (HONE.out w2 r)).mono ?_
      rintro e w3 ⟨u3, o3, rfl, hj3, hm3, hq3⟩
      have HJ3 := hid hj3
      have HM3 := hid hm3
      clear hj3 hm3
      go_wp2_with fail
      go_ret2
      exact ⟨_, o3, rfl, own_weakJ HJ3.out HB2.out.size, HM3.out, bel_then HB2.out HB2.out.size hq3⟩

end Go.Proofs.Ytinmagodckkedab

/-
  The contracts of Named, Temp, bound and put of the reference.
-/
namespace Go.Proofs.Ytinmagodckkedab
open Go.RowKit

theorem byte_ne {c d : UInt8} (h : c ≠ d) : ((c.toNat : Int) != (d.toNat : Int)) = true := by
  rw [bne_iff_ne]
  intro e
  exact h (UInt8.toNat_inj.1 (by omega))

end Go.Proofs.Ytinmagodckkedab

/-
  The contract of Fields of the reference: a copy.
-/
namespace Go.Proofs.Ytinmagodckkedab
open Go.RowKit

end Go.Proofs.Ytinmagodckkedab

/-
  The contract of Rename of the reference; a value of one's own, changed text by text.
-/
namespace Go.Proofs.Ytinmagodckkedab
open Go.RowKit

/-- The texts of a field, when j of them have been changed. -/
def midT (g : ByteArray → ByteArray) (ts : List ByteArray) (j : Nat) : List ByteArray := (ts.take j).map g ++ ts.drop j
theorem midT_len (g : ByteArray → ByteArray) (ts : List ByteArray) (j : Nat) (h : j ≤ ts.length) : (midT g ts j).length = ts.length := by
  unfold midT; simp; omega
theorem midT_zero (g : ByteArray → ByteArray) (ts : List ByteArray) : midT g ts 0 = ts := by simp [midT]
theorem midT_all (g : ByteArray → ByteArray) (ts : List ByteArray) : midT g ts ts.length = ts.map g := by simp [midT]
theorem midT_get (g : ByteArray → ByteArray) (ts : List ByteArray) (j : Nat) (h : j < ts.length) : (midT g ts j)[j]'(by rw [midT_len g ts j (by omega)]; exact h) = ts[j] := by
  unfold midT
  rw [List.getElem_append_right (by simp; omega)]
  simp [List.length_take, Nat.min_eq_left (Nat.le_of_lt h)]
theorem midT_step (g : ByteArray → ByteArray) (ts : List ByteArray) (j : Nat) (h : j < ts.length) : (midT g ts j).set j (g ts[j]) = midT g ts (j + 1) := by
  unfold midT
  have hl : ((ts.take j).map g).length = j := by simp; omega
  rw [List.set_append_right _ _ (by omega), hl, Nat.sub_self, List.drop_eq_getElem_cons h, List.set_cons_zero, List.take_succ_eq_append_getElem h, List.map_append, List.append_assoc]
  rfl
theorem midT_same (g : ByteArray → ByteArray) (ts : List ByteArray) (j : Nat) (h : j < ts.length) (he : g ts[j] = ts[j]) : midT g ts j = midT g ts (j + 1) := by
  rw [← midT_step g ts j h, he]
  have := midT_get g ts j h
  conv => rhs; rw [← this]
  rw [List.set_getElem_self]

/-- A value of one's own, in which the fields ahead of i are changed. -/
structure RO (w1 : World) (u : Value) (fs : List Fld) (g : ByteArray → ByteArray) (i : Nat) (o : List Fx) (W : World) : Prop where
  len : o.length = fs.length
  st : XSt w1.heap.size w1.heap.size w1.heap.size w1 u o W
  low : ∀ k, (h : k < o.length) → (h' : k < fs.length) → k < i → (o[k]).fld = ((fs[k]).1, (fs[k]).2.map g)
  high : ∀ k, (h : k < o.length) → (h' : k < fs.length) → i < k → (o[k]).fld = fs[k]

/-- .. and in the field i the texts ahead of j. -/
structure RI (w1 : World) (u : Value) (fs : List Fld) (g : ByteArray → ByteArray) (i j : Nat) (o : List Fx) (W : World) : Prop where
  ro : RO w1 u fs g i o W
  here : ∀ (h : i < o.length) (h' : i < fs.length), (o[i]).fld = ((fs[i]).1, midT g (fs[i]).2 j)

theorem RO.on {w1 : World} {u : Value} {fs : List Fld} {g : ByteArray → ByteArray} {i : Nat} {o : List Fx} {W W' : World} (h : RO w1 u fs g i o W) (hb : Below W.heap.size W W') : RO w1 u fs g i o W' := ⟨h.len, h.st.on hb, h.low, h.high⟩
theorem RI.on {w1 : World} {u : Value} {fs : List Fld} {g : ByteArray → ByteArray} {i j : Nat} {o : List Fx} {W W' : World} (h : RI w1 u fs g i j o W) (hb : Below W.heap.size W W') : RI w1 u fs g i j o W' := ⟨h.ro.on hb, h.here⟩
theorem RO.below {w1 : World} {u : Value} {fs : List Fld} {g : ByteArray → ByteArray} {i : Nat} {o : List Fx} {W : World} (h : RO w1 u fs g i o W) : Below w1.heap.size w1 W := h.st.below rfl

theorem ri_start {w1 W : World} {u : Value} {fs : List Fld} {g : ByteArray → ByteArray} {o : List Fx} (ho : OwnJ w1.heap.size W u o) (hm : o.map Fx.fld = fs) (hb : Below w1.heap.size w1 W) : RI w1 u fs g 0 0 o W := by
  have hl : o.length = fs.length := by rw [← hm, List.length_map]
  have he : ∀ k (h : k < o.length) (h' : k < fs.length), (o[k]).fld = fs[k] := fun k h h' => by
    have : (o.map Fx.fld)[k]'(by simpa using h) = fs[k] := by simp [hm]
    simpa using this
  refine ⟨⟨hl, ⟨ho, fun k hk => Or.inr ?_, fun x hx k hk => Or.inr ?_, ⟨hb.os, hb.tape, hb.output, hb.size, fun k hk _ => hb.block k hk⟩⟩, fun k _ _ h => by omega, fun k h h' _ => he k h h'⟩, fun h h' => ?_⟩
  · exact (World.ownsRow.lt ho.1.1 k hk).1
  · exact (World.ownsRow.lt (show W.ownsRow w1.heap.size 9 1 x.sl x.txt.length (x.txt.map Value.string) from ho.1.2 x hx) k hk).1
  · rw [he 0 h h', midT_zero]

theorem RI.next {w1 : World} {u : Value} {fs : List Fld} {g : ByteArray → ByteArray} {i j : Nat} {o : List Fx} {W : World} (h : RI w1 u fs g i j o W) (hi : i < fs.length) (hj : (fs[i]).2.length ≤ j) : RI w1 u fs g (i + 1) 0 o W := by
  have hh := h.here (by rw [h.ro.len]; exact hi) hi
  refine ⟨⟨h.ro.len, h.ro.st, fun k h1 h2 hk => ?_, fun k h1 h2 hk => h.ro.high k h1 h2 (by omega)⟩, fun h1 h2 => ?_⟩
  · by_cases e : k = i
    · subst e
      rw [hh]
      have : midT g (fs[k]).2 j = (fs[k]).2.map g := by
        unfold midT
        rw [List.take_of_length_le hj, List.drop_eq_nil_of_le hj, List.append_nil]
      rw [this]
    · exact h.ro.low k h1 h2 (by omega)
  · rw [h.ro.high (i + 1) h1 h2 (by omega), midT_zero]

theorem RI.done {w1 : World} {u : Value} {fs : List Fld} {g : ByteArray → ByteArray} {i j : Nat} {o : List Fx} {W : World} (h : RI w1 u fs g i j o W) (hi : fs.length ≤ i) : o.map Fx.fld = mapT g fs := by
  apply List.ext_getElem
  · simp [mapT, h.ro.len]
  · intro k hk hk'
    have hk1 : k < o.length := by simpa using hk
    have hk2 : k < fs.length := by rw [← h.ro.len]; exact hk1
    rw [List.getElem_map, h.ro.low k hk1 hk2 (by omega)]
    simp [mapT]

/-- Where the texts of the field i lie. -/
theorem RI.cells {w1 : World} {gr n c : Nat} {fs : List Fld} {g : ByteArray → ByteArray} {i j : Nat} {o : List Fx} {W : World} (h : RI w1 (.slice (some ⟨gr, 0, none⟩) n c) fs g i j o W) (hn : n = fs.length) (hi : i < fs.length) {nm : ByteArray} {ts : List ByteArray} (he : fs[i] = (nm, ts)) (hj : j ≤ ts.length) :
    ∃ p cp, W.cell? ⟨gr, i * 2 + 1, none⟩ = some (.slice p ts.length cp) ∧ ∀ hj' : j < ts.length, ∃ T, p = some ⟨T, 0, none⟩ ∧ W.cell? ⟨T, j, none⟩ = some (.string ts[j]) ∧ (∀ W', Below W.heap.size W W' → W'.frozen? ⟨T, j, none⟩ = false) ∧ w1.heap.size ≤ T ∧ T ≠ gr ∧
      ∀ W', Below W.heap.size W W' → RI w1 (.slice (some ⟨gr, 0, none⟩) n c) fs g i (j + 1) (o.set i ⟨nm, p, cp, midT g ts (j + 1)⟩) (W'.setCell ⟨T, j, none⟩ (.string (g ts[j]))) := by
  have hio : i < o.length := by rw [h.ro.len]; exact hi
  have hh := h.here hio hi
  rw [he] at hh
  simp only at hh
  obtain ⟨c0, c1⟩ := cellsX_get o i hio
  have hrow := h.ro.st.own.1.1
  have hlen : o.length = n := by rw [hn]; exact h.ro.len
  rw [hlen] at hrow
  have hcell : W.cell? ⟨gr, i * 2 + 1, none⟩ = some (o[i]).sl := by rw [World.ownsRow.cellAt hrow (i * 2 + 1) (by omega)]; exact c1
  have hml := midT_len g ts j hj
  have htx := h.ro.st.own.1.2 _ (List.getElem_mem hio)
  obtain ⟨x, hx⟩ : ∃ x, o[i] = x := ⟨_, rfl⟩
  obtain ⟨nm', p, cp, txt⟩ := x
  rw [hx] at hh hcell htx
  simp only [Fx.fld, Prod.mk.injEq] at hh
  obtain ⟨rfl, rfl⟩ := hh
  simp only [Fx.sl] at hcell
  rw [hml] at hcell
  refine ⟨p, cp, hcell, fun hj' => ?_⟩
  have htl : 0 < (midT g ts j).length := by omega
  have hown : W.ownsRow w1.heap.size 9 1 (.slice p (midT g ts j).length cp) (midT g ts j).length ((midT g ts j).map Value.string) := htx
  obtain ⟨T, hp, hge, _, _, _⟩ := Kind.own_form (K := KT) (kt_own.2 hown) htl
  subst hp
  refine ⟨T, rfl, ?_, fun W' hW' => ?_, hge, ?_, fun W' hW' => ?_⟩
  · have := World.ownsRow.cellAt hown j (by omega)
    rw [this]
    rw [List.getElem?_map, List.getElem?_eq_getElem (by omega), midT_get g ts j hj']
    rfl
  · exact World.ownsRow.frozenAt (own_on hown hW') j
  · intro e
    subst e
    obtain ⟨cs, hcs⟩ := own_type hown rfl
    obtain ⟨cs', hcs'⟩ := own_type hrow rfl
    rw [hcs] at hcs'
    injection hcs' with hcs'
    injection hcs' with _ ht
    exact absurd ht (by decide)
  · have h' := h.on hW'
    have hw := h'.ro.st.wipe hio (j := j) (gt := T) (by rw [hx]) (g ts[j])
    rw [hx] at hw
    simp only [midT_step g ts j hj'] at hw
    refine ⟨⟨by rw [List.length_set]; exact h.ro.len, hw, fun k h1 h2 hk => ?_, fun k h1 h2 hk => ?_⟩, fun h1 h2 => ?_⟩
    · rw [List.getElem_set, if_neg (by omega)]
      exact h.ro.low k (by simpa using h1) h2 hk
    · rw [List.getElem_set, if_neg (by omega)]
      exact h.ro.high k (by simpa using h1) h2 hk
    · rw [List.getElem_set, if_pos rfl, he]
      rfl

theorem RI.skip {w1 : World} {u : Value} {fs : List Fld} {g : ByteArray → ByteArray} {i j : Nat} {o : List Fx} {W : World} (h : RI w1 u fs g i j o W) (hi : i < fs.length) {nm : ByteArray} {ts : List ByteArray} (he : fs[i] = (nm, ts)) (hj : j < ts.length) (hg : g ts[j] = ts[j]) : RI w1 u fs g i (j + 1) o W :=
  ⟨h.ro, fun h1 h2 => by rw [h.here h1 h2, he]; simp only; rw [midT_same g ts j hj hg]⟩

end Go.Proofs.Ytinmagodckkedab

/-
  The walk of Rename of the reference.
-/
namespace Go.Proofs.Ytinmagodckkedab
open Go.RowKit

theorem RI.form {w1 : World} {p : Option Addr} {n c : Nat} {fs : List Fld} {g : ByteArray → ByteArray} {i j : Nat} {o : List Fx} {W : World} (h : RI w1 (.slice p n c) fs g i j o W) (hpos : 0 < fs.length) : ∃ gr, p = some ⟨gr, 0, none⟩ := by
  have hrow := h.ro.st.own.1.1
  rcases hrow.2 with ⟨_, h0⟩ | ⟨gr, cap, cur, hv, _⟩
  · have := h.ro.len; omega
  · injection hv with h1
    exact ⟨gr, h1⟩

theorem two_boxes {w : World} {T : TypeId} {x1 x2 y1 y2 : Value} {W : World} (hb : Below ((w.alloc (.cells #[x1, x2] T)).alloc (.cells #[y1, y2] T)).heap.size ((w.alloc (.cells #[x1, x2] T)).alloc (.cells #[y1, y2] T)) W) :
    W.cell? ⟨w.heap.size, 0, none⟩ = some x1 ∧ W.cell? ⟨w.heap.size, 1, none⟩ = some x2 ∧ W.cell? ⟨w.heap.size + 1, 0, none⟩ = some y1 ∧ W.cell? ⟨w.heap.size + 1, 1, none⟩ = some y2 := by
  have h0 := heap_alloc_new (w.alloc (.cells #[x1, x2] T)) (.cells #[y1, y2] T)
  rw [World.size_alloc] at h0
  have k0 : ((w.alloc (.cells #[x1, x2] T)).alloc (.cells #[y1, y2] T)).heap[w.heap.size]? = some (.cells #[x1, x2] T (0, 0)) := (Below.heap_alloc _ _ _ (by simp)).trans (heap_alloc_new w _)
  have h1 := (hb.block _ (Array.getElem?_eq_some_iff.1 h0).1).trans h0
  have k1 := (hb.block _ (Array.getElem?_eq_some_iff.1 k0).1).trans k0
  rw [Lib.cell_of_heap h1, Lib.cell_of_heap h1, Lib.cell_of_heap k1, Lib.cell_of_heap k1]
  exact ⟨rfl, rfl, rfl, rfl⟩

end Go.Proofs.Ytinmagodckkedab

/-
  The contract of Resolve of package refs.
-/
namespace Go.Proofs.Ytinmagodckkedab
open Go.RowKit Go.Lib Go.Maps

set_option maxHeartbeats 2000000 in
theorem resolve1_any (C b : Nat) (bs : List Bd) (t : ByteArray) (w : World) (hC : w.cell? ⟨C, 0, none⟩ = some (.map (some b))) (hM : MapB w b bs) (hf : FitB bs) (hn : (bs.map (·.1)).Nodup) (hk : ∀ x ∈ bs, keyOK x.2 = true) (ht : t.size ≤ maxLen)
    (hbd : ∀ n, tempT t = some n → (boundT bs n).isSome = true) :
    Calls Try.prog 15 #[.string t, .pointer (some ⟨C, 0, none⟩)] w fun e w' => e = .returned (.string (resT bs t)) ∧ Below w.heap.size w w' := by
  obtain ⟨r, bb, hT, hcall⟩ := tempOf_is t ht
  have HC := hid hcall
  rcases hT with ⟨hT, rfl⟩ | ⟨hT, rfl⟩
  · have hsz := temp_size hT
    obtain ⟨k, hbk⟩ := Option.isSome_iff_exists.1 (hbd r hT)
    have hkk := hk _ (bound_mem hbk)
    simp only at hkk
    have hget : ∀ m, (Instr.lookup 45 (.map (some b)) (.string r) false).run Try.prog (w.drewN m) = .ok (.agg #[.string k.1, .string k.2]) (w.drewN m) := fun m => by
      have := mapB_get (hM.on (bel_drewN (Below.refl _ w) m)) hf hn (n := r) (by omega)
      rw [hbk] at this
      exact this
    have HR : Hid (resT bs t = refT k) := by show _ = _; unfold resT; rw [hT]; simp only [hbk]
    rw [HR.out]
    have HTX := hid (fun W => text_yes k W hkk)
    obtain ⟨s, hs⟩ : ∃ s, refT k = s := ⟨_, rfl⟩
    rw [hs] at HTX ⊢
    obtain ⟨k1, k2⟩ := k
    simp only at HTX hget
    clear hM hf hn hk hbd hcall hT hbk hkk hs HR hsz
    go_enter Try.func15, Try.ntmps15
    go_wp2_with fail
    refine (HC.out _).mono ?_
    rintro e w1 ⟨rfl, n1, rfl⟩
    go_wp2_with fail
    refine (HTX.out _).mono ?_
    rintro e w2 ⟨rfl, hq2⟩
    go_wp2_with fail
    go_ret
    exact ⟨rfl, bel_then (bel_drewN (Below.refl _ _) n1) (Nat.le_refl _) hq2⟩
  · have HR : Hid (resT bs t = t) := res_stays hT
    rw [HR.out]
    clear hM hf hn hk hbd hcall hT HR
    go_enter Try.func15, Try.ntmps15
    go_wp2_with fail
    refine (HC.out _).mono ?_
    rintro e w1 ⟨rfl, n1, rfl⟩
    go_wp2_with fail
    go_ret
    exact ⟨rfl, bel_drewN (Below.refl _ _) n1⟩

theorem unbound_some {bs : List Bd} {t n : ByteArray} (h : tempT t = some n) : unboundT bs t = (boundT bs n).isNone := by unfold unboundT; rw [h]
theorem unbound_none {bs : List Bd} {t : ByteArray} (h : tempT t = none) : unboundT bs t = false := by unfold unboundT; rw [h]

theorem unbound_temps {bs : List Bd} {fs : List Fld} : (textsF fs).any (unboundT bs) = true ↔ ∃ n ∈ tempsF fs, (boundT bs n).isSome = false := by
  rw [List.any_eq_true]
  constructor
  · rintro ⟨t, ht, hu⟩
    cases hT : tempT t with
    | none => rw [unbound_none hT] at hu; cases hu
    | some n =>
      rw [unbound_some hT] at hu
      exact ⟨n, (told_mem totB tempT (textsF fs) n).2 ⟨t, ht, hT⟩, by simpa using hu⟩
  · rintro ⟨n, hn, hb⟩
    obtain ⟨t, ht, hT⟩ := (told_mem totB tempT (textsF fs) n).1 hn
    exact ⟨t, ht, by rw [unbound_some hT]; simpa using hb⟩

theorem tempsF_len (fs : List Fld) : (tempsF fs).length ≤ (textsF fs).length := by
  rw [← temps_sort, ← order_once]
  refine Nat.le_trans (onceT_len _) ?_
  rw [orderT_len]
  exact List.length_filterMap_le _ _

theorem temp_le {fs : List Fld} {n : ByteArray} {B : Nat} (h : ∀ t ∈ textsF fs, t.size ≤ B) (hn : n ∈ tempsF fs) : n.size ≤ B := by
  obtain ⟨t, ht, e⟩ := (told_mem totB tempT (textsF fs) n).1 hn
  have := temp_size e
  have := h t ht
  omega

/-- What Resolve answers. -/
def rsCode (bs : List Bd) (fs : List Fld) : Int := resCode 2 16 15 bs fs

set_option maxHeartbeats 4000000 in
set_option maxRecDepth 100000 in
theorem resolve_any (v vb : Value) (d : List Fx) (bs : List Bd) (w : World) (hv : IsXs w v d) (hvb : KB.Is w vb bs) (hf : FitX d) (hc : CopyX d) (hT : (txtsX d).length ≤ 2000000) (hfb : FitBd bs) :
    Calls Try.prog 5 #[v, vb] w fun e w' => AnsJ w (resAns bs (d.map Fx.fld)) (rsCode bs (d.map Fx.fld)) e w' := by
  have HB0 := hid (bound_is vb bs w hvb hfb)
  have HV := hid hv
  have HF := hid hf
  have HCP := hid hc
  have HFB := hid hfb
  have HTT := hid hT
  clear hv hvb hf hc hT hfb
  go_enter Try.func5, Try.ntmps5
  go_wp2_with fail
  refine HB0.out.mono ?_
  rintro e w1 ⟨hq1, hcase⟩
  clear HB0
  rcases hcase with ⟨ha, rfl⟩ | ⟨ha, hn, rfl⟩ | ⟨ha, hn, b, rfl, hbw, hM⟩
  · have HR : Hid (rsCode bs (d.map Fx.fld) = 2 ∧ resAns bs (d.map Fx.fld) = []) := ⟨if_pos ha, if_neg fun h => by rw [ha] at h; cases h.1⟩
    clear ha
    go_wp2_with fail
    go_ret2
    exact ⟨_, [], by rw [HR.out.1]; rfl, own_noneX _ _, by rw [HR.out.2]; rfl, hq1.alloc hq1.size _⟩
  · have HR : Hid (rsCode bs (d.map Fx.fld) = 16 ∧ resAns bs (d.map Fx.fld) = []) := ⟨by unfold rsCode resCode; rw [if_neg (by rw [ha]; simp), if_pos hn], if_neg fun h => hn h.2.1⟩
    clear ha hn
    go_wp2_with fail
    go_ret2
    exact ⟨_, [], by rw [HR.out.1]; rfl, own_noneX _ _, by rw [HR.out.2]; rfl, hq1.alloc hq1.size _⟩
  · have HB1 := hid (hq1.alloc hq1.size (.cells #[.map (some b)] 45))
    have HM1 := hid (hM.on ((Below.refl _ w1).alloc (Nat.le_refl _) (.cells #[.map (some b)] 45)))
    have HA := hid ha
    have HN := hid hn
    have hcell : (w1.alloc (.cells #[.map (some b)] 45)).cell? ⟨w1.heap.size, 0, none⟩ = some (.map (some b)) := by rw [Lib.cell_of_heap (heap_alloc_new w1 _)]; rfl
    have HCL := hid hcell
    clear hq1 ha hn hbw hM hcell
    obtain ⟨W1, hW1⟩ : ∃ W1, w1.alloc (.cells #[.map (some b)] 45) = W1 := ⟨_, rfl⟩
    obtain ⟨C, hC⟩ : ∃ C, w1.heap.size = C := ⟨_, rfl⟩
    have HTM := hid (temps_any v d W1 (HV.out.kept (by rw [← hW1]; exact HB1.out)) HF.out HTT.out)
    rw [hW1] at HB1 HM1 HCL
    rw [hC] at HCL
    go_wp2_with fail
    try rw [hC]
    try rw [hW1]
    refine HTM.out.mono ?_
    rintro e w2 ⟨u2, rfl, ho2, hq2⟩
    clear hW1 hC HTM
    have hl2 := tempsF_len (d.map Fx.fld)
    rw [txtsX_flds] at hl2
    have htot := HTT.out
    have HSZ : Hid (∀ n ∈ tempsF (d.map Fx.fld), n.size ≤ maxLen) := fun n hn => temp_le (fun t ht => by
      rw [txtsX_flds] at ht
      obtain ⟨x, hx, hxt⟩ := txtsX_mem.1 ht
      exact (HF.out.2 x hx).2.2 t hxt) hn
    obtain ⟨G, hG⟩ : ∃ G, tempsF (d.map Fx.fld) = G := ⟨_, rfl⟩
    rw [hG] at ho2 hl2 HSZ
    have HG := hid hG
    obtain ⟨p2, c2, rfl⟩ := own_slice ho2
    have HTX := hid (OwnT.txtAt ho2)
    have HB2 := hid (bel_then HB1.out HB1.out.size hq2)
    have HM2 := hid (HM1.out.on hq2)
    have HC2 := hid (kept hq2 HCL.out)
    clear ho2 hq2 hG HB1 HM1 HCL
    go_wp2_with fail
    go_loopg [23] G.length (fun g vi wr => ∃ i : Nat, vi = .int .i64 i ∧ i ≤ G.length ∧ G.length - i ≤ g ∧ Hid (Below w2.heap.size w2 wr) ∧ Hid (∀ j, (h : j < G.length) → j < i → (boundT bs G[j]).isSome = true))
    case atStart => exact ⟨0, rfl, by omega, by omega, Below.refl _ _, fun j _ h => by omega⟩
    case round =>
      obtain ⟨i, rfl, hi, hgk, HB, HS⟩ := hrel
      have hcr : wr.cell? ⟨C, 0, none⟩ = some (.map (some b)) := kept HB.out HC2.out
      have HMR := hid (HM2.out.on HB.out)
      by_cases hlt : i < G.length
      · have hltz : (i : Int) < (G.length : Int) := by omega
        have hiz : (0 : Int) ≤ i := by omega
        obtain ⟨b3, o3, rfl, ht3⟩ : ∃ b o, p2 = some ⟨b, o, none⟩ ∧ ∀ i, (h : i < G.length) → w2.cell? ⟨b, o + i, none⟩ = some (.string G[i]) := by
          rcases HTX.out with h | h
          · rw [h] at hlt; simp at hlt
          · exact h
        have t0 : wr.cell? ⟨b3, o3 + i, none⟩ = some (.string G[i]) := (HB.out.cell (p := ⟨b3, o3 + i, none⟩) (cell_block (ht3 i hlt))).trans (ht3 i hlt)
        have hmem := List.getElem_mem hlt
        have hlook := mapB_look HMR.out HFB.out.fitB HN.out (n := G[i]) (HSZ.out _ hmem)
        have HME := hid hmem
        have HST : Hid (∀ B, (boundT bs G[i]).isSome = B → B = true → ∀ j, (h : j < G.length) → j < i + 1 → (boundT bs G[j]).isSome = true) := fun B e1 e2 j h hj => by
          by_cases e : j = i
          · subst e; rw [e1, e2]
          · exact HS.out j h (by omega)
        obtain ⟨B, hB⟩ : ∃ B, (boundT bs G[i]).isSome = B := ⟨_, rfl⟩
        have HBB := hid hB
        rw [hB] at hlook
        obtain ⟨k, hk⟩ : ∃ k, keyOr (boundT bs G[i]) = k := ⟨_, rfl⟩
        rw [hk] at hlook
        obtain ⟨t, hte⟩ : ∃ t, G[i] = t := ⟨_, rfl⟩
        have HTE := hid hte
        rw [hte] at t0 hlook
        obtain ⟨k1, k2⟩ := k
        simp only at hlook
        have hsz := HB.out.size
        clear ht3 hmem hB hk hte
        cases B with
        | true =>
          go_wp2_with fail
          go_roundg (G.length - (i + 1))
          case measure => omega
          exact ⟨i + 1, by go_num, by omega, by omega, HB.out.alloc hsz _, HST.out true HBB.out rfl⟩
        | false =>
          have HU : Hid ((textsF (d.map Fx.fld)).any (unboundT bs) = true) := unbound_temps.2 ⟨_, by rw [HG.out]; exact HME.out, HBB.out⟩
          have HR : Hid (rsCode bs (d.map Fx.fld) = 15 ∧ resAns bs (d.map Fx.fld) = []) := ⟨by unfold rsCode resCode; rw [if_neg (by rw [HA.out]; simp), if_neg (fun h => h HN.out), if_pos HU.out], if_neg fun h => by rw [HU.out] at h; cases h.2.2⟩
          go_wp2_with fail
          go_ret2
          exact ⟨_, [], by rw [HR.out.1]; rfl, own_noneX _ _, by rw [HR.out.2]; rfl, (bel_then HB2.out HB2.out.size HB.out).alloc (bel_then HB2.out HB2.out.size HB.out).size _⟩
      · have hltz : ¬ (i : Int) < (G.length : Int) := by omega
        have HU : Hid ((textsF (d.map Fx.fld)).any (unboundT bs) = false) := by
          show _ = _
          cases h : (textsF (d.map Fx.fld)).any (unboundT bs) with
          | false => rfl
          | true =>
            obtain ⟨n, hn, hb⟩ := unbound_temps.1 h
            rw [HG.out] at hn
            obtain ⟨j, hj, rfl⟩ := List.mem_iff_getElem.1 hn
            rw [HS.out j hj (by omega)] at hb
            cases hb
        have HR : Hid (rsCode bs (d.map Fx.fld) = 0 ∧ resAns bs (d.map Fx.fld) = mapT (resT bs) (d.map Fx.fld)) := ⟨by unfold rsCode resCode; rw [if_neg (by rw [HA.out]; simp), if_neg (fun h => h HN.out), if_neg (by rw [HU.out]; simp)], if_pos ⟨HA.out, HN.out, HU.out⟩⟩
        have HBR := hid (bel_then HB2.out HB2.out.size HB.out)
        have HK : Hid (∀ x ∈ bs, keyOK x.2 = true) := fun x hx => by
          have := List.all_eq_true.1 HA.out x hx
          simp only [bindOK, Bool.and_eq_true] at this
          exact this.2
        have HCR := hid hcr
        have HCH := hid (changed_any 15 #[.pointer (some ⟨C, 0, none⟩)] (resT bs) v d wr (HV.out.kept HBR.out) HF.out (by have := HCP.out.1; omega) (fun x hx => by have := HCP.out.2 x hx; omega) enters_resolve1 (fun t ht W hW => by
          refine resolve1_any C b bs t W ((hW.cell (p := ⟨C, 0, none⟩) (cell_block HCR.out)).trans HCR.out) (HMR.out.on hW) HFB.out.fitB HN.out HK.out ?_ (fun n hn => ?_)
          · obtain ⟨x, hx, hxt⟩ := txtsX_mem.1 ht
            exact (HF.out.2 x hx).2.2 t hxt
          · have := List.any_eq_false.1 HU.out t (by rw [txtsX_flds]; exact ht)
            rw [unbound_some hn] at this
            cases hb : boundT bs n with
            | none => rw [hb] at this; simp at this
            | some k => rfl))
        clear hcr
        go_wp2_with fail
        refine HCH.out.mono ?_
        rintro e w3 ⟨u3, o3, rfl, hj3, hm3, hq3⟩
        have HJ3 := hid hj3
        have HM3 := hid hm3
        clear hj3 hm3 HCH
        go_wp2_with fail
        go_ret2
        exact ⟨_, o3, by rw [HR.out.1]; rfl, own_weakJ HJ3.out HBR.out.size, by rw [HR.out.2]; exact HM3.out, bel_then HBR.out HBR.out.size hq3⟩

end Go.Proofs.Ytinmagodckkedab

/-
  The walk of Resolve of the reference.
-/
namespace Go.Proofs.Ytinmagodckkedab
open Go.RowKit

theorem insR_perm {α : Type} [DecidableEq α] (lt : α → α → Bool) (x : α) : ∀ l : List α, x ∉ l → (insR lt x l).Perm (x :: l)
  | [], _ => List.Perm.refl _
  | y :: r, h => by
    simp only [List.mem_cons, not_or] at h
    unfold insR
    split
    · exact List.Perm.refl _
    · rw [if_neg h.1]
      exact ((insR_perm lt x r h.2).cons y).trans (List.Perm.swap x y r)

def namesR (bs : List Bd) : List ByteArray := bs.foldl (fun acc b => insR ltB b.1 acc) []
theorem namesR_snoc (bs : List Bd) (x : Bd) : namesR (bs ++ [x]) = insR ltB x.1 (namesR bs) := by simp [namesR]

theorem namesR_spec : ∀ bs : List Bd, RisingR ltB (namesR bs) ∧ (∀ z, z ∈ namesR bs ↔ z ∈ bs.map (·.1)) ∧ (namesR bs).length ≤ bs.length ∧ ((namesR bs).length = bs.length ↔ (bs.map (·.1)).Nodup) := by
  refine snoc_ind ⟨List.Pairwise.nil, fun z => by simp [namesR], by simp [namesR], by simp [namesR]⟩ fun bs x ih => ?_
  obtain ⟨i1, i2, i3, i4⟩ := ih
  rw [namesR_snoc, List.length_append, List.map_append]
  refine ⟨rising_insR totB _ i1, fun z => ?_, ?_, ?_⟩
  · rw [mem_insR, i2, List.mem_append]
    simp [or_comm]
  · by_cases h : x.1 ∈ namesR bs
    · rw [insR_there totB i1 h]; simp; omega
    · rw [(insR_perm ltB x.1 _ h).length_eq]; simp; omega
  · by_cases h : x.1 ∈ namesR bs
    · rw [insR_there totB i1 h]
      constructor
      · intro e; simp at e; omega
      · intro e
        exact absurd rfl ((List.nodup_append.1 e).2.2 x.1 ((i2 _).1 h) x.1 (by simp))
    · rw [(insR_perm ltB x.1 _ h).length_eq]
      constructor
      · intro e
        have e' : (namesR bs).length = bs.length := by simp at e; exact e
        refine List.nodup_append.2 ⟨i4.1 e', by simp, fun a ha c hc => ?_⟩
        simp at hc
        rintro rfl
        exact h ((i2 _).2 (by rw [← hc]; exact ha))
      · intro e
        have := i4.2 (List.nodup_append.1 e).1
        simp [this]

end Go.Proofs.Ytinmagodckkedab

/-
  The contracts of Sort of package name and of Keys of package refs.
-/
namespace Go.Proofs.Ytinmagodckkedab
open Go.RowKit

theorem z_own {n0 : Nat} {w : World} {v : Value} {d : List Ky} : Z.Own w n0 v d ↔ KK.Own n0 w v d := Iff.rfl
theorem z_at {w : World} {b off : Nat} {d : List Ky} (h : KK.At w b off d) : Z.KeysAt w b off d := fun i hi => kk_at h i hi

theorem z_lt (x y : Ky) : Z.ahead x y ↔ ltKy x y = true := by
  unfold Z.ahead Z.cmpK Z.cmpI Z.orI
  rw [ltKy_true]
  unfold ltB
  rw [decide_eq_true_iff, decide_eq_true_iff]
  by_cases h : Lib.compareBytes x.1.data.toList y.1.data.toList = 0
  · rw [if_pos h]
    have e : x.1 = y.1 := ba_eq ((cb_zero _ _).1 h)
    constructor
    · intro k; exact Or.inr ⟨e, k⟩
    · rintro (k | ⟨_, k⟩)
      · omega
      · exact k
  · rw [if_neg h]
    constructor
    · intro k; exact Or.inl k
    · rintro (k | ⟨e, _⟩)
      · exact k
      · rw [e, cb_self] at h; exact absurd rfl h

theorem z_rises {r : List Ky} (h : Z.Rises r) : RisingR ltKy r := h.imp fun {x y} hxy => (z_lt x y).1 hxy
theorem z_rises' {r : List Ky} (h : RisingR ltKy r) : Z.Rises r := h.imp fun {x y} hxy => (z_lt x y).2 hxy

/-- The keys, rising, each once. -/
def sortK (ks : List Ky) : List Ky := ks.foldl (fun acc x => insR ltKy x acc) []
theorem sortK_spec (ks : List Ky) : RisingR ltKy (sortK ks) ∧ ∀ z, z ∈ sortK ks ↔ z ∈ ks := by
  have : ∀ (l acc : List Ky), RisingR ltKy acc → RisingR ltKy (l.foldl (fun acc x => insR ltKy x acc) acc) ∧ ∀ z, z ∈ l.foldl (fun acc x => insR ltKy x acc) acc ↔ z ∈ acc ∨ z ∈ l := by
    intro l
    induction l with
    | nil => intro acc h; exact ⟨h, fun z => by simp⟩
    | cons y l ih =>
      intro acc h
      obtain ⟨h1, h2⟩ := ih (insR ltKy y acc) (rising_insR totK y h)
      refine ⟨h1, fun z => ?_⟩
      rw [List.foldl_cons, h2, mem_insR, List.mem_cons]
      constructor
      · rintro ((h | h) | h)
        · exact Or.inr (Or.inl h)
        · exact Or.inl h
        · exact Or.inr (Or.inr h)
      · rintro (h | h | h)
        · exact Or.inl (Or.inr h)
        · exact Or.inl (Or.inl h)
        · exact Or.inr h
  obtain ⟨h1, h2⟩ := this ks [] List.Pairwise.nil
  exact ⟨h1, fun z => by rw [sortK, h2]; simp⟩

theorem keys_sort (fs : List Fld) : sortK ((textsF fs).filterMap namedT) = keysF fs := by
  refine rising_uniqR totK (sortK_spec _).1 (told_rising totK _ _) fun z => ?_
  rw [(sortK_spec _).2, List.mem_filterMap]
  exact (told_mem totK namedT (textsF fs) z).symm

set_option maxHeartbeats 1000000 in
theorem nsort_nil (w : World) : Calls Try.prog 18 #[.slice none 0 0] w fun e w' => e = .returned (.slice none 0 0) ∧ w' = w := by
  have q22 : ∀ (w : World) (a : Option Addr) (n c n' c' : Nat), (binOp .eql 28 (.slice a n c) (.slice none n' c')).run Try.prog w = .ok (.bool a.isNone) w := fun w a n c n' c' => Lib.run_eql_slice_nil w _ _ a n c n' c' Try.underlying28
  have hclone : ∀ W, Calls Try.prog 31 #[.slice none 0 0] W fun e w' => e = .returned (.slice none 0 0) ∧ w' = W := fun W => by
    go_enter Try.func31, Try.ntmps31
    go_wp2_with fail
    go_ret
    exact ⟨rfl, rfl⟩
  have HC := hid hclone
  clear hclone
  have hi : ∀ W, Calls Try.prog 64 #[.slice none 0 0, .int .i64 0, .int .i64 0, .func (.func 33) #[] #[]] W fun e w' => e = .returned (.tuple #[]) ∧ w' = W := fun W => by
    go_enter Try.func64, Try.ntmps64
    go_wp2_with fail
    refine wp_loop_rounds 1 ?_
    rw [rounds_succ]
    go_wp2_with fail
    go_end0
    exact ⟨rfl, rfl⟩
  have HI := hid hi
  clear hi
  have hp : ∀ (l : Int) W, Calls Try.prog 45 #[.slice none 0 0, .int .i64 0, .int .i64 0, .int .i64 l, .func (.func 33) #[] #[]] W fun e w' => e = .returned (.tuple #[]) ∧ w' = W := fun l W => by
    go_enter Try.func45, Try.ntmps45
    go_wp2_with fail
    refine wp_loop_rounds 1 ?_
    rw [rounds_succ]
    go_wp2_with (first | (go_at_call 64; refine (HI.out _).mono ?_; rintro e w1 ⟨rfl, rfl⟩))
    refine bodyPost_ret (results_none (h := Try.results45) _ _ _) rfl ?_
    exact ⟨rfl, rfl⟩
  have HP := hid hp
  clear hp
  have hs : ∀ W, Calls Try.prog 32 #[.slice none 0 0, .func (.func 33) #[] #[]] W fun e w' => e = .returned (.tuple #[]) ∧ w' = W := fun W => by
    go_enter Try.func32, Try.ntmps32
    go_wp2_with (first | (go_at_call 36; refine (Try.bits_Len 0 _ (by omega) (by omega)).mono ?_; rintro e w1 ⟨rfl, rfl⟩) | (go_at_call 45; refine (HP.out _ _).mono ?_; rintro e w1 ⟨rfl, rfl⟩))
    go_end0
    exact ⟨rfl, rfl⟩
  have HS := hid hs
  clear hs
  have hk : ∀ W, Calls Try.prog 34 #[.slice none 0 0] W fun e w' => e = .returned (.slice none 0 0) ∧ w' = W := fun W => by
    go_enter Try.func34, Try.ntmps34
    go_wp2_with fail
    go_ret
    exact ⟨rfl, rfl⟩
  have HK := hid hk
  clear hk
  go_enter Try.func18, Try.ntmps18
  go_wp2_with (first
    | (go_at_call 31; refine (HC.out _).mono ?_; rintro e w1 ⟨rfl, rfl⟩)
    | (go_at_call 32; refine (HS.out _).mono ?_; rintro e w1 ⟨rfl, rfl⟩)
    | (go_at_call 34; refine (HK.out _).mono ?_; rintro e w1 ⟨rfl, rfl⟩))
  go_ret
  exact ⟨rfl, rfl⟩

theorem nsort_own (n0 : Nat) (v : Value) (ks : List Ky) (w : World) (h : KK.Own n0 w v ks) (hl : ks.length ≤ 4000000) :
    Calls Try.prog 18 #[v] w fun e w' => ∃ u, e = .returned u ∧ KK.Own w.heap.size w' u (sortK ks) ∧ Below w.heap.size w w' := by
  rcases h.2 with ⟨rfl, hz⟩ | ⟨g, cap, cur, rfl, _⟩
  · obtain rfl := List.length_eq_zero_iff.1 hz
    refine (nsort_nil w).mono ?_
    rintro e w' ⟨rfl, rfl⟩
    exact ⟨_, rfl, KK.own_nil _ _, Below.refl _ _⟩
  · refine (Z.zsort_any g 0 cap ks w (z_at (Kind.own_at h)) (by omega)).mono ?_
    rintro e w' ⟨u, r, rfl, hr, hm, _, ho, _, hb⟩
    refine ⟨u, rfl, ?_, hb⟩
    have : r = sortK ks := rising_uniqR totK (z_rises hr) (sortK_spec ks).1 fun z => (hm z).trans ((sortK_spec ks).2 z).symm
    rw [← this]
    exact ho

end Go.Proofs.Ytinmagodckkedab

/-
  The contract of Keys of package refs.
-/
namespace Go.Proofs.Ytinmagodckkedab
open Go.RowKit

theorem Try.infoKy : (Try.prog.info? 33).map (fun i => (i.zero, i.size, i.bytes)) = some (some (.agg #[.string ⟨#[]⟩, .string ⟨#[]⟩]), 2, 32) := by kernel_rfl

set_option maxHeartbeats 4000000 in
set_option maxRecDepth 100000 in
theorem keys_any (v : Value) (d : List Fx) (w : World) (hv : IsXs w v d) (hf : FitX d) (hT : (txtsX d).length ≤ 2000000) :
    Calls Try.prog 6 #[v] w fun e w' => ∃ u, e = .returned u ∧ KK.Own w.heap.size w' u (keysF (d.map Fx.fld)) ∧ Below w.heap.size w w' := by
  obtain ⟨i0, hi0, hz0, hz1, hz2⟩ := info_parts Try.infoKy
  have HI := hid hi0
  obtain ⟨p, cap, rfl, hd, ht⟩ := hv
  have HD := hid hd
  have HX := hid ht
  have HF := hid hf.2
  have hl := hf.1
  unfold maxLen at hl
  have HTOT := hid hT
  have HEND := hid (keys_sort (d.map Fx.fld))
  rw [txtsX_flds] at HEND
  clear hd ht hf hi0 hT
  go_enter Try.func6, Try.ntmps6
  go_wp2_with fail
  go_loopg [3, 12] d.length (fun g vs vi wr => ∃ i : Nat, vi = .int .i64 i ∧ i ≤ d.length ∧ d.length - i ≤ g ∧ Hid (Below w.heap.size w wr) ∧ Hid (KK.Own w.heap.size wr vs ((txtsX (d.take i)).filterMap namedT)))
  case atStart => exact ⟨0, rfl, by omega, by omega, Below.refl _ _, KK.own_nil _ _⟩
  case round =>
    obtain ⟨i, rfl, hi, hgk, HB, HO⟩ := hrel
    by_cases hlt : i < d.length
    · have hltz : (i : Int) < (d.length : Int) := by omega
      have hiz : (0 : Int) ≤ i := by omega
      obtain ⟨b, off, rfl, hxs⟩ : ∃ b off, p = some ⟨b, off, none⟩ ∧ XsAt w b off d := by
        rcases HD.out with h | h
        · subst h; simp at hlt
        · exact h
      obtain ⟨c0, c1⟩ := hxs.kept HB.out i hlt
      have hxi : (d[i]).at w := HX.out _ (List.getElem_mem hlt)
      have hfi := HF.out _ (List.getElem_mem hlt)
      have hsu := txtsX_succ d i hlt
      have hpa := txtsX_part d (i + 1)
      have htot := HTOT.out
      obtain ⟨x, hx⟩ : ∃ x, d[i] = x := ⟨_, rfl⟩
      rw [hx] at c0 c1 hxi hfi hsu
      rw [hsu, List.length_append] at hpa
      obtain ⟨nm, p5, c5, ts⟩ := x
      simp only [Fx.at, Fx.sl, Fx.fld] at c0 c1 hxi hfi hsu hpa
      obtain ⟨acc, hacc⟩ : ∃ acc, (txtsX (d.take i)) = acc := ⟨_, rfl⟩
      rw [hacc] at HO hsu hpa
      have hts : acc.length + ts.length ≤ 2000000 := by omega
      have HSU := hid hsu
      have HXI := hid hxi
      have HFI := hid hfi
      have hsz := HB.out.size
      clear hxs hxi hfi hx hsu hpa htot hacc
      have HB1 := hid (HB.out.alloc hsz (.cells #[.string nm, .slice p5 ts.length c5] 41))
      have HO1 := hid (Kind.own_on HO.out ((Below.refl _ wr).alloc (Nat.le_refl _) (.cells #[.string nm, .slice p5 ts.length c5] 41)))
      clear HO
      go_wp2_with fail
      go_loopg [3, 19] ts.length (fun g vs vj wr2 => ∃ j : Nat, vj = .int .i64 j ∧ j ≤ ts.length ∧ ts.length - j ≤ g ∧ Hid (Below w.heap.size w wr2) ∧ Hid (KK.Own w.heap.size wr2 vs ((acc ++ ts.take j).filterMap namedT)))
      case atStart => exact ⟨0, rfl, by omega, by omega, HB1.out, by show KK.Own _ _ _ _; simpa using HO1.out⟩
      case round =>
        obtain ⟨j, rfl, hj, hgj, HBJ, HOJ⟩ := hrel
        by_cases hlj : j < ts.length
        · have hljz : (j : Int) < (ts.length : Int) := by omega
          have hjz : (0 : Int) ≤ j := by omega
          obtain ⟨b2, o2, rfl, ht2⟩ : ∃ b o, p5 = some ⟨b, o, none⟩ ∧ ∀ i, (h : i < ts.length) → w.cell? ⟨b, o + i, none⟩ = some (.string ts[i]) := by
            rcases HXI.out with h | h
            · rw [h] at hlj; simp at hlj
            · exact h
          have t0 : wr.cell? ⟨b2, o2 + j, none⟩ = some (.string ts[j]) := (HBJ.out.cell (p := ⟨b2, o2 + j, none⟩) (cell_block (ht2 j hlj))).trans (ht2 j hlj)
          have htz := HFI.out.2.2 _ (List.getElem_mem hlj)
          have hst : acc ++ ts.take (j + 1) = (acc ++ ts.take j) ++ [ts[j]] := by rw [List.take_succ_eq_append_getElem hlj, List.append_assoc]
          obtain ⟨t, hte⟩ : ∃ t, ts[j] = t := ⟨_, rfl⟩
          rw [hte] at t0 htz hst
          have hal : ((acc ++ ts.take j).filterMap namedT).length ≤ 2000000 := by
            refine Nat.le_trans (List.length_filterMap_le _ _) ?_
            rw [List.length_append, List.length_take]; omega
          obtain ⟨r, bb, hT, hcall⟩ := named_is t htz
          obtain ⟨k1, k2⟩ := r
          simp only at hcall
          have HC := hid hcall
          have hfm : (acc ++ ts.take (j + 1)).filterMap namedT = (acc ++ ts.take j).filterMap namedT ++ (if bb then [(k1, k2)] else []) := by
            rw [hst, List.filterMap_append]
            congr 1
            rcases hT with ⟨h, rfl⟩ | ⟨h, rfl⟩
            · simp [h]
            · simp [h]
          obtain ⟨L, hL⟩ : ∃ L, (acc ++ ts.take j).filterMap namedT = L := ⟨_, rfl⟩
          rw [hL] at HOJ hal hfm
          have HFM := hid hfm
          have hszj := HBJ.out.size
          clear ht2 htz hst hT hcall hfm hte hL
          cases bb with
          | true =>
            go_wp2_with (first
              | (go_at_call 17; refine (HC.out _).mono ?_; rintro e w2 ⟨rfl, hb2⟩; have HB2 := hid ((bel_then HBJ.out hszj hb2).alloc (Nat.le_trans hszj hb2.size) (.cells #[.string k1, .string k2] 33)); have HO2 := hid (Kind.own_on (Kind.own_on HOJ.out hb2) ((Below.refl _ w2).alloc (Nat.le_refl _) (.cells #[.string k1, .string k2] 33))); have hs2 := Nat.le_trans hszj hb2.size; clear hb2)
              | (at_builtin; refine wpList_append_own _ rfl _ _ 28 rfl w.heap.size 33 i0 (.agg #[.string ⟨#[]⟩, .string ⟨#[]⟩]) 2 32 Try.underlying28 HI.out hz0 hz1 hz2 rfl (by decide) _ _ _ rfl (World.ownsRow.alloc HO2.out _) _ 1 1 [.string k1, .string k2] rfl rfl (fun j u hj => KK.newsN (w2.alloc (.cells #[.string k1, .string k2] 33)) (k1, k2) _ (by simp) j u hj) (by intro u hu; simp at hu; rcases hu with rfl | rfl <;> rfl) (by unfold maxLen; omega) (by omega) (by simp; omega) ?_; intro v4 w4 hown4 hg4 hnil4; have HO4 := hid hown4; have HG4 := hid hg4; clear hown4 hg4 hnil4))
            go_roundg (ts.length - (j + 1))
            case measure => omega
            refine ⟨j + 1, by go_num, by omega, by omega, ?_, ?_⟩
            · exact (HB2.out.alloc (by simp; omega) _).grown HG4.out (by simp; omega) (fun k hk => (World.ownsRow.lt HO2.out k hk).1)
            · rw [HFM.out]
              exact Kind.own_snoc HO4.out rfl rfl
          | false =>
            go_wp2_with (first
              | (go_at_call 17; refine (HC.out _).mono ?_; rintro e w2 ⟨rfl, hb2⟩))
            go_roundg (ts.length - (j + 1))
            case measure => omega
            refine ⟨j + 1, by go_num, by omega, by omega, ?_, ?_⟩
            · exact (bel_then HBJ.out hszj hb2).alloc (Nat.le_trans hszj hb2.size) _
            · rw [HFM.out, show L ++ (if false = true then [(k1, k2)] else []) = L by simp]
              exact Kind.own_on (Kind.own_on HOJ.out hb2) ((Below.refl _ w2).alloc (Nat.le_refl _) _)
        · have hljz : ¬ (j : Int) < (ts.length : Int) := by omega
          have hjt : acc ++ ts.take j = txtsX (d.take (i + 1)) := by rw [HSU.out, List.take_of_length_le (by omega)]
          rw [hjt] at HOJ
          clear hjt
          go_wp2_with fail
          go_roundg (d.length - (i + 1))
          case measure => omega
          exact ⟨i + 1, by go_num, by omega, by omega, HBJ.out, HOJ.out⟩
    · have hltz : ¬ (i : Int) < (d.length : Int) := by omega
      have hti : d.take i = d := List.take_of_length_le (by omega)
      rw [hti] at HO
      obtain ⟨L, hL⟩ : ∃ L, (txtsX d).filterMap namedT = L := ⟨_, rfl⟩
      have hLl : L.length ≤ 2000000 := by rw [← hL]; exact Nat.le_trans (List.length_filterMap_le _ _) HTOT.out
      rw [hL] at HO HEND
      have hsz := HB.out.size
      clear hti hL
      go_wp2_with (first
        | (go_at_call 18; refine (nsort_own w.heap.size _ L _ HO.out (by omega)).mono ?_; rintro e w2 ⟨u2, rfl, ho2, hb2⟩; have HO2 := hid ho2; have HB2 := hid hb2; clear ho2 hb2))
      go_ret
      refine ⟨_, rfl, ?_, bel_then HB.out hsz HB2.out⟩
      rw [← HEND.out]
      exact Kind.own_weak HO2.out hsz

end Go.Proofs.Ytinmagodckkedab

/-
  The chapter's examples (stage 5).
-/
namespace Go.Proofs.Ytinmagodckkedab
open Go.RowKit

def fxA : ByteArray := ⟨#[97]⟩
def fxP : ByteArray := ⟨#[42, 80, 97, 116, 105, 101, 110, 116, 47, 112, 49]⟩
def fxX : ByteArray := ⟨#[42, 64, 120]⟩
def fxV : List Fld := [(fxA, [fxP, fxX])]
def fxB : List Bd := [(⟨#[120]⟩, ⟨#[65]⟩, ⟨#[98]⟩)]
def fxK : Ky := (⟨#[80, 97, 116, 105, 101, 110, 116]⟩, ⟨#[112, 49]⟩)

theorem fx_keys : (keysF fxV).length = 1 := by decide
theorem fx_temps : tempsF fxV = [⟨#[120]⟩] := by decide
theorem fx_code : rsCode fxB fxV = 0 := by decide
theorem fx_res : resAns fxB fxV = [(fxA, [fxP, ⟨#[42, 65, 47, 98]⟩])] := by decide
theorem fx_ren : renCode fxK (⟨#[65]⟩, ⟨#[99]⟩) = 0 ∧ renAns fxK (⟨#[65]⟩, ⟨#[99]⟩) fxV = [(fxA, [⟨#[42, 65, 47, 99]⟩, fxX])] := by decide
theorem fx_text : refT (⟨#[65]⟩, ⟨#[98]⟩) = ⟨#[42, 65, 47, 98]⟩ ∧ keyOK (⟨#[65]⟩, ⟨#[98]⟩) = true := by decide
theorem fx_points : pointsB fxV fxK = true := by decide

theorem one_field {o : List Fx} {nm : ByteArray} {ts : List ByteArray} (h : o.map Fx.fld = [(nm, ts)]) : ∃ p c, o = [⟨nm, p, c, ts⟩] := by
  match o, h with
  | [x], h =>
    obtain ⟨n, p, c, t⟩ := x
    simp [Fx.fld] at h
    obtain ⟨rfl, rfl⟩ := h
    exact ⟨p, c, rfl⟩

theorem one_cells {W : World} {u : Value} {nm t1 t2 : ByteArray} {p : Option Addr} {c : Nat} (h : IsXs W u [⟨nm, p, c, [t1, t2]⟩]) :
    ∃ b off cu b2 o2, u = .slice (some ⟨b, off, none⟩) 1 cu ∧ W.cell? ⟨b, off + 1, none⟩ = some (.slice (some ⟨b2, o2, none⟩) 2 c) ∧ W.cell? ⟨b2, o2, none⟩ = some (.string t1) ∧ W.cell? ⟨b2, o2 + 1, none⟩ = some (.string t2) := by
  obtain ⟨pu, cu, rfl, h1, h2⟩ := h
  rcases h1 with h1 | ⟨b, off, rfl, hx⟩
  · cases h1
  · have ht := h2 _ (List.mem_singleton.2 rfl)
    rcases ht with ht | ⟨b2, o2, hp, hc⟩
    · cases ht
    · simp only at hp
      subst hp
      exact ⟨b, off, cu, b2, o2, rfl, (hx 0 (by simp)).2, hc 0 (by simp), hc 1 (by simp)⟩

set_option maxHeartbeats 8000000 in
set_option maxRecDepth 100000 in
theorem rfixed_any (w : World) : Calls Try.prog 4 #[] w fun e w' => e = .returned (.bool true) ∧ Below w.heap.size w w' := by
  obtain ⟨W0, hW0⟩ : ∃ W0, (w.alloc (.cells #[.string ⟨#[42, 80, 97, 116, 105, 101, 110, 116, 47, 112, 49]⟩, .string ⟨#[42, 64, 120]⟩] 9)).alloc (.cells #[.string ⟨#[97]⟩, .slice (some ⟨w.heap.size, 0, none⟩) 2 2] 41) = W0 := ⟨_, rfl⟩
  have hb0 : Below w.heap.size w W0 := by rw [← hW0]; exact ((Below.refl _ _).alloc (Nat.le_refl _) _).alloc (by simp) _
  obtain ⟨d0, hd0⟩ : ∃ d0 : List Fx, d0 = [⟨fxA, some ⟨w.heap.size, 0, none⟩, 2, [fxP, fxX]⟩] := ⟨_, rfl⟩
  have hm0 : d0.map Fx.fld = fxV := by rw [hd0]; rfl
  have hv0 : IsXs W0 (.slice (some ⟨w.heap.size + 1, 0, none⟩) 1 1) d0 := by
    have h1 : W0.heap[w.heap.size]? = some (.cells #[.string fxP, .string fxX] 9 (0, 0)) := by rw [← hW0]; exact (Below.heap_alloc _ _ _ (by simp)).trans (heap_alloc_new w _)
    have h2 : W0.heap[w.heap.size + 1]? = some (.cells #[.string fxA, .slice (some ⟨w.heap.size, 0, none⟩) 2 2] 41 (0, 0)) := by
      rw [← hW0]
      have := heap_alloc_new (w.alloc (.cells #[.string ⟨#[42, 80, 97, 116, 105, 101, 110, 116, 47, 112, 49]⟩, .string ⟨#[42, 64, 120]⟩] 9)) (.cells #[.string ⟨#[97]⟩, .slice (some ⟨w.heap.size, 0, none⟩) 2 2] 41)
      rwa [World.size_alloc] at this
    rw [hd0]
    refine ⟨_, 1, rfl, Or.inr ⟨_, 0, rfl, fun i hi => ?_⟩, fun x hx => ?_⟩
    · have : i = 0 := by simp at hi; omega
      subst this
      rw [Lib.cell_of_heap h2, Lib.cell_of_heap h2]
      exact ⟨rfl, rfl⟩
    · rw [List.mem_singleton.1 hx]
      refine Or.inr ⟨_, 0, rfl, fun i hi => ?_⟩
      rw [Lib.cell_of_heap h1]
      have hi2 : i < 2 := hi
      rcases (show i = 0 ∨ i = 1 by omega) with rfl | rfl <;> rfl
  have hf0 : FitX d0 := by
    rw [hd0]
    refine ⟨show 1 ≤ maxLen by decide, fun x hx => ?_⟩
    rw [List.mem_singleton.1 hx]
    exact ⟨show fxA.size ≤ maxLen by decide, show 2 ≤ maxLen by decide, fun t (ht : t ∈ [fxP, fxX]) => by
      simp only [List.mem_cons, List.not_mem_nil, or_false] at ht
      rcases ht with rfl | rfl <;> decide⟩
  have hc0 : CopyX d0 := by
    rw [hd0]
    refine ⟨show 1 * 40 ≤ 140737488355328 by decide, fun x hx => ?_⟩
    rw [List.mem_singleton.1 hx]
    show 2 * 16 ≤ 140737488355328
    decide
  have ht0 : (txtsX d0).length ≤ 2000000 := by rw [hd0]; show 2 ≤ 2000000; decide
  have HKEY := hid (keys_any _ d0 W0 hv0 hf0 ht0)
  rw [hm0] at HKEY
  have HTMP : Hid (∀ W, Below W0.heap.size W0 W → Calls Try.prog 7 #[.slice (some ⟨w.heap.size + 1, 0, none⟩) 1 1] W fun e w' => ∃ u, e = .returned u ∧ OwnT W.heap.size w' u [⟨#[120]⟩] ∧ Below W.heap.size W w') := fun W hW => by
    have := temps_any _ d0 W (hv0.kept hW) hf0 ht0
    rw [hm0, fx_temps] at this
    exact this
  have HRES : Hid (∀ W, Below W0.heap.size W0 W → ∀ vb, KB.Is W vb fxB → Calls Try.prog 5 #[.slice (some ⟨w.heap.size + 1, 0, none⟩) 1 1, vb] W fun e w' => AnsJ W [(fxA, [fxP, ⟨#[42, 65, 47, 98]⟩])] 0 e w') := fun W hW vb hvb => by
    have := resolve_any _ vb d0 fxB W (hv0.kept hW) hvb hf0 hc0 ht0 ⟨by decide, fun b hb => by rw [List.mem_singleton.1 hb]; exact ⟨by decide, by decide, by decide⟩⟩
    rw [hm0, fx_res, fx_code] at this
    exact this
  have HREN : Hid (∀ W, Below W0.heap.size W0 W → Calls Try.prog 11 #[.slice (some ⟨w.heap.size + 1, 0, none⟩) 1 1, .agg #[.string ⟨#[80, 97, 116, 105, 101, 110, 116]⟩, .string ⟨#[112, 49]⟩], .agg #[.string ⟨#[65]⟩, .string ⟨#[99]⟩]] W fun e w' => AnsJ W [(fxA, [⟨#[42, 65, 47, 99]⟩, fxX])] 0 e w') := fun W hW => by
    have := rename_any _ d0 fxK (⟨#[65]⟩, ⟨#[99]⟩) W (hv0.kept hW) hf0 hc0 (by decide) (by decide) (by decide) (by decide)
    rw [hm0, fx_ren.1, fx_ren.2] at this
    exact this
  have HTX : Hid (∀ W, Calls Try.prog 12 #[.agg #[.string ⟨#[65]⟩, .string ⟨#[98]⟩]] W fun e w' => e = .returned (.tuple #[.string ⟨#[42, 65, 47, 98]⟩, .int .i64 0]) ∧ Below W.heap.size W w') := fun W => by
    have := text_yes (⟨#[65]⟩, ⟨#[98]⟩) W fx_text.2
    rw [fx_text.1] at this
    exact this
  have HPT : Hid (∀ W, Below W0.heap.size W0 W → Calls Try.prog 9 #[.slice (some ⟨w.heap.size + 1, 0, none⟩) 1 1, .agg #[.string ⟨#[80, 97, 116, 105, 101, 110, 116]⟩, .string ⟨#[112, 49]⟩]] W fun e w' => e = .returned (.bool true) ∧ Below W.heap.size W w') := fun W hW => by
    have := points_any _ d0 fxK W (hv0.kept hW) hf0 (by decide) (by decide)
    rw [hm0, fx_points] at this
    exact this
  have HB0 := hid hb0
  clear hv0 hf0 hc0 ht0 hm0 hd0 hb0
  go_enter Try.func4, Try.ntmps4
  go_wp2_with fail
  try rw [hW0]
  refine HKEY.out.mono ?_
  rintro e w1 ⟨u1, rfl, ho1, hq1⟩
  obtain ⟨p1, c1, hu1⟩ := Kind.own_shape ho1
  rw [fx_keys] at hu1
  subst hu1
  have HB1 := hid hq1
  clear ho1 hq1 hW0 HKEY
  go_wp2_with fail
  refine (HTMP.out w1 HB1.out).mono ?_
  rintro e w2 ⟨u2, rfl, ho2, hq2⟩
  have HB2 := hid (bel_then HB1.out HB1.out.size hq2)
  obtain ⟨p2, c2, hu2⟩ := own_slice ho2
  subst hu2
  obtain ⟨b2, o2, hp2, hc2⟩ : ∃ b o, p2 = some ⟨b, o, none⟩ ∧ w2.cell? ⟨b, o, none⟩ = some (.string ⟨#[120]⟩) := by
    rcases OwnT.txtAt ho2 with h | ⟨b, o, h, hc⟩
    · cases h
    · exact ⟨b, o, h, hc 0 (by simp)⟩
  subst hp2
  have HC2 := hid hc2
  clear ho2 hq2 hc2 HTMP
  have HB2a := hid (HB2.out.alloc HB2.out.size (.cells #[.string ⟨#[120]⟩, .string ⟨#[65]⟩, .string ⟨#[98]⟩] 35))
  have HVB : Hid (KB.Is (w2.alloc (.cells #[.string ⟨#[120]⟩, .string ⟨#[65]⟩, .string ⟨#[98]⟩] 35)) (.slice (some ⟨w2.heap.size, 0, none⟩) 1 1) fxB) := by
    refine ⟨_, 1, rfl, Or.inr ⟨_, 0, rfl, fun i hi j u hu => ?_⟩⟩
    have : i = 0 := by simp [fxB] at hi; omega
    subst this
    rw [Lib.cell_of_heap (heap_alloc_new w2 _)]
    have hj : j < 3 := by have := (List.getElem?_eq_some_iff.1 hu).1; exact this
    rcases (show j = 0 ∨ j = 1 ∨ j = 2 by omega) with rfl | rfl | rfl <;> exact hu
  go_wp2_with fail
  refine (HRES.out _ HB2a.out _ HVB.out).mono ?_
  rintro e w3 ⟨u3, o3, rfl, ho3, hm3, hq3⟩
  have HB3 := hid (bel_then HB2a.out HB2a.out.size hq3)
  have HC3 := hid (kept hq3 (kept_new (.cells #[.string ⟨#[120]⟩, .string ⟨#[65]⟩, .string ⟨#[98]⟩] 35) HC2.out))
  obtain ⟨p3, c3, rfl⟩ := one_field hm3
  have HI3 := hid ho3.1.is
  obtain ⟨b3, o3, cu3, b4, o4, hu3, _, _, _⟩ := one_cells HI3.out
  subst hu3
  clear ho3 hm3 hq3 HC2 HVB HRES HB2a HB2
  go_wp2_with fail
  refine (HREN.out w3 HB3.out).mono ?_
  rintro e w4 ⟨u4, o5, rfl, ho4, hm4, hq4⟩
  have HB4 := hid (bel_then HB3.out HB3.out.size hq4)
  have HC4 := hid (kept hq4 HC3.out)
  have HI3b := hid (HI3.out.kept hq4)
  obtain ⟨p4, c4, rfl⟩ := one_field hm4
  have HI4 := hid ho4.1.is
  obtain ⟨b5, o5, cu4, b6, o6, hu4, _, _, _⟩ := one_cells HI4.out
  subst hu4
  clear ho4 hm4 hq4 HC3 HI3 HREN HB3
  go_wp2_with fail
  refine (HTX.out w4).mono ?_
  rintro e w5 ⟨rfl, hq5⟩
  have HB5 := hid (bel_then HB4.out HB4.out.size hq5)
  have x0 := kept hq5 HC4.out
  obtain ⟨_, _, _, b7, o7, he7, y0, _, y1⟩ := one_cells (HI3b.out.kept hq5)
  injection he7 with e1 e2 e3
  injection e1 with e1
  injection e1 with e1 e4
  subst e1 e4 e3
  obtain ⟨_, _, _, b8, o8, he8, z0, z1, _⟩ := one_cells (HI4.out.kept hq5)
  injection he8 with e1 e2 e3
  injection e1 with e1
  injection e1 with e1 e4
  subst e1 e4 e3
  clear hq5 HC4 HI3b HI4 HTX HB4
  go_wp2_with fail
  refine (HPT.out w5 HB5.out).mono ?_
  rintro e w6 ⟨rfl, hq6⟩
  go_wp2_with fail
  go_ret
  exact ⟨rfl, bel_then HB0.out HB0.out.size (bel_then HB5.out HB5.out.size hq6)⟩

end Go.Proofs.Ytinmagodckkedab

/-
  The walk of RefsResolves; what fits.
-/
namespace Go.Proofs.Ytinmagodckkedab
open Go.RowKit

theorem refT_size {k : Ky} (h : keyOK k = true) : (refT k).size ≤ maxLen := by
  obtain ⟨h1, h2⟩ := keyB_sizes (a := k.1) (b := k.2) h
  rw [← ref_cat]
  have e1 : (⟨#[42]⟩ : ByteArray).size = 1 := rfl
  have e2 : (⟨#[47]⟩ : ByteArray).size = 1 := rfl
  simp only [ByteArray.size_append, e1, e2]
  unfold maxLen
  omega

theorem fitF_map {g : ByteArray → ByteArray} (hg : ∀ t : ByteArray, t.size ≤ maxLen → (g t).size ≤ maxLen) {fs : List Fld} (h : ∀ f ∈ fs, FitF f) : ∀ f ∈ mapT g fs, FitF f := by
  intro f hf
  obtain ⟨f0, h0, rfl⟩ := List.mem_map.1 hf
  obtain ⟨h1, h2, h3⟩ := h f0 h0
  exact ⟨h1, by simpa using h2, fun t ht => by
    obtain ⟨t0, ht0, rfl⟩ := List.mem_map.1 ht
    exact hg t0 (h3 t0 ht0)⟩

theorem fit_flds {d : List Fx} (h : FitX d) : ∀ f ∈ d.map Fx.fld, FitF f := fun f hf => by
  obtain ⟨x, hx, rfl⟩ := List.mem_map.1 hf
  exact h.2 x hx

theorem fit_res {d o : List Fx} {bs : List Bd} (h : FitX d) (ho : o.map Fx.fld = resAns bs (d.map Fx.fld)) : FitX o := by
  have hl : o.length = (resAns bs (d.map Fx.fld)).length := by rw [← ho, List.length_map]
  unfold resAns at ho hl
  split at ho
  · next hc =>
    rw [if_pos hc] at hl
    refine fitX_of ho (by rw [hl]; simpa [mapT] using h.1) (fitF_map (fun t ht => ?_) (fit_flds h))
    unfold resT
    split
    · exact ht
    · split
      · next k hk =>
        have := List.all_eq_true.1 hc.1 _ (bound_mem hk)
        simp only [bindOK, Bool.and_eq_true] at this
        exact refT_size this.2
      · exact ht
  · next hc =>
    rw [if_neg hc] at hl
    exact fitX_of ho (by rw [hl]; exact Nat.zero_le _) (fun f hf => by cases hf)

theorem fit_ren {d o : List Fx} {a b : Ky} (h : FitX d) (ho : o.map Fx.fld = renAns a b (d.map Fx.fld)) : FitX o := by
  have hl : o.length = (renAns a b (d.map Fx.fld)).length := by rw [← ho, List.length_map]
  unfold renAns at ho hl
  split at ho
  · next hc =>
    rw [if_pos hc] at hl
    refine fitX_of ho (by rw [hl]; simpa [mapT] using h.1) (fitF_map (fun t ht => ?_) (fit_flds h))
    unfold renT
    split
    · exact refT_size hc.2
    · exact ht
  · next hc =>
    rw [if_neg hc] at hl
    exact fitX_of ho (by rw [hl]; exact Nat.zero_le _) (fun f hf => by cases hf)

theorem int_same (n : Int) : (n == n) = true := by simp
theorem int_differ (n : Int) : (n != n) = false := by simp

end Go.Proofs.Ytinmagodckkedab
