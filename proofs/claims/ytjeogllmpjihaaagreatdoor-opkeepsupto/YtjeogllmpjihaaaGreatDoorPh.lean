/-
  Texts of this claim, one behind the other: Krf Krk Krp Opy Oqm Oqu Oqy Oqz Oqi.
-/
import Derived.Test.YtjeogllmpjihaaaGreatDoorPg
namespace Go.Proofs.YtjeogllmpjihaaaGreatDoor
section
open Go.RowKit
set_option maxHeartbeats 1000000 in
theorem rtype_any (s : ByteArray) (w : World) (hs : s.size ≤ maxLen) :
    Calls Tryz.prog 82 #[.string s] w fun e w' => e = .returned (.bool (typeB s.data.toList)) ∧ w' = w := by
  unfold maxLen at hs
  have HE := hid (spell_empty bigB letB s)
  have HG := hid (spell_long bigB letB s)
  have HF := hid (spell_first bigB letB s)
  have HA := hid (spell_at bigB letB s)
  have HT := hid (spell_true bigB letB s)
  have HB : Hid (typeB s.data.toList = spell bigB letB s.data.toList) := rfl
  go_enter Tryz.func82, Tryz.ntmps82
  go_wp2
  go_loop [3] (fun i => ∃ k : Nat, k ≤ s.size ∧ i = .int .i64 k ∧ (∀ j, j < k → (hj : j < s.size) → (j = 0 → bigB (s[j].toNat : Int) = true) ∧ (1 ≤ j → letB (s[j].toNat : Int) = true))) (fun i => s.size - (intOf i).toNat)
  case atStart => exact ⟨0, by omega, rfl, fun j h => by omega⟩
  case round =>
    obtain ⟨k, hk, rfl, hall⟩ := hrel
    have HL := hid hall
    clear hall
    by_cases hlt : k < s.size
    · rcases Nat.eq_zero_or_pos k with h0 | h0
      · have HZ := hid h0
        have hz : ((k : Int) == 0) = true := by rw [h0]; rfl
        clear h0
        rcases cls_cases (s[k].toNat : Int) with h | h | h | h | h
        all_goals
          have HC := hid h
          clear h
          go_wp2_with (go_at_call 125; refine (class_any _ _).mono ?_; rintro e w' ⟨rfl, rfl⟩; rw [HC.out.1])
          first
          | (go_ret; exact ⟨ret_bool (by rw [HB.out]; have hz' := HZ.out; subst hz'; exact (HF.out hlt (by first | exact HC.out.2.1 | exact HC.out.2.2.1 | exact HC.out.2.2.2.2.1 | exact HC.out.2.2.2.2.2)).symm), rfl⟩)
          | (go_round
             case rel =>
               refine ⟨k + 1, by omega, by go_num, fun j h1 hj => ?_⟩
               have hz' := HZ.out
               have hj0 : j = k := by omega
               subst hj0
               exact ⟨fun _ => (by first | exact HC.out.2.1 | exact HC.out.2.2.1 | exact HC.out.2.2.2.2.1 | exact HC.out.2.2.2.2.2), fun _ => by omega⟩
             case measure => simp [intOf]; omega)
      · have HZ := hid h0
        have hz : ((k : Int) == 0) = false := by rw [beq_eq_false_iff_ne]; omega
        clear h0
        rcases cls_cases (s[k].toNat : Int) with h | h | h | h | h
        all_goals
          have HC := hid h
          clear h
          go_wp2_with (go_at_call 125; refine (class_any _ _).mono ?_; rintro e w' ⟨rfl, rfl⟩; rw [HC.out.1])
          first
          | (go_ret; exact ⟨ret_bool (by rw [HB.out]; exact (HA.out k HZ.out hlt (by first | exact HC.out.2.2.2.1 | exact HC.out.2.2.2.2.1 | exact HC.out.2.2.2.2.2)).symm), rfl⟩)
          | (go_round
             case rel =>
               refine ⟨k + 1, by omega, by go_num, fun j h1 hj => ?_⟩
               by_cases hjk : j = k
               · subst hjk
                 exact ⟨fun e => by have := HZ.out; omega, fun _ => (by first | exact HC.out.2.2.2.1 | exact HC.out.2.2.2.2.1 | exact HC.out.2.2.2.2.2)⟩
               · exact HL.out j (by omega) hj
             case measure => simp [intOf]; omega)
    · have hks : k = s.size := by omega
      rcases Nat.eq_zero_or_pos s.size with hz | hz
      · have hn : ¬ (0 : Int) < (s.size : Int) := by omega
        have HZ := hid hz
        clear hz hks
        go_wp2_with fail
        go_ret
        exact ⟨ret_bool (by rw [HB.out]; exact (HE.out HZ.out).symm), rfl⟩
      · have hn : (0 : Int) < (s.size : Int) := by omega
        by_cases hm : s.size ≤ 32
        · have hm' : (s.size : Int) ≤ 32 := by omega
          have HK := hid hks
          clear hks
          go_wp2_with fail
          go_ret
          refine ⟨ret_bool (by rw [HB.out]; exact (HT.out hz hm ((HL.out 0 (by have := HK.out; omega) hz).1 rfl) (fun j h1 hj => (HL.out j (by have := HK.out; omega) hj).2 h1)).symm), rfl⟩
        · have hm' : ¬ (s.size : Int) ≤ 32 := by omega
          clear hks
          go_wp2_with fail
          go_ret
          exact ⟨ret_bool (by rw [HB.out]; exact (HG.out (by omega)).symm), rfl⟩
set_option maxHeartbeats 1000000 in
theorem riden_any (s : ByteArray) (w : World) (hs : s.size ≤ maxLen) :
    Calls Tryz.prog 120 #[.string s] w fun e w' => e = .returned (.bool (idenB s.data.toList)) ∧ w' = w := by
  unfold maxLen at hs
  have HE := hid (spell_empty idB idB s)
  have HG := hid (spell_long idB idB s)
  have HF := hid (spell_first idB idB s)
  have HA := hid (spell_at idB idB s)
  have HT := hid (spell_true idB idB s)
  have HB : Hid (idenB s.data.toList = spell idB idB s.data.toList) := rfl
  go_enter Tryz.func120, Tryz.ntmps120
  go_wp2
  go_loop [3] (fun i => ∃ k : Nat, k ≤ s.size ∧ i = .int .i64 k ∧ (∀ j, j < k → (hj : j < s.size) → (j = 0 → idB (s[j].toNat : Int) = true) ∧ (1 ≤ j → idB (s[j].toNat : Int) = true))) (fun i => s.size - (intOf i).toNat)
  case atStart => exact ⟨0, by omega, rfl, fun j h => by omega⟩
  case round =>
    obtain ⟨k, hk, rfl, hall⟩ := hrel
    have HL := hid hall
    clear hall
    by_cases hlt : k < s.size
    · rcases Nat.eq_zero_or_pos k with h0 | h0
      · have HZ := hid h0
        have hz : ((k : Int) == 0) = true := by rw [h0]; rfl
        clear h0
        rcases cls_cases (s[k].toNat : Int) with h | h | h | h | h
        all_goals
          have HC := hid h
          clear h
          go_wp2_with (go_at_call 125; refine (class_any _ _).mono ?_; rintro e w' ⟨rfl, rfl⟩; rw [HC.out.1])
          first
          | (go_ret; exact ⟨ret_bool (by rw [HB.out]; have hz' := HZ.out; subst hz'; exact (HF.out hlt (by first | exact HC.out.2.1 | exact HC.out.2.2.1 | exact HC.out.2.2.2.2.1 | exact HC.out.2.2.2.2.2)).symm), rfl⟩)
          | (go_round
             case rel =>
               refine ⟨k + 1, by omega, by go_num, fun j h1 hj => ?_⟩
               have hz' := HZ.out
               have hj0 : j = k := by omega
               subst hj0
               exact ⟨fun _ => (by first | exact HC.out.2.1 | exact HC.out.2.2.1 | exact HC.out.2.2.2.2.1 | exact HC.out.2.2.2.2.2), fun _ => by omega⟩
             case measure => simp [intOf]; omega)
      · have HZ := hid h0
        have hz : ((k : Int) == 0) = false := by rw [beq_eq_false_iff_ne]; omega
        clear h0
        rcases cls_cases (s[k].toNat : Int) with h | h | h | h | h
        all_goals
          have HC := hid h
          clear h
          go_wp2_with (go_at_call 125; refine (class_any _ _).mono ?_; rintro e w' ⟨rfl, rfl⟩; rw [HC.out.1])
          first
          | (go_ret; exact ⟨ret_bool (by rw [HB.out]; exact (HA.out k HZ.out hlt (by first | exact HC.out.2.2.2.1 | exact HC.out.2.2.2.2.1 | exact HC.out.2.2.2.2.2)).symm), rfl⟩)
          | (go_round
             case rel =>
               refine ⟨k + 1, by omega, by go_num, fun j h1 hj => ?_⟩
               by_cases hjk : j = k
               · subst hjk
                 exact ⟨fun e => by have := HZ.out; omega, fun _ => (by first | exact HC.out.2.2.2.1 | exact HC.out.2.2.2.2.1 | exact HC.out.2.2.2.2.2)⟩
               · exact HL.out j (by omega) hj
             case measure => simp [intOf]; omega)
    · have hks : k = s.size := by omega
      rcases Nat.eq_zero_or_pos s.size with hz | hz
      · have hn : ¬ (0 : Int) < (s.size : Int) := by omega
        have HZ := hid hz
        clear hz hks
        go_wp2_with fail
        go_ret
        exact ⟨ret_bool (by rw [HB.out]; exact (HE.out HZ.out).symm), rfl⟩
      · have hn : (0 : Int) < (s.size : Int) := by omega
        by_cases hm : s.size ≤ 32
        · have hm' : (s.size : Int) ≤ 32 := by omega
          have HK := hid hks
          clear hks
          go_wp2_with fail
          go_ret
          refine ⟨ret_bool (by rw [HB.out]; exact (HT.out hz hm ((HL.out 0 (by have := HK.out; omega) hz).1 rfl) (fun j h1 hj => (HL.out j (by have := HK.out; omega) hj).2 h1)).symm), rfl⟩
        · have hm' : ¬ (s.size : Int) ≤ 32 := by omega
          clear hks
          go_wp2_with fail
          go_ret
          exact ⟨ret_bool (by rw [HB.out]; exact (HG.out (by omega)).symm), rfl⟩
set_option maxHeartbeats 1000000 in
theorem rtemp_any (s : ByteArray) (w : World) (hs : s.size ≤ maxLen) :
    Calls Tryz.prog 83 #[.string s] w fun e w' => e = .returned (.bool (tempB s.data.toList)) ∧ w' = w := by
  unfold maxLen at hs
  have HE := hid (spell_empty lodB lodB s)
  have HG := hid (spell_long lodB lodB s)
  have HF := hid (spell_first lodB lodB s)
  have HA := hid (spell_at lodB lodB s)
  have HT := hid (spell_true lodB lodB s)
  have HB : Hid (tempB s.data.toList = spell lodB lodB s.data.toList) := rfl
  go_enter Tryz.func83, Tryz.ntmps83
  go_wp2
  go_loop [3] (fun i => ∃ k : Nat, k ≤ s.size ∧ i = .int .i64 k ∧ (∀ j, j < k → (hj : j < s.size) → (j = 0 → lodB (s[j].toNat : Int) = true) ∧ (1 ≤ j → lodB (s[j].toNat : Int) = true))) (fun i => s.size - (intOf i).toNat)
  case atStart => exact ⟨0, by omega, rfl, fun j h => by omega⟩
  case round =>
    obtain ⟨k, hk, rfl, hall⟩ := hrel
    have HL := hid hall
    clear hall
    by_cases hlt : k < s.size
    · rcases Nat.eq_zero_or_pos k with h0 | h0
      · have HZ := hid h0
        have hz : ((k : Int) == 0) = true := by rw [h0]; rfl
        clear h0
        rcases cls_cases (s[k].toNat : Int) with h | h | h | h | h
        all_goals
          have HC := hid h
          clear h
          go_wp2_with (go_at_call 125; refine (class_any _ _).mono ?_; rintro e w' ⟨rfl, rfl⟩; rw [HC.out.1])
          first
          | (go_ret; exact ⟨ret_bool (by rw [HB.out]; have hz' := HZ.out; subst hz'; exact (HF.out hlt (by first | exact HC.out.2.1 | exact HC.out.2.2.1 | exact HC.out.2.2.2.2.1 | exact HC.out.2.2.2.2.2)).symm), rfl⟩)
          | (go_round
             case rel =>
               refine ⟨k + 1, by omega, by go_num, fun j h1 hj => ?_⟩
               have hz' := HZ.out
               have hj0 : j = k := by omega
               subst hj0
               exact ⟨fun _ => (by first | exact HC.out.2.1 | exact HC.out.2.2.1 | exact HC.out.2.2.2.2.1 | exact HC.out.2.2.2.2.2), fun _ => by omega⟩
             case measure => simp [intOf]; omega)
      · have HZ := hid h0
        have hz : ((k : Int) == 0) = false := by rw [beq_eq_false_iff_ne]; omega
        clear h0
        rcases cls_cases (s[k].toNat : Int) with h | h | h | h | h
        all_goals
          have HC := hid h
          clear h
          go_wp2_with (go_at_call 125; refine (class_any _ _).mono ?_; rintro e w' ⟨rfl, rfl⟩; rw [HC.out.1])
          first
          | (go_ret; exact ⟨ret_bool (by rw [HB.out]; exact (HA.out k HZ.out hlt (by first | exact HC.out.2.2.2.1 | exact HC.out.2.2.2.2.1 | exact HC.out.2.2.2.2.2)).symm), rfl⟩)
          | (go_round
             case rel =>
               refine ⟨k + 1, by omega, by go_num, fun j h1 hj => ?_⟩
               by_cases hjk : j = k
               · subst hjk
                 exact ⟨fun e => by have := HZ.out; omega, fun _ => (by first | exact HC.out.2.2.2.1 | exact HC.out.2.2.2.2.1 | exact HC.out.2.2.2.2.2)⟩
               · exact HL.out j (by omega) hj
             case measure => simp [intOf]; omega)
    · have hks : k = s.size := by omega
      rcases Nat.eq_zero_or_pos s.size with hz | hz
      · have hn : ¬ (0 : Int) < (s.size : Int) := by omega
        have HZ := hid hz
        clear hz hks
        go_wp2_with fail
        go_ret
        exact ⟨ret_bool (by rw [HB.out]; exact (HE.out HZ.out).symm), rfl⟩
      · have hn : (0 : Int) < (s.size : Int) := by omega
        by_cases hm : s.size ≤ 32
        · have hm' : (s.size : Int) ≤ 32 := by omega
          have HK := hid hks
          clear hks
          go_wp2_with fail
          go_ret
          refine ⟨ret_bool (by rw [HB.out]; exact (HT.out hz hm ((HL.out 0 (by have := HK.out; omega) hz).1 rfl) (fun j h1 hj => (HL.out j (by have := HK.out; omega) hj).2 h1)).symm), rfl⟩
        · have hm' : ¬ (s.size : Int) ≤ 32 := by omega
          clear hks
          go_wp2_with fail
          go_ret
          exact ⟨ret_bool (by rw [HB.out]; exact (HG.out (by omega)).symm), rfl⟩
end
section
open Go.RowKit
set_option maxHeartbeats 400000 in
theorem rkey_any (a b:ByteArray) (w:World) (ha:a.size≤maxLen) (hb:b.size≤maxLen) :
  Calls Tryz.prog 78 #[.agg #[.string a,.string b]] w fun e w'=>e=.returned (.bool (keyB a b))∧Below w.heap.size w w':=by
 have HK:Hid (keyB a b=(typeB a.data.toList&&idenB b.data.toList)):=rfl
 cases ht:typeB a.data.toList
 all_goals
  go_enter Tryz.func78,Tryz.ntmps78
  go_wp2_with (first|(go_at_call 82;refine (rtype_any _ _ ha).mono ?_;rintro e w' ⟨rfl,rfl⟩)|(go_at_call 120;refine (riden_any _ _ hb).mono ?_;rintro e w' ⟨rfl,rfl⟩))
  go_ret
  exact ⟨ret_bool (by rw [HK.out,ht];rfl),(Below.refl _ _).alloc (Nat.le_refl _) _⟩
end
section
open Go.RowKit
def Blank (w wr:World):Prop :=
 Below w.heap.size w wr∧wr.cell? ⟨w.heap.size,0,none⟩=some (.string ⟨#[]⟩)∧wr.cell? ⟨w.heap.size,1,none⟩=some (.string ⟨#[]⟩)∧wr.frozen? ⟨w.heap.size,0,none⟩=false∧wr.frozen? ⟨w.heap.size,1,none⟩=false
theorem Blank.on {w W w':World} (h:Blank w W) (hq:Below W.heap.size W w'):Blank w w':=by
 obtain ⟨h0,h1,h2,h3,h4⟩:=h
 have hlt:w.heap.size<W.heap.size:=cell_lt h1
 obtain ⟨_,hf⟩:=bcell hq
 exact ⟨h0.trans (hq.mono h0.size),kept hq h1,kept hq h2,by rw [hf _ _ hlt];exact h3,by rw [hf _ _ hlt];exact h4⟩
set_option maxHeartbeats 1000000 in
theorem krparse_any (s:ByteArray) (w:World) (hs:s.size≤maxLen) (x y:ByteArray) (n:Int)
  (hyes:∀k,(hk:k<s.size)→s[k]=47→keyB (s.extract 0 k) (s.extract (k+1) s.size)=true→x=s.extract 0 k∧y=s.extract (k+1) s.size∧n=0)
  (hno:(∀k,(hk:k<s.size)→s[k]=47→keyB (s.extract 0 k) (s.extract (k+1) s.size)=false)→x=⟨#[]⟩∧y=⟨#[]⟩∧n=2) :
  Calls Tryz.prog 41 #[.string s] w fun e w'=>e=.returned (.tuple #[.agg #[.string x,.string y],.int .i64 n])∧Below w.heap.size w w':=by
 have HS:=hid hs
 have HY:=hid hyes
 have HN:=hid hno
 unfold maxLen at hs
 clear hyes hno
 have hbl:Blank w (w.alloc (.cells #[.string ⟨#[]⟩,.string ⟨#[]⟩] 36)):=by
  refine ⟨(Below.refl _ _).alloc (Nat.le_refl _) _,?_,?_,?_,?_⟩<;>simp [go_sem]
 have HW:=hid hbl
 clear hbl
 go_enter Tryz.func41,Tryz.ntmps41
 go_wp2
 go_loopw [4] (fun i wr=>∃k:Nat,k≤s.size∧i=.int .i64 k∧Blank w wr∧(∀j,j<k→(hj:j<s.size)→s[j]=47→keyB (s.extract 0 j) (s.extract (j+1) s.size)=false)) (fun i _=>s.size-(intOf i).toNat)
 case atStart=>exact ⟨0,by omega,rfl,HW.out,fun j h=>by omega⟩
 case round =>
  obtain ⟨k,hk,rfl,hb0,hall⟩:=hrel
  have HB:=hid hb0
  have HL:=hid hall
  clear hall hb0
  by_cases hlt:k<s.size
  ·by_cases hc:s[k]=47
   ·have hb:((s[k].toNat:Int)==47)=true:=by rw [hc];rfl
    have HC:=hid hc
    clear hc
    have c1:(0:Int)≤↑k:=by omega
    have c2:(↑k:Int)≤↑s.size:=by omega
    have c3:(0:Int)≤↑k+1:=by omega
    have c4:(↑k+1:Int)≤↑s.size:=by omega
    go_wp2_with fail
    go_region
    go_wp2_with fail
    have bl1:=HB.out.on (((Below.refl wr.heap.size wr).alloc (Nat.le_refl _) (.cells #[.string (s.extract 0 k),.string (s.extract (k+1) s.size)] 36)).drew)
    refine (rkey_any _ _ _ (ext_size s 0 k HS.out) (ext_size s (k+1) s.size HS.out)).mono ?_
    rintro o w2 ⟨rfl,hq2⟩
    have bl2:=bl1.on hq2
    have e0:w2.cell? ⟨wr.heap.size,0,none⟩=some (.string (s.extract 0 k)):=kept hq2 (by simp [go_sem])
    have e1:w2.cell? ⟨wr.heap.size,1,none⟩=some (.string (s.extract (k+1) s.size)):=kept hq2 (by simp [go_sem])
    have HB2:=hid bl2
    clear bl1 bl2 hq2
    cases hkb:keyB (s.extract 0 k) (s.extract (k+1) s.size) with
    | true =>
     obtain ⟨rfl,rfl,rfl⟩:=HY.out k hlt HC.out hkb
     obtain ⟨b0,d0,d1,f0,f1⟩:=HB2.out
     go_wp2_with fail
     exact bodyPost_ret (v:=.tuple #[.agg #[.string (s.extract 0 k),.string (s.extract (k+1) s.size)],.int .i64 0]) (by simp [results,Tryz.results41,go_sem,d0,d1]) rfl
      ⟨rfl,(b0.setCell (Nat.le_refl _) _).setCell (Nat.le_refl _) _⟩
    | false =>
     have HK:=hid hkb
     go_wp2_with fail
     refine ⟨⟨k+1,by omega,by go_num,HB2.out,fun j h1 hj=>?_⟩,by simp [intOf];omega⟩
     by_cases hjk:j=k
     ·subst hjk;exact fun _=>HK.out
     ·exact HL.out j (by omega) hj
   ·have hb:((s[k].toNat:Int)==47)=false:=by
     rw [beq_eq_false_iff_ne]
     intro h
     apply hc
     apply UInt8.toNat_inj.1
     have:(47:UInt8).toNat=47:=rfl
     omega
    have HC:=hid hc
    clear hc
    go_wp2
    refine ⟨⟨k+1,by omega,by go_num,HB.out,fun j h1 hj=>?_⟩,by simp [intOf];omega⟩
    by_cases hjk:j=k
    ·subst hjk;exact fun e=>absurd e HC.out
    ·exact HL.out j (by omega) hj
  ·obtain ⟨rfl,rfl,rfl⟩:=HN.out fun j hj=>HL.out j (by omega) hj
   obtain ⟨b0,d0,d1,f0,f1⟩:=HB.out
   go_wp2
   exact bodyPost_ret (v:=.tuple #[.agg #[.string ⟨#[]⟩,.string ⟨#[]⟩],.int .i64 2]) (by simp [results,Tryz.results41,go_sem,d0,d1]) rfl
    ⟨rfl,(b0.setCell (Nat.le_refl _) _).setCell (Nat.le_refl _) _⟩
end
section
open Go.RowKit
structure MayK (w:World) (N:Nat) (x:Ex) (W:World):Prop where
 box:W.heap[N]? = some (.cells (encEx x).toArray 42)
 lt:N<W.heap.size
 bel:Below w.heap.size w W
 ex:ExIn W x
theorem MayK.on {w W W':World} {N:Nat} {x:Ex} (h:MayK w N x W) (hb:Below W.heap.size W W'):MayK w N x W' :=
 ⟨(hb.block N h.lt).trans h.box,Nat.lt_of_lt_of_le h.lt hb.size,bel_then h.bel h.bel.size hb,h.ex.on hb⟩
theorem MayK.cells {w W:World} {N:Nat} {x:Ex} (h:MayK w N x W) :
  W.cell? ⟨N,0,none⟩=some (.int .i64 x.kind)∧W.cell? ⟨N,1,none⟩=some (.string x.temp)∧W.cell? ⟨N,2,none⟩=some (.string x.ka)∧W.cell? ⟨N,3,none⟩=some (.string x.kb)∧W.cell? ⟨N,4,none⟩=some (.int .i64 x.iff)∧W.cell? ⟨N,5,none⟩=some x.vs∧W.cell? ⟨N,6,none⟩=some x.es∧W.cell? ⟨N,7,none⟩=some x.ps∧W.cell? ⟨N,8,none⟩=some (.int .u64 x.stamp)∧W.cell? ⟨N,9,none⟩=some (.int .i64 x.num):=by
 refine ⟨?_,?_,?_,?_,?_,?_,?_,?_,?_,?_⟩<;>(rw [Lib.cell_of_heap h.box];rfl)
theorem mayK_new {w:World} {x:Ex} (h:ExIn w x):MayK w w.heap.size x (w.alloc (.cells (encEx x).toArray 42)) :=
 ⟨heap_alloc_new w _,by simp,(Below.refl _ _).alloc (Nat.le_refl _) _,h.on ((Below.refl _ _).alloc (Nat.le_refl _) _)⟩
theorem name_ne (k:Int) (h1:1≤k) (h2:k≤12):(nameS k).toList.isEmpty=false:=by
 rw [Lib.toList_data]
 unfold nameS nameK
 have:k=1∨k=2∨k=3∨k=4∨k=5∨k=6∨k=7∨k=8∨k=9∨k=10∨k=11∨k=12:=by omega
 rcases this with rfl|rfl|rfl|rfl|rfl|rfl|rfl|rfl|rfl|rfl|rfl|rfl<;>rfl
theorem isEmpty_no16 {s:ByteArray} (h:¬ s=⟨#[]⟩):s.toList.isEmpty=false:=by
 rw [Lib.toList_data]
 cases hq:s.data.toList with
 | nil=>exact absurd (ba_empty hq) h
 | cons _ _=>rfl
set_option maxHeartbeats 4000000 in
set_option maxRecDepth 100000 in
theorem rmay16_out (x:Ex) (w:World) (h:ExIn w x) (hr:¬ (1≤x.kind∧x.kind≤12)) :
  Calls Tryz.prog 44 #[aggEx x] w fun e w'=>e=.returned (.bool (mayEn x.en))∧Below w.heap.size w w':=by
 have HK:=hid (mayK_new h)
 have HN:=hid fun W=>rname16_no x.kind W (by omega)
 have HF:Hid (mayEn x.en=false):=by
  show _=_
  cases hm:mayEn x.en with
  | false=>rfl
  | true=>exact absurd ⟨(mayEn_parts hm).k1,(mayEn_parts hm).k2⟩ hr
 obtain ⟨c0,-⟩:=HK.out.cells
 unfold aggEx
 simp only [encEx,Ex.vs,Ex.es,Ex.ps] at HK c0 ⊢
 go_enter Tryz.func44,Tryz.ntmps44
 go_wp2_with (first|(go_at_call 39;refine (HN.out _).mono ?_;rintro e w1 ⟨rfl,q1⟩))
 go_ret
 rw [HF.out]
 exact ⟨rfl,bel_then HK.out.bel HK.out.bel.size q1⟩
end
section
open Go.RowKit Go.Lib
def normalB (p:List Tm):Bool:=decide (mayM p=0)&&decide (sortM p=p)
theorem ansM_le (p:List Tm) (h:p.length≤maxLen):(ansM p).length≤maxLen:=by
 unfold ansM
 split
 ·exact Nat.le_trans (sortM_len p) h
 ·exact Nat.zero_le _
set_option maxHeartbeats 1000000 in
theorem normal_any (v:Value) (p:List Tm) (w:World) (hv:KM.Is w v p) (hf:FitM p) :
  Calls Tryz.prog 99 #[v] w fun e w'=>e=.returned (.bool (normalB p))∧Below w.heap.size w w':=by
 have HV:=hid hv
 have HN:=hid (pnorm_any v p w hv hf)
 clear hv
 go_enter Tryz.func99,Tryz.ntmps99
 go_wp2_with fail
 refine HN.out.mono ?_
 rintro e w1 ⟨⟨u,rfl,ho⟩,hb⟩
 have HB1:=hid hb
 have HE:=hid (pequal_any u v (ansM p) p w1 (Kind.own_is ho) (Kind.is_kept HV.out hb) (ansM_le p hf.1) hf.1)
 clear ho hb
 by_cases hm:mayM p=0
 ·have HA:Hid (decide (ansM p=p)=normalB p):=hid (by unfold normalB ansM;rw [if_pos hm,hm];simp)
  have HM:=hid hm
  rw [hm]
  clear hm
  go_wp2_with (go_at_call 59;refine HE.out.mono ?_;rintro e w2 ⟨rfl,hb2⟩;have HB2:=hid hb2;clear hb2)
  go_ret
  exact ⟨by rw [←HA.out];rfl,HB1.out.trans (HB2.out.mono HB1.out.size)⟩
 ·have hq:(mayM p==0)=false:=beq_eq_false_iff_ne.2 hm
  have HA:Hid (normalB p=false):=hid (by unfold normalB;simp [hm])
  go_wp2_with fail
  go_ret
  exact ⟨by rw [HA.out];rfl,HB1.out⟩
def fitPt (e:En) (p:Nat):Bool :=
 if p=1 then decide (e.temp=⟨#[]⟩)||tempB e.temp.data.toList
 else if p=2 then keyB e.ka e.kb
 else if p=3 then typeB e.ka.data.toList&&decide (e.kb=⟨#[]⟩)
 else if p=4 then decide (0≤e.iff)&&decide (e.iff≤999999999)
 else if p=5 then mayB e.val
 else if p=7 then normalB e.pred
 else if p=8 then !e.eds.isEmpty&&decide (mayE e.eds=0)
 else if p=9 then decide (0≤e.num)&&decide (e.num≤999999999)
 else true
set_option maxHeartbeats 4000000 in
theorem opfits_any (x:Ex) (p:Nat) (w:World) (hx:ExIn w x) (h1:1≤p) (h2:p≤10) :
  Calls Tryz.prog 55 #[aggEx x,.int .i64 p] w fun e w'=>e=.returned (.bool (fitPt x.en p))∧Below w.heap.size w w':=by
 have HK:=hid (mayK_new hx)
 have HX:=hid hx
 have hm:x.temp.size≤maxLen:=hx.temp
 have ha:x.ka.size≤maxLen:=hx.ka
 have hbk:x.kb.size≤maxLen:=hx.kb
 unfold aggEx
 have HKB:=hid HK.out.bel
 have HMY:=hid (may_any x.vs x.vo _ HK.out.ex.val HK.out.ex.fit)
 have HME:=hid (pmayE_raw x.es x.eo _ HK.out.ex.eds HK.out.ex.efit)
 have HNM:=hid (normal_any x.ps x.po _ HK.out.ex.prd HK.out.ex.pfit)
 simp only [encEx,Ex.vs,Ex.es,Ex.ps] at HK HKB HMY HME HNM ⊢
 clear hx
 have hp:p=1∨p=2∨p=3∨p=4∨p=5∨p=6∨p=7∨p=8∨p=9∨p=10:=by omega
 rcases hp with rfl|rfl|rfl|rfl|rfl|rfl|rfl|rfl|rfl|rfl
 ·by_cases ht:x.temp=⟨#[]⟩
  ·have hse:x.temp.toList.isEmpty=true:=by rw [ht,toList_data];rfl
   have HE:Hid (fitPt x.en 1=true):=hid (by show (decide (x.temp=⟨#[]⟩)||tempB x.temp.data.toList)=true;rw [ht];rfl)
   clear ht
   go_enter Tryz.func55,Tryz.ntmps55
   go_wp2_with fail
   go_ret
   exact ⟨by rw [HE.out];rfl,HKB.out⟩
  ·have hse:x.temp.toList.isEmpty=false:=by
    rw [toList_data]
    cases hl:x.temp.data.toList with
    | nil=>exact absurd (ba_nil hl) ht
    | cons _ _=>rfl
   have HE:Hid (fitPt x.en 1=tempB x.temp.data.toList):=hid (by show (decide (x.temp=⟨#[]⟩)||tempB x.temp.data.toList)=_;simp [ht])
   clear ht
   go_enter Tryz.func55,Tryz.ntmps55
   go_wp2_with (go_at_call 68;refine (temp_any x.temp _ hm).mono ?_;rintro e w1 ⟨rfl,rfl⟩)
   go_ret
   exact ⟨by rw [HE.out];rfl,HKB.out⟩
 ·go_enter Tryz.func55,Tryz.ntmps55
  go_wp2_with (go_at_call 97;refine (key_any x.ka x.kb _ ha hbk).mono ?_;rintro e w1 ⟨rfl,hb1⟩;have HB1:=hid hb1;clear hb1)
  go_ret
  exact ⟨rfl,HKB.out.trans (HB1.out.mono HKB.out.size)⟩
 ·by_cases ht:x.kb=⟨#[]⟩
  ·have hse:x.kb.toList.isEmpty=true:=by rw [ht,toList_data];rfl
   have HE:Hid (fitPt x.en 3=typeB x.ka.data.toList):=hid (by show (typeB x.ka.data.toList&&decide (x.kb=⟨#[]⟩))=_;simp [ht])
   clear ht
   cases hty:typeB x.ka.data.toList
   all_goals
    go_enter Tryz.func55,Tryz.ntmps55
    go_wp2_with (go_at_call 70;refine (type_any x.ka _ ha).mono ?_;rintro e w1 ⟨rfl,rfl⟩;rw [hty])
    go_ret
    exact ⟨by rw [HE.out,hty];rfl,HKB.out⟩
  ·have hse:x.kb.toList.isEmpty=false:=by
    rw [toList_data]
    cases hl:x.kb.data.toList with
    | nil=>exact absurd (ba_nil hl) ht
    | cons _ _=>rfl
   have HE:Hid (fitPt x.en 3=false):=hid (by show (typeB x.ka.data.toList&&decide (x.kb=⟨#[]⟩))=_;simp [ht])
   clear ht
   cases hty:typeB x.ka.data.toList
   all_goals
    go_enter Tryz.func55,Tryz.ntmps55
    go_wp2_with (go_at_call 70;refine (type_any x.ka _ ha).mono ?_;rintro e w1 ⟨rfl,rfl⟩;rw [hty])
    go_ret
    exact ⟨by rw [HE.out];rfl,HKB.out⟩
 ·by_cases h0:0≤x.iff
  ·go_enter Tryz.func55,Tryz.ntmps55
   go_wp2_with fail
   go_ret
   exact ⟨by show _=Ending.returned (.bool (decide (0≤x.iff)&&decide (x.iff≤999999999)));simp [h0],HKB.out⟩
  ·have H0:=hid h0
   go_enter Tryz.func55,Tryz.ntmps55
   go_wp2_with fail
   go_ret
   exact ⟨by show _=Ending.returned (.bool (decide (0≤x.iff)&&decide (x.iff≤999999999)));have h9:¬ 0≤x.iff:=Int.not_le.2 H0.out;simp [h9],HKB.out⟩
 ·go_enter Tryz.func55,Tryz.ntmps55
  go_wp2_with (go_at_call 98;refine HMY.out.mono ?_;rintro e w1 ⟨rfl,hb1⟩;have HB1:=hid hb1.below;clear hb1)
  go_ret
  exact ⟨rfl,HKB.out.trans (HB1.out.mono HKB.out.size)⟩
 ·go_enter Tryz.func55,Tryz.ntmps55
  go_wp2_with fail
  go_ret
  exact ⟨rfl,HKB.out⟩
 ·go_enter Tryz.func55,Tryz.ntmps55
  go_wp2_with (go_at_call 99;refine HNM.out.mono ?_;rintro e w1 ⟨rfl,hb1⟩;have HB1:=hid hb1;clear hb1)
  go_ret
  exact ⟨rfl,HKB.out.trans (HB1.out.mono HKB.out.size)⟩
 ·by_cases h0:x.eo=[]
  ·have HE:Hid (fitPt x.en 8=false):=hid (by show (!x.eo.isEmpty&&decide (mayE x.eo=0))=_;rw [h0];rfl)
   have hl:¬ (0:Int)<(x.eo.length:Int):=by rw [h0];simp
   clear h0
   go_enter Tryz.func55,Tryz.ntmps55
   go_wp2_with fail
   go_ret
   exact ⟨by rw [HE.out];rfl,HKB.out⟩
  ·have hl:(0:Int)<(x.eo.length:Int):=by have:=List.length_pos_iff.2 h0;omega
   have HE:Hid (fitPt x.en 8=(mayE x.eo==0)):=hid (by
    show (!x.eo.isEmpty&&decide (mayE x.eo=0))=_
    cases hq:x.eo with
    | nil=>exact absurd hq h0
    | cons a b=>simp;rfl)
   clear h0
   go_enter Tryz.func55,Tryz.ntmps55
   go_wp2_with (go_at_call 100;refine HME.out.mono ?_;rintro e w1 ⟨rfl,hb1⟩;have HB1:=hid hb1;clear hb1)
   go_ret
   exact ⟨by rw [HE.out];rfl,HKB.out.trans (HB1.out.mono HKB.out.size)⟩
 ·by_cases h0:0≤x.num
  ·go_enter Tryz.func55,Tryz.ntmps55
   go_wp2_with fail
   go_ret
   exact ⟨by show _=Ending.returned (.bool (decide (0≤x.num)&&decide (x.num≤999999999)));simp [h0],HKB.out⟩
  ·have H0:=hid h0
   go_enter Tryz.func55,Tryz.ntmps55
   go_wp2_with fail
   go_ret
   exact ⟨by show _=Ending.returned (.bool (decide (0≤x.num)&&decide (x.num≤999999999)));have h9:¬ 0≤x.num:=Int.not_le.2 H0.out;simp [h9],HKB.out⟩
 ·go_enter Tryz.func55,Tryz.ntmps55
  go_wp2_with fail
  go_ret
  exact ⟨rfl,HKB.out⟩
def wout (x:Ex) (p:Nat):Ex :=
 if p=1 then { x with temp:=⟨#[]⟩ }
 else if p=2∨p=3 then { x with ka:=⟨#[]⟩,kb:=⟨#[]⟩ }
 else if p=4 then { x with iff:=0 }
 else if p=5 then { x with vp:=none,vc:=0,vo:=[] }
 else if p=7 then { x with pp:=none,pc:=0,po:=[] }
 else if p=8 then { x with ep:=none,ec:=0,eo:=[] }
 else if p=9 then { x with num:=0 }
 else if p=10 then { x with stamp:=0 }
 else x
theorem w0_facts (w:World) (x:Ex) (W:World) (h:((w.alloc (.cells #[.int .i64 x.kind,.string x.temp,.string x.ka,.string x.kb,.int .i64 x.iff,.slice x.vp x.vo.length x.vc,.slice x.ep x.eo.length x.ec,.slice x.pp x.po.length x.pc,.int .u64 x.stamp,.int .i64 x.num] 42)).alloc (.cells #[.int .i64 0,.string ⟨#[]⟩,.string ⟨#[]⟩,.string ⟨#[]⟩,.int .i64 0,.slice none 0 0,.slice none 0 0,.slice none 0 0,.int .u64 0,.int .i64 0] 42))=W) :
  W.heap[w.heap.size]? = some (.cells #[.int .i64 x.kind,.string x.temp,.string x.ka,.string x.kb,.int .i64 x.iff,.slice x.vp x.vo.length x.vc,.slice x.ep x.eo.length x.ec,.slice x.pp x.po.length x.pc,.int .u64 x.stamp,.int .i64 x.num] 42 (0,0))∧W.heap[w.heap.size+1]? = some (.cells #[.int .i64 0,.string ⟨#[]⟩,.string ⟨#[]⟩,.string ⟨#[]⟩,.int .i64 0,.slice none 0 0,.slice none 0 0,.slice none 0 0,.int .u64 0,.int .i64 0] 42 (0,0))∧Below w.heap.size w W:=by
 subst h
 refine ⟨?_,?_,((Below.refl _ _).alloc (Nat.le_refl _) _).alloc (by simp) _⟩
 ·rw [Below.heap_alloc _ _ _ (by simp)];exact heap_alloc_new w _
 ·have:=heap_alloc_new (w.alloc (.cells #[.int .i64 x.kind,.string x.temp,.string x.ka,.string x.kb,.int .i64 x.iff,.slice x.vp x.vo.length x.vc,.slice x.ep x.eo.length x.ec,.slice x.pp x.po.length x.pc,.int .u64 x.stamp,.int .i64 x.num] 42)) (.cells #[.int .i64 0,.string ⟨#[]⟩,.string ⟨#[]⟩,.string ⟨#[]⟩,.int .i64 0,.slice none 0 0,.slice none 0 0,.slice none 0 0,.int .u64 0,.int .i64 0] 42)
  simpa using this
set_option maxHeartbeats 4000000 in
theorem without1 (x:Ex) (w:World):Calls Tryz.prog 56 #[aggEx x,.int .i64 1] w fun e w'=>e=.returned (aggEx (wout x 1))∧Below w.heap.size w w':=by
 unfold aggEx
 simp only [encEx,Ex.vs,Ex.es,Ex.ps]
 obtain ⟨W,hW⟩:∃W,((w.alloc (.cells #[.int .i64 x.kind,.string x.temp,.string x.ka,.string x.kb,.int .i64 x.iff,.slice x.vp x.vo.length x.vc,.slice x.ep x.eo.length x.ec,.slice x.pp x.po.length x.pc,.int .u64 x.stamp,.int .i64 x.num] 42)).alloc (.cells #[.int .i64 0,.string ⟨#[]⟩,.string ⟨#[]⟩,.string ⟨#[]⟩,.int .i64 0,.slice none 0 0,.slice none 0 0,.slice none 0 0,.int .u64 0,.int .i64 0] 42))=W:=⟨_,rfl⟩
 obtain ⟨b0,b1,hb⟩:=w0_facts w x W hW
 have c0:(W.setCell ⟨w.heap.size,1,none⟩ (.string ⟨#[]⟩)).heap[w.heap.size]? = some (.cells #[.int .i64 x.kind,.string ⟨#[]⟩,.string x.ka,.string x.kb,.int .i64 x.iff,.slice x.vp x.vo.length x.vc,.slice x.ep x.eo.length x.ec,.slice x.pp x.po.length x.pc,.int .u64 x.stamp,.int .i64 x.num] 42 (0,0)):=heap_setCell_same _ w.heap.size 1 _ _ (.string ⟨#[]⟩) b0
 have r1:(W.setCell ⟨w.heap.size,1,none⟩ (.string ⟨#[]⟩)).heap[w.heap.size+1]? = some (.cells #[.int .i64 0,.string ⟨#[]⟩,.string ⟨#[]⟩,.string ⟨#[]⟩,.int .i64 0,.slice none 0 0,.slice none 0 0,.slice none 0 0,.int .u64 0,.int .i64 0] 42 (0,0)):=((Below.heap_setCell _ _ _ _ (by show w.heap.size+1≠w.heap.size;omega)).trans b1)
 obtain ⟨W1,hW1⟩:∃W1,(W.setCell ⟨w.heap.size,1,none⟩ (.string ⟨#[]⟩))=W1:=⟨_,rfl⟩
 rw [hW1] at c0 r1
 obtain ⟨WZ,hWZ⟩:∃WZ,((((((((((W1.setCell ⟨w.heap.size+1,0,none⟩ (.int .i64 x.kind)).setCell ⟨w.heap.size+1,1,none⟩ (.string ⟨#[]⟩)).setCell ⟨w.heap.size+1,2,none⟩ (.string x.ka)).setCell ⟨w.heap.size+1,3,none⟩ (.string x.kb)).setCell ⟨w.heap.size+1,4,none⟩ (.int .i64 x.iff)).setCell ⟨w.heap.size+1,5,none⟩ (.slice x.vp x.vo.length x.vc)).setCell ⟨w.heap.size+1,6,none⟩ (.slice x.ep x.eo.length x.ec)).setCell ⟨w.heap.size+1,7,none⟩ (.slice x.pp x.po.length x.pc)).setCell ⟨w.heap.size+1,8,none⟩ (.int .u64 x.stamp)).setCell ⟨w.heap.size+1,9,none⟩ (.int .i64 x.num))=WZ:=⟨_,rfl⟩
 obtain ⟨bz,fz⟩:=out_ten r1 _ _ _ _ _ _ _ _ _ _ hWZ
 have hbW:Below w.heap.size w W1:=by rw [←hW1];exact (hb.setCell (p:=⟨w.heap.size,1,none⟩) (Nat.le_refl _) (.string ⟨#[]⟩))
 have HFIN:Hid (Ending.returned (.agg #[.int .i64 x.kind,.string ⟨#[]⟩,.string x.ka,.string x.kb,.int .i64 x.iff,.slice x.vp x.vo.length x.vc,.slice x.ep x.eo.length x.ec,.slice x.pp x.po.length x.pc,.int .u64 x.stamp,.int .i64 x.num])=.returned (.agg (encEx (wout x 1)).toArray)∧Below w.heap.size w WZ):=hid ⟨rfl,hbW.trans (fz.below hbW.size fun k hk=>by omega)⟩
 have s0:W.cell? ⟨w.heap.size,1,none⟩=some (.string x.temp):=cz b0
 have f0:=Lib.frozen_of_heap b0 1
 have k0:(W.setCell ⟨w.heap.size,1,none⟩ (.string ⟨#[]⟩)).heap[w.heap.size]? = some (.cells #[.int .i64 x.kind,.string ⟨#[]⟩,.string x.ka,.string x.kb,.int .i64 x.iff,.slice x.vp x.vo.length x.vc,.slice x.ep x.eo.length x.ec,.slice x.pp x.po.length x.pc,.int .u64 x.stamp,.int .i64 x.num] 42 (0,0)):=heap_setCell_same _ w.heap.size 1 _ _ (.string ⟨#[]⟩) b0
 have l0:W1.cell? ⟨w.heap.size,0,none⟩=some (.int .i64 x.kind):=cz c0
 have l1:W1.cell? ⟨w.heap.size,1,none⟩=some (.string ⟨#[]⟩):=cz c0
 have l2:W1.cell? ⟨w.heap.size,2,none⟩=some (.string x.ka):=cz c0
 have l3:W1.cell? ⟨w.heap.size,3,none⟩=some (.string x.kb):=cz c0
 have l4:W1.cell? ⟨w.heap.size,4,none⟩=some (.int .i64 x.iff):=cz c0
 have l5:W1.cell? ⟨w.heap.size,5,none⟩=some (.slice x.vp x.vo.length x.vc):=cz c0
 have l6:W1.cell? ⟨w.heap.size,6,none⟩=some (.slice x.ep x.eo.length x.ec):=cz c0
 have l7:W1.cell? ⟨w.heap.size,7,none⟩=some (.slice x.pp x.po.length x.pc):=cz c0
 have l8:W1.cell? ⟨w.heap.size,8,none⟩=some (.int .u64 x.stamp):=cz c0
 have l9:W1.cell? ⟨w.heap.size,9,none⟩=some (.int .i64 x.num):=cz c0
 have y0:W1.cell? ⟨w.heap.size+1,0,none⟩=some (.int .i64 0):=cz r1
 have z0:=Lib.frozen_of_heap r1 0
 have y1:W1.cell? ⟨w.heap.size+1,1,none⟩=some (.string ⟨#[]⟩):=cz r1
 have z1:=Lib.frozen_of_heap r1 1
 have y2:W1.cell? ⟨w.heap.size+1,2,none⟩=some (.string ⟨#[]⟩):=cz r1
 have z2:=Lib.frozen_of_heap r1 2
 have y3:W1.cell? ⟨w.heap.size+1,3,none⟩=some (.string ⟨#[]⟩):=cz r1
 have z3:=Lib.frozen_of_heap r1 3
 have y4:W1.cell? ⟨w.heap.size+1,4,none⟩=some (.int .i64 0):=cz r1
 have z4:=Lib.frozen_of_heap r1 4
 have y5:W1.cell? ⟨w.heap.size+1,5,none⟩=some (.slice none 0 0):=cz r1
 have z5:=Lib.frozen_of_heap r1 5
 have y6:W1.cell? ⟨w.heap.size+1,6,none⟩=some (.slice none 0 0):=cz r1
 have z6:=Lib.frozen_of_heap r1 6
 have y7:W1.cell? ⟨w.heap.size+1,7,none⟩=some (.slice none 0 0):=cz r1
 have z7:=Lib.frozen_of_heap r1 7
 have y8:W1.cell? ⟨w.heap.size+1,8,none⟩=some (.int .u64 0):=cz r1
 have z8:=Lib.frozen_of_heap r1 8
 have y9:W1.cell? ⟨w.heap.size+1,9,none⟩=some (.int .i64 0):=cz r1
 have z9:=Lib.frozen_of_heap r1 9
 have g0:WZ.cell? ⟨w.heap.size+1,0,none⟩=some (.int .i64 x.kind):=cz bz
 have g1:WZ.cell? ⟨w.heap.size+1,1,none⟩=some (.string ⟨#[]⟩):=cz bz
 have g2:WZ.cell? ⟨w.heap.size+1,2,none⟩=some (.string x.ka):=cz bz
 have g3:WZ.cell? ⟨w.heap.size+1,3,none⟩=some (.string x.kb):=cz bz
 have g4:WZ.cell? ⟨w.heap.size+1,4,none⟩=some (.int .i64 x.iff):=cz bz
 have g5:WZ.cell? ⟨w.heap.size+1,5,none⟩=some (.slice x.vp x.vo.length x.vc):=cz bz
 have g6:WZ.cell? ⟨w.heap.size+1,6,none⟩=some (.slice x.ep x.eo.length x.ec):=cz bz
 have g7:WZ.cell? ⟨w.heap.size+1,7,none⟩=some (.slice x.pp x.po.length x.pc):=cz bz
 have g8:WZ.cell? ⟨w.heap.size+1,8,none⟩=some (.int .u64 x.stamp):=cz bz
 have g9:WZ.cell? ⟨w.heap.size+1,9,none⟩=some (.int .i64 x.num):=cz bz
 clear bz fz b0 b1 r1 hb hbW c0 k0
 go_enter Tryz.func56,Tryz.ntmps56
 go_upto_region 3 with fail
 try rw [hW]
 go_upto_region 19 with fail
 try rw [hW1]
 go_wp2_with fail
 try rw [hWZ]
 exact bodyPost_ret (v:=.agg #[.int .i64 x.kind,.string ⟨#[]⟩,.string x.ka,.string x.kb,.int .i64 x.iff,.slice x.vp x.vo.length x.vc,.slice x.ep x.eo.length x.ec,.slice x.pp x.po.length x.pc,.int .u64 x.stamp,.int .i64 x.num]) (by simp [results,Tryz.results56,go_sem,g0,g1,g2,g3,g4,g5,g6,g7,g8,g9]) rfl HFIN.out
set_option maxHeartbeats 4000000 in
theorem without2 (x:Ex) (w:World):Calls Tryz.prog 56 #[aggEx x,.int .i64 2] w fun e w'=>e=.returned (aggEx (wout x 2))∧Below w.heap.size w w':=by
 unfold aggEx
 simp only [encEx,Ex.vs,Ex.es,Ex.ps]
 obtain ⟨W,hW⟩:∃W,((w.alloc (.cells #[.int .i64 x.kind,.string x.temp,.string x.ka,.string x.kb,.int .i64 x.iff,.slice x.vp x.vo.length x.vc,.slice x.ep x.eo.length x.ec,.slice x.pp x.po.length x.pc,.int .u64 x.stamp,.int .i64 x.num] 42)).alloc (.cells #[.int .i64 0,.string ⟨#[]⟩,.string ⟨#[]⟩,.string ⟨#[]⟩,.int .i64 0,.slice none 0 0,.slice none 0 0,.slice none 0 0,.int .u64 0,.int .i64 0] 42))=W:=⟨_,rfl⟩
 obtain ⟨b0,b1,hb⟩:=w0_facts w x W hW
 have c0:(W.setCell ⟨w.heap.size,2,none⟩ (.string ⟨#[]⟩)).heap[w.heap.size]? = some (.cells #[.int .i64 x.kind,.string x.temp,.string ⟨#[]⟩,.string x.kb,.int .i64 x.iff,.slice x.vp x.vo.length x.vc,.slice x.ep x.eo.length x.ec,.slice x.pp x.po.length x.pc,.int .u64 x.stamp,.int .i64 x.num] 42 (0,0)):=heap_setCell_same _ w.heap.size 2 _ _ (.string ⟨#[]⟩) b0
 have c1:((W.setCell ⟨w.heap.size,2,none⟩ (.string ⟨#[]⟩)).setCell ⟨w.heap.size,3,none⟩ (.string ⟨#[]⟩)).heap[w.heap.size]? = some (.cells #[.int .i64 x.kind,.string x.temp,.string ⟨#[]⟩,.string ⟨#[]⟩,.int .i64 x.iff,.slice x.vp x.vo.length x.vc,.slice x.ep x.eo.length x.ec,.slice x.pp x.po.length x.pc,.int .u64 x.stamp,.int .i64 x.num] 42 (0,0)):=heap_setCell_same _ w.heap.size 3 _ _ (.string ⟨#[]⟩) c0
 have r1:((W.setCell ⟨w.heap.size,2,none⟩ (.string ⟨#[]⟩)).setCell ⟨w.heap.size,3,none⟩ (.string ⟨#[]⟩)).heap[w.heap.size+1]? = some (.cells #[.int .i64 0,.string ⟨#[]⟩,.string ⟨#[]⟩,.string ⟨#[]⟩,.int .i64 0,.slice none 0 0,.slice none 0 0,.slice none 0 0,.int .u64 0,.int .i64 0] 42 (0,0)):=((Below.heap_setCell _ _ _ _ (by show w.heap.size+1≠w.heap.size;omega)).trans ((Below.heap_setCell _ _ _ _ (by show w.heap.size+1≠w.heap.size;omega)).trans b1))
 obtain ⟨W1,hW1⟩:∃W1,((W.setCell ⟨w.heap.size,2,none⟩ (.string ⟨#[]⟩)).setCell ⟨w.heap.size,3,none⟩ (.string ⟨#[]⟩))=W1:=⟨_,rfl⟩
 rw [hW1] at c1 r1
 obtain ⟨WZ,hWZ⟩:∃WZ,((((((((((W1.setCell ⟨w.heap.size+1,0,none⟩ (.int .i64 x.kind)).setCell ⟨w.heap.size+1,1,none⟩ (.string x.temp)).setCell ⟨w.heap.size+1,2,none⟩ (.string ⟨#[]⟩)).setCell ⟨w.heap.size+1,3,none⟩ (.string ⟨#[]⟩)).setCell ⟨w.heap.size+1,4,none⟩ (.int .i64 x.iff)).setCell ⟨w.heap.size+1,5,none⟩ (.slice x.vp x.vo.length x.vc)).setCell ⟨w.heap.size+1,6,none⟩ (.slice x.ep x.eo.length x.ec)).setCell ⟨w.heap.size+1,7,none⟩ (.slice x.pp x.po.length x.pc)).setCell ⟨w.heap.size+1,8,none⟩ (.int .u64 x.stamp)).setCell ⟨w.heap.size+1,9,none⟩ (.int .i64 x.num))=WZ:=⟨_,rfl⟩
 obtain ⟨bz,fz⟩:=out_ten r1 _ _ _ _ _ _ _ _ _ _ hWZ
 have hbW:Below w.heap.size w W1:=by rw [←hW1];exact ((hb.setCell (p:=⟨w.heap.size,2,none⟩) (Nat.le_refl _) (.string ⟨#[]⟩)).setCell (p:=⟨w.heap.size,3,none⟩) (Nat.le_refl _) (.string ⟨#[]⟩))
 have HFIN:Hid (Ending.returned (.agg #[.int .i64 x.kind,.string x.temp,.string ⟨#[]⟩,.string ⟨#[]⟩,.int .i64 x.iff,.slice x.vp x.vo.length x.vc,.slice x.ep x.eo.length x.ec,.slice x.pp x.po.length x.pc,.int .u64 x.stamp,.int .i64 x.num])=.returned (.agg (encEx (wout x 2)).toArray)∧Below w.heap.size w WZ):=hid ⟨rfl,hbW.trans (fz.below hbW.size fun k hk=>by omega)⟩
 have s0:W.cell? ⟨w.heap.size,2,none⟩=some (.string x.ka):=cz b0
 have f0:=Lib.frozen_of_heap b0 2
 have k0:(W.setCell ⟨w.heap.size,2,none⟩ (.string ⟨#[]⟩)).heap[w.heap.size]? = some (.cells #[.int .i64 x.kind,.string x.temp,.string ⟨#[]⟩,.string x.kb,.int .i64 x.iff,.slice x.vp x.vo.length x.vc,.slice x.ep x.eo.length x.ec,.slice x.pp x.po.length x.pc,.int .u64 x.stamp,.int .i64 x.num] 42 (0,0)):=heap_setCell_same _ w.heap.size 2 _ _ (.string ⟨#[]⟩) b0
 have s1:(W.setCell ⟨w.heap.size,2,none⟩ (.string ⟨#[]⟩)).cell? ⟨w.heap.size,3,none⟩=some (.string x.kb):=cz k0
 have f1:(W.setCell ⟨w.heap.size,2,none⟩ (.string ⟨#[]⟩)).frozen? ⟨w.heap.size,3,none⟩=false:=Lib.frozen_of_heap k0 3
 have k1:((W.setCell ⟨w.heap.size,2,none⟩ (.string ⟨#[]⟩)).setCell ⟨w.heap.size,3,none⟩ (.string ⟨#[]⟩)).heap[w.heap.size]? = some (.cells #[.int .i64 x.kind,.string x.temp,.string ⟨#[]⟩,.string ⟨#[]⟩,.int .i64 x.iff,.slice x.vp x.vo.length x.vc,.slice x.ep x.eo.length x.ec,.slice x.pp x.po.length x.pc,.int .u64 x.stamp,.int .i64 x.num] 42 (0,0)):=heap_setCell_same _ w.heap.size 3 _ _ (.string ⟨#[]⟩) k0
 have l0:W1.cell? ⟨w.heap.size,0,none⟩=some (.int .i64 x.kind):=cz c1
 have l1:W1.cell? ⟨w.heap.size,1,none⟩=some (.string x.temp):=cz c1
 have l2:W1.cell? ⟨w.heap.size,2,none⟩=some (.string ⟨#[]⟩):=cz c1
 have l3:W1.cell? ⟨w.heap.size,3,none⟩=some (.string ⟨#[]⟩):=cz c1
 have l4:W1.cell? ⟨w.heap.size,4,none⟩=some (.int .i64 x.iff):=cz c1
 have l5:W1.cell? ⟨w.heap.size,5,none⟩=some (.slice x.vp x.vo.length x.vc):=cz c1
 have l6:W1.cell? ⟨w.heap.size,6,none⟩=some (.slice x.ep x.eo.length x.ec):=cz c1
 have l7:W1.cell? ⟨w.heap.size,7,none⟩=some (.slice x.pp x.po.length x.pc):=cz c1
 have l8:W1.cell? ⟨w.heap.size,8,none⟩=some (.int .u64 x.stamp):=cz c1
 have l9:W1.cell? ⟨w.heap.size,9,none⟩=some (.int .i64 x.num):=cz c1
 have y0:W1.cell? ⟨w.heap.size+1,0,none⟩=some (.int .i64 0):=cz r1
 have z0:=Lib.frozen_of_heap r1 0
 have y1:W1.cell? ⟨w.heap.size+1,1,none⟩=some (.string ⟨#[]⟩):=cz r1
 have z1:=Lib.frozen_of_heap r1 1
 have y2:W1.cell? ⟨w.heap.size+1,2,none⟩=some (.string ⟨#[]⟩):=cz r1
 have z2:=Lib.frozen_of_heap r1 2
 have y3:W1.cell? ⟨w.heap.size+1,3,none⟩=some (.string ⟨#[]⟩):=cz r1
 have z3:=Lib.frozen_of_heap r1 3
 have y4:W1.cell? ⟨w.heap.size+1,4,none⟩=some (.int .i64 0):=cz r1
 have z4:=Lib.frozen_of_heap r1 4
 have y5:W1.cell? ⟨w.heap.size+1,5,none⟩=some (.slice none 0 0):=cz r1
 have z5:=Lib.frozen_of_heap r1 5
 have y6:W1.cell? ⟨w.heap.size+1,6,none⟩=some (.slice none 0 0):=cz r1
 have z6:=Lib.frozen_of_heap r1 6
 have y7:W1.cell? ⟨w.heap.size+1,7,none⟩=some (.slice none 0 0):=cz r1
 have z7:=Lib.frozen_of_heap r1 7
 have y8:W1.cell? ⟨w.heap.size+1,8,none⟩=some (.int .u64 0):=cz r1
 have z8:=Lib.frozen_of_heap r1 8
 have y9:W1.cell? ⟨w.heap.size+1,9,none⟩=some (.int .i64 0):=cz r1
 have z9:=Lib.frozen_of_heap r1 9
 have g0:WZ.cell? ⟨w.heap.size+1,0,none⟩=some (.int .i64 x.kind):=cz bz
 have g1:WZ.cell? ⟨w.heap.size+1,1,none⟩=some (.string x.temp):=cz bz
 have g2:WZ.cell? ⟨w.heap.size+1,2,none⟩=some (.string ⟨#[]⟩):=cz bz
 have g3:WZ.cell? ⟨w.heap.size+1,3,none⟩=some (.string ⟨#[]⟩):=cz bz
 have g4:WZ.cell? ⟨w.heap.size+1,4,none⟩=some (.int .i64 x.iff):=cz bz
 have g5:WZ.cell? ⟨w.heap.size+1,5,none⟩=some (.slice x.vp x.vo.length x.vc):=cz bz
 have g6:WZ.cell? ⟨w.heap.size+1,6,none⟩=some (.slice x.ep x.eo.length x.ec):=cz bz
 have g7:WZ.cell? ⟨w.heap.size+1,7,none⟩=some (.slice x.pp x.po.length x.pc):=cz bz
 have g8:WZ.cell? ⟨w.heap.size+1,8,none⟩=some (.int .u64 x.stamp):=cz bz
 have g9:WZ.cell? ⟨w.heap.size+1,9,none⟩=some (.int .i64 x.num):=cz bz
 clear bz fz b0 b1 r1 hb hbW c0 k0 c1 k1
 go_enter Tryz.func56,Tryz.ntmps56
 go_upto_region 6 with fail
 try rw [hW]
 go_upto_region 19 with fail
 try rw [hW1]
 go_wp2_with fail
 try rw [hWZ]
 exact bodyPost_ret (v:=.agg #[.int .i64 x.kind,.string x.temp,.string ⟨#[]⟩,.string ⟨#[]⟩,.int .i64 x.iff,.slice x.vp x.vo.length x.vc,.slice x.ep x.eo.length x.ec,.slice x.pp x.po.length x.pc,.int .u64 x.stamp,.int .i64 x.num]) (by simp [results,Tryz.results56,go_sem,g0,g1,g2,g3,g4,g5,g6,g7,g8,g9]) rfl HFIN.out
set_option maxHeartbeats 4000000 in
theorem without3 (x:Ex) (w:World):Calls Tryz.prog 56 #[aggEx x,.int .i64 3] w fun e w'=>e=.returned (aggEx (wout x 3))∧Below w.heap.size w w':=by
 unfold aggEx
 simp only [encEx,Ex.vs,Ex.es,Ex.ps]
 obtain ⟨W,hW⟩:∃W,((w.alloc (.cells #[.int .i64 x.kind,.string x.temp,.string x.ka,.string x.kb,.int .i64 x.iff,.slice x.vp x.vo.length x.vc,.slice x.ep x.eo.length x.ec,.slice x.pp x.po.length x.pc,.int .u64 x.stamp,.int .i64 x.num] 42)).alloc (.cells #[.int .i64 0,.string ⟨#[]⟩,.string ⟨#[]⟩,.string ⟨#[]⟩,.int .i64 0,.slice none 0 0,.slice none 0 0,.slice none 0 0,.int .u64 0,.int .i64 0] 42))=W:=⟨_,rfl⟩
 obtain ⟨b0,b1,hb⟩:=w0_facts w x W hW
 have c0:(W.setCell ⟨w.heap.size,2,none⟩ (.string ⟨#[]⟩)).heap[w.heap.size]? = some (.cells #[.int .i64 x.kind,.string x.temp,.string ⟨#[]⟩,.string x.kb,.int .i64 x.iff,.slice x.vp x.vo.length x.vc,.slice x.ep x.eo.length x.ec,.slice x.pp x.po.length x.pc,.int .u64 x.stamp,.int .i64 x.num] 42 (0,0)):=heap_setCell_same _ w.heap.size 2 _ _ (.string ⟨#[]⟩) b0
 have c1:((W.setCell ⟨w.heap.size,2,none⟩ (.string ⟨#[]⟩)).setCell ⟨w.heap.size,3,none⟩ (.string ⟨#[]⟩)).heap[w.heap.size]? = some (.cells #[.int .i64 x.kind,.string x.temp,.string ⟨#[]⟩,.string ⟨#[]⟩,.int .i64 x.iff,.slice x.vp x.vo.length x.vc,.slice x.ep x.eo.length x.ec,.slice x.pp x.po.length x.pc,.int .u64 x.stamp,.int .i64 x.num] 42 (0,0)):=heap_setCell_same _ w.heap.size 3 _ _ (.string ⟨#[]⟩) c0
 have r1:((W.setCell ⟨w.heap.size,2,none⟩ (.string ⟨#[]⟩)).setCell ⟨w.heap.size,3,none⟩ (.string ⟨#[]⟩)).heap[w.heap.size+1]? = some (.cells #[.int .i64 0,.string ⟨#[]⟩,.string ⟨#[]⟩,.string ⟨#[]⟩,.int .i64 0,.slice none 0 0,.slice none 0 0,.slice none 0 0,.int .u64 0,.int .i64 0] 42 (0,0)):=((Below.heap_setCell _ _ _ _ (by show w.heap.size+1≠w.heap.size;omega)).trans ((Below.heap_setCell _ _ _ _ (by show w.heap.size+1≠w.heap.size;omega)).trans b1))
 obtain ⟨W1,hW1⟩:∃W1,((W.setCell ⟨w.heap.size,2,none⟩ (.string ⟨#[]⟩)).setCell ⟨w.heap.size,3,none⟩ (.string ⟨#[]⟩))=W1:=⟨_,rfl⟩
 rw [hW1] at c1 r1
 obtain ⟨WZ,hWZ⟩:∃WZ,((((((((((W1.setCell ⟨w.heap.size+1,0,none⟩ (.int .i64 x.kind)).setCell ⟨w.heap.size+1,1,none⟩ (.string x.temp)).setCell ⟨w.heap.size+1,2,none⟩ (.string ⟨#[]⟩)).setCell ⟨w.heap.size+1,3,none⟩ (.string ⟨#[]⟩)).setCell ⟨w.heap.size+1,4,none⟩ (.int .i64 x.iff)).setCell ⟨w.heap.size+1,5,none⟩ (.slice x.vp x.vo.length x.vc)).setCell ⟨w.heap.size+1,6,none⟩ (.slice x.ep x.eo.length x.ec)).setCell ⟨w.heap.size+1,7,none⟩ (.slice x.pp x.po.length x.pc)).setCell ⟨w.heap.size+1,8,none⟩ (.int .u64 x.stamp)).setCell ⟨w.heap.size+1,9,none⟩ (.int .i64 x.num))=WZ:=⟨_,rfl⟩
 obtain ⟨bz,fz⟩:=out_ten r1 _ _ _ _ _ _ _ _ _ _ hWZ
 have hbW:Below w.heap.size w W1:=by rw [←hW1];exact ((hb.setCell (p:=⟨w.heap.size,2,none⟩) (Nat.le_refl _) (.string ⟨#[]⟩)).setCell (p:=⟨w.heap.size,3,none⟩) (Nat.le_refl _) (.string ⟨#[]⟩))
 have HFIN:Hid (Ending.returned (.agg #[.int .i64 x.kind,.string x.temp,.string ⟨#[]⟩,.string ⟨#[]⟩,.int .i64 x.iff,.slice x.vp x.vo.length x.vc,.slice x.ep x.eo.length x.ec,.slice x.pp x.po.length x.pc,.int .u64 x.stamp,.int .i64 x.num])=.returned (.agg (encEx (wout x 3)).toArray)∧Below w.heap.size w WZ):=hid ⟨rfl,hbW.trans (fz.below hbW.size fun k hk=>by omega)⟩
 have s0:W.cell? ⟨w.heap.size,2,none⟩=some (.string x.ka):=cz b0
 have f0:=Lib.frozen_of_heap b0 2
 have k0:(W.setCell ⟨w.heap.size,2,none⟩ (.string ⟨#[]⟩)).heap[w.heap.size]? = some (.cells #[.int .i64 x.kind,.string x.temp,.string ⟨#[]⟩,.string x.kb,.int .i64 x.iff,.slice x.vp x.vo.length x.vc,.slice x.ep x.eo.length x.ec,.slice x.pp x.po.length x.pc,.int .u64 x.stamp,.int .i64 x.num] 42 (0,0)):=heap_setCell_same _ w.heap.size 2 _ _ (.string ⟨#[]⟩) b0
 have s1:(W.setCell ⟨w.heap.size,2,none⟩ (.string ⟨#[]⟩)).cell? ⟨w.heap.size,3,none⟩=some (.string x.kb):=cz k0
 have f1:(W.setCell ⟨w.heap.size,2,none⟩ (.string ⟨#[]⟩)).frozen? ⟨w.heap.size,3,none⟩=false:=Lib.frozen_of_heap k0 3
 have k1:((W.setCell ⟨w.heap.size,2,none⟩ (.string ⟨#[]⟩)).setCell ⟨w.heap.size,3,none⟩ (.string ⟨#[]⟩)).heap[w.heap.size]? = some (.cells #[.int .i64 x.kind,.string x.temp,.string ⟨#[]⟩,.string ⟨#[]⟩,.int .i64 x.iff,.slice x.vp x.vo.length x.vc,.slice x.ep x.eo.length x.ec,.slice x.pp x.po.length x.pc,.int .u64 x.stamp,.int .i64 x.num] 42 (0,0)):=heap_setCell_same _ w.heap.size 3 _ _ (.string ⟨#[]⟩) k0
 have l0:W1.cell? ⟨w.heap.size,0,none⟩=some (.int .i64 x.kind):=cz c1
 have l1:W1.cell? ⟨w.heap.size,1,none⟩=some (.string x.temp):=cz c1
 have l2:W1.cell? ⟨w.heap.size,2,none⟩=some (.string ⟨#[]⟩):=cz c1
 have l3:W1.cell? ⟨w.heap.size,3,none⟩=some (.string ⟨#[]⟩):=cz c1
 have l4:W1.cell? ⟨w.heap.size,4,none⟩=some (.int .i64 x.iff):=cz c1
 have l5:W1.cell? ⟨w.heap.size,5,none⟩=some (.slice x.vp x.vo.length x.vc):=cz c1
 have l6:W1.cell? ⟨w.heap.size,6,none⟩=some (.slice x.ep x.eo.length x.ec):=cz c1
 have l7:W1.cell? ⟨w.heap.size,7,none⟩=some (.slice x.pp x.po.length x.pc):=cz c1
 have l8:W1.cell? ⟨w.heap.size,8,none⟩=some (.int .u64 x.stamp):=cz c1
 have l9:W1.cell? ⟨w.heap.size,9,none⟩=some (.int .i64 x.num):=cz c1
 have y0:W1.cell? ⟨w.heap.size+1,0,none⟩=some (.int .i64 0):=cz r1
 have z0:=Lib.frozen_of_heap r1 0
 have y1:W1.cell? ⟨w.heap.size+1,1,none⟩=some (.string ⟨#[]⟩):=cz r1
 have z1:=Lib.frozen_of_heap r1 1
 have y2:W1.cell? ⟨w.heap.size+1,2,none⟩=some (.string ⟨#[]⟩):=cz r1
 have z2:=Lib.frozen_of_heap r1 2
 have y3:W1.cell? ⟨w.heap.size+1,3,none⟩=some (.string ⟨#[]⟩):=cz r1
 have z3:=Lib.frozen_of_heap r1 3
 have y4:W1.cell? ⟨w.heap.size+1,4,none⟩=some (.int .i64 0):=cz r1
 have z4:=Lib.frozen_of_heap r1 4
 have y5:W1.cell? ⟨w.heap.size+1,5,none⟩=some (.slice none 0 0):=cz r1
 have z5:=Lib.frozen_of_heap r1 5
 have y6:W1.cell? ⟨w.heap.size+1,6,none⟩=some (.slice none 0 0):=cz r1
 have z6:=Lib.frozen_of_heap r1 6
 have y7:W1.cell? ⟨w.heap.size+1,7,none⟩=some (.slice none 0 0):=cz r1
 have z7:=Lib.frozen_of_heap r1 7
 have y8:W1.cell? ⟨w.heap.size+1,8,none⟩=some (.int .u64 0):=cz r1
 have z8:=Lib.frozen_of_heap r1 8
 have y9:W1.cell? ⟨w.heap.size+1,9,none⟩=some (.int .i64 0):=cz r1
 have z9:=Lib.frozen_of_heap r1 9
 have g0:WZ.cell? ⟨w.heap.size+1,0,none⟩=some (.int .i64 x.kind):=cz bz
 have g1:WZ.cell? ⟨w.heap.size+1,1,none⟩=some (.string x.temp):=cz bz
 have g2:WZ.cell? ⟨w.heap.size+1,2,none⟩=some (.string ⟨#[]⟩):=cz bz
 have g3:WZ.cell? ⟨w.heap.size+1,3,none⟩=some (.string ⟨#[]⟩):=cz bz
 have g4:WZ.cell? ⟨w.heap.size+1,4,none⟩=some (.int .i64 x.iff):=cz bz
 have g5:WZ.cell? ⟨w.heap.size+1,5,none⟩=some (.slice x.vp x.vo.length x.vc):=cz bz
 have g6:WZ.cell? ⟨w.heap.size+1,6,none⟩=some (.slice x.ep x.eo.length x.ec):=cz bz
 have g7:WZ.cell? ⟨w.heap.size+1,7,none⟩=some (.slice x.pp x.po.length x.pc):=cz bz
 have g8:WZ.cell? ⟨w.heap.size+1,8,none⟩=some (.int .u64 x.stamp):=cz bz
 have g9:WZ.cell? ⟨w.heap.size+1,9,none⟩=some (.int .i64 x.num):=cz bz
 clear bz fz b0 b1 r1 hb hbW c0 k0 c1 k1
 go_enter Tryz.func56,Tryz.ntmps56
 go_upto_region 6 with fail
 try rw [hW]
 go_upto_region 19 with fail
 try rw [hW1]
 go_wp2_with fail
 try rw [hWZ]
 exact bodyPost_ret (v:=.agg #[.int .i64 x.kind,.string x.temp,.string ⟨#[]⟩,.string ⟨#[]⟩,.int .i64 x.iff,.slice x.vp x.vo.length x.vc,.slice x.ep x.eo.length x.ec,.slice x.pp x.po.length x.pc,.int .u64 x.stamp,.int .i64 x.num]) (by simp [results,Tryz.results56,go_sem,g0,g1,g2,g3,g4,g5,g6,g7,g8,g9]) rfl HFIN.out
set_option maxHeartbeats 4000000 in
theorem without4 (x:Ex) (w:World):Calls Tryz.prog 56 #[aggEx x,.int .i64 4] w fun e w'=>e=.returned (aggEx (wout x 4))∧Below w.heap.size w w':=by
 unfold aggEx
 simp only [encEx,Ex.vs,Ex.es,Ex.ps]
 obtain ⟨W,hW⟩:∃W,((w.alloc (.cells #[.int .i64 x.kind,.string x.temp,.string x.ka,.string x.kb,.int .i64 x.iff,.slice x.vp x.vo.length x.vc,.slice x.ep x.eo.length x.ec,.slice x.pp x.po.length x.pc,.int .u64 x.stamp,.int .i64 x.num] 42)).alloc (.cells #[.int .i64 0,.string ⟨#[]⟩,.string ⟨#[]⟩,.string ⟨#[]⟩,.int .i64 0,.slice none 0 0,.slice none 0 0,.slice none 0 0,.int .u64 0,.int .i64 0] 42))=W:=⟨_,rfl⟩
 obtain ⟨b0,b1,hb⟩:=w0_facts w x W hW
 have c0:(W.setCell ⟨w.heap.size,4,none⟩ (.int .i64 0)).heap[w.heap.size]? = some (.cells #[.int .i64 x.kind,.string x.temp,.string x.ka,.string x.kb,.int .i64 0,.slice x.vp x.vo.length x.vc,.slice x.ep x.eo.length x.ec,.slice x.pp x.po.length x.pc,.int .u64 x.stamp,.int .i64 x.num] 42 (0,0)):=heap_setCell_same _ w.heap.size 4 _ _ (.int .i64 0) b0
 have r1:(W.setCell ⟨w.heap.size,4,none⟩ (.int .i64 0)).heap[w.heap.size+1]? = some (.cells #[.int .i64 0,.string ⟨#[]⟩,.string ⟨#[]⟩,.string ⟨#[]⟩,.int .i64 0,.slice none 0 0,.slice none 0 0,.slice none 0 0,.int .u64 0,.int .i64 0] 42 (0,0)):=((Below.heap_setCell _ _ _ _ (by show w.heap.size+1≠w.heap.size;omega)).trans b1)
 obtain ⟨W1,hW1⟩:∃W1,(W.setCell ⟨w.heap.size,4,none⟩ (.int .i64 0))=W1:=⟨_,rfl⟩
 rw [hW1] at c0 r1
 obtain ⟨WZ,hWZ⟩:∃WZ,((((((((((W1.setCell ⟨w.heap.size+1,0,none⟩ (.int .i64 x.kind)).setCell ⟨w.heap.size+1,1,none⟩ (.string x.temp)).setCell ⟨w.heap.size+1,2,none⟩ (.string x.ka)).setCell ⟨w.heap.size+1,3,none⟩ (.string x.kb)).setCell ⟨w.heap.size+1,4,none⟩ (.int .i64 0)).setCell ⟨w.heap.size+1,5,none⟩ (.slice x.vp x.vo.length x.vc)).setCell ⟨w.heap.size+1,6,none⟩ (.slice x.ep x.eo.length x.ec)).setCell ⟨w.heap.size+1,7,none⟩ (.slice x.pp x.po.length x.pc)).setCell ⟨w.heap.size+1,8,none⟩ (.int .u64 x.stamp)).setCell ⟨w.heap.size+1,9,none⟩ (.int .i64 x.num))=WZ:=⟨_,rfl⟩
 obtain ⟨bz,fz⟩:=out_ten r1 _ _ _ _ _ _ _ _ _ _ hWZ
 have hbW:Below w.heap.size w W1:=by rw [←hW1];exact (hb.setCell (p:=⟨w.heap.size,4,none⟩) (Nat.le_refl _) (.int .i64 0))
 have HFIN:Hid (Ending.returned (.agg #[.int .i64 x.kind,.string x.temp,.string x.ka,.string x.kb,.int .i64 0,.slice x.vp x.vo.length x.vc,.slice x.ep x.eo.length x.ec,.slice x.pp x.po.length x.pc,.int .u64 x.stamp,.int .i64 x.num])=.returned (.agg (encEx (wout x 4)).toArray)∧Below w.heap.size w WZ):=hid ⟨rfl,hbW.trans (fz.below hbW.size fun k hk=>by omega)⟩
 have s0:W.cell? ⟨w.heap.size,4,none⟩=some (.int .i64 x.iff):=cz b0
 have f0:=Lib.frozen_of_heap b0 4
 have k0:(W.setCell ⟨w.heap.size,4,none⟩ (.int .i64 0)).heap[w.heap.size]? = some (.cells #[.int .i64 x.kind,.string x.temp,.string x.ka,.string x.kb,.int .i64 0,.slice x.vp x.vo.length x.vc,.slice x.ep x.eo.length x.ec,.slice x.pp x.po.length x.pc,.int .u64 x.stamp,.int .i64 x.num] 42 (0,0)):=heap_setCell_same _ w.heap.size 4 _ _ (.int .i64 0) b0
 have l0:W1.cell? ⟨w.heap.size,0,none⟩=some (.int .i64 x.kind):=cz c0
 have l1:W1.cell? ⟨w.heap.size,1,none⟩=some (.string x.temp):=cz c0
 have l2:W1.cell? ⟨w.heap.size,2,none⟩=some (.string x.ka):=cz c0
 have l3:W1.cell? ⟨w.heap.size,3,none⟩=some (.string x.kb):=cz c0
 have l4:W1.cell? ⟨w.heap.size,4,none⟩=some (.int .i64 0):=cz c0
 have l5:W1.cell? ⟨w.heap.size,5,none⟩=some (.slice x.vp x.vo.length x.vc):=cz c0
 have l6:W1.cell? ⟨w.heap.size,6,none⟩=some (.slice x.ep x.eo.length x.ec):=cz c0
 have l7:W1.cell? ⟨w.heap.size,7,none⟩=some (.slice x.pp x.po.length x.pc):=cz c0
 have l8:W1.cell? ⟨w.heap.size,8,none⟩=some (.int .u64 x.stamp):=cz c0
 have l9:W1.cell? ⟨w.heap.size,9,none⟩=some (.int .i64 x.num):=cz c0
 have y0:W1.cell? ⟨w.heap.size+1,0,none⟩=some (.int .i64 0):=cz r1
 have z0:=Lib.frozen_of_heap r1 0
 have y1:W1.cell? ⟨w.heap.size+1,1,none⟩=some (.string ⟨#[]⟩):=cz r1
 have z1:=Lib.frozen_of_heap r1 1
 have y2:W1.cell? ⟨w.heap.size+1,2,none⟩=some (.string ⟨#[]⟩):=cz r1
 have z2:=Lib.frozen_of_heap r1 2
 have y3:W1.cell? ⟨w.heap.size+1,3,none⟩=some (.string ⟨#[]⟩):=cz r1
 have z3:=Lib.frozen_of_heap r1 3
 have y4:W1.cell? ⟨w.heap.size+1,4,none⟩=some (.int .i64 0):=cz r1
 have z4:=Lib.frozen_of_heap r1 4
 have y5:W1.cell? ⟨w.heap.size+1,5,none⟩=some (.slice none 0 0):=cz r1
 have z5:=Lib.frozen_of_heap r1 5
 have y6:W1.cell? ⟨w.heap.size+1,6,none⟩=some (.slice none 0 0):=cz r1
 have z6:=Lib.frozen_of_heap r1 6
 have y7:W1.cell? ⟨w.heap.size+1,7,none⟩=some (.slice none 0 0):=cz r1
 have z7:=Lib.frozen_of_heap r1 7
 have y8:W1.cell? ⟨w.heap.size+1,8,none⟩=some (.int .u64 0):=cz r1
 have z8:=Lib.frozen_of_heap r1 8
 have y9:W1.cell? ⟨w.heap.size+1,9,none⟩=some (.int .i64 0):=cz r1
 have z9:=Lib.frozen_of_heap r1 9
 have g0:WZ.cell? ⟨w.heap.size+1,0,none⟩=some (.int .i64 x.kind):=cz bz
 have g1:WZ.cell? ⟨w.heap.size+1,1,none⟩=some (.string x.temp):=cz bz
 have g2:WZ.cell? ⟨w.heap.size+1,2,none⟩=some (.string x.ka):=cz bz
 have g3:WZ.cell? ⟨w.heap.size+1,3,none⟩=some (.string x.kb):=cz bz
 have g4:WZ.cell? ⟨w.heap.size+1,4,none⟩=some (.int .i64 0):=cz bz
 have g5:WZ.cell? ⟨w.heap.size+1,5,none⟩=some (.slice x.vp x.vo.length x.vc):=cz bz
 have g6:WZ.cell? ⟨w.heap.size+1,6,none⟩=some (.slice x.ep x.eo.length x.ec):=cz bz
 have g7:WZ.cell? ⟨w.heap.size+1,7,none⟩=some (.slice x.pp x.po.length x.pc):=cz bz
 have g8:WZ.cell? ⟨w.heap.size+1,8,none⟩=some (.int .u64 x.stamp):=cz bz
 have g9:WZ.cell? ⟨w.heap.size+1,9,none⟩=some (.int .i64 x.num):=cz bz
 clear bz fz b0 b1 r1 hb hbW c0 k0
 go_enter Tryz.func56,Tryz.ntmps56
 go_upto_region 8 with fail
 try rw [hW]
 go_upto_region 19 with fail
 try rw [hW1]
 go_wp2_with fail
 try rw [hWZ]
 exact bodyPost_ret (v:=.agg #[.int .i64 x.kind,.string x.temp,.string x.ka,.string x.kb,.int .i64 0,.slice x.vp x.vo.length x.vc,.slice x.ep x.eo.length x.ec,.slice x.pp x.po.length x.pc,.int .u64 x.stamp,.int .i64 x.num]) (by simp [results,Tryz.results56,go_sem,g0,g1,g2,g3,g4,g5,g6,g7,g8,g9]) rfl HFIN.out
set_option maxHeartbeats 4000000 in
theorem without5 (x:Ex) (w:World):Calls Tryz.prog 56 #[aggEx x,.int .i64 5] w fun e w'=>e=.returned (aggEx (wout x 5))∧Below w.heap.size w w':=by
 unfold aggEx
 simp only [encEx,Ex.vs,Ex.es,Ex.ps]
 obtain ⟨W,hW⟩:∃W,((w.alloc (.cells #[.int .i64 x.kind,.string x.temp,.string x.ka,.string x.kb,.int .i64 x.iff,.slice x.vp x.vo.length x.vc,.slice x.ep x.eo.length x.ec,.slice x.pp x.po.length x.pc,.int .u64 x.stamp,.int .i64 x.num] 42)).alloc (.cells #[.int .i64 0,.string ⟨#[]⟩,.string ⟨#[]⟩,.string ⟨#[]⟩,.int .i64 0,.slice none 0 0,.slice none 0 0,.slice none 0 0,.int .u64 0,.int .i64 0] 42))=W:=⟨_,rfl⟩
 obtain ⟨b0,b1,hb⟩:=w0_facts w x W hW
 have c0:(W.setCell ⟨w.heap.size,5,none⟩ (.slice none 0 0)).heap[w.heap.size]? = some (.cells #[.int .i64 x.kind,.string x.temp,.string x.ka,.string x.kb,.int .i64 x.iff,.slice none 0 0,.slice x.ep x.eo.length x.ec,.slice x.pp x.po.length x.pc,.int .u64 x.stamp,.int .i64 x.num] 42 (0,0)):=heap_setCell_same _ w.heap.size 5 _ _ (.slice none 0 0) b0
 have r1:(W.setCell ⟨w.heap.size,5,none⟩ (.slice none 0 0)).heap[w.heap.size+1]? = some (.cells #[.int .i64 0,.string ⟨#[]⟩,.string ⟨#[]⟩,.string ⟨#[]⟩,.int .i64 0,.slice none 0 0,.slice none 0 0,.slice none 0 0,.int .u64 0,.int .i64 0] 42 (0,0)):=((Below.heap_setCell _ _ _ _ (by show w.heap.size+1≠w.heap.size;omega)).trans b1)
 obtain ⟨W1,hW1⟩:∃W1,(W.setCell ⟨w.heap.size,5,none⟩ (.slice none 0 0))=W1:=⟨_,rfl⟩
 rw [hW1] at c0 r1
 obtain ⟨WZ,hWZ⟩:∃WZ,((((((((((W1.setCell ⟨w.heap.size+1,0,none⟩ (.int .i64 x.kind)).setCell ⟨w.heap.size+1,1,none⟩ (.string x.temp)).setCell ⟨w.heap.size+1,2,none⟩ (.string x.ka)).setCell ⟨w.heap.size+1,3,none⟩ (.string x.kb)).setCell ⟨w.heap.size+1,4,none⟩ (.int .i64 x.iff)).setCell ⟨w.heap.size+1,5,none⟩ (.slice none 0 0)).setCell ⟨w.heap.size+1,6,none⟩ (.slice x.ep x.eo.length x.ec)).setCell ⟨w.heap.size+1,7,none⟩ (.slice x.pp x.po.length x.pc)).setCell ⟨w.heap.size+1,8,none⟩ (.int .u64 x.stamp)).setCell ⟨w.heap.size+1,9,none⟩ (.int .i64 x.num))=WZ:=⟨_,rfl⟩
 obtain ⟨bz,fz⟩:=out_ten r1 _ _ _ _ _ _ _ _ _ _ hWZ
 have hbW:Below w.heap.size w W1:=by rw [←hW1];exact (hb.setCell (p:=⟨w.heap.size,5,none⟩) (Nat.le_refl _) (.slice none 0 0))
 have HFIN:Hid (Ending.returned (.agg #[.int .i64 x.kind,.string x.temp,.string x.ka,.string x.kb,.int .i64 x.iff,.slice none 0 0,.slice x.ep x.eo.length x.ec,.slice x.pp x.po.length x.pc,.int .u64 x.stamp,.int .i64 x.num])=.returned (.agg (encEx (wout x 5)).toArray)∧Below w.heap.size w WZ):=hid ⟨rfl,hbW.trans (fz.below hbW.size fun k hk=>by omega)⟩
 have s0:W.cell? ⟨w.heap.size,5,none⟩=some (.slice x.vp x.vo.length x.vc):=cz b0
 have f0:=Lib.frozen_of_heap b0 5
 have k0:(W.setCell ⟨w.heap.size,5,none⟩ (.slice none 0 0)).heap[w.heap.size]? = some (.cells #[.int .i64 x.kind,.string x.temp,.string x.ka,.string x.kb,.int .i64 x.iff,.slice none 0 0,.slice x.ep x.eo.length x.ec,.slice x.pp x.po.length x.pc,.int .u64 x.stamp,.int .i64 x.num] 42 (0,0)):=heap_setCell_same _ w.heap.size 5 _ _ (.slice none 0 0) b0
 have l0:W1.cell? ⟨w.heap.size,0,none⟩=some (.int .i64 x.kind):=cz c0
 have l1:W1.cell? ⟨w.heap.size,1,none⟩=some (.string x.temp):=cz c0
 have l2:W1.cell? ⟨w.heap.size,2,none⟩=some (.string x.ka):=cz c0
 have l3:W1.cell? ⟨w.heap.size,3,none⟩=some (.string x.kb):=cz c0
 have l4:W1.cell? ⟨w.heap.size,4,none⟩=some (.int .i64 x.iff):=cz c0
 have l5:W1.cell? ⟨w.heap.size,5,none⟩=some (.slice none 0 0):=cz c0
 have l6:W1.cell? ⟨w.heap.size,6,none⟩=some (.slice x.ep x.eo.length x.ec):=cz c0
 have l7:W1.cell? ⟨w.heap.size,7,none⟩=some (.slice x.pp x.po.length x.pc):=cz c0
 have l8:W1.cell? ⟨w.heap.size,8,none⟩=some (.int .u64 x.stamp):=cz c0
 have l9:W1.cell? ⟨w.heap.size,9,none⟩=some (.int .i64 x.num):=cz c0
 have y0:W1.cell? ⟨w.heap.size+1,0,none⟩=some (.int .i64 0):=cz r1
 have z0:=Lib.frozen_of_heap r1 0
 have y1:W1.cell? ⟨w.heap.size+1,1,none⟩=some (.string ⟨#[]⟩):=cz r1
 have z1:=Lib.frozen_of_heap r1 1
 have y2:W1.cell? ⟨w.heap.size+1,2,none⟩=some (.string ⟨#[]⟩):=cz r1
 have z2:=Lib.frozen_of_heap r1 2
 have y3:W1.cell? ⟨w.heap.size+1,3,none⟩=some (.string ⟨#[]⟩):=cz r1
 have z3:=Lib.frozen_of_heap r1 3
 have y4:W1.cell? ⟨w.heap.size+1,4,none⟩=some (.int .i64 0):=cz r1
 have z4:=Lib.frozen_of_heap r1 4
 have y5:W1.cell? ⟨w.heap.size+1,5,none⟩=some (.slice none 0 0):=cz r1
 have z5:=Lib.frozen_of_heap r1 5
 have y6:W1.cell? ⟨w.heap.size+1,6,none⟩=some (.slice none 0 0):=cz r1
 have z6:=Lib.frozen_of_heap r1 6
 have y7:W1.cell? ⟨w.heap.size+1,7,none⟩=some (.slice none 0 0):=cz r1
 have z7:=Lib.frozen_of_heap r1 7
 have y8:W1.cell? ⟨w.heap.size+1,8,none⟩=some (.int .u64 0):=cz r1
 have z8:=Lib.frozen_of_heap r1 8
 have y9:W1.cell? ⟨w.heap.size+1,9,none⟩=some (.int .i64 0):=cz r1
 have z9:=Lib.frozen_of_heap r1 9
 have g0:WZ.cell? ⟨w.heap.size+1,0,none⟩=some (.int .i64 x.kind):=cz bz
 have g1:WZ.cell? ⟨w.heap.size+1,1,none⟩=some (.string x.temp):=cz bz
 have g2:WZ.cell? ⟨w.heap.size+1,2,none⟩=some (.string x.ka):=cz bz
 have g3:WZ.cell? ⟨w.heap.size+1,3,none⟩=some (.string x.kb):=cz bz
 have g4:WZ.cell? ⟨w.heap.size+1,4,none⟩=some (.int .i64 x.iff):=cz bz
 have g5:WZ.cell? ⟨w.heap.size+1,5,none⟩=some (.slice none 0 0):=cz bz
 have g6:WZ.cell? ⟨w.heap.size+1,6,none⟩=some (.slice x.ep x.eo.length x.ec):=cz bz
 have g7:WZ.cell? ⟨w.heap.size+1,7,none⟩=some (.slice x.pp x.po.length x.pc):=cz bz
 have g8:WZ.cell? ⟨w.heap.size+1,8,none⟩=some (.int .u64 x.stamp):=cz bz
 have g9:WZ.cell? ⟨w.heap.size+1,9,none⟩=some (.int .i64 x.num):=cz bz
 clear bz fz b0 b1 r1 hb hbW c0 k0
 go_enter Tryz.func56,Tryz.ntmps56
 go_upto_region 10 with fail
 try rw [hW]
 go_upto_region 19 with fail
 try rw [hW1]
 go_wp2_with fail
 try rw [hWZ]
 exact bodyPost_ret (v:=.agg #[.int .i64 x.kind,.string x.temp,.string x.ka,.string x.kb,.int .i64 x.iff,.slice none 0 0,.slice x.ep x.eo.length x.ec,.slice x.pp x.po.length x.pc,.int .u64 x.stamp,.int .i64 x.num]) (by simp [results,Tryz.results56,go_sem,g0,g1,g2,g3,g4,g5,g6,g7,g8,g9]) rfl HFIN.out
set_option maxHeartbeats 4000000 in
theorem without6 (x:Ex) (w:World):Calls Tryz.prog 56 #[aggEx x,.int .i64 6] w fun e w'=>e=.returned (aggEx (wout x 6))∧Below w.heap.size w w':=by
 unfold aggEx
 simp only [encEx,Ex.vs,Ex.es,Ex.ps]
 obtain ⟨W,hW⟩:∃W,((w.alloc (.cells #[.int .i64 x.kind,.string x.temp,.string x.ka,.string x.kb,.int .i64 x.iff,.slice x.vp x.vo.length x.vc,.slice x.ep x.eo.length x.ec,.slice x.pp x.po.length x.pc,.int .u64 x.stamp,.int .i64 x.num] 42)).alloc (.cells #[.int .i64 0,.string ⟨#[]⟩,.string ⟨#[]⟩,.string ⟨#[]⟩,.int .i64 0,.slice none 0 0,.slice none 0 0,.slice none 0 0,.int .u64 0,.int .i64 0] 42))=W:=⟨_,rfl⟩
 obtain ⟨b0,b1,hb⟩:=w0_facts w x W hW
 have r1:=b1
 obtain ⟨W1,hW1⟩:∃W1,W=W1:=⟨_,rfl⟩
 subst hW1
 obtain ⟨WZ,hWZ⟩:∃WZ,((((((((((W.setCell ⟨w.heap.size+1,0,none⟩ (.int .i64 x.kind)).setCell ⟨w.heap.size+1,1,none⟩ (.string x.temp)).setCell ⟨w.heap.size+1,2,none⟩ (.string x.ka)).setCell ⟨w.heap.size+1,3,none⟩ (.string x.kb)).setCell ⟨w.heap.size+1,4,none⟩ (.int .i64 x.iff)).setCell ⟨w.heap.size+1,5,none⟩ (.slice x.vp x.vo.length x.vc)).setCell ⟨w.heap.size+1,6,none⟩ (.slice x.ep x.eo.length x.ec)).setCell ⟨w.heap.size+1,7,none⟩ (.slice x.pp x.po.length x.pc)).setCell ⟨w.heap.size+1,8,none⟩ (.int .u64 x.stamp)).setCell ⟨w.heap.size+1,9,none⟩ (.int .i64 x.num))=WZ:=⟨_,rfl⟩
 obtain ⟨bz,fz⟩:=out_ten r1 _ _ _ _ _ _ _ _ _ _ hWZ
 have hbW:Below w.heap.size w W:=hb
 have HFIN:Hid (Ending.returned (.agg #[.int .i64 x.kind,.string x.temp,.string x.ka,.string x.kb,.int .i64 x.iff,.slice x.vp x.vo.length x.vc,.slice x.ep x.eo.length x.ec,.slice x.pp x.po.length x.pc,.int .u64 x.stamp,.int .i64 x.num])=.returned (.agg (encEx (wout x 6)).toArray)∧Below w.heap.size w WZ):=hid ⟨rfl,hbW.trans (fz.below hbW.size fun k hk=>by omega)⟩
 have l0:W.cell? ⟨w.heap.size,0,none⟩=some (.int .i64 x.kind):=cz b0
 have l1:W.cell? ⟨w.heap.size,1,none⟩=some (.string x.temp):=cz b0
 have l2:W.cell? ⟨w.heap.size,2,none⟩=some (.string x.ka):=cz b0
 have l3:W.cell? ⟨w.heap.size,3,none⟩=some (.string x.kb):=cz b0
 have l4:W.cell? ⟨w.heap.size,4,none⟩=some (.int .i64 x.iff):=cz b0
 have l5:W.cell? ⟨w.heap.size,5,none⟩=some (.slice x.vp x.vo.length x.vc):=cz b0
 have l6:W.cell? ⟨w.heap.size,6,none⟩=some (.slice x.ep x.eo.length x.ec):=cz b0
 have l7:W.cell? ⟨w.heap.size,7,none⟩=some (.slice x.pp x.po.length x.pc):=cz b0
 have l8:W.cell? ⟨w.heap.size,8,none⟩=some (.int .u64 x.stamp):=cz b0
 have l9:W.cell? ⟨w.heap.size,9,none⟩=some (.int .i64 x.num):=cz b0
 have y0:W.cell? ⟨w.heap.size+1,0,none⟩=some (.int .i64 0):=cz r1
 have z0:=Lib.frozen_of_heap r1 0
 have y1:W.cell? ⟨w.heap.size+1,1,none⟩=some (.string ⟨#[]⟩):=cz r1
 have z1:=Lib.frozen_of_heap r1 1
 have y2:W.cell? ⟨w.heap.size+1,2,none⟩=some (.string ⟨#[]⟩):=cz r1
 have z2:=Lib.frozen_of_heap r1 2
 have y3:W.cell? ⟨w.heap.size+1,3,none⟩=some (.string ⟨#[]⟩):=cz r1
 have z3:=Lib.frozen_of_heap r1 3
 have y4:W.cell? ⟨w.heap.size+1,4,none⟩=some (.int .i64 0):=cz r1
 have z4:=Lib.frozen_of_heap r1 4
 have y5:W.cell? ⟨w.heap.size+1,5,none⟩=some (.slice none 0 0):=cz r1
 have z5:=Lib.frozen_of_heap r1 5
 have y6:W.cell? ⟨w.heap.size+1,6,none⟩=some (.slice none 0 0):=cz r1
 have z6:=Lib.frozen_of_heap r1 6
 have y7:W.cell? ⟨w.heap.size+1,7,none⟩=some (.slice none 0 0):=cz r1
 have z7:=Lib.frozen_of_heap r1 7
 have y8:W.cell? ⟨w.heap.size+1,8,none⟩=some (.int .u64 0):=cz r1
 have z8:=Lib.frozen_of_heap r1 8
 have y9:W.cell? ⟨w.heap.size+1,9,none⟩=some (.int .i64 0):=cz r1
 have z9:=Lib.frozen_of_heap r1 9
 have g0:WZ.cell? ⟨w.heap.size+1,0,none⟩=some (.int .i64 x.kind):=cz bz
 have g1:WZ.cell? ⟨w.heap.size+1,1,none⟩=some (.string x.temp):=cz bz
 have g2:WZ.cell? ⟨w.heap.size+1,2,none⟩=some (.string x.ka):=cz bz
 have g3:WZ.cell? ⟨w.heap.size+1,3,none⟩=some (.string x.kb):=cz bz
 have g4:WZ.cell? ⟨w.heap.size+1,4,none⟩=some (.int .i64 x.iff):=cz bz
 have g5:WZ.cell? ⟨w.heap.size+1,5,none⟩=some (.slice x.vp x.vo.length x.vc):=cz bz
 have g6:WZ.cell? ⟨w.heap.size+1,6,none⟩=some (.slice x.ep x.eo.length x.ec):=cz bz
 have g7:WZ.cell? ⟨w.heap.size+1,7,none⟩=some (.slice x.pp x.po.length x.pc):=cz bz
 have g8:WZ.cell? ⟨w.heap.size+1,8,none⟩=some (.int .u64 x.stamp):=cz bz
 have g9:WZ.cell? ⟨w.heap.size+1,9,none⟩=some (.int .i64 x.num):=cz bz
 clear bz fz b0 b1 r1 hb hbW
 go_enter Tryz.func56,Tryz.ntmps56
 go_upto_region 19 with fail
 try rw [hW]
 go_wp2_with fail
 try rw [hWZ]
 exact bodyPost_ret (v:=.agg #[.int .i64 x.kind,.string x.temp,.string x.ka,.string x.kb,.int .i64 x.iff,.slice x.vp x.vo.length x.vc,.slice x.ep x.eo.length x.ec,.slice x.pp x.po.length x.pc,.int .u64 x.stamp,.int .i64 x.num]) (by simp [results,Tryz.results56,go_sem,g0,g1,g2,g3,g4,g5,g6,g7,g8,g9]) rfl HFIN.out
set_option maxHeartbeats 4000000 in
theorem without7 (x:Ex) (w:World):Calls Tryz.prog 56 #[aggEx x,.int .i64 7] w fun e w'=>e=.returned (aggEx (wout x 7))∧Below w.heap.size w w':=by
 unfold aggEx
 simp only [encEx,Ex.vs,Ex.es,Ex.ps]
 obtain ⟨W,hW⟩:∃W,((w.alloc (.cells #[.int .i64 x.kind,.string x.temp,.string x.ka,.string x.kb,.int .i64 x.iff,.slice x.vp x.vo.length x.vc,.slice x.ep x.eo.length x.ec,.slice x.pp x.po.length x.pc,.int .u64 x.stamp,.int .i64 x.num] 42)).alloc (.cells #[.int .i64 0,.string ⟨#[]⟩,.string ⟨#[]⟩,.string ⟨#[]⟩,.int .i64 0,.slice none 0 0,.slice none 0 0,.slice none 0 0,.int .u64 0,.int .i64 0] 42))=W:=⟨_,rfl⟩
 obtain ⟨b0,b1,hb⟩:=w0_facts w x W hW
 have c0:(W.setCell ⟨w.heap.size,7,none⟩ (.slice none 0 0)).heap[w.heap.size]? = some (.cells #[.int .i64 x.kind,.string x.temp,.string x.ka,.string x.kb,.int .i64 x.iff,.slice x.vp x.vo.length x.vc,.slice x.ep x.eo.length x.ec,.slice none 0 0,.int .u64 x.stamp,.int .i64 x.num] 42 (0,0)):=heap_setCell_same _ w.heap.size 7 _ _ (.slice none 0 0) b0
 have r1:(W.setCell ⟨w.heap.size,7,none⟩ (.slice none 0 0)).heap[w.heap.size+1]? = some (.cells #[.int .i64 0,.string ⟨#[]⟩,.string ⟨#[]⟩,.string ⟨#[]⟩,.int .i64 0,.slice none 0 0,.slice none 0 0,.slice none 0 0,.int .u64 0,.int .i64 0] 42 (0,0)):=((Below.heap_setCell _ _ _ _ (by show w.heap.size+1≠w.heap.size;omega)).trans b1)
 obtain ⟨W1,hW1⟩:∃W1,(W.setCell ⟨w.heap.size,7,none⟩ (.slice none 0 0))=W1:=⟨_,rfl⟩
 rw [hW1] at c0 r1
 obtain ⟨WZ,hWZ⟩:∃WZ,((((((((((W1.setCell ⟨w.heap.size+1,0,none⟩ (.int .i64 x.kind)).setCell ⟨w.heap.size+1,1,none⟩ (.string x.temp)).setCell ⟨w.heap.size+1,2,none⟩ (.string x.ka)).setCell ⟨w.heap.size+1,3,none⟩ (.string x.kb)).setCell ⟨w.heap.size+1,4,none⟩ (.int .i64 x.iff)).setCell ⟨w.heap.size+1,5,none⟩ (.slice x.vp x.vo.length x.vc)).setCell ⟨w.heap.size+1,6,none⟩ (.slice x.ep x.eo.length x.ec)).setCell ⟨w.heap.size+1,7,none⟩ (.slice none 0 0)).setCell ⟨w.heap.size+1,8,none⟩ (.int .u64 x.stamp)).setCell ⟨w.heap.size+1,9,none⟩ (.int .i64 x.num))=WZ:=⟨_,rfl⟩
 obtain ⟨bz,fz⟩:=out_ten r1 _ _ _ _ _ _ _ _ _ _ hWZ
 have hbW:Below w.heap.size w W1:=by rw [←hW1];exact (hb.setCell (p:=⟨w.heap.size,7,none⟩) (Nat.le_refl _) (.slice none 0 0))
 have HFIN:Hid (Ending.returned (.agg #[.int .i64 x.kind,.string x.temp,.string x.ka,.string x.kb,.int .i64 x.iff,.slice x.vp x.vo.length x.vc,.slice x.ep x.eo.length x.ec,.slice none 0 0,.int .u64 x.stamp,.int .i64 x.num])=.returned (.agg (encEx (wout x 7)).toArray)∧Below w.heap.size w WZ):=hid ⟨rfl,hbW.trans (fz.below hbW.size fun k hk=>by omega)⟩
 have s0:W.cell? ⟨w.heap.size,7,none⟩=some (.slice x.pp x.po.length x.pc):=cz b0
 have f0:=Lib.frozen_of_heap b0 7
 have k0:(W.setCell ⟨w.heap.size,7,none⟩ (.slice none 0 0)).heap[w.heap.size]? = some (.cells #[.int .i64 x.kind,.string x.temp,.string x.ka,.string x.kb,.int .i64 x.iff,.slice x.vp x.vo.length x.vc,.slice x.ep x.eo.length x.ec,.slice none 0 0,.int .u64 x.stamp,.int .i64 x.num] 42 (0,0)):=heap_setCell_same _ w.heap.size 7 _ _ (.slice none 0 0) b0
 have l0:W1.cell? ⟨w.heap.size,0,none⟩=some (.int .i64 x.kind):=cz c0
 have l1:W1.cell? ⟨w.heap.size,1,none⟩=some (.string x.temp):=cz c0
 have l2:W1.cell? ⟨w.heap.size,2,none⟩=some (.string x.ka):=cz c0
 have l3:W1.cell? ⟨w.heap.size,3,none⟩=some (.string x.kb):=cz c0
 have l4:W1.cell? ⟨w.heap.size,4,none⟩=some (.int .i64 x.iff):=cz c0
 have l5:W1.cell? ⟨w.heap.size,5,none⟩=some (.slice x.vp x.vo.length x.vc):=cz c0
 have l6:W1.cell? ⟨w.heap.size,6,none⟩=some (.slice x.ep x.eo.length x.ec):=cz c0
 have l7:W1.cell? ⟨w.heap.size,7,none⟩=some (.slice none 0 0):=cz c0
 have l8:W1.cell? ⟨w.heap.size,8,none⟩=some (.int .u64 x.stamp):=cz c0
 have l9:W1.cell? ⟨w.heap.size,9,none⟩=some (.int .i64 x.num):=cz c0
 have y0:W1.cell? ⟨w.heap.size+1,0,none⟩=some (.int .i64 0):=cz r1
 have z0:=Lib.frozen_of_heap r1 0
 have y1:W1.cell? ⟨w.heap.size+1,1,none⟩=some (.string ⟨#[]⟩):=cz r1
 have z1:=Lib.frozen_of_heap r1 1
 have y2:W1.cell? ⟨w.heap.size+1,2,none⟩=some (.string ⟨#[]⟩):=cz r1
 have z2:=Lib.frozen_of_heap r1 2
 have y3:W1.cell? ⟨w.heap.size+1,3,none⟩=some (.string ⟨#[]⟩):=cz r1
 have z3:=Lib.frozen_of_heap r1 3
 have y4:W1.cell? ⟨w.heap.size+1,4,none⟩=some (.int .i64 0):=cz r1
 have z4:=Lib.frozen_of_heap r1 4
 have y5:W1.cell? ⟨w.heap.size+1,5,none⟩=some (.slice none 0 0):=cz r1
 have z5:=Lib.frozen_of_heap r1 5
 have y6:W1.cell? ⟨w.heap.size+1,6,none⟩=some (.slice none 0 0):=cz r1
 have z6:=Lib.frozen_of_heap r1 6
 have y7:W1.cell? ⟨w.heap.size+1,7,none⟩=some (.slice none 0 0):=cz r1
 have z7:=Lib.frozen_of_heap r1 7
 have y8:W1.cell? ⟨w.heap.size+1,8,none⟩=some (.int .u64 0):=cz r1
 have z8:=Lib.frozen_of_heap r1 8
 have y9:W1.cell? ⟨w.heap.size+1,9,none⟩=some (.int .i64 0):=cz r1
 have z9:=Lib.frozen_of_heap r1 9
 have g0:WZ.cell? ⟨w.heap.size+1,0,none⟩=some (.int .i64 x.kind):=cz bz
 have g1:WZ.cell? ⟨w.heap.size+1,1,none⟩=some (.string x.temp):=cz bz
 have g2:WZ.cell? ⟨w.heap.size+1,2,none⟩=some (.string x.ka):=cz bz
 have g3:WZ.cell? ⟨w.heap.size+1,3,none⟩=some (.string x.kb):=cz bz
 have g4:WZ.cell? ⟨w.heap.size+1,4,none⟩=some (.int .i64 x.iff):=cz bz
 have g5:WZ.cell? ⟨w.heap.size+1,5,none⟩=some (.slice x.vp x.vo.length x.vc):=cz bz
 have g6:WZ.cell? ⟨w.heap.size+1,6,none⟩=some (.slice x.ep x.eo.length x.ec):=cz bz
 have g7:WZ.cell? ⟨w.heap.size+1,7,none⟩=some (.slice none 0 0):=cz bz
 have g8:WZ.cell? ⟨w.heap.size+1,8,none⟩=some (.int .u64 x.stamp):=cz bz
 have g9:WZ.cell? ⟨w.heap.size+1,9,none⟩=some (.int .i64 x.num):=cz bz
 clear bz fz b0 b1 r1 hb hbW c0 k0
 go_enter Tryz.func56,Tryz.ntmps56
 go_upto_region 12 with fail
 try rw [hW]
 go_upto_region 19 with fail
 try rw [hW1]
 go_wp2_with fail
 try rw [hWZ]
 exact bodyPost_ret (v:=.agg #[.int .i64 x.kind,.string x.temp,.string x.ka,.string x.kb,.int .i64 x.iff,.slice x.vp x.vo.length x.vc,.slice x.ep x.eo.length x.ec,.slice none 0 0,.int .u64 x.stamp,.int .i64 x.num]) (by simp [results,Tryz.results56,go_sem,g0,g1,g2,g3,g4,g5,g6,g7,g8,g9]) rfl HFIN.out
set_option maxHeartbeats 4000000 in
theorem without8 (x:Ex) (w:World):Calls Tryz.prog 56 #[aggEx x,.int .i64 8] w fun e w'=>e=.returned (aggEx (wout x 8))∧Below w.heap.size w w':=by
 unfold aggEx
 simp only [encEx,Ex.vs,Ex.es,Ex.ps]
 obtain ⟨W,hW⟩:∃W,((w.alloc (.cells #[.int .i64 x.kind,.string x.temp,.string x.ka,.string x.kb,.int .i64 x.iff,.slice x.vp x.vo.length x.vc,.slice x.ep x.eo.length x.ec,.slice x.pp x.po.length x.pc,.int .u64 x.stamp,.int .i64 x.num] 42)).alloc (.cells #[.int .i64 0,.string ⟨#[]⟩,.string ⟨#[]⟩,.string ⟨#[]⟩,.int .i64 0,.slice none 0 0,.slice none 0 0,.slice none 0 0,.int .u64 0,.int .i64 0] 42))=W:=⟨_,rfl⟩
 obtain ⟨b0,b1,hb⟩:=w0_facts w x W hW
 have c0:(W.setCell ⟨w.heap.size,6,none⟩ (.slice none 0 0)).heap[w.heap.size]? = some (.cells #[.int .i64 x.kind,.string x.temp,.string x.ka,.string x.kb,.int .i64 x.iff,.slice x.vp x.vo.length x.vc,.slice none 0 0,.slice x.pp x.po.length x.pc,.int .u64 x.stamp,.int .i64 x.num] 42 (0,0)):=heap_setCell_same _ w.heap.size 6 _ _ (.slice none 0 0) b0
 have r1:(W.setCell ⟨w.heap.size,6,none⟩ (.slice none 0 0)).heap[w.heap.size+1]? = some (.cells #[.int .i64 0,.string ⟨#[]⟩,.string ⟨#[]⟩,.string ⟨#[]⟩,.int .i64 0,.slice none 0 0,.slice none 0 0,.slice none 0 0,.int .u64 0,.int .i64 0] 42 (0,0)):=((Below.heap_setCell _ _ _ _ (by show w.heap.size+1≠w.heap.size;omega)).trans b1)
 obtain ⟨W1,hW1⟩:∃W1,(W.setCell ⟨w.heap.size,6,none⟩ (.slice none 0 0))=W1:=⟨_,rfl⟩
 rw [hW1] at c0 r1
 obtain ⟨WZ,hWZ⟩:∃WZ,((((((((((W1.setCell ⟨w.heap.size+1,0,none⟩ (.int .i64 x.kind)).setCell ⟨w.heap.size+1,1,none⟩ (.string x.temp)).setCell ⟨w.heap.size+1,2,none⟩ (.string x.ka)).setCell ⟨w.heap.size+1,3,none⟩ (.string x.kb)).setCell ⟨w.heap.size+1,4,none⟩ (.int .i64 x.iff)).setCell ⟨w.heap.size+1,5,none⟩ (.slice x.vp x.vo.length x.vc)).setCell ⟨w.heap.size+1,6,none⟩ (.slice none 0 0)).setCell ⟨w.heap.size+1,7,none⟩ (.slice x.pp x.po.length x.pc)).setCell ⟨w.heap.size+1,8,none⟩ (.int .u64 x.stamp)).setCell ⟨w.heap.size+1,9,none⟩ (.int .i64 x.num))=WZ:=⟨_,rfl⟩
 obtain ⟨bz,fz⟩:=out_ten r1 _ _ _ _ _ _ _ _ _ _ hWZ
 have hbW:Below w.heap.size w W1:=by rw [←hW1];exact (hb.setCell (p:=⟨w.heap.size,6,none⟩) (Nat.le_refl _) (.slice none 0 0))
 have HFIN:Hid (Ending.returned (.agg #[.int .i64 x.kind,.string x.temp,.string x.ka,.string x.kb,.int .i64 x.iff,.slice x.vp x.vo.length x.vc,.slice none 0 0,.slice x.pp x.po.length x.pc,.int .u64 x.stamp,.int .i64 x.num])=.returned (.agg (encEx (wout x 8)).toArray)∧Below w.heap.size w WZ):=hid ⟨rfl,hbW.trans (fz.below hbW.size fun k hk=>by omega)⟩
 have s0:W.cell? ⟨w.heap.size,6,none⟩=some (.slice x.ep x.eo.length x.ec):=cz b0
 have f0:=Lib.frozen_of_heap b0 6
 have k0:(W.setCell ⟨w.heap.size,6,none⟩ (.slice none 0 0)).heap[w.heap.size]? = some (.cells #[.int .i64 x.kind,.string x.temp,.string x.ka,.string x.kb,.int .i64 x.iff,.slice x.vp x.vo.length x.vc,.slice none 0 0,.slice x.pp x.po.length x.pc,.int .u64 x.stamp,.int .i64 x.num] 42 (0,0)):=heap_setCell_same _ w.heap.size 6 _ _ (.slice none 0 0) b0
 have l0:W1.cell? ⟨w.heap.size,0,none⟩=some (.int .i64 x.kind):=cz c0
 have l1:W1.cell? ⟨w.heap.size,1,none⟩=some (.string x.temp):=cz c0
 have l2:W1.cell? ⟨w.heap.size,2,none⟩=some (.string x.ka):=cz c0
 have l3:W1.cell? ⟨w.heap.size,3,none⟩=some (.string x.kb):=cz c0
 have l4:W1.cell? ⟨w.heap.size,4,none⟩=some (.int .i64 x.iff):=cz c0
 have l5:W1.cell? ⟨w.heap.size,5,none⟩=some (.slice x.vp x.vo.length x.vc):=cz c0
 have l6:W1.cell? ⟨w.heap.size,6,none⟩=some (.slice none 0 0):=cz c0
 have l7:W1.cell? ⟨w.heap.size,7,none⟩=some (.slice x.pp x.po.length x.pc):=cz c0
 have l8:W1.cell? ⟨w.heap.size,8,none⟩=some (.int .u64 x.stamp):=cz c0
 have l9:W1.cell? ⟨w.heap.size,9,none⟩=some (.int .i64 x.num):=cz c0
 have y0:W1.cell? ⟨w.heap.size+1,0,none⟩=some (.int .i64 0):=cz r1
 have z0:=Lib.frozen_of_heap r1 0
 have y1:W1.cell? ⟨w.heap.size+1,1,none⟩=some (.string ⟨#[]⟩):=cz r1
 have z1:=Lib.frozen_of_heap r1 1
 have y2:W1.cell? ⟨w.heap.size+1,2,none⟩=some (.string ⟨#[]⟩):=cz r1
 have z2:=Lib.frozen_of_heap r1 2
 have y3:W1.cell? ⟨w.heap.size+1,3,none⟩=some (.string ⟨#[]⟩):=cz r1
 have z3:=Lib.frozen_of_heap r1 3
 have y4:W1.cell? ⟨w.heap.size+1,4,none⟩=some (.int .i64 0):=cz r1
 have z4:=Lib.frozen_of_heap r1 4
 have y5:W1.cell? ⟨w.heap.size+1,5,none⟩=some (.slice none 0 0):=cz r1
 have z5:=Lib.frozen_of_heap r1 5
 have y6:W1.cell? ⟨w.heap.size+1,6,none⟩=some (.slice none 0 0):=cz r1
 have z6:=Lib.frozen_of_heap r1 6
 have y7:W1.cell? ⟨w.heap.size+1,7,none⟩=some (.slice none 0 0):=cz r1
 have z7:=Lib.frozen_of_heap r1 7
 have y8:W1.cell? ⟨w.heap.size+1,8,none⟩=some (.int .u64 0):=cz r1
 have z8:=Lib.frozen_of_heap r1 8
 have y9:W1.cell? ⟨w.heap.size+1,9,none⟩=some (.int .i64 0):=cz r1
 have z9:=Lib.frozen_of_heap r1 9
 have g0:WZ.cell? ⟨w.heap.size+1,0,none⟩=some (.int .i64 x.kind):=cz bz
 have g1:WZ.cell? ⟨w.heap.size+1,1,none⟩=some (.string x.temp):=cz bz
 have g2:WZ.cell? ⟨w.heap.size+1,2,none⟩=some (.string x.ka):=cz bz
 have g3:WZ.cell? ⟨w.heap.size+1,3,none⟩=some (.string x.kb):=cz bz
 have g4:WZ.cell? ⟨w.heap.size+1,4,none⟩=some (.int .i64 x.iff):=cz bz
 have g5:WZ.cell? ⟨w.heap.size+1,5,none⟩=some (.slice x.vp x.vo.length x.vc):=cz bz
 have g6:WZ.cell? ⟨w.heap.size+1,6,none⟩=some (.slice none 0 0):=cz bz
 have g7:WZ.cell? ⟨w.heap.size+1,7,none⟩=some (.slice x.pp x.po.length x.pc):=cz bz
 have g8:WZ.cell? ⟨w.heap.size+1,8,none⟩=some (.int .u64 x.stamp):=cz bz
 have g9:WZ.cell? ⟨w.heap.size+1,9,none⟩=some (.int .i64 x.num):=cz bz
 clear bz fz b0 b1 r1 hb hbW c0 k0
 go_enter Tryz.func56,Tryz.ntmps56
 go_upto_region 14 with fail
 try rw [hW]
 go_upto_region 19 with fail
 try rw [hW1]
 go_wp2_with fail
 try rw [hWZ]
 exact bodyPost_ret (v:=.agg #[.int .i64 x.kind,.string x.temp,.string x.ka,.string x.kb,.int .i64 x.iff,.slice x.vp x.vo.length x.vc,.slice none 0 0,.slice x.pp x.po.length x.pc,.int .u64 x.stamp,.int .i64 x.num]) (by simp [results,Tryz.results56,go_sem,g0,g1,g2,g3,g4,g5,g6,g7,g8,g9]) rfl HFIN.out
set_option maxHeartbeats 4000000 in
theorem without9 (x:Ex) (w:World):Calls Tryz.prog 56 #[aggEx x,.int .i64 9] w fun e w'=>e=.returned (aggEx (wout x 9))∧Below w.heap.size w w':=by
 unfold aggEx
 simp only [encEx,Ex.vs,Ex.es,Ex.ps]
 obtain ⟨W,hW⟩:∃W,((w.alloc (.cells #[.int .i64 x.kind,.string x.temp,.string x.ka,.string x.kb,.int .i64 x.iff,.slice x.vp x.vo.length x.vc,.slice x.ep x.eo.length x.ec,.slice x.pp x.po.length x.pc,.int .u64 x.stamp,.int .i64 x.num] 42)).alloc (.cells #[.int .i64 0,.string ⟨#[]⟩,.string ⟨#[]⟩,.string ⟨#[]⟩,.int .i64 0,.slice none 0 0,.slice none 0 0,.slice none 0 0,.int .u64 0,.int .i64 0] 42))=W:=⟨_,rfl⟩
 obtain ⟨b0,b1,hb⟩:=w0_facts w x W hW
 have c0:(W.setCell ⟨w.heap.size,9,none⟩ (.int .i64 0)).heap[w.heap.size]? = some (.cells #[.int .i64 x.kind,.string x.temp,.string x.ka,.string x.kb,.int .i64 x.iff,.slice x.vp x.vo.length x.vc,.slice x.ep x.eo.length x.ec,.slice x.pp x.po.length x.pc,.int .u64 x.stamp,.int .i64 0] 42 (0,0)):=heap_setCell_same _ w.heap.size 9 _ _ (.int .i64 0) b0
 have r1:(W.setCell ⟨w.heap.size,9,none⟩ (.int .i64 0)).heap[w.heap.size+1]? = some (.cells #[.int .i64 0,.string ⟨#[]⟩,.string ⟨#[]⟩,.string ⟨#[]⟩,.int .i64 0,.slice none 0 0,.slice none 0 0,.slice none 0 0,.int .u64 0,.int .i64 0] 42 (0,0)):=((Below.heap_setCell _ _ _ _ (by show w.heap.size+1≠w.heap.size;omega)).trans b1)
 obtain ⟨W1,hW1⟩:∃W1,(W.setCell ⟨w.heap.size,9,none⟩ (.int .i64 0))=W1:=⟨_,rfl⟩
 rw [hW1] at c0 r1
 obtain ⟨WZ,hWZ⟩:∃WZ,((((((((((W1.setCell ⟨w.heap.size+1,0,none⟩ (.int .i64 x.kind)).setCell ⟨w.heap.size+1,1,none⟩ (.string x.temp)).setCell ⟨w.heap.size+1,2,none⟩ (.string x.ka)).setCell ⟨w.heap.size+1,3,none⟩ (.string x.kb)).setCell ⟨w.heap.size+1,4,none⟩ (.int .i64 x.iff)).setCell ⟨w.heap.size+1,5,none⟩ (.slice x.vp x.vo.length x.vc)).setCell ⟨w.heap.size+1,6,none⟩ (.slice x.ep x.eo.length x.ec)).setCell ⟨w.heap.size+1,7,none⟩ (.slice x.pp x.po.length x.pc)).setCell ⟨w.heap.size+1,8,none⟩ (.int .u64 x.stamp)).setCell ⟨w.heap.size+1,9,none⟩ (.int .i64 0))=WZ:=⟨_,rfl⟩
 obtain ⟨bz,fz⟩:=out_ten r1 _ _ _ _ _ _ _ _ _ _ hWZ
 have hbW:Below w.heap.size w W1:=by rw [←hW1];exact (hb.setCell (p:=⟨w.heap.size,9,none⟩) (Nat.le_refl _) (.int .i64 0))
 have HFIN:Hid (Ending.returned (.agg #[.int .i64 x.kind,.string x.temp,.string x.ka,.string x.kb,.int .i64 x.iff,.slice x.vp x.vo.length x.vc,.slice x.ep x.eo.length x.ec,.slice x.pp x.po.length x.pc,.int .u64 x.stamp,.int .i64 0])=.returned (.agg (encEx (wout x 9)).toArray)∧Below w.heap.size w WZ):=hid ⟨rfl,hbW.trans (fz.below hbW.size fun k hk=>by omega)⟩
 have s0:W.cell? ⟨w.heap.size,9,none⟩=some (.int .i64 x.num):=cz b0
 have f0:=Lib.frozen_of_heap b0 9
 have k0:(W.setCell ⟨w.heap.size,9,none⟩ (.int .i64 0)).heap[w.heap.size]? = some (.cells #[.int .i64 x.kind,.string x.temp,.string x.ka,.string x.kb,.int .i64 x.iff,.slice x.vp x.vo.length x.vc,.slice x.ep x.eo.length x.ec,.slice x.pp x.po.length x.pc,.int .u64 x.stamp,.int .i64 0] 42 (0,0)):=heap_setCell_same _ w.heap.size 9 _ _ (.int .i64 0) b0
 have l0:W1.cell? ⟨w.heap.size,0,none⟩=some (.int .i64 x.kind):=cz c0
 have l1:W1.cell? ⟨w.heap.size,1,none⟩=some (.string x.temp):=cz c0
 have l2:W1.cell? ⟨w.heap.size,2,none⟩=some (.string x.ka):=cz c0
 have l3:W1.cell? ⟨w.heap.size,3,none⟩=some (.string x.kb):=cz c0
 have l4:W1.cell? ⟨w.heap.size,4,none⟩=some (.int .i64 x.iff):=cz c0
 have l5:W1.cell? ⟨w.heap.size,5,none⟩=some (.slice x.vp x.vo.length x.vc):=cz c0
 have l6:W1.cell? ⟨w.heap.size,6,none⟩=some (.slice x.ep x.eo.length x.ec):=cz c0
 have l7:W1.cell? ⟨w.heap.size,7,none⟩=some (.slice x.pp x.po.length x.pc):=cz c0
 have l8:W1.cell? ⟨w.heap.size,8,none⟩=some (.int .u64 x.stamp):=cz c0
 have l9:W1.cell? ⟨w.heap.size,9,none⟩=some (.int .i64 0):=cz c0
 have y0:W1.cell? ⟨w.heap.size+1,0,none⟩=some (.int .i64 0):=cz r1
 have z0:=Lib.frozen_of_heap r1 0
 have y1:W1.cell? ⟨w.heap.size+1,1,none⟩=some (.string ⟨#[]⟩):=cz r1
 have z1:=Lib.frozen_of_heap r1 1
 have y2:W1.cell? ⟨w.heap.size+1,2,none⟩=some (.string ⟨#[]⟩):=cz r1
 have z2:=Lib.frozen_of_heap r1 2
 have y3:W1.cell? ⟨w.heap.size+1,3,none⟩=some (.string ⟨#[]⟩):=cz r1
 have z3:=Lib.frozen_of_heap r1 3
 have y4:W1.cell? ⟨w.heap.size+1,4,none⟩=some (.int .i64 0):=cz r1
 have z4:=Lib.frozen_of_heap r1 4
 have y5:W1.cell? ⟨w.heap.size+1,5,none⟩=some (.slice none 0 0):=cz r1
 have z5:=Lib.frozen_of_heap r1 5
 have y6:W1.cell? ⟨w.heap.size+1,6,none⟩=some (.slice none 0 0):=cz r1
 have z6:=Lib.frozen_of_heap r1 6
 have y7:W1.cell? ⟨w.heap.size+1,7,none⟩=some (.slice none 0 0):=cz r1
 have z7:=Lib.frozen_of_heap r1 7
 have y8:W1.cell? ⟨w.heap.size+1,8,none⟩=some (.int .u64 0):=cz r1
 have z8:=Lib.frozen_of_heap r1 8
 have y9:W1.cell? ⟨w.heap.size+1,9,none⟩=some (.int .i64 0):=cz r1
 have z9:=Lib.frozen_of_heap r1 9
 have g0:WZ.cell? ⟨w.heap.size+1,0,none⟩=some (.int .i64 x.kind):=cz bz
 have g1:WZ.cell? ⟨w.heap.size+1,1,none⟩=some (.string x.temp):=cz bz
 have g2:WZ.cell? ⟨w.heap.size+1,2,none⟩=some (.string x.ka):=cz bz
 have g3:WZ.cell? ⟨w.heap.size+1,3,none⟩=some (.string x.kb):=cz bz
 have g4:WZ.cell? ⟨w.heap.size+1,4,none⟩=some (.int .i64 x.iff):=cz bz
 have g5:WZ.cell? ⟨w.heap.size+1,5,none⟩=some (.slice x.vp x.vo.length x.vc):=cz bz
 have g6:WZ.cell? ⟨w.heap.size+1,6,none⟩=some (.slice x.ep x.eo.length x.ec):=cz bz
 have g7:WZ.cell? ⟨w.heap.size+1,7,none⟩=some (.slice x.pp x.po.length x.pc):=cz bz
 have g8:WZ.cell? ⟨w.heap.size+1,8,none⟩=some (.int .u64 x.stamp):=cz bz
 have g9:WZ.cell? ⟨w.heap.size+1,9,none⟩=some (.int .i64 0):=cz bz
 clear bz fz b0 b1 r1 hb hbW c0 k0
 go_enter Tryz.func56,Tryz.ntmps56
 go_upto_region 16 with fail
 try rw [hW]
 go_upto_region 19 with fail
 try rw [hW1]
 go_wp2_with fail
 try rw [hWZ]
 exact bodyPost_ret (v:=.agg #[.int .i64 x.kind,.string x.temp,.string x.ka,.string x.kb,.int .i64 x.iff,.slice x.vp x.vo.length x.vc,.slice x.ep x.eo.length x.ec,.slice x.pp x.po.length x.pc,.int .u64 x.stamp,.int .i64 0]) (by simp [results,Tryz.results56,go_sem,g0,g1,g2,g3,g4,g5,g6,g7,g8,g9]) rfl HFIN.out
set_option maxHeartbeats 4000000 in
theorem without10 (x:Ex) (w:World):Calls Tryz.prog 56 #[aggEx x,.int .i64 10] w fun e w'=>e=.returned (aggEx (wout x 10))∧Below w.heap.size w w':=by
 unfold aggEx
 simp only [encEx,Ex.vs,Ex.es,Ex.ps]
 obtain ⟨W,hW⟩:∃W,((w.alloc (.cells #[.int .i64 x.kind,.string x.temp,.string x.ka,.string x.kb,.int .i64 x.iff,.slice x.vp x.vo.length x.vc,.slice x.ep x.eo.length x.ec,.slice x.pp x.po.length x.pc,.int .u64 x.stamp,.int .i64 x.num] 42)).alloc (.cells #[.int .i64 0,.string ⟨#[]⟩,.string ⟨#[]⟩,.string ⟨#[]⟩,.int .i64 0,.slice none 0 0,.slice none 0 0,.slice none 0 0,.int .u64 0,.int .i64 0] 42))=W:=⟨_,rfl⟩
 obtain ⟨b0,b1,hb⟩:=w0_facts w x W hW
 have c0:(W.setCell ⟨w.heap.size,8,none⟩ (.int .u64 0)).heap[w.heap.size]? = some (.cells #[.int .i64 x.kind,.string x.temp,.string x.ka,.string x.kb,.int .i64 x.iff,.slice x.vp x.vo.length x.vc,.slice x.ep x.eo.length x.ec,.slice x.pp x.po.length x.pc,.int .u64 0,.int .i64 x.num] 42 (0,0)):=heap_setCell_same _ w.heap.size 8 _ _ (.int .u64 0) b0
 have r1:(W.setCell ⟨w.heap.size,8,none⟩ (.int .u64 0)).heap[w.heap.size+1]? = some (.cells #[.int .i64 0,.string ⟨#[]⟩,.string ⟨#[]⟩,.string ⟨#[]⟩,.int .i64 0,.slice none 0 0,.slice none 0 0,.slice none 0 0,.int .u64 0,.int .i64 0] 42 (0,0)):=((Below.heap_setCell _ _ _ _ (by show w.heap.size+1≠w.heap.size;omega)).trans b1)
 obtain ⟨W1,hW1⟩:∃W1,(W.setCell ⟨w.heap.size,8,none⟩ (.int .u64 0))=W1:=⟨_,rfl⟩
 rw [hW1] at c0 r1
 obtain ⟨WZ,hWZ⟩:∃WZ,((((((((((W1.setCell ⟨w.heap.size+1,0,none⟩ (.int .i64 x.kind)).setCell ⟨w.heap.size+1,1,none⟩ (.string x.temp)).setCell ⟨w.heap.size+1,2,none⟩ (.string x.ka)).setCell ⟨w.heap.size+1,3,none⟩ (.string x.kb)).setCell ⟨w.heap.size+1,4,none⟩ (.int .i64 x.iff)).setCell ⟨w.heap.size+1,5,none⟩ (.slice x.vp x.vo.length x.vc)).setCell ⟨w.heap.size+1,6,none⟩ (.slice x.ep x.eo.length x.ec)).setCell ⟨w.heap.size+1,7,none⟩ (.slice x.pp x.po.length x.pc)).setCell ⟨w.heap.size+1,8,none⟩ (.int .u64 0)).setCell ⟨w.heap.size+1,9,none⟩ (.int .i64 x.num))=WZ:=⟨_,rfl⟩
 obtain ⟨bz,fz⟩:=out_ten r1 _ _ _ _ _ _ _ _ _ _ hWZ
 have hbW:Below w.heap.size w W1:=by rw [←hW1];exact (hb.setCell (p:=⟨w.heap.size,8,none⟩) (Nat.le_refl _) (.int .u64 0))
 have HFIN:Hid (Ending.returned (.agg #[.int .i64 x.kind,.string x.temp,.string x.ka,.string x.kb,.int .i64 x.iff,.slice x.vp x.vo.length x.vc,.slice x.ep x.eo.length x.ec,.slice x.pp x.po.length x.pc,.int .u64 0,.int .i64 x.num])=.returned (.agg (encEx (wout x 10)).toArray)∧Below w.heap.size w WZ):=hid ⟨rfl,hbW.trans (fz.below hbW.size fun k hk=>by omega)⟩
 have s0:W.cell? ⟨w.heap.size,8,none⟩=some (.int .u64 x.stamp):=cz b0
 have f0:=Lib.frozen_of_heap b0 8
 have k0:(W.setCell ⟨w.heap.size,8,none⟩ (.int .u64 0)).heap[w.heap.size]? = some (.cells #[.int .i64 x.kind,.string x.temp,.string x.ka,.string x.kb,.int .i64 x.iff,.slice x.vp x.vo.length x.vc,.slice x.ep x.eo.length x.ec,.slice x.pp x.po.length x.pc,.int .u64 0,.int .i64 x.num] 42 (0,0)):=heap_setCell_same _ w.heap.size 8 _ _ (.int .u64 0) b0
 have l0:W1.cell? ⟨w.heap.size,0,none⟩=some (.int .i64 x.kind):=cz c0
 have l1:W1.cell? ⟨w.heap.size,1,none⟩=some (.string x.temp):=cz c0
 have l2:W1.cell? ⟨w.heap.size,2,none⟩=some (.string x.ka):=cz c0
 have l3:W1.cell? ⟨w.heap.size,3,none⟩=some (.string x.kb):=cz c0
 have l4:W1.cell? ⟨w.heap.size,4,none⟩=some (.int .i64 x.iff):=cz c0
 have l5:W1.cell? ⟨w.heap.size,5,none⟩=some (.slice x.vp x.vo.length x.vc):=cz c0
 have l6:W1.cell? ⟨w.heap.size,6,none⟩=some (.slice x.ep x.eo.length x.ec):=cz c0
 have l7:W1.cell? ⟨w.heap.size,7,none⟩=some (.slice x.pp x.po.length x.pc):=cz c0
 have l8:W1.cell? ⟨w.heap.size,8,none⟩=some (.int .u64 0):=cz c0
 have l9:W1.cell? ⟨w.heap.size,9,none⟩=some (.int .i64 x.num):=cz c0
 have y0:W1.cell? ⟨w.heap.size+1,0,none⟩=some (.int .i64 0):=cz r1
 have z0:=Lib.frozen_of_heap r1 0
 have y1:W1.cell? ⟨w.heap.size+1,1,none⟩=some (.string ⟨#[]⟩):=cz r1
 have z1:=Lib.frozen_of_heap r1 1
 have y2:W1.cell? ⟨w.heap.size+1,2,none⟩=some (.string ⟨#[]⟩):=cz r1
 have z2:=Lib.frozen_of_heap r1 2
 have y3:W1.cell? ⟨w.heap.size+1,3,none⟩=some (.string ⟨#[]⟩):=cz r1
 have z3:=Lib.frozen_of_heap r1 3
 have y4:W1.cell? ⟨w.heap.size+1,4,none⟩=some (.int .i64 0):=cz r1
 have z4:=Lib.frozen_of_heap r1 4
 have y5:W1.cell? ⟨w.heap.size+1,5,none⟩=some (.slice none 0 0):=cz r1
 have z5:=Lib.frozen_of_heap r1 5
 have y6:W1.cell? ⟨w.heap.size+1,6,none⟩=some (.slice none 0 0):=cz r1
 have z6:=Lib.frozen_of_heap r1 6
 have y7:W1.cell? ⟨w.heap.size+1,7,none⟩=some (.slice none 0 0):=cz r1
 have z7:=Lib.frozen_of_heap r1 7
 have y8:W1.cell? ⟨w.heap.size+1,8,none⟩=some (.int .u64 0):=cz r1
 have z8:=Lib.frozen_of_heap r1 8
 have y9:W1.cell? ⟨w.heap.size+1,9,none⟩=some (.int .i64 0):=cz r1
 have z9:=Lib.frozen_of_heap r1 9
 have g0:WZ.cell? ⟨w.heap.size+1,0,none⟩=some (.int .i64 x.kind):=cz bz
 have g1:WZ.cell? ⟨w.heap.size+1,1,none⟩=some (.string x.temp):=cz bz
 have g2:WZ.cell? ⟨w.heap.size+1,2,none⟩=some (.string x.ka):=cz bz
 have g3:WZ.cell? ⟨w.heap.size+1,3,none⟩=some (.string x.kb):=cz bz
 have g4:WZ.cell? ⟨w.heap.size+1,4,none⟩=some (.int .i64 x.iff):=cz bz
 have g5:WZ.cell? ⟨w.heap.size+1,5,none⟩=some (.slice x.vp x.vo.length x.vc):=cz bz
 have g6:WZ.cell? ⟨w.heap.size+1,6,none⟩=some (.slice x.ep x.eo.length x.ec):=cz bz
 have g7:WZ.cell? ⟨w.heap.size+1,7,none⟩=some (.slice x.pp x.po.length x.pc):=cz bz
 have g8:WZ.cell? ⟨w.heap.size+1,8,none⟩=some (.int .u64 0):=cz bz
 have g9:WZ.cell? ⟨w.heap.size+1,9,none⟩=some (.int .i64 x.num):=cz bz
 clear bz fz b0 b1 r1 hb hbW c0 k0
 go_enter Tryz.func56,Tryz.ntmps56
 go_upto_region 18 with fail
 try rw [hW]
 go_upto_region 19 with fail
 try rw [hW1]
 go_wp2_with fail
 try rw [hWZ]
 exact bodyPost_ret (v:=.agg #[.int .i64 x.kind,.string x.temp,.string x.ka,.string x.kb,.int .i64 x.iff,.slice x.vp x.vo.length x.vc,.slice x.ep x.eo.length x.ec,.slice x.pp x.po.length x.pc,.int .u64 0,.int .i64 x.num]) (by simp [results,Tryz.results56,go_sem,g0,g1,g2,g3,g4,g5,g6,g7,g8,g9]) rfl HFIN.out
theorem without_any (x:Ex) (p:Nat) (w:World) (h1:1≤p) (h2:p≤10):Calls Tryz.prog 56 #[aggEx x,.int .i64 p] w fun e w'=>e=.returned (aggEx (wout x p))∧Below w.heap.size w w':=by
 have hp:p=1∨p=2∨p=3∨p=4∨p=5∨p=6∨p=7∨p=8∨p=9∨p=10:=by omega
 rcases hp with rfl|rfl|rfl|rfl|rfl|rfl|rfl|rfl|rfl|rfl
 ·exact without1 x w
 ·exact without2 x w
 ·exact without3 x w
 ·exact without4 x w
 ·exact without5 x w
 ·exact without6 x w
 ·exact without7 x w
 ·exact without8 x w
 ·exact without9 x w
 ·exact without10 x w
end
section
open Go.RowKit Go.Sort Go.Lib
theorem eql_keyQ (a b c d:ByteArray) (w:World):(binOp .eql 36 (.agg #[.string a,.string b]) (.agg #[.string c,.string d])).run Tryz.prog w=.ok (.bool (decide (a=c∧b=d))) w:=by
 have hS:Tryz.prog.underlying 36=some (.struct (Tryz.prog.fieldsOf 36)):=by kernel_rfl
 have hp:Tryz.prog.stoodInHeld 36=false:=by kernel_rfl
 have u9:=Tryz.underlying9
 have a9:=Tryz.isAgg9
 have z9:=Tryz.sizeOf9
 rw [run_eql_struct,show (10000:Nat)=9999+1 from rfl,run_equalIn_agg w 9999 36 _ _ hS hp]
 simp only [Program.fieldsOf,Tryz.underlying36]
 go_simp
 by_cases h1:a=c
 ·subst h1
  by_cases h3:b=d
  ·subst h3;simp
  ·have e3:=beq_eq_false_iff_ne.1 (seq_false h3)
   simp [h3,e3]
 ·have e1:=beq_eq_false_iff_ne.1 (seq_false h1)
  simp [h1,e1]
theorem neqE_at:NeqAt Tryz.prog 47 (fun x:Ed=>.agg (encE x).toArray) (fun x y=>decide (x=y)) :=
 ⟨fun x y w=>neq_edit x y w,GuardAt.agg (fun x:Ed=>(encE x).toArray) (by kernel_rfl)⟩
theorem allEqE:∀(p q:List Ed),Lib.allEq (fun x y=>decide (x=y)) p q=decide (p=q)
 | [],[]=>rfl
 | [],y::q=>by simp [Lib.allEq]
 | x::p,[]=>by simp [Lib.allEq]
 | x::p,y::q=>by
  have:=allEqE p q
  unfold Lib.allEq
  rw [this]
  by_cases h1:x=y<;>by_cases h2:p=q<;>simp [h1,h2]
set_option maxHeartbeats 1000000 in
theorem eqE_none1 (q1 q2:Option Addr) (c1 c2 m:Nat) (hm:m≤maxLen) (w:World) :
  Calls Tryz.prog 58 #[.slice q1 0 c1,.slice q2 m c2] w fun e w'=>e=.returned (.bool (decide (m=0)))∧w'=w:=by
 unfold maxLen at hm
 by_cases h0:m=0
 ·subst h0
  go_enter Tryz.func58,Tryz.ntmps58
  go_wp2_with fail
  refine wp_loop_rounds 1 ?_
  rw [rounds_succ]
  go_wp2_with fail
  go_ret
  exact ⟨rfl,rfl⟩
 ·have hz:((0:Int) != (m:Int))=true:=by simp;omega
  have hd:=decide_eq_false h0
  rw [hd]
  go_enter Tryz.func58,Tryz.ntmps58
  go_wp2_with fail
  go_ret
  exact ⟨rfl,rfl⟩
set_option maxHeartbeats 1000000 in
theorem eqE_none2 (q1 q2:Option Addr) (c1 c2 m:Nat) (hm:m≠0) (w:World) :
  Calls Tryz.prog 58 #[.slice q1 m c1,.slice q2 0 c2] w fun e w'=>e=.returned (.bool false)∧w'=w:=by
 have hz:((m:Int) != 0)=true:=by simp;omega
 go_enter Tryz.func58,Tryz.ntmps58
 go_wp2_with fail
 go_ret
 exact ⟨rfl,rfl⟩
theorem eqE_any (v u:Value) (p q:List Ed) (w:World) (hv:KE.Is w v p) (hu:KE.Is w u q) (hl1:p.length≤maxLen) (hl2:q.length≤maxLen) :
  Calls Tryz.prog 58 #[v,u] w fun e w'=>e=.returned (.bool (decide (p=q)))∧Below w.heap.size w w':=by
 obtain ⟨a1,k1,rfl,hd1⟩:=hv
 obtain ⟨a2,k2,rfl,hd2⟩:=hu
 by_cases h1:p=[]
 ·subst h1
  refine (eqE_none1 a1 a2 k1 k2 q.length hl2 w).mono ?_
  rintro e w' ⟨rfl,rfl⟩
  refine ⟨ret_bool ?_,Below.refl _ _⟩
  cases q<;>simp
 ·by_cases h2:q=[]
  ·subst h2
   refine (eqE_none2 a1 a2 k1 k2 p.length (fun e=>h1 (List.length_eq_zero_iff.1 e)) w).mono ?_
   rintro e w' ⟨rfl,rfl⟩
   exact ⟨ret_bool (by rw [decide_eq_false h1]),Below.refl _ _⟩
  ·rcases hd1 with hd1|⟨b1,o1,rfl,x1⟩
   ·exact absurd hd1 h1
   ·rcases hd2 with hd2|⟨b2,o2,rfl,x2⟩
    ·exact absurd hd2 h2
    ·unfold maxLen at hl1 hl2
     have hc:=AnyQ.slices_Equal (α:=Ed) Tryz.eqEdt 3 Tryz.isAgg47 Tryz.sizeOf47 encE (fun _=>rfl) (fun x y=>decide (x=y)) neqE_at b1 o1 p.length k1 b2 o2 q.length k2 p q w (Nat.le_refl _) (Nat.le_refl _) (by omega) (by omega)
      (fun j hj i v hv=>by rw [getElem!_pos p j hj] at hv;exact ke_enc x1 j hj i v hv) (fun j hj i v hv=>by rw [getElem!_pos q j hj] at hv;exact ke_enc x2 j hj i v hv)
     change Calls Tryz.prog 58 _ _ _ at hc
     refine hc.mono ?_
     rintro e w' ⟨rfl,n,rfl⟩
     exact ⟨ret_bool (by rw [List.take_length,List.take_length,allEqE]),bel_drewN (Below.refl _ _) n⟩
instance:DecidableEq En:=fun a b =>
 decidable_of_iff (a.kind=b.kind∧a.temp=b.temp∧(a.ka=b.ka∧a.kb=b.kb)∧a.iff=b.iff∧a.stamp=b.stamp∧a.num=b.num∧a.val=b.val∧a.eds=b.eds∧a.pred=b.pred) (by
  cases a;cases b
  simp only [En.mk.injEq]
  constructor
  ·rintro ⟨h1,h2,⟨h3,h4⟩,h5,h6,h7,h8,h9,h10⟩;exact ⟨h1,h2,h3,h4,h5,h8,h9,h10,h6,h7⟩
  ·rintro ⟨h1,h2,h3,h4,h5,h8,h9,h10,h6,h7⟩;exact ⟨h1,h2,⟨h3,h4⟩,h5,h6,h7,h8,h9,h10⟩)
theorem en_eq (a b:En):a=b↔(a.kind=b.kind∧a.temp=b.temp∧(a.ka=b.ka∧a.kb=b.kb)∧a.iff=b.iff∧a.stamp=b.stamp∧a.num=b.num∧a.val=b.val∧a.eds=b.eds∧a.pred=b.pred):=by
  cases a;cases b
  simp only [En.mk.injEq]
  constructor
  ·rintro ⟨h1,h2,h3,h4,h5,h8,h9,h10,h6,h7⟩;exact ⟨h1,h2,⟨h3,h4⟩,h5,h6,h7,h8,h9,h10⟩
  ·rintro ⟨h1,h2,⟨h3,h4⟩,h5,h6,h7,h8,h9,h10⟩;exact ⟨h1,h2,h3,h4,h5,h8,h9,h10,h6,h7⟩
set_option maxHeartbeats 8000000 in
set_option maxRecDepth 100000 in
theorem opsame_any (x y:Ex) (w:World) (hx:ExIn w x) (hy:ExIn w y) :
  Calls Tryz.prog 30 #[aggEx x,aggEx y] w fun e w'=>e=.returned (.bool (decide (x.en=y.en)))∧Below w.heap.size w w':=by
 obtain ⟨W,hW⟩:∃W,(w.alloc (.cells (encEx x).toArray 42)).alloc (.cells (encEx y).toArray 42)=W:=⟨_,rfl⟩
 have hbl:Below w.heap.size w W:=by rw [←hW];exact ((Below.refl _ _).alloc (Nat.le_refl _) _).alloc (by simp) _
 have b0:W.heap[w.heap.size]? = some (.cells (encEx x).toArray 42 (0,0)):=by
  rw [←hW,Below.heap_alloc _ _ _ (by simp)];exact heap_alloc_new w _
 have b1:W.heap[w.heap.size+1]? = some (.cells (encEx y).toArray 42 (0,0)):=by
  rw [←hW]
  have:=heap_alloc_new (w.alloc (.cells (encEx x).toArray 42)) (.cells (encEx y).toArray 42)
  simpa using this
 have HX:=hid (hx.on hbl)
 have HY:=hid (hy.on hbl)
 have HB:=hid hbl
 have HB0:=hid b0
 have HB1:=hid b1
 have HEV:=hid (equal_any x.vs y.vs x.vo y.vo W HX.out.val HY.out.val HX.out.fit HY.out.fit)
 have HEE:Hid (∀V,Below W.heap.size W V→Calls Tryz.prog 58 #[x.es,y.es] V fun e w'=>e=.returned (.bool (decide (x.eo=y.eo)))∧Below V.heap.size V w'):=hid fun V h=>eqE_any x.es y.es x.eo y.eo V (Kind.is_kept HX.out.eds h) (Kind.is_kept HY.out.eds h) HX.out.efit.1 HY.out.efit.1
 have HEP:Hid (∀V,Below W.heap.size W V→Calls Tryz.prog 59 #[x.ps,y.ps] V fun e w'=>e=.returned (.bool (decide (x.po=y.po)))∧Below V.heap.size V w'):=hid fun V h=>pequal_any x.ps y.ps x.po y.po V (Kind.is_kept HX.out.prd h) (Kind.is_kept HY.out.prd h) HX.out.pfit.1 HY.out.pfit.1
 have HD:Hid (decide (x.en=y.en)=decide (x.kind=y.kind∧x.temp=y.temp∧(x.ka=y.ka∧x.kb=y.kb)∧x.iff=y.iff∧x.stamp=y.stamp∧x.num=y.num∧x.vo.map Fx.fld=y.vo.map Fx.fld∧x.eo=y.eo∧x.po=y.po)):=hid (by
  rw [decide_eq_decide];exact en_eq x.en y.en)
 have HKQ:=hid (eql_keyQ x.ka x.kb y.ka y.kb)
 unfold aggEx
 simp only [encEx,Ex.vs,Ex.es,Ex.ps] at HB0 HB1 HEV HEE HEP hW ⊢
 clear b0 b1 hbl hx hy
 have hc:∀V,Below W.heap.size W V→V.heap[w.heap.size]? = W.heap[w.heap.size]?∧V.heap[w.heap.size+1]? = W.heap[w.heap.size+1]?:=fun V h =>
  ⟨h.block _ (Array.getElem?_eq_some_iff.1 HB0.out).1,h.block _ (Array.getElem?_eq_some_iff.1 HB1.out).1⟩
 have HC:=hid hc
 clear hc
 have x0:W.cell? ⟨w.heap.size,0,none⟩=some (.int .i64 x.kind):=by rw [Lib.cell_of_heap HB0.out];rfl
 have v0:W.cell? ⟨w.heap.size+1,0,none⟩=some (.int .i64 y.kind):=by rw [Lib.cell_of_heap HB1.out];rfl
 have x1:W.cell? ⟨w.heap.size,1,none⟩=some (.string x.temp):=by rw [Lib.cell_of_heap HB0.out];rfl
 have v1:W.cell? ⟨w.heap.size+1,1,none⟩=some (.string y.temp):=by rw [Lib.cell_of_heap HB1.out];rfl
 have x2:W.cell? ⟨w.heap.size,2,none⟩=some (.string x.ka):=by rw [Lib.cell_of_heap HB0.out];rfl
 have v2:W.cell? ⟨w.heap.size+1,2,none⟩=some (.string y.ka):=by rw [Lib.cell_of_heap HB1.out];rfl
 have x3:W.cell? ⟨w.heap.size,3,none⟩=some (.string x.kb):=by rw [Lib.cell_of_heap HB0.out];rfl
 have v3:W.cell? ⟨w.heap.size+1,3,none⟩=some (.string y.kb):=by rw [Lib.cell_of_heap HB1.out];rfl
 have x4:W.cell? ⟨w.heap.size,4,none⟩=some (.int .i64 x.iff):=by rw [Lib.cell_of_heap HB0.out];rfl
 have v4:W.cell? ⟨w.heap.size+1,4,none⟩=some (.int .i64 y.iff):=by rw [Lib.cell_of_heap HB1.out];rfl
 have x5:W.cell? ⟨w.heap.size,5,none⟩=some (.slice x.vp x.vo.length x.vc):=by rw [Lib.cell_of_heap HB0.out];rfl
 have v5:W.cell? ⟨w.heap.size+1,5,none⟩=some (.slice y.vp y.vo.length y.vc):=by rw [Lib.cell_of_heap HB1.out];rfl
 have x6:W.cell? ⟨w.heap.size,6,none⟩=some (.slice x.ep x.eo.length x.ec):=by rw [Lib.cell_of_heap HB0.out];rfl
 have v6:W.cell? ⟨w.heap.size+1,6,none⟩=some (.slice y.ep y.eo.length y.ec):=by rw [Lib.cell_of_heap HB1.out];rfl
 have x7:W.cell? ⟨w.heap.size,7,none⟩=some (.slice x.pp x.po.length x.pc):=by rw [Lib.cell_of_heap HB0.out];rfl
 have v7:W.cell? ⟨w.heap.size+1,7,none⟩=some (.slice y.pp y.po.length y.pc):=by rw [Lib.cell_of_heap HB1.out];rfl
 have x8:W.cell? ⟨w.heap.size,8,none⟩=some (.int .u64 x.stamp):=by rw [Lib.cell_of_heap HB0.out];rfl
 have v8:W.cell? ⟨w.heap.size+1,8,none⟩=some (.int .u64 y.stamp):=by rw [Lib.cell_of_heap HB1.out];rfl
 have x9:W.cell? ⟨w.heap.size,9,none⟩=some (.int .i64 x.num):=by rw [Lib.cell_of_heap HB0.out];rfl
 have v9:W.cell? ⟨w.heap.size+1,9,none⟩=some (.int .i64 y.num):=by rw [Lib.cell_of_heap HB1.out];rfl
 by_cases h_kind:x.kind=y.kind
 case neg =>
  have q_kind:(x.kind==y.kind)=false:=beq_eq_false_iff_ne.2 h_kind
  have HF:Hid (decide (x.kind=y.kind∧x.temp=y.temp∧(x.ka=y.ka∧x.kb=y.kb)∧x.iff=y.iff∧x.stamp=y.stamp∧x.num=y.num∧x.vo.map Fx.fld=y.vo.map Fx.fld∧x.eo=y.eo∧x.po=y.po)=false):=hid (decide_eq_false fun q=>h_kind q.1)
  have H_kind:=hid h_kind
  clear h_kind
  go_enter Tryz.func30,Tryz.ntmps30
  go_upto_region 1 with fail
  try rw [hW]
  go_wp2_with fail
  go_ret
  exact ⟨by rw [HD.out,HF.out];rfl,HB.out⟩
 have q_kind:(x.kind==y.kind)=true:=beq_iff_eq.2 h_kind
 by_cases h_temp:x.temp=y.temp
 case neg =>
  have q_temp:(x.temp.toList==y.temp.toList)=false:=seq_false h_temp
  have HF:Hid (decide (x.kind=y.kind∧x.temp=y.temp∧(x.ka=y.ka∧x.kb=y.kb)∧x.iff=y.iff∧x.stamp=y.stamp∧x.num=y.num∧x.vo.map Fx.fld=y.vo.map Fx.fld∧x.eo=y.eo∧x.po=y.po)=false):=hid (decide_eq_false fun q=>h_temp q.2.1)
  have H_kind:=hid h_kind
  clear h_kind
  have H_temp:=hid h_temp
  clear h_temp
  go_enter Tryz.func30,Tryz.ntmps30
  go_upto_region 1 with fail
  try rw [hW]
  go_wp2_with fail
  go_ret
  exact ⟨by rw [HD.out,HF.out];rfl,HB.out⟩
 have q_temp:(x.temp.toList==y.temp.toList)=true:=seq_true h_temp
 by_cases h_key:(x.ka=y.ka∧x.kb=y.kb)
 case neg =>
  have q_key:∀V,(binOp .eql 36 (.agg #[.string x.ka,.string x.kb]) (.agg #[.string y.ka,.string y.kb])).run Tryz.prog V=.ok (.bool false) V:=fun V=>by rw [HKQ.out V,decide_eq_false h_key]
  have HF:Hid (decide (x.kind=y.kind∧x.temp=y.temp∧(x.ka=y.ka∧x.kb=y.kb)∧x.iff=y.iff∧x.stamp=y.stamp∧x.num=y.num∧x.vo.map Fx.fld=y.vo.map Fx.fld∧x.eo=y.eo∧x.po=y.po)=false):=hid (decide_eq_false fun q=>h_key q.2.2.1)
  have H_kind:=hid h_kind
  clear h_kind
  have H_temp:=hid h_temp
  clear h_temp
  have H_key:=hid h_key
  clear h_key
  go_enter Tryz.func30,Tryz.ntmps30
  go_upto_region 1 with fail
  try rw [hW]
  go_wp2_with fail
  go_ret
  exact ⟨by rw [HD.out,HF.out];rfl,HB.out⟩
 have q_key:∀V,(binOp .eql 36 (.agg #[.string x.ka,.string x.kb]) (.agg #[.string y.ka,.string y.kb])).run Tryz.prog V=.ok (.bool true) V:=fun V=>by rw [HKQ.out V,decide_eq_true h_key]
 by_cases h_iff:x.iff=y.iff
 case neg =>
  have q_iff:(x.iff==y.iff)=false:=beq_eq_false_iff_ne.2 h_iff
  have HF:Hid (decide (x.kind=y.kind∧x.temp=y.temp∧(x.ka=y.ka∧x.kb=y.kb)∧x.iff=y.iff∧x.stamp=y.stamp∧x.num=y.num∧x.vo.map Fx.fld=y.vo.map Fx.fld∧x.eo=y.eo∧x.po=y.po)=false):=hid (decide_eq_false fun q=>h_iff q.2.2.2.1)
  have H_kind:=hid h_kind
  clear h_kind
  have H_temp:=hid h_temp
  clear h_temp
  have H_key:=hid h_key
  clear h_key
  have H_iff:=hid h_iff
  clear h_iff
  go_enter Tryz.func30,Tryz.ntmps30
  go_upto_region 1 with fail
  try rw [hW]
  go_wp2_with fail
  go_ret
  exact ⟨by rw [HD.out,HF.out];rfl,HB.out⟩
 have q_iff:(x.iff==y.iff)=true:=beq_iff_eq.2 h_iff
 by_cases h_stamp:x.stamp=y.stamp
 case neg =>
  have q_stamp:(x.stamp==y.stamp)=false:=beq_eq_false_iff_ne.2 h_stamp
  have HF:Hid (decide (x.kind=y.kind∧x.temp=y.temp∧(x.ka=y.ka∧x.kb=y.kb)∧x.iff=y.iff∧x.stamp=y.stamp∧x.num=y.num∧x.vo.map Fx.fld=y.vo.map Fx.fld∧x.eo=y.eo∧x.po=y.po)=false):=hid (decide_eq_false fun q=>h_stamp q.2.2.2.2.1)
  have H_kind:=hid h_kind
  clear h_kind
  have H_temp:=hid h_temp
  clear h_temp
  have H_key:=hid h_key
  clear h_key
  have H_iff:=hid h_iff
  clear h_iff
  have H_stamp:=hid h_stamp
  clear h_stamp
  go_enter Tryz.func30,Tryz.ntmps30
  go_upto_region 1 with fail
  try rw [hW]
  go_wp2_with fail
  go_ret
  exact ⟨by rw [HD.out,HF.out];rfl,HB.out⟩
 have q_stamp:(x.stamp==y.stamp)=true:=beq_iff_eq.2 h_stamp
 by_cases h_num:x.num=y.num
 case neg =>
  have q_num:(x.num==y.num)=false:=beq_eq_false_iff_ne.2 h_num
  have HF:Hid (decide (x.kind=y.kind∧x.temp=y.temp∧(x.ka=y.ka∧x.kb=y.kb)∧x.iff=y.iff∧x.stamp=y.stamp∧x.num=y.num∧x.vo.map Fx.fld=y.vo.map Fx.fld∧x.eo=y.eo∧x.po=y.po)=false):=hid (decide_eq_false fun q=>h_num q.2.2.2.2.2.1)
  have H_kind:=hid h_kind
  clear h_kind
  have H_temp:=hid h_temp
  clear h_temp
  have H_key:=hid h_key
  clear h_key
  have H_iff:=hid h_iff
  clear h_iff
  have H_stamp:=hid h_stamp
  clear h_stamp
  have H_num:=hid h_num
  clear h_num
  go_enter Tryz.func30,Tryz.ntmps30
  go_upto_region 1 with fail
  try rw [hW]
  go_wp2_with fail
  go_ret
  exact ⟨by rw [HD.out,HF.out];rfl,HB.out⟩
 have q_num:(x.num==y.num)=true:=beq_iff_eq.2 h_num
 have HALL:Hid (decide (x.kind=y.kind∧x.temp=y.temp∧(x.ka=y.ka∧x.kb=y.kb)∧x.iff=y.iff∧x.stamp=y.stamp∧x.num=y.num∧x.vo.map Fx.fld=y.vo.map Fx.fld∧x.eo=y.eo∧x.po=y.po)=decide (x.vo.map Fx.fld=y.vo.map Fx.fld∧x.eo=y.eo∧x.po=y.po)):=hid (by rw [decide_eq_decide];exact ⟨fun q=>q.2.2.2.2.2.2,fun q=>⟨h_kind,h_temp,h_key,h_iff,h_stamp,h_num,q⟩⟩)
 clear h_kind h_temp h_key h_iff h_stamp h_num
 by_cases h_val:x.vo.map Fx.fld=y.vo.map Fx.fld
 case neg =>
  have q_val:=decide_eq_false h_val
  have HF:Hid (decide (x.vo.map Fx.fld=y.vo.map Fx.fld∧x.eo=y.eo∧x.po=y.po)=false):=hid (decide_eq_false fun q=>h_val q.1)
  clear h_val
  go_enter Tryz.func30,Tryz.ntmps30
  go_upto_region 1 with fail
  try rw [hW]
  go_wp2_with (go_at_call 57;refine HEV.out.mono ?_;rintro e W1 ⟨rfl,hb1⟩;have HB2:=hid hb1.below;clear hb1;obtain ⟨d0,d1⟩:=HC.out W1 HB2.out;have eW16:W1.cell? ⟨w.heap.size,6,none⟩=some (.slice x.ep x.eo.length x.ec):=(by rw [Lib.cell_of_heap (d0.trans HB0.out)];rfl);have gW16:W1.cell? ⟨w.heap.size+1,6,none⟩=some (.slice y.ep y.eo.length y.ec):=(by rw [Lib.cell_of_heap (d1.trans HB1.out)];rfl);have eW17:W1.cell? ⟨w.heap.size,7,none⟩=some (.slice x.pp x.po.length x.pc):=(by rw [Lib.cell_of_heap (d0.trans HB0.out)];rfl);have gW17:W1.cell? ⟨w.heap.size+1,7,none⟩=some (.slice y.pp y.po.length y.pc):=(by rw [Lib.cell_of_heap (d1.trans HB1.out)];rfl);rw [q_val])
  go_ret
  exact ⟨by rw [HD.out,HALL.out,HF.out];rfl,HB.out.trans (HB2.out.mono HB.out.size)⟩
 have q_val:=decide_eq_true h_val
 by_cases h_eds:x.eo=y.eo
 case neg =>
  have q_eds:=decide_eq_false h_eds
  have HF:Hid (decide (x.vo.map Fx.fld=y.vo.map Fx.fld∧x.eo=y.eo∧x.po=y.po)=false):=hid (decide_eq_false fun q=>h_eds q.2.1)
  clear h_eds h_val
  go_enter Tryz.func30,Tryz.ntmps30
  go_upto_region 1 with fail
  try rw [hW]
  go_wp2_with (first|(go_at_call 57;refine HEV.out.mono ?_;rintro e W1 ⟨rfl,hb1⟩;have HB2:=hid hb1.below;clear hb1;obtain ⟨d0,d1⟩:=HC.out W1 HB2.out;have eW16:W1.cell? ⟨w.heap.size,6,none⟩=some (.slice x.ep x.eo.length x.ec):=(by rw [Lib.cell_of_heap (d0.trans HB0.out)];rfl);have gW16:W1.cell? ⟨w.heap.size+1,6,none⟩=some (.slice y.ep y.eo.length y.ec):=(by rw [Lib.cell_of_heap (d1.trans HB1.out)];rfl);have eW17:W1.cell? ⟨w.heap.size,7,none⟩=some (.slice x.pp x.po.length x.pc):=(by rw [Lib.cell_of_heap (d0.trans HB0.out)];rfl);have gW17:W1.cell? ⟨w.heap.size+1,7,none⟩=some (.slice y.pp y.po.length y.pc):=(by rw [Lib.cell_of_heap (d1.trans HB1.out)];rfl);rw [q_val])|(go_at_call 58;refine (HEE.out W1 HB2.out).mono ?_;rintro e W2 ⟨rfl,hb2⟩;have HB3:=hid (HB2.out.trans (hb2.mono HB2.out.size));clear hb2;obtain ⟨d2,d3⟩:=HC.out W2 HB3.out;have eW26:W2.cell? ⟨w.heap.size,6,none⟩=some (.slice x.ep x.eo.length x.ec):=(by rw [Lib.cell_of_heap (d2.trans HB0.out)];rfl);have gW26:W2.cell? ⟨w.heap.size+1,6,none⟩=some (.slice y.ep y.eo.length y.ec):=(by rw [Lib.cell_of_heap (d3.trans HB1.out)];rfl);have eW27:W2.cell? ⟨w.heap.size,7,none⟩=some (.slice x.pp x.po.length x.pc):=(by rw [Lib.cell_of_heap (d2.trans HB0.out)];rfl);have gW27:W2.cell? ⟨w.heap.size+1,7,none⟩=some (.slice y.pp y.po.length y.pc):=(by rw [Lib.cell_of_heap (d3.trans HB1.out)];rfl);rw [q_eds]))
  go_ret
  exact ⟨by rw [HD.out,HALL.out,HF.out];rfl,HB.out.trans (HB3.out.mono HB.out.size)⟩
 have q_eds:=decide_eq_true h_eds
 have HF:Hid (decide (x.vo.map Fx.fld=y.vo.map Fx.fld∧x.eo=y.eo∧x.po=y.po)=decide (x.po=y.po)):=hid (by rw [decide_eq_decide];exact ⟨fun q=>q.2.2,fun q=>⟨h_val,h_eds,q⟩⟩)
 clear h_eds h_val
 all_goals
  go_enter Tryz.func30,Tryz.ntmps30
  go_upto_region 1 with fail
  try rw [hW]
  go_wp2_with (first|(go_at_call 57;refine HEV.out.mono ?_;rintro e W1 ⟨rfl,hb1⟩;have HB2:=hid hb1.below;clear hb1;obtain ⟨d0,d1⟩:=HC.out W1 HB2.out;have eW16:W1.cell? ⟨w.heap.size,6,none⟩=some (.slice x.ep x.eo.length x.ec):=(by rw [Lib.cell_of_heap (d0.trans HB0.out)];rfl);have gW16:W1.cell? ⟨w.heap.size+1,6,none⟩=some (.slice y.ep y.eo.length y.ec):=(by rw [Lib.cell_of_heap (d1.trans HB1.out)];rfl);have eW17:W1.cell? ⟨w.heap.size,7,none⟩=some (.slice x.pp x.po.length x.pc):=(by rw [Lib.cell_of_heap (d0.trans HB0.out)];rfl);have gW17:W1.cell? ⟨w.heap.size+1,7,none⟩=some (.slice y.pp y.po.length y.pc):=(by rw [Lib.cell_of_heap (d1.trans HB1.out)];rfl);rw [q_val])|(go_at_call 58;refine (HEE.out W1 HB2.out).mono ?_;rintro e W2 ⟨rfl,hb2⟩;have HB3:=hid (HB2.out.trans (hb2.mono HB2.out.size));clear hb2;obtain ⟨d2,d3⟩:=HC.out W2 HB3.out;have eW26:W2.cell? ⟨w.heap.size,6,none⟩=some (.slice x.ep x.eo.length x.ec):=(by rw [Lib.cell_of_heap (d2.trans HB0.out)];rfl);have gW26:W2.cell? ⟨w.heap.size+1,6,none⟩=some (.slice y.ep y.eo.length y.ec):=(by rw [Lib.cell_of_heap (d3.trans HB1.out)];rfl);have eW27:W2.cell? ⟨w.heap.size,7,none⟩=some (.slice x.pp x.po.length x.pc):=(by rw [Lib.cell_of_heap (d2.trans HB0.out)];rfl);have gW27:W2.cell? ⟨w.heap.size+1,7,none⟩=some (.slice y.pp y.po.length y.pc):=(by rw [Lib.cell_of_heap (d3.trans HB1.out)];rfl);rw [q_eds])|(go_at_call 59;refine (HEP.out W2 HB3.out).mono ?_;rintro e W3 ⟨rfl,hb3⟩;have HB4:=hid (HB3.out.trans (hb3.mono HB3.out.size));clear hb3))
  go_ret
  exact ⟨by rw [HD.out,HALL.out,HF.out];rfl,HB.out.trans (HB4.out.mono HB.out.size)⟩
end
section
open Go.RowKit Go.Lib
theorem OwnQ.ex {n:Nat} {x:Ex} {w:World} (h:OwnQ n x w):ExIn w x :=
 ⟨h.val.is,h.fit,Kind.own_is h.eds,h.efit,Kind.own_is h.prd,h.pfit,h.rng.temp,h.rng.ka,h.rng.kb,h.rng.k0,h.rng.k1,h.rng.i0,h.rng.i1,h.rng.t0,h.rng.t1,h.rng.n0,h.rng.n1⟩
theorem zero_in (w:World):ExIn w (zeroEx 0):=(zero_own 0 w 0 (by omega) (by omega)).ex
theorem ExIn.kind0 {w:World} {x:Ex} (h:ExIn w x):ExIn w { x with kind:=0 } :=
 { h with k0:=by show (-9223372036854775808:Int)≤0;omega,k1:=by show (0:Int)≤9223372036854775807;omega }
theorem ExIn.wout {w:World} {x:Ex} (h:ExIn w x) (p:Nat):ExIn w (wout x p):=by
 have z:=zero_in w
 unfold Go.Proofs.YtjeogllmpjihaaaGreatDoor.wout
 split
 ·exact { h with temp:=z.temp }
 split
 ·exact { h with ka:=z.ka,kb:=z.kb }
 split
 ·exact { h with i0:=z.i0,i1:=z.i1 }
 split
 ·exact { h with val:=z.val,fit:=z.fit }
 split
 ·exact { h with prd:=z.prd,pfit:=z.pfit }
 split
 ·exact { h with eds:=z.eds,efit:=z.efit }
 split
 ·exact { h with n0:=z.n0,n1:=z.n1 }
 split
 ·exact { h with t0:=z.t0,t1:=z.t1 }
 ·exact h
def leftE (x:Ex) (ps:List Nat):Ex:=ps.foldl wout { x with kind:=0 }
theorem leftE_snoc (x:Ex) (ps:List Nat) (p:Nat):leftE x (ps++[p])=wout (leftE x ps) p:=by simp [leftE]
theorem leftE_in {w:World} {x:Ex} (h:ExIn w x) (ps:List Nat):ExIn w (leftE x ps):=by
 unfold leftE
 have:∀(l:List Nat) (y:Ex),ExIn w y→ExIn w (l.foldl wout y):=by
  intro l
  induction l with
  | nil=>exact fun y hy=>hy
  | cons p l ih=>exact fun y hy=>ih _ (hy.wout p)
 exact this ps _ h.kind0
def mayO (x:Ex):Bool:=decide (1≤x.kind∧x.kind≤12)&&(shapeN x.kind.toNat).all (fitPt x.en)&&decide ((leftE x (shapeN x.kind.toNat)).en=(zeroEx 0).en)
structure LmSt (w:World) (L:Nat) (x y:Ex) (W:World):Prop where
 low:Below w.heap.size w W
 box:W.heap[w.heap.size]? = some (.cells (encEx x).toArray 42 (0,0))
 left:W.heap[L]? = some (.cells (encEx y).toArray 42 (0,0))
 gt:w.heap.size<L
theorem LmSt.lt {w:World} {L:Nat} {x y:Ex} {W:World} (h:LmSt w L x y W):L<W.heap.size:=(Array.getElem?_eq_some_iff.1 h.left).1
theorem LmSt.on {w:World} {L:Nat} {x y:Ex} {W V:World} (h:LmSt w L x y W) (hb:Below W.heap.size W V):LmSt w L x y V :=
 ⟨h.low.trans (hb.mono h.low.size),(hb.block _ (by have:=h.lt;have:=h.gt;omega)).trans h.box,(hb.block _ h.lt).trans h.left,h.gt⟩
theorem LmSt.turn {w:World} {L:Nat} {x y z:Ex} {W V:World} (h:LmSt w L x y W) (f:Fr (fun b=>b=L) W V) (hz:V.heap[L]? = some (.cells (encEx z).toArray 42 (0,0))):LmSt w L x z V :=
 ⟨h.low.trans (f.below h.low.size fun k hk=>by have:=h.gt;omega),(f.block _ (by have:=h.lt;have:=h.gt;omega) (by have:=h.gt;omega)).trans h.box,hz,h.gt⟩
set_option maxHeartbeats 8000000 in
set_option maxRecDepth 100000 in
theorem opmay1_any (x:Ex) (w:World) (hx:ExIn w x) :
  Calls Tryz.prog 28 #[aggEx x] w fun e w'=>e=.returned (.bool (mayO x))∧Below w.heap.size w w':=by
 have HX:=hid hx
 have hal:Below w.heap.size w (w.alloc (.cells (encEx x).toArray 42)):=(Below.refl _ _).alloc (Nat.le_refl _) _
 have hb0:(w.alloc (.cells (encEx x).toArray 42)).heap[w.heap.size]? = some (.cells (encEx x).toArray 42 (0,0)):=heap_alloc_new w _
 have HAL:=hid hal
 have HB0:=hid hb0
 have HFT:Hid (∀W p,Below w.heap.size w W→1≤p→p≤10→Calls Tryz.prog 55 #[aggEx x,.int .i64 (p:Nat)] W fun e w'=>e=.returned (.bool (fitPt x.en p))∧Below W.heap.size W w'):=hid fun W p h h1 h2=>opfits_any x p W (HX.out.on h) h1 h2
 unfold aggEx
 simp only [encEx,Ex.vs,Ex.es,Ex.ps] at HAL HB0 HFT ⊢
 clear hal hb0 hx
 unfold aggEx at HFT
 simp only [encEx,Ex.vs,Ex.es,Ex.ps] at HFT
 by_cases hr:1≤x.kind∧x.kind≤12
 case neg =>
  have HF:Hid (mayO x=false):=hid (by unfold mayO;rw [decide_eq_false hr];rfl)
  have hr2:x.kind<1∨12<x.kind:=by omega
  clear hr
  go_enter Tryz.func28,Tryz.ntmps28
  go_wp2_with (go_at_call 36;refine (shape_no x.kind _ hr2).mono ?_;rintro e w1 ⟨rfl,rfl⟩)
  go_ret
  exact ⟨by rw [HF.out];rfl,HAL.out⟩
 obtain ⟨kw,hkw⟩:∃kw:Nat,x.kind=kw:=⟨x.kind.toNat,by omega⟩
 have hk1:1≤kw:=by omega
 have hk12:kw≤12:=by omega
 have HM:Hid (mayO x=((shapeN kw).all (fitPt x.en)&&decide ((leftE x (shapeN kw)).en=(zeroEx 0).en))):=hid (by
  unfold mayO
  rw [decide_eq_true hr,hkw];rfl)
 have hnm:=name_full kw hk1 hk12
 have HKW:=hid hkw
 have HSH:Hid (∀W,Calls Tryz.prog 36 #[.int .i64 x.kind] W fun e w'=>(∃a n,e=.returned (.tuple #[.string ⟨(nameN kw).toArray⟩,.slice a n n])∧n=(shapeN kw).length ∧
   ∀(j p:Nat),(shapeN kw)[j]? = some p→∃P,a=some ⟨P,0,none⟩∧W.heap.size≤P∧w'.cell? ⟨P,j,none⟩=some (.int .i64 p))∧Below W.heap.size W w'):=hid fun W=>by rw [hkw];exact shape_any kw W hk12
 clear hkw hr
 go_enter Tryz.func28,Tryz.ntmps28
 go_wp2_with fail
 refine (HSH.out _).mono ?_
 rintro e w3 ⟨⟨a,n,rfl,hn,hpt⟩,hb3⟩
 have HN:=hid hn
 have HB3:=hid (HAL.out.trans (hb3.mono HAL.out.size))
 have hbx:w3.heap[w.heap.size]? = some (.cells #[.int .i64 x.kind,.string x.temp,.string x.ka,.string x.kb,.int .i64 x.iff,.slice x.vp x.vo.length x.vc,.slice x.ep x.eo.length x.ec,.slice x.pp x.po.length x.pc,.int .u64 x.stamp,.int .i64 x.num] 42 (0,0)):=(hb3.block _ (by simp)).trans HB0.out
 have HBX:=hid hbx
 have HPT:Hid (PtSt a w3.heap.size kw w3):=hid fun j p hp=>by
  obtain ⟨P,h1,h2,h3⟩:=hpt j p hp
  exact ⟨P,h1,Nat.ne_of_lt (cell_lt h3),h3⟩
 clear hn hpt hb3
 have c0:w3.cell? ⟨w.heap.size,0,none⟩=some (.int .i64 x.kind):=cz hbx
 have c1:w3.cell? ⟨w.heap.size,1,none⟩=some (.string x.temp):=cz hbx
 have c2:w3.cell? ⟨w.heap.size,2,none⟩=some (.string x.ka):=cz hbx
 have c3:w3.cell? ⟨w.heap.size,3,none⟩=some (.string x.kb):=cz hbx
 have c4:w3.cell? ⟨w.heap.size,4,none⟩=some (.int .i64 x.iff):=cz hbx
 have c5:w3.cell? ⟨w.heap.size,5,none⟩=some (.slice x.vp x.vo.length x.vc):=cz hbx
 have c6:w3.cell? ⟨w.heap.size,6,none⟩=some (.slice x.ep x.eo.length x.ec):=cz hbx
 have c7:w3.cell? ⟨w.heap.size,7,none⟩=some (.slice x.pp x.po.length x.pc):=cz hbx
 have c8:w3.cell? ⟨w.heap.size,8,none⟩=some (.int .u64 x.stamp):=cz hbx
 have c9:w3.cell? ⟨w.heap.size,9,none⟩=some (.int .i64 x.num):=cz hbx
 clear hbx
 have HS:Hid (LmSt w w3.heap.size x (leftE x []) (w3.alloc (.cells #[.int .i64 0,.string x.temp,.string x.ka,.string x.kb,.int .i64 x.iff,.slice x.vp x.vo.length x.vc,.slice x.ep x.eo.length x.ec,.slice x.pp x.po.length x.pc,.int .u64 x.stamp,.int .i64 x.num] 42))):=hid (by
  have hb4:=(Below.refl w3.heap.size w3).alloc (Nat.le_refl _) (.cells #[.int .i64 0,.string x.temp,.string x.ka,.string x.kb,.int .i64 x.iff,.slice x.vp x.vo.length x.vc,.slice x.ep x.eo.length x.ec,.slice x.pp x.po.length x.pc,.int .u64 x.stamp,.int .i64 x.num] 42)
  have hlt:w.heap.size<w3.heap.size:=(Array.getElem?_eq_some_iff.1 HBX.out).1
  exact ⟨HB3.out.trans (hb4.mono HB3.out.size),(hb4.block _ hlt).trans HBX.out,heap_alloc_new w3 _,hlt⟩)
 have HPT2:Hid (PtSt a w3.heap.size kw (w3.alloc (.cells #[.int .i64 0,.string x.temp,.string x.ka,.string x.kb,.int .i64 x.iff,.slice x.vp x.vo.length x.vc,.slice x.ep x.eo.length x.ec,.slice x.pp x.po.length x.pc,.int .u64 x.stamp,.int .i64 x.num] 42))):=hid (HPT.out.on ((Below.refl w3.heap.size w3).alloc (Nat.le_refl _) _))
 go_wp2_with fail
 go_loopg [20] n (fun g vi wr=>∃(i:Nat),vi=.int .i64 i∧i≤n∧n-i≤g∧Hid (LmSt w w3.heap.size x (leftE x ((shapeN kw).take i)) wr)∧Hid (PtSt a w3.heap.size kw wr)∧Hid (((shapeN kw).take i).all (fitPt x.en)=true))
 case atStart=>exact ⟨0,rfl,by omega,by omega,HS,HPT2,hid rfl⟩
 case round =>
  obtain ⟨i,rfl,hi,hig,HL,HP,HA⟩:=hrel
  have hn5:n≤5:=by rw [HN.out];exact shape_le kw
  by_cases hlt:i<n
  ·have HLT:=hid hlt
   have hltz:(i:Int)<(n:Int):=by omega
   have hiz:(0:Int)≤(i:Int):=by omega
   obtain ⟨p,hp⟩:∃p,(shapeN kw)[i]? = some p:=⟨_,List.getElem?_eq_getElem (by rw [←HN.out];exact hlt)⟩
   obtain ⟨P,hPa,hPG,hPc⟩:=HP.out i p hp
   subst hPa
   obtain ⟨hp1,hp10⟩:=shape_part kw i p hp
   have HTK:Hid ((shapeN kw).take (i+1)=(shapeN kw).take i++[p]):=hid (by
    obtain ⟨h1,h2⟩:=List.getElem?_eq_some_iff.1 hp
    rw [←h2];exact List.take_succ_eq_append_getElem h1)
   have HMEM:=hid (List.mem_of_getElem? hp)
   clear hp
   have hbx:=HL.out.box
   have c0:wr.cell? ⟨w.heap.size,0,none⟩=some (.int .i64 x.kind):=cz hbx
   have c1:wr.cell? ⟨w.heap.size,1,none⟩=some (.string x.temp):=cz hbx
   have c2:wr.cell? ⟨w.heap.size,2,none⟩=some (.string x.ka):=cz hbx
   have c3:wr.cell? ⟨w.heap.size,3,none⟩=some (.string x.kb):=cz hbx
   have c4:wr.cell? ⟨w.heap.size,4,none⟩=some (.int .i64 x.iff):=cz hbx
   have c5:wr.cell? ⟨w.heap.size,5,none⟩=some (.slice x.vp x.vo.length x.vc):=cz hbx
   have c6:wr.cell? ⟨w.heap.size,6,none⟩=some (.slice x.ep x.eo.length x.ec):=cz hbx
   have c7:wr.cell? ⟨w.heap.size,7,none⟩=some (.slice x.pp x.po.length x.pc):=cz hbx
   have c8:wr.cell? ⟨w.heap.size,8,none⟩=some (.int .u64 x.stamp):=cz hbx
   have c9:wr.cell? ⟨w.heap.size,9,none⟩=some (.int .i64 x.num):=cz hbx
   clear hbx
   go_wp2_with fail
   refine (HFT.out wr p HL.out.low hp1 hp10).mono ?_
   rintro e w4 ⟨rfl,hb4⟩
   have HL4:=hid (HL.out.on hb4)
   have HP4:=hid (HP.out.on hb4)
   clear hb4 hPc HL HP c0 c1 c2 c3 c4 c5 c6 c7 c8 c9
   cases hft:fitPt x.en p with
   | false =>
    have HF:Hid ((shapeN kw).all (fitPt x.en)=false):=hid (by
     rw [List.all_eq_false]
     exact ⟨p,HMEM.out,by rw [hft];simp⟩)
    go_wp2_with fail
    go_ret
    exact ⟨by rw [HM.out,HF.out];rfl,HL4.out.low⟩
   | true =>
    have HA2:Hid (((shapeN kw).take (i+1)).all (fitPt x.en)=true):=hid (by
     rw [HTK.out,List.all_append,HA.out];simp [hft])
    have HZ:Hid (leftE x ((shapeN kw).take (i+1))=wout (leftE x ((shapeN kw).take i)) p):=hid (by rw [HTK.out];exact leftE_snoc _ _ _)
    have HLY:=hid HL4.out.left
    have HWO:=hid fun W=>without_any (leftE x ((shapeN kw).take i)) p W hp1 hp10
    generalize leftE x ((shapeN kw).take i)=y at *
    generalize wout y p=z at *
    unfold aggEx at HWO
    simp only [encEx,Ex.vs,Ex.es,Ex.ps] at HWO HLY
    have hby:=HLY.out
    have d0:w4.cell? ⟨w3.heap.size,0,none⟩=some (.int .i64 y.kind):=cz hby
    have d1:w4.cell? ⟨w3.heap.size,1,none⟩=some (.string y.temp):=cz hby
    have d2:w4.cell? ⟨w3.heap.size,2,none⟩=some (.string y.ka):=cz hby
    have d3:w4.cell? ⟨w3.heap.size,3,none⟩=some (.string y.kb):=cz hby
    have d4:w4.cell? ⟨w3.heap.size,4,none⟩=some (.int .i64 y.iff):=cz hby
    have d5:w4.cell? ⟨w3.heap.size,5,none⟩=some (.slice y.vp y.vo.length y.vc):=cz hby
    have d6:w4.cell? ⟨w3.heap.size,6,none⟩=some (.slice y.ep y.eo.length y.ec):=cz hby
    have d7:w4.cell? ⟨w3.heap.size,7,none⟩=some (.slice y.pp y.po.length y.pc):=cz hby
    have d8:w4.cell? ⟨w3.heap.size,8,none⟩=some (.int .u64 y.stamp):=cz hby
    have d9:w4.cell? ⟨w3.heap.size,9,none⟩=some (.int .i64 y.num):=cz hby
    clear hby
    go_wp2_with fail
    refine (HWO.out w4).mono ?_
    rintro e w5 ⟨rfl,hb5⟩
    have HL5:=hid (HL4.out.on hb5)
    have HP5:=hid (HP4.out.on hb5)
    have hb6:w5.heap[w3.heap.size]? = some (.cells #[.int .i64 y.kind,.string y.temp,.string y.ka,.string y.kb,.int .i64 y.iff,.slice y.vp y.vo.length y.vc,.slice y.ep y.eo.length y.ec,.slice y.pp y.po.length y.pc,.int .u64 y.stamp,.int .i64 y.num] 42 (0,0)):=(hb5.block _ HL4.out.lt).trans HLY.out
    clear hb5 d0 d1 d2 d3 d4 d5 d6 d7 d8 d9
    obtain ⟨WZ,hWZ⟩:∃WZ,((((((((((w5.setCell ⟨w3.heap.size,0,none⟩ (.int .i64 z.kind)).setCell ⟨w3.heap.size,1,none⟩ (.string z.temp)).setCell ⟨w3.heap.size,2,none⟩ (.string z.ka)).setCell ⟨w3.heap.size,3,none⟩ (.string z.kb)).setCell ⟨w3.heap.size,4,none⟩ (.int .i64 z.iff)).setCell ⟨w3.heap.size,5,none⟩ (.slice z.vp z.vo.length z.vc)).setCell ⟨w3.heap.size,6,none⟩ (.slice z.ep z.eo.length z.ec)).setCell ⟨w3.heap.size,7,none⟩ (.slice z.pp z.po.length z.pc)).setCell ⟨w3.heap.size,8,none⟩ (.int .u64 z.stamp)).setCell ⟨w3.heap.size,9,none⟩ (.int .i64 z.num))=WZ:=⟨_,rfl⟩
    obtain ⟨bz,fz⟩:=out_ten hb6 _ _ _ _ _ _ _ _ _ _ hWZ
    have HL6:Hid (LmSt w w3.heap.size x z WZ):=hid (HL5.out.turn fz bz)
    have HP6:=hid (HP5.out.turn fz)
    have d0:w5.cell? ⟨w3.heap.size,0,none⟩=some (.int .i64 y.kind):=cz hb6
    have d1:w5.cell? ⟨w3.heap.size,1,none⟩=some (.string y.temp):=cz hb6
    have d2:w5.cell? ⟨w3.heap.size,2,none⟩=some (.string y.ka):=cz hb6
    have d3:w5.cell? ⟨w3.heap.size,3,none⟩=some (.string y.kb):=cz hb6
    have d4:w5.cell? ⟨w3.heap.size,4,none⟩=some (.int .i64 y.iff):=cz hb6
    have d5:w5.cell? ⟨w3.heap.size,5,none⟩=some (.slice y.vp y.vo.length y.vc):=cz hb6
    have d6:w5.cell? ⟨w3.heap.size,6,none⟩=some (.slice y.ep y.eo.length y.ec):=cz hb6
    have d7:w5.cell? ⟨w3.heap.size,7,none⟩=some (.slice y.pp y.po.length y.pc):=cz hb6
    have d8:w5.cell? ⟨w3.heap.size,8,none⟩=some (.int .u64 y.stamp):=cz hb6
    have d9:w5.cell? ⟨w3.heap.size,9,none⟩=some (.int .i64 y.num):=cz hb6
    have f0:=Lib.frozen_of_heap hb6 0
    have f1:=Lib.frozen_of_heap hb6 1
    have f2:=Lib.frozen_of_heap hb6 2
    have f3:=Lib.frozen_of_heap hb6 3
    have f4:=Lib.frozen_of_heap hb6 4
    have f5:=Lib.frozen_of_heap hb6 5
    have f6:=Lib.frozen_of_heap hb6 6
    have f7:=Lib.frozen_of_heap hb6 7
    have f8:=Lib.frozen_of_heap hb6 8
    have f9:=Lib.frozen_of_heap hb6 9
    clear bz fz hb6
    go_wp2_with fail
    try rw [hWZ]
    go_roundg (n-(i+1))
    case measure=>omega
    exact ⟨i+1,by go_num,HLT.out,Nat.le_refl _,by rw [HZ.out];exact HL6,HP6,HA2⟩
  ·have hltz:¬ (i:Int)<(n:Int):=by omega
   have HTA:Hid ((shapeN kw).take i=shapeN kw):=hid (List.take_of_length_le (by rw [←HN.out];omega))
   have HA2:Hid ((shapeN kw).all (fitPt x.en)=true):=hid (by have:=HA.out;rw [HTA.out] at this;exact this)
   have HL2:Hid (LmSt w w3.heap.size x (leftE x (shapeN kw)) wr):=hid (by have:=HL.out;rw [HTA.out] at this;exact this)
   have HSM:=hid (opsame_any (leftE x (shapeN kw)) (zeroEx 0) wr ((leftE_in HX.out _).on HL2.out.low) (zero_in wr))
   have HLY:=hid HL2.out.left
   generalize leftE x (shapeN kw)=y at *
   unfold aggEx at HSM
   simp only [encEx,Ex.vs,Ex.es,Ex.ps] at HSM HLY
   have hby:=HLY.out
   have d0:wr.cell? ⟨w3.heap.size,0,none⟩=some (.int .i64 y.kind):=cz hby
   have d1:wr.cell? ⟨w3.heap.size,1,none⟩=some (.string y.temp):=cz hby
   have d2:wr.cell? ⟨w3.heap.size,2,none⟩=some (.string y.ka):=cz hby
   have d3:wr.cell? ⟨w3.heap.size,3,none⟩=some (.string y.kb):=cz hby
   have d4:wr.cell? ⟨w3.heap.size,4,none⟩=some (.int .i64 y.iff):=cz hby
   have d5:wr.cell? ⟨w3.heap.size,5,none⟩=some (.slice y.vp y.vo.length y.vc):=cz hby
   have d6:wr.cell? ⟨w3.heap.size,6,none⟩=some (.slice y.ep y.eo.length y.ec):=cz hby
   have d7:wr.cell? ⟨w3.heap.size,7,none⟩=some (.slice y.pp y.po.length y.pc):=cz hby
   have d8:wr.cell? ⟨w3.heap.size,8,none⟩=some (.int .u64 y.stamp):=cz hby
   have d9:wr.cell? ⟨w3.heap.size,9,none⟩=some (.int .i64 y.num):=cz hby
   clear hby HL HA
   go_wp2_with fail
   refine HSM.out.mono ?_
   rintro e w7 ⟨rfl,hb7⟩
   have HB7:=hid (HL2.out.low.trans (hb7.mono HL2.out.low.size))
   clear hb7
   go_wp2_with fail
   go_ret
   exact ⟨by rw [HM.out,HA2.out];rfl,HB7.out⟩
end
section
open Go.RowKit Go.Lib
structure RqIn (W:World) (v:Value) (d:List Ex):Prop where
 row:KEx.Is W v d
 each:∀x∈d,ExIn W x
 len:d.length≤4294967000
theorem RqIn.on {W V:World} {v:Value} {d:List Ex} (h:RqIn W v d) (hb:Below W.heap.size W V):RqIn V v d :=
 ⟨Kind.is_kept h.row hb,fun x hx=>(h.each x hx).on hb,h.len⟩
theorem row_cellsQ {W:World} {b off:Nat} {d:List Ex} (h:KEx.At W b off d) (i:Nat) (y:Ex) (hy:d[i]? = some y) :
  W.cell? ⟨b,off+i * 10+0,none⟩=some (.int .i64 y.kind)∧W.cell? ⟨b,off+i * 10+1,none⟩=some (.string y.temp)∧W.cell? ⟨b,off+i * 10+2,none⟩=some (.string y.ka)∧W.cell? ⟨b,off+i * 10+3,none⟩=some (.string y.kb)∧W.cell? ⟨b,off+i * 10+4,none⟩=some (.int .i64 y.iff)∧W.cell? ⟨b,off+i * 10+5,none⟩=some (.slice y.vp y.vo.length y.vc)∧W.cell? ⟨b,off+i * 10+6,none⟩=some (.slice y.ep y.eo.length y.ec)∧W.cell? ⟨b,off+i * 10+7,none⟩=some (.slice y.pp y.po.length y.pc)∧W.cell? ⟨b,off+i * 10+8,none⟩=some (.int .u64 y.stamp)∧W.cell? ⟨b,off+i * 10+9,none⟩=some (.int .i64 y.num):=by
 obtain ⟨hi,rfl⟩:=List.getElem?_eq_some_iff.1 hy
 exact ⟨h i hi 0 _ rfl,h i hi 1 _ rfl,h i hi 2 _ rfl,h i hi 3 _ rfl,h i hi 4 _ rfl,h i hi 5 _ rfl,h i hi 6 _ rfl,h i hi 7 _ rfl,h i hi 8 _ rfl,h i hi 9 _ rfl⟩
def mayRO (d:List Ex):Bool:=decide (0<d.length)&&decide (d.length≤16)&&d.all mayO
set_option maxHeartbeats 8000000 in
set_option maxRecDepth 100000 in
theorem opMay_any (once:Bool) (v:Value) (d:List Ex) (w:World) (hd:RqIn w v d) :
  Calls Tryz.prog 12 #[.agg #[.bool once,v]] w fun e w'=>e=.returned (.bool (mayRO d))∧Below w.heap.size w w':=by
 have HD:=hid hd
 obtain ⟨a,cap,rfl,hrow⟩:=hd.row
 have hlen:=hd.len
 have HR:=hid hrow
 have hal:Below w.heap.size w (w.alloc (.cells #[.bool once,.slice a d.length cap] 25)):=(Below.refl _ _).alloc (Nat.le_refl _) _
 have HAL:=hid hal
 clear hd hrow hal
 by_cases h0:d.length<1
 case pos =>
  have HF:Hid (mayRO d=false):=hid (by unfold mayRO;rw [decide_eq_false (by omega:¬ 0<d.length)];rfl)
  have h0z:(d.length:Int)<1:=by omega
  go_enter Tryz.func12,Tryz.ntmps12
  go_wp2_with fail
  go_ret
  exact ⟨by rw [HF.out];rfl,HAL.out⟩
 have h0z:¬ (d.length:Int)<1:=by omega
 by_cases h16:16<d.length
 case pos =>
  have HF:Hid (mayRO d=false):=hid (by unfold mayRO;rw [decide_eq_false (by omega:¬ d.length≤16)];simp)
  have h16z:(16:Int)<(d.length:Int):=by omega
  go_enter Tryz.func12,Tryz.ntmps12
  go_wp2_with fail
  go_ret
  exact ⟨by rw [HF.out];rfl,HAL.out⟩
 have h16z:¬ (16:Int)<(d.length:Int):=by omega
 have HM:Hid (mayRO d=d.all mayO):=hid (by unfold mayRO;rw [decide_eq_true (by omega:0<d.length),decide_eq_true (by omega:d.length≤16)];rfl)
 obtain ⟨b,off,rfl,hat⟩:∃b off,a=some ⟨b,off,none⟩∧KEx.At w b off d:=by
  rcases HR.out with h|⟨b,off,h1,h2⟩
  ·rw [h] at h0;simp at h0
  ·exact ⟨b,off,h1,h2⟩
 have HAT:=hid hat
 clear hat HR
 go_enter Tryz.func12,Tryz.ntmps12
 go_wp2_with fail
 go_loopg [18] d.length (fun g vi wr=>∃(i:Nat),vi=.int .i64 i∧i≤d.length∧d.length-i≤g∧Hid (Below w.heap.size w wr)∧Hid ((d.take i).all mayO=true))
 case atStart=>exact ⟨0,rfl,by omega,by omega,HAL,hid rfl⟩
 case round =>
  obtain ⟨i,rfl,hi,hig,HB,HA⟩:=hrel
  by_cases hlt:i<d.length
  ·have HLT:=hid hlt
   have hltz:(i:Int)<(d.length:Int):=by omega
   have hiz:(0:Int)≤(i:Int):=by omega
   obtain ⟨y,hy⟩:∃y,d[i]? = some y:=⟨_,List.getElem?_eq_getElem hlt⟩
   obtain ⟨c0,c1,c2,c3,c4,c5,c6,c7,c8,c9⟩:=row_cellsQ (Kind.at_kept HAT.out HB.out) i y hy
   simp only [Nat.add_zero] at c0
   have hmem:=List.mem_of_getElem? hy
   have HTK:Hid (d.take (i+1)=d.take i++[y]):=hid (by
    obtain ⟨h1,h2⟩:=List.getElem?_eq_some_iff.1 hy
    rw [←h2];exact List.take_succ_eq_append_getElem h1)
   have HMEM:=hid hmem
   have HMY:Hid (∀W,Below w.heap.size w W→Calls Tryz.prog 28 #[.agg #[.int .i64 y.kind,.string y.temp,.string y.ka,.string y.kb,.int .i64 y.iff,.slice y.vp y.vo.length y.vc,.slice y.ep y.eo.length y.ec,.slice y.pp y.po.length y.pc,.int .u64 y.stamp,.int .i64 y.num]] W fun e w'=>e=.returned (.bool (mayO y))∧Below W.heap.size W w'):=hid fun W h=>opmay1_any y W ((HD.out.each y HMEM.out).on h)
   have HB2:Hid (Below w.heap.size w (wr.alloc (.cells #[.int .i64 y.kind,.string y.temp,.string y.ka,.string y.kb,.int .i64 y.iff,.slice y.vp y.vo.length y.vc,.slice y.ep y.eo.length y.ec,.slice y.pp y.po.length y.pc,.int .u64 y.stamp,.int .i64 y.num] 42))):=hid (HB.out.alloc HB.out.size _)
   clear hy hmem
   go_wp2_with fail
   refine (HMY.out _ HB2.out).mono ?_
   rintro e w4 ⟨rfl,hb4⟩
   have HB4:=hid (HB2.out.trans (hb4.mono HB2.out.size))
   clear hb4 c0 c1 c2 c3 c4 c5 c6 c7 c8 c9
   cases hm:mayO y with
   | false =>
    have HF:Hid (d.all mayO=false):=hid (by
     rw [List.all_eq_false]
     exact ⟨y,HMEM.out,by rw [hm];simp⟩)
    go_wp2_with fail
    go_ret
    exact ⟨by rw [HM.out,HF.out];rfl,HB4.out⟩
   | true =>
    have HA2:Hid ((d.take (i+1)).all mayO=true):=hid (by rw [HTK.out,List.all_append,HA.out];simp [hm])
    go_wp2_with fail
    go_roundg (d.length-(i+1))
    case measure=>omega
    exact ⟨i+1,by go_num,HLT.out,Nat.le_refl _,HB4,HA2⟩
  ·have hltz:¬ (i:Int)<(d.length:Int):=by omega
   have HF:Hid (d.all mayO=true):=hid (by have:=HA.out;rw [List.take_of_length_le (by omega)] at this;exact this)
   go_wp2_with fail
   go_ret
   exact ⟨by rw [HM.out,HF.out];rfl,HB.out⟩
end
section
open Go.RowKit Go.Lib
theorem all_same {d d':List Ex} (hl:d.length=d'.length) (h:∀(i:Nat) (x y:Ex),d[i]? = some x→d'[i]? = some y→x.en=y.en):d.map Ex.en=d'.map Ex.en:=by
 apply List.ext_getElem?
 intro i
 rw [List.getElem?_map,List.getElem?_map]
 cases hx:d[i]? with
 | none =>
  have:d'[i]? = none:=by rw [List.getElem?_eq_none_iff] at hx ⊢;omega
  rw [this]
 | some x =>
  obtain ⟨hi,_⟩:=List.getElem?_eq_some_iff.1 hx
  have hy:d'[i]? = some d'[i]:=List.getElem?_eq_getElem (by omega)
  rw [hy,Option.map_some,Option.map_some,h i x _ hx hy]
set_option maxHeartbeats 8000000 in
set_option maxRecDepth 100000 in
theorem opeqf_any (v v':Value) (d d':List Ex) (w:World) (hd:RqIn w v d) (hd':RqIn w v' d') :
  Calls Tryz.prog 29 #[v,v',.func (.func 30) #[] #[]] w fun e w'=>e=.returned (.bool (decide (d.map Ex.en=d'.map Ex.en)))∧Below w.heap.size w w':=by
 have HD:=hid hd
 have HD':=hid hd'
 obtain ⟨a,cap,rfl,hrow⟩:=hd.row
 obtain ⟨a',cap',rfl,hrow'⟩:=hd'.row
 have hlen:=hd.len
 have hlen':=hd'.len
 have HR:=hid hrow
 have HR':=hid hrow'
 clear hd hd' hrow hrow'
 by_cases hl:d.length=d'.length
 case neg =>
  have hne:((d.length:Int) != (d'.length:Int))=true:=by rw [bne_iff_ne];omega
  have HF:Hid (decide (d.map Ex.en=d'.map Ex.en)=false):=hid (decide_eq_false fun q=>hl (by have:=congrArg List.length q;simpa using this))
  clear hl
  go_enter Tryz.func29,Tryz.ntmps29
  go_wp2_with fail
  go_ret
  exact ⟨by rw [HF.out];rfl,Below.refl _ _⟩
 have hne:((d.length:Int) != (d'.length:Int))=false:=by simp;omega
 have HL:=hid hl
 clear hl
 go_enter Tryz.func29,Tryz.ntmps29
 go_wp2_with fail
 go_loopg [17] d.length (fun g vi wr=>∃(i:Nat),vi=.int .i64 i∧i≤d.length∧d.length-i≤g∧Hid (Below w.heap.size w wr)∧Hid (∀(j:Nat) (x y:Ex),j<i→d[j]? = some x→d'[j]? = some y→x.en=y.en))
 case atStart=>exact ⟨0,rfl,by omega,by omega,hid (Below.refl _ _),hid fun j x y h=>by omega⟩
 case round =>
  obtain ⟨i,rfl,hi,hig,HB,HA⟩:=hrel
  by_cases hlt:i<d.length
  ·have HLT:=hid hlt
   have hltz:(i:Int)<(d.length:Int):=by omega
   have hlt2:i<d'.length:=by have:=HL.out;omega
   have hltz2:(i:Int)<(d'.length:Int):=by omega
   have hiz:(0:Int)≤(i:Int):=by omega
   obtain ⟨b,off,rfl,hat⟩:∃b off,a=some ⟨b,off,none⟩∧KEx.At w b off d:=by
    rcases HR.out with h|⟨b,off,h1,h2⟩
    ·rw [h] at hlt;simp at hlt
    ·exact ⟨b,off,h1,h2⟩
   obtain ⟨b',off',rfl,hat'⟩:∃b off,a'=some ⟨b,off,none⟩∧KEx.At w b off d':=by
    rcases HR'.out with h|⟨b,off,h1,h2⟩
    ·rw [h] at hlt2;simp at hlt2
    ·exact ⟨b,off,h1,h2⟩
   obtain ⟨x,hx⟩:∃x,d[i]? = some x:=⟨_,List.getElem?_eq_getElem hlt⟩
   obtain ⟨y,hy⟩:∃y,d'[i]? = some y:=⟨_,List.getElem?_eq_getElem hlt2⟩
   obtain ⟨c0,c1,c2,c3,c4,c5,c6,c7,c8,c9⟩:=row_cellsQ (Kind.at_kept hat HB.out) i x hx
   have HB2:Hid (Below w.heap.size w (wr.alloc (.cells #[.int .i64 x.kind,.string x.temp,.string x.ka,.string x.kb,.int .i64 x.iff,.slice x.vp x.vo.length x.vc,.slice x.ep x.eo.length x.ec,.slice x.pp x.po.length x.pc,.int .u64 x.stamp,.int .i64 x.num] 42))):=hid (HB.out.alloc HB.out.size _)
   obtain ⟨f0,f1,f2,f3,f4,f5,f6,f7,f8,f9⟩:=row_cellsQ (Kind.at_kept hat' HB2.out) i y hy
   simp only [Nat.add_zero] at c0 f0
   have HB3:Hid (Below w.heap.size w ((wr.alloc (.cells #[.int .i64 x.kind,.string x.temp,.string x.ka,.string x.kb,.int .i64 x.iff,.slice x.vp x.vo.length x.vc,.slice x.ep x.eo.length x.ec,.slice x.pp x.po.length x.pc,.int .u64 x.stamp,.int .i64 x.num] 42)).alloc (.cells #[.int .i64 y.kind,.string y.temp,.string y.ka,.string y.kb,.int .i64 y.iff,.slice y.vp y.vo.length y.vc,.slice y.ep y.eo.length y.ec,.slice y.pp y.po.length y.pc,.int .u64 y.stamp,.int .i64 y.num] 42))):=hid (HB2.out.alloc HB2.out.size _)
   have HSM:Hid (∀W,Below w.heap.size w W→Calls Tryz.prog 30 #[.agg #[.int .i64 x.kind,.string x.temp,.string x.ka,.string x.kb,.int .i64 x.iff,.slice x.vp x.vo.length x.vc,.slice x.ep x.eo.length x.ec,.slice x.pp x.po.length x.pc,.int .u64 x.stamp,.int .i64 x.num],.agg #[.int .i64 y.kind,.string y.temp,.string y.ka,.string y.kb,.int .i64 y.iff,.slice y.vp y.vo.length y.vc,.slice y.ep y.eo.length y.ec,.slice y.pp y.po.length y.pc,.int .u64 y.stamp,.int .i64 y.num]] W fun e w'=>e=.returned (.bool (decide (x.en=y.en)))∧Below W.heap.size W w'):=hid fun W h=>opsame_any x y W ((HD.out.each x (List.mem_of_getElem? hx)).on h) ((HD'.out.each y (List.mem_of_getElem? hy)).on h)
   have HX:=hid hx
   have HY:=hid hy
   clear hat hat' hx hy
   go_wp2_with fail
   refine (HSM.out _ HB3.out).mono ?_
   rintro e w4 ⟨rfl,hb4⟩
   have HB4:=hid (HB3.out.trans (hb4.mono HB3.out.size))
   clear hb4 c0 c1 c2 c3 c4 c5 c6 c7 c8 c9 f0 f1 f2 f3 f4 f5 f6 f7 f8 f9
   by_cases hs:x.en=y.en
   ·have HA2:Hid (∀(j:Nat) (x y:Ex),j<i+1→d[j]? = some x→d'[j]? = some y→x.en=y.en):=hid fun j x' y' hj h1 h2=>by
     by_cases q:j=i
     ·subst q
      rw [HX.out] at h1;rw [HY.out] at h2
      cases h1;cases h2;exact hs
     ·exact HA.out j x' y' (by omega) h1 h2
    have hd:=decide_eq_true hs
    rw [hd]
    clear hs
    go_wp2_with fail
    go_roundg (d.length-(i+1))
    case measure=>omega
    exact ⟨i+1,by go_num,HLT.out,Nat.le_refl _,HB4,HA2⟩
   ·have HF:Hid (decide (d.map Ex.en=d'.map Ex.en)=false):=hid (decide_eq_false fun q=>hs (by
     have h:=congrArg (·[i]?) q
     simp only [List.getElem?_map,HX.out,HY.out,Option.map_some] at h
     exact Option.some.inj h))
    have hd:=decide_eq_false hs
    rw [hd]
    clear hs
    go_wp2_with fail
    go_ret
    exact ⟨by rw [HF.out];rfl,HB4.out⟩
  ·have hltz:¬ (i:Int)<(d.length:Int):=by omega
   have HF:Hid (decide (d.map Ex.en=d'.map Ex.en)=true):=hid (decide_eq_true (all_same HL.out fun j x y h1 h2=>HA.out j x y (by have:=(List.getElem?_eq_some_iff.1 h1).1;omega) h1 h2))
   go_wp2_with fail
   go_ret
   exact ⟨by rw [HF.out];rfl,HB.out⟩
set_option maxHeartbeats 4000000 in
theorem opEqual_any (o o':Bool) (v v':Value) (d d':List Ex) (w:World) (hd:RqIn w v d) (hd':RqIn w v' d') :
  Calls Tryz.prog 13 #[.agg #[.bool o,v],.agg #[.bool o',v']] w fun e w'=>e=.returned (.bool (decide (o=o'∧d.map Ex.en=d'.map Ex.en)))∧Below w.heap.size w w':=by
 obtain ⟨a,cap,rfl,_⟩:=hd.row
 obtain ⟨a',cap',rfl,_⟩:=hd'.row
 have HB:Hid (Below w.heap.size w ((w.alloc (.cells #[.bool o,.slice a d.length cap] 25)).alloc (.cells #[.bool o',.slice a' d'.length cap'] 25))):=hid (((Below.refl _ _).alloc (Nat.le_refl _) _).alloc (by simp) _)
 have HE:=hid (opeqf_any _ _ d d' _ (hd.on HB.out) (hd'.on HB.out))
 clear hd hd'
 by_cases ho:o=o'
 ·subst ho
  have hq:(o==o)=true:=by cases o<;>rfl
  have HF:Hid (decide (o=o∧d.map Ex.en=d'.map Ex.en)=decide (d.map Ex.en=d'.map Ex.en)):=hid (by simp)
  go_enter Tryz.func13,Tryz.ntmps13
  go_wp2_with (go_at_call 29;refine HE.out.mono ?_;rintro e w1 ⟨rfl,hb1⟩;have HB1:=hid (HB.out.trans (hb1.mono HB.out.size));clear hb1)
  go_ret
  exact ⟨by rw [HF.out];rfl,HB1.out⟩
 ·have hq:(o==o')=false:=by cases o<;>cases o'<;>simp_all
  have HF:Hid (decide (o=o'∧d.map Ex.en=d'.map Ex.en)=false):=hid (decide_eq_false fun q=>ho q.1)
  go_enter Tryz.func13,Tryz.ntmps13
  go_wp2_with fail
  go_ret
  exact ⟨by rw [HF.out];rfl,HB.out⟩
theorem opWrites_any (x:Ex) (w:World) :
  Calls Tryz.prog 14 #[aggEx x] w fun e w'=>e=.returned (.bool (decide (1≤x.kind)&&decide (x.kind≤5)))∧Below w.heap.size w w':=by
 unfold aggEx
 simp only [encEx,Ex.vs,Ex.es,Ex.ps]
 have HB:Hid (Below w.heap.size w (w.alloc (.cells #[.int .i64 x.kind,.string x.temp,.string x.ka,.string x.kb,.int .i64 x.iff,.slice x.vp x.vo.length x.vc,.slice x.ep x.eo.length x.ec,.slice x.pp x.po.length x.pc,.int .u64 x.stamp,.int .i64 x.num] 42))):=hid ((Below.refl _ _).alloc (Nat.le_refl _) _)
 by_cases h0:1≤x.kind
 ·have H0:Hid (decide (1≤x.kind)=true):=hid (decide_eq_true h0)
  go_enter Tryz.func14,Tryz.ntmps14
  go_wp2_with fail
  go_ret
  exact ⟨by rw [H0.out];rfl,HB.out⟩
 ·have H0:Hid (decide (1≤x.kind)=false):=hid (decide_eq_false h0)
  go_enter Tryz.func14,Tryz.ntmps14
  go_wp2_with fail
  go_ret
  exact ⟨by rw [H0.out];rfl,HB.out⟩
end
end Go.Proofs.YtjeogllmpjihaaaGreatDoor
