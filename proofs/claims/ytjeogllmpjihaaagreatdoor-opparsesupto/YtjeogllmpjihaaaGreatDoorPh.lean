/-
  Texts of this claim, one behind the other: Krf Krk Krp Opy Omr Oqm Oqu Oqy Oqz Oqi Oxe Psh Oxr Opp Oys.
-/
import Derived.Deep.MidRow
import Derived.Test.YtjeogllmpjihaaaGreatDoorPg
namespace Go.Proofs.YtjeogllmpjihaaaGreatDoor
section
open Go.RowKit
set_option maxHeartbeats 1000000 in
theorem rtype_any (s : ByteArray) (w : World) (hs : s.size ≤ maxLen) :
    Calls Tryz.prog 82 #[.string s] w fun e w' => e = .returned (.bool (typeB s.data.toList)) ∧ w' = w := by
  unfold maxLen at hs
  have HE := hid (spell_empty bigB letB s)
  have HG := hid (spell_long bigB letB s)
  have HF := hid (spell_first bigB letB s)
  have HA := hid (spell_at bigB letB s)
  have HT := hid (spell_true bigB letB s)
  have HB : Hid (typeB s.data.toList = spell bigB letB s.data.toList) := rfl
  go_enter Tryz.func82, Tryz.ntmps82
  go_wp2
  go_loop [3] (fun i => ∃ k : Nat, k ≤ s.size ∧ i = .int .i64 k ∧ (∀ j, j < k → (hj : j < s.size) → (j = 0 → bigB (s[j].toNat : Int) = true) ∧ (1 ≤ j → letB (s[j].toNat : Int) = true))) (fun i => s.size - (intOf i).toNat)
  case atStart => exact ⟨0, by omega, rfl, fun j h => by omega⟩
  case round =>
    obtain ⟨k, hk, rfl, hall⟩ := hrel
    have HL := hid hall
    clear hall
    by_cases hlt : k < s.size
    · rcases Nat.eq_zero_or_pos k with h0 | h0
      · have HZ := hid h0
        have hz : ((k : Int) == 0) = true := by rw [h0]; rfl
        clear h0
        rcases cls_cases (s[k].toNat : Int) with h | h | h | h | h
        all_goals
          have HC := hid h
          clear h
          go_wp2_with (go_at_call 125; refine (class_any _ _).mono ?_; rintro e w' ⟨rfl, rfl⟩; rw [HC.out.1])
          first
          | (go_ret; exact ⟨ret_bool (by rw [HB.out]; have hz' := HZ.out; subst hz'; exact (HF.out hlt (by first | exact HC.out.2.1 | exact HC.out.2.2.1 | exact HC.out.2.2.2.2.1 | exact HC.out.2.2.2.2.2)).symm), rfl⟩)
          | (go_round
             case rel =>
               refine ⟨k + 1, by omega, by go_num, fun j h1 hj => ?_⟩
               have hz' := HZ.out
               have hj0 : j = k := by omega
               subst hj0
               exact ⟨fun _ => (by first | exact HC.out.2.1 | exact HC.out.2.2.1 | exact HC.out.2.2.2.2.1 | exact HC.out.2.2.2.2.2), fun _ => by omega⟩
             case measure => simp [intOf]; omega)
      · have HZ := hid h0
        have hz : ((k : Int) == 0) = false := by rw [beq_eq_false_iff_ne]; omega
        clear h0
        rcases cls_cases (s[k].toNat : Int) with h | h | h | h | h
        all_goals
          have HC := hid h
          clear h
          go_wp2_with (go_at_call 125; refine (class_any _ _).mono ?_; rintro e w' ⟨rfl, rfl⟩; rw [HC.out.1])
          first
          | (go_ret; exact ⟨ret_bool (by rw [HB.out]; exact (HA.out k HZ.out hlt (by first | exact HC.out.2.2.2.1 | exact HC.out.2.2.2.2.1 | exact HC.out.2.2.2.2.2)).symm), rfl⟩)
          | (go_round
             case rel =>
               refine ⟨k + 1, by omega, by go_num, fun j h1 hj => ?_⟩
               by_cases hjk : j = k
               · subst hjk
                 exact ⟨fun e => by have := HZ.out; omega, fun _ => (by first | exact HC.out.2.2.2.1 | exact HC.out.2.2.2.2.1 | exact HC.out.2.2.2.2.2)⟩
               · exact HL.out j (by omega) hj
             case measure => simp [intOf]; omega)
    · have hks : k = s.size := by omega
      rcases Nat.eq_zero_or_pos s.size with hz | hz
      · have hn : ¬ (0 : Int) < (s.size : Int) := by omega
        have HZ := hid hz
        clear hz hks
        go_wp2_with fail
        go_ret
        exact ⟨ret_bool (by rw [HB.out]; exact (HE.out HZ.out).symm), rfl⟩
      · have hn : (0 : Int) < (s.size : Int) := by omega
        by_cases hm : s.size ≤ 32
        · have hm' : (s.size : Int) ≤ 32 := by omega
          have HK := hid hks
          clear hks
          go_wp2_with fail
          go_ret
          refine ⟨ret_bool (by rw [HB.out]; exact (HT.out hz hm ((HL.out 0 (by have := HK.out; omega) hz).1 rfl) (fun j h1 hj => (HL.out j (by have := HK.out; omega) hj).2 h1)).symm), rfl⟩
        · have hm' : ¬ (s.size : Int) ≤ 32 := by omega
          clear hks
          go_wp2_with fail
          go_ret
          exact ⟨ret_bool (by rw [HB.out]; exact (HG.out (by omega)).symm), rfl⟩
set_option maxHeartbeats 1000000 in
theorem riden_any (s : ByteArray) (w : World) (hs : s.size ≤ maxLen) :
    Calls Tryz.prog 120 #[.string s] w fun e w' => e = .returned (.bool (idenB s.data.toList)) ∧ w' = w := by
  unfold maxLen at hs
  have HE := hid (spell_empty idB idB s)
  have HG := hid (spell_long idB idB s)
  have HF := hid (spell_first idB idB s)
  have HA := hid (spell_at idB idB s)
  have HT := hid (spell_true idB idB s)
  have HB : Hid (idenB s.data.toList = spell idB idB s.data.toList) := rfl
  go_enter Tryz.func120, Tryz.ntmps120
  go_wp2
  go_loop [3] (fun i => ∃ k : Nat, k ≤ s.size ∧ i = .int .i64 k ∧ (∀ j, j < k → (hj : j < s.size) → (j = 0 → idB (s[j].toNat : Int) = true) ∧ (1 ≤ j → idB (s[j].toNat : Int) = true))) (fun i => s.size - (intOf i).toNat)
  case atStart => exact ⟨0, by omega, rfl, fun j h => by omega⟩
  case round =>
    obtain ⟨k, hk, rfl, hall⟩ := hrel
    have HL := hid hall
    clear hall
    by_cases hlt : k < s.size
    · rcases Nat.eq_zero_or_pos k with h0 | h0
      · have HZ := hid h0
        have hz : ((k : Int) == 0) = true := by rw [h0]; rfl
        clear h0
        rcases cls_cases (s[k].toNat : Int) with h | h | h | h | h
        all_goals
          have HC := hid h
          clear h
          go_wp2_with (go_at_call 125; refine (class_any _ _).mono ?_; rintro e w' ⟨rfl, rfl⟩; rw [HC.out.1])
          first
          | (go_ret; exact ⟨ret_bool (by rw [HB.out]; have hz' := HZ.out; subst hz'; exact (HF.out hlt (by first | exact HC.out.2.1 | exact HC.out.2.2.1 | exact HC.out.2.2.2.2.1 | exact HC.out.2.2.2.2.2)).symm), rfl⟩)
          | (go_round
             case rel =>
               refine ⟨k + 1, by omega, by go_num, fun j h1 hj => ?_⟩
               have hz' := HZ.out
               have hj0 : j = k := by omega
               subst hj0
               exact ⟨fun _ => (by first | exact HC.out.2.1 | exact HC.out.2.2.1 | exact HC.out.2.2.2.2.1 | exact HC.out.2.2.2.2.2), fun _ => by omega⟩
             case measure => simp [intOf]; omega)
      · have HZ := hid h0
        have hz : ((k : Int) == 0) = false := by rw [beq_eq_false_iff_ne]; omega
        clear h0
        rcases cls_cases (s[k].toNat : Int) with h | h | h | h | h
        all_goals
          have HC := hid h
          clear h
          go_wp2_with (go_at_call 125; refine (class_any _ _).mono ?_; rintro e w' ⟨rfl, rfl⟩; rw [HC.out.1])
          first
          | (go_ret; exact ⟨ret_bool (by rw [HB.out]; exact (HA.out k HZ.out hlt (by first | exact HC.out.2.2.2.1 | exact HC.out.2.2.2.2.1 | exact HC.out.2.2.2.2.2)).symm), rfl⟩)
          | (go_round
             case rel =>
               refine ⟨k + 1, by omega, by go_num, fun j h1 hj => ?_⟩
               by_cases hjk : j = k
               · subst hjk
                 exact ⟨fun e => by have := HZ.out; omega, fun _ => (by first | exact HC.out.2.2.2.1 | exact HC.out.2.2.2.2.1 | exact HC.out.2.2.2.2.2)⟩
               · exact HL.out j (by omega) hj
             case measure => simp [intOf]; omega)
    · have hks : k = s.size := by omega
      rcases Nat.eq_zero_or_pos s.size with hz | hz
      · have hn : ¬ (0 : Int) < (s.size : Int) := by omega
        have HZ := hid hz
        clear hz hks
        go_wp2_with fail
        go_ret
        exact ⟨ret_bool (by rw [HB.out]; exact (HE.out HZ.out).symm), rfl⟩
      · have hn : (0 : Int) < (s.size : Int) := by omega
        by_cases hm : s.size ≤ 32
        · have hm' : (s.size : Int) ≤ 32 := by omega
          have HK := hid hks
          clear hks
          go_wp2_with fail
          go_ret
          refine ⟨ret_bool (by rw [HB.out]; exact (HT.out hz hm ((HL.out 0 (by have := HK.out; omega) hz).1 rfl) (fun j h1 hj => (HL.out j (by have := HK.out; omega) hj).2 h1)).symm), rfl⟩
        · have hm' : ¬ (s.size : Int) ≤ 32 := by omega
          clear hks
          go_wp2_with fail
          go_ret
          exact ⟨ret_bool (by rw [HB.out]; exact (HG.out (by omega)).symm), rfl⟩
set_option maxHeartbeats 1000000 in
theorem rtemp_any (s : ByteArray) (w : World) (hs : s.size ≤ maxLen) :
    Calls Tryz.prog 83 #[.string s] w fun e w' => e = .returned (.bool (tempB s.data.toList)) ∧ w' = w := by
  unfold maxLen at hs
  have HE := hid (spell_empty lodB lodB s)
  have HG := hid (spell_long lodB lodB s)
  have HF := hid (spell_first lodB lodB s)
  have HA := hid (spell_at lodB lodB s)
  have HT := hid (spell_true lodB lodB s)
  have HB : Hid (tempB s.data.toList = spell lodB lodB s.data.toList) := rfl
  go_enter Tryz.func83, Tryz.ntmps83
  go_wp2
  go_loop [3] (fun i => ∃ k : Nat, k ≤ s.size ∧ i = .int .i64 k ∧ (∀ j, j < k → (hj : j < s.size) → (j = 0 → lodB (s[j].toNat : Int) = true) ∧ (1 ≤ j → lodB (s[j].toNat : Int) = true))) (fun i => s.size - (intOf i).toNat)
  case atStart => exact ⟨0, by omega, rfl, fun j h => by omega⟩
  case round =>
    obtain ⟨k, hk, rfl, hall⟩ := hrel
    have HL := hid hall
    clear hall
    by_cases hlt : k < s.size
    · rcases Nat.eq_zero_or_pos k with h0 | h0
      · have HZ := hid h0
        have hz : ((k : Int) == 0) = true := by rw [h0]; rfl
        clear h0
        rcases cls_cases (s[k].toNat : Int) with h | h | h | h | h
        all_goals
          have HC := hid h
          clear h
          go_wp2_with (go_at_call 125; refine (class_any _ _).mono ?_; rintro e w' ⟨rfl, rfl⟩; rw [HC.out.1])
          first
          | (go_ret; exact ⟨ret_bool (by rw [HB.out]; have hz' := HZ.out; subst hz'; exact (HF.out hlt (by first | exact HC.out.2.1 | exact HC.out.2.2.1 | exact HC.out.2.2.2.2.1 | exact HC.out.2.2.2.2.2)).symm), rfl⟩)
          | (go_round
             case rel =>
               refine ⟨k + 1, by omega, by go_num, fun j h1 hj => ?_⟩
               have hz' := HZ.out
               have hj0 : j = k := by omega
               subst hj0
               exact ⟨fun _ => (by first | exact HC.out.2.1 | exact HC.out.2.2.1 | exact HC.out.2.2.2.2.1 | exact HC.out.2.2.2.2.2), fun _ => by omega⟩
             case measure => simp [intOf]; omega)
      · have HZ := hid h0
        have hz : ((k : Int) == 0) = false := by rw [beq_eq_false_iff_ne]; omega
        clear h0
        rcases cls_cases (s[k].toNat : Int) with h | h | h | h | h
        all_goals
          have HC := hid h
          clear h
          go_wp2_with (go_at_call 125; refine (class_any _ _).mono ?_; rintro e w' ⟨rfl, rfl⟩; rw [HC.out.1])
          first
          | (go_ret; exact ⟨ret_bool (by rw [HB.out]; exact (HA.out k HZ.out hlt (by first | exact HC.out.2.2.2.1 | exact HC.out.2.2.2.2.1 | exact HC.out.2.2.2.2.2)).symm), rfl⟩)
          | (go_round
             case rel =>
               refine ⟨k + 1, by omega, by go_num, fun j h1 hj => ?_⟩
               by_cases hjk : j = k
               · subst hjk
                 exact ⟨fun e => by have := HZ.out; omega, fun _ => (by first | exact HC.out.2.2.2.1 | exact HC.out.2.2.2.2.1 | exact HC.out.2.2.2.2.2)⟩
               · exact HL.out j (by omega) hj
             case measure => simp [intOf]; omega)
    · have hks : k = s.size := by omega
      rcases Nat.eq_zero_or_pos s.size with hz | hz
      · have hn : ¬ (0 : Int) < (s.size : Int) := by omega
        have HZ := hid hz
        clear hz hks
        go_wp2_with fail
        go_ret
        exact ⟨ret_bool (by rw [HB.out]; exact (HE.out HZ.out).symm), rfl⟩
      · have hn : (0 : Int) < (s.size : Int) := by omega
        by_cases hm : s.size ≤ 32
        · have hm' : (s.size : Int) ≤ 32 := by omega
          have HK := hid hks
          clear hks
          go_wp2_with fail
          go_ret
          refine ⟨ret_bool (by rw [HB.out]; exact (HT.out hz hm ((HL.out 0 (by have := HK.out; omega) hz).1 rfl) (fun j h1 hj => (HL.out j (by have := HK.out; omega) hj).2 h1)).symm), rfl⟩
        · have hm' : ¬ (s.size : Int) ≤ 32 := by omega
          clear hks
          go_wp2_with fail
          go_ret
          exact ⟨ret_bool (by rw [HB.out]; exact (HG.out (by omega)).symm), rfl⟩
end
section
open Go.RowKit
set_option maxHeartbeats 400000 in
theorem rkey_any (a b:ByteArray) (w:World) (ha:a.size≤maxLen) (hb:b.size≤maxLen) :
  Calls Tryz.prog 78 #[.agg #[.string a,.string b]] w fun e w'=>e=.returned (.bool (keyB a b))∧Below w.heap.size w w':=by
 have HK:Hid (keyB a b=(typeB a.data.toList&&idenB b.data.toList)):=rfl
 cases ht:typeB a.data.toList
 all_goals
  go_enter Tryz.func78,Tryz.ntmps78
  go_wp2_with (first|(go_at_call 82;refine (rtype_any _ _ ha).mono ?_;rintro e w' ⟨rfl,rfl⟩)|(go_at_call 120;refine (riden_any _ _ hb).mono ?_;rintro e w' ⟨rfl,rfl⟩))
  go_ret
  exact ⟨ret_bool (by rw [HK.out,ht];rfl),(Below.refl _ _).alloc (Nat.le_refl _) _⟩
end
section
open Go.RowKit
def Blank (w wr:World):Prop :=
 Below w.heap.size w wr∧wr.cell? ⟨w.heap.size,0,none⟩=some (.string ⟨#[]⟩)∧wr.cell? ⟨w.heap.size,1,none⟩=some (.string ⟨#[]⟩)∧wr.frozen? ⟨w.heap.size,0,none⟩=false∧wr.frozen? ⟨w.heap.size,1,none⟩=false
theorem Blank.on {w W w':World} (h:Blank w W) (hq:Below W.heap.size W w'):Blank w w':=by
 obtain ⟨h0,h1,h2,h3,h4⟩:=h
 have hlt:w.heap.size<W.heap.size:=cell_lt h1
 obtain ⟨_,hf⟩:=bcell hq
 exact ⟨h0.trans (hq.mono h0.size),kept hq h1,kept hq h2,by rw [hf _ _ hlt];exact h3,by rw [hf _ _ hlt];exact h4⟩
set_option maxHeartbeats 1000000 in
theorem krparse_any (s:ByteArray) (w:World) (hs:s.size≤maxLen) (x y:ByteArray) (n:Int)
  (hyes:∀k,(hk:k<s.size)→s[k]=47→keyB (s.extract 0 k) (s.extract (k+1) s.size)=true→x=s.extract 0 k∧y=s.extract (k+1) s.size∧n=0)
  (hno:(∀k,(hk:k<s.size)→s[k]=47→keyB (s.extract 0 k) (s.extract (k+1) s.size)=false)→x=⟨#[]⟩∧y=⟨#[]⟩∧n=2) :
  Calls Tryz.prog 41 #[.string s] w fun e w'=>e=.returned (.tuple #[.agg #[.string x,.string y],.int .i64 n])∧Below w.heap.size w w':=by
 have HS:=hid hs
 have HY:=hid hyes
 have HN:=hid hno
 unfold maxLen at hs
 clear hyes hno
 have hbl:Blank w (w.alloc (.cells #[.string ⟨#[]⟩,.string ⟨#[]⟩] 36)):=by
  refine ⟨(Below.refl _ _).alloc (Nat.le_refl _) _,?_,?_,?_,?_⟩<;>simp [go_sem]
 have HW:=hid hbl
 clear hbl
 go_enter Tryz.func41,Tryz.ntmps41
 go_wp2
 go_loopw [4] (fun i wr=>∃k:Nat,k≤s.size∧i=.int .i64 k∧Blank w wr∧(∀j,j<k→(hj:j<s.size)→s[j]=47→keyB (s.extract 0 j) (s.extract (j+1) s.size)=false)) (fun i _=>s.size-(intOf i).toNat)
 case atStart=>exact ⟨0,by omega,rfl,HW.out,fun j h=>by omega⟩
 case round =>
  obtain ⟨k,hk,rfl,hb0,hall⟩:=hrel
  have HB:=hid hb0
  have HL:=hid hall
  clear hall hb0
  by_cases hlt:k<s.size
  ·by_cases hc:s[k]=47
   ·have hb:((s[k].toNat:Int)==47)=true:=by rw [hc];rfl
    have HC:=hid hc
    clear hc
    have c1:(0:Int)≤↑k:=by omega
    have c2:(↑k:Int)≤↑s.size:=by omega
    have c3:(0:Int)≤↑k+1:=by omega
    have c4:(↑k+1:Int)≤↑s.size:=by omega
    go_wp2_with fail
    go_region
    go_wp2_with fail
    have bl1:=HB.out.on (((Below.refl wr.heap.size wr).alloc (Nat.le_refl _) (.cells #[.string (s.extract 0 k),.string (s.extract (k+1) s.size)] 36)).drew)
    refine (rkey_any _ _ _ (ext_size s 0 k HS.out) (ext_size s (k+1) s.size HS.out)).mono ?_
    rintro o w2 ⟨rfl,hq2⟩
    have bl2:=bl1.on hq2
    have e0:w2.cell? ⟨wr.heap.size,0,none⟩=some (.string (s.extract 0 k)):=kept hq2 (by simp [go_sem])
    have e1:w2.cell? ⟨wr.heap.size,1,none⟩=some (.string (s.extract (k+1) s.size)):=kept hq2 (by simp [go_sem])
    have HB2:=hid bl2
    clear bl1 bl2 hq2
    cases hkb:keyB (s.extract 0 k) (s.extract (k+1) s.size) with
    | true =>
     obtain ⟨rfl,rfl,rfl⟩:=HY.out k hlt HC.out hkb
     obtain ⟨b0,d0,d1,f0,f1⟩:=HB2.out
     go_wp2_with fail
     exact bodyPost_ret (v:=.tuple #[.agg #[.string (s.extract 0 k),.string (s.extract (k+1) s.size)],.int .i64 0]) (by simp [results,Tryz.results41,go_sem,d0,d1]) rfl
      ⟨rfl,(b0.setCell (Nat.le_refl _) _).setCell (Nat.le_refl _) _⟩
    | false =>
     have HK:=hid hkb
     go_wp2_with fail
     refine ⟨⟨k+1,by omega,by go_num,HB2.out,fun j h1 hj=>?_⟩,by simp [intOf];omega⟩
     by_cases hjk:j=k
     ·subst hjk;exact fun _=>HK.out
     ·exact HL.out j (by omega) hj
   ·have hb:((s[k].toNat:Int)==47)=false:=by
     rw [beq_eq_false_iff_ne]
     intro h
     apply hc
     apply UInt8.toNat_inj.1
     have:(47:UInt8).toNat=47:=rfl
     omega
    have HC:=hid hc
    clear hc
    go_wp2
    refine ⟨⟨k+1,by omega,by go_num,HB.out,fun j h1 hj=>?_⟩,by simp [intOf];omega⟩
    by_cases hjk:j=k
    ·subst hjk;exact fun e=>absurd e HC.out
    ·exact HL.out j (by omega) hj
  ·obtain ⟨rfl,rfl,rfl⟩:=HN.out fun j hj=>HL.out j (by omega) hj
   obtain ⟨b0,d0,d1,f0,f1⟩:=HB.out
   go_wp2
   exact bodyPost_ret (v:=.tuple #[.agg #[.string ⟨#[]⟩,.string ⟨#[]⟩],.int .i64 2]) (by simp [results,Tryz.results41,go_sem,d0,d1]) rfl
    ⟨rfl,(b0.setCell (Nat.le_refl _) _).setCell (Nat.le_refl _) _⟩
end
section
open Go.RowKit
structure MayK (w:World) (N:Nat) (x:Ex) (W:World):Prop where
 box:W.heap[N]? = some (.cells (encEx x).toArray 42)
 lt:N<W.heap.size
 bel:Below w.heap.size w W
 ex:ExIn W x
theorem MayK.on {w W W':World} {N:Nat} {x:Ex} (h:MayK w N x W) (hb:Below W.heap.size W W'):MayK w N x W' :=
 ⟨(hb.block N h.lt).trans h.box,Nat.lt_of_lt_of_le h.lt hb.size,bel_then h.bel h.bel.size hb,h.ex.on hb⟩
theorem MayK.cells {w W:World} {N:Nat} {x:Ex} (h:MayK w N x W) :
  W.cell? ⟨N,0,none⟩=some (.int .i64 x.kind)∧W.cell? ⟨N,1,none⟩=some (.string x.temp)∧W.cell? ⟨N,2,none⟩=some (.string x.ka)∧W.cell? ⟨N,3,none⟩=some (.string x.kb)∧W.cell? ⟨N,4,none⟩=some (.int .i64 x.iff)∧W.cell? ⟨N,5,none⟩=some x.vs∧W.cell? ⟨N,6,none⟩=some x.es∧W.cell? ⟨N,7,none⟩=some x.ps∧W.cell? ⟨N,8,none⟩=some (.int .u64 x.stamp)∧W.cell? ⟨N,9,none⟩=some (.int .i64 x.num):=by
 refine ⟨?_,?_,?_,?_,?_,?_,?_,?_,?_,?_⟩<;>(rw [Lib.cell_of_heap h.box];rfl)
theorem mayK_new {w:World} {x:Ex} (h:ExIn w x):MayK w w.heap.size x (w.alloc (.cells (encEx x).toArray 42)) :=
 ⟨heap_alloc_new w _,by simp,(Below.refl _ _).alloc (Nat.le_refl _) _,h.on ((Below.refl _ _).alloc (Nat.le_refl _) _)⟩
theorem name_ne (k:Int) (h1:1≤k) (h2:k≤12):(nameS k).toList.isEmpty=false:=by
 rw [Lib.toList_data]
 unfold nameS nameK
 have:k=1∨k=2∨k=3∨k=4∨k=5∨k=6∨k=7∨k=8∨k=9∨k=10∨k=11∨k=12:=by omega
 rcases this with rfl|rfl|rfl|rfl|rfl|rfl|rfl|rfl|rfl|rfl|rfl|rfl<;>rfl
theorem isEmpty_no16 {s:ByteArray} (h:¬ s=⟨#[]⟩):s.toList.isEmpty=false:=by
 rw [Lib.toList_data]
 cases hq:s.data.toList with
 | nil=>exact absurd (ba_empty hq) h
 | cons _ _=>rfl
set_option maxHeartbeats 4000000 in
set_option maxRecDepth 100000 in
theorem rmay16_out (x:Ex) (w:World) (h:ExIn w x) (hr:¬ (1≤x.kind∧x.kind≤12)) :
  Calls Tryz.prog 44 #[aggEx x] w fun e w'=>e=.returned (.bool (mayEn x.en))∧Below w.heap.size w w':=by
 have HK:=hid (mayK_new h)
 have HN:=hid fun W=>rname16_no x.kind W (by omega)
 have HF:Hid (mayEn x.en=false):=by
  show _=_
  cases hm:mayEn x.en with
  | false=>rfl
  | true=>exact absurd ⟨(mayEn_parts hm).k1,(mayEn_parts hm).k2⟩ hr
 obtain ⟨c0,-⟩:=HK.out.cells
 unfold aggEx
 simp only [encEx,Ex.vs,Ex.es,Ex.ps] at HK c0 ⊢
 go_enter Tryz.func44,Tryz.ntmps44
 go_wp2_with (first|(go_at_call 39;refine (HN.out _).mono ?_;rintro e w1 ⟨rfl,q1⟩))
 go_ret
 rw [HF.out]
 exact ⟨rfl,bel_then HK.out.bel HK.out.bel.size q1⟩
end
section
open Go.RowKit Go.Lib
section
variable {P:Program} {ops:Array Oper} {rest:List Oper} {op:Oper} {a:Act} {w:World} {Q:Exit→Act→World→Prop}
theorem wpList_load_as (hgd:op.guard=none) (ty:TypeId) (x:Operand) (ho:op.op=.load ty x) (b o:Nat) (hx:a.eval x=.pointer (some ⟨b,o,none⟩)) (cs:List Value) (d:TypeDesc) (hc:w.rangeAt b o cs)
  (hu:P.underlying ty=some d) (hd:d.isRow=true) (hi:(P.info? ty).map (·.size)=some cs.length) (v:Value) (hv:v=.agg cs.toArray)
  (h:wpList P ops Q rest (a.put op.dst v) w):wpList P ops Q (op::rest) a w:=by
 subst hv;exact wpList_load_mid hgd ty x ho b o hx cs d hc hu hd hi h
theorem wpList_store_as (hgd:op.guard=none) (ty:TypeId) (x y:Operand) (ho:op.op=.store ty x y) (b o:Nat) (cells:Array Value) (hx:a.eval x=.pointer (some ⟨b,o,none⟩)) (hy:a.eval y=.agg cells)
  (ht:w.there b o cells.size) (hi:(P.info? ty).map (·.size)=some cells.size) (h1:cells.all (·.oneCell')=true) (W:World) (hW:w.setCells b o cells.toList=W)
  (h:wpList P ops Q rest (a.put op.dst undef) W):wpList P ops Q (op::rest) a w:=by
 subst hW;exact wpList_store_mid hgd ty x y ho b o cells hx hy ht hi h1 h
end
theorem Tryz.entSize:(Tryz.prog.info? 42).map (·.size)=some 10:=by kernel_rfl
theorem one_ex (y:Ex):(#[.int .i64 y.kind,.string y.temp,.string y.ka,.string y.kb,.int .i64 y.iff,.slice y.vp y.vo.length y.vc,.slice y.ep y.eo.length y.ec,.slice y.pp y.po.length y.pc,.int .u64 y.stamp,.int .i64 y.num]:Array Value).all (·.oneCell')=true:=by
 have h:(encEx y).toArray.all (·.oneCell')=true:=all_oneCell_toArray (KEx.one y)
 exact h
end
section
open Go.RowKit Go.Lib
def normalB (p:List Tm):Bool:=decide (mayM p=0)&&decide (sortM p=p)
theorem ansM_le (p:List Tm) (h:p.length≤maxLen):(ansM p).length≤maxLen:=by
 unfold ansM
 split
 ·exact Nat.le_trans (sortM_len p) h
 ·exact Nat.zero_le _
set_option maxHeartbeats 1000000 in
theorem normal_any (v:Value) (p:List Tm) (w:World) (hv:KM.Is w v p) (hf:FitM p) :
  Calls Tryz.prog 99 #[v] w fun e w'=>e=.returned (.bool (normalB p))∧Below w.heap.size w w':=by
 have HV:=hid hv
 have HN:=hid (pnorm_any v p w hv hf)
 clear hv
 go_enter Tryz.func99,Tryz.ntmps99
 go_wp2_with fail
 refine HN.out.mono ?_
 rintro e w1 ⟨⟨u,rfl,ho⟩,hb⟩
 have HB1:=hid hb
 have HE:=hid (pequal_any u v (ansM p) p w1 (Kind.own_is ho) (Kind.is_kept HV.out hb) (ansM_le p hf.1) hf.1)
 clear ho hb
 by_cases hm:mayM p=0
 ·have HA:Hid (decide (ansM p=p)=normalB p):=hid (by unfold normalB ansM;rw [if_pos hm,hm];simp)
  have HM:=hid hm
  rw [hm]
  clear hm
  go_wp2_with (go_at_call 59;refine HE.out.mono ?_;rintro e w2 ⟨rfl,hb2⟩;have HB2:=hid hb2;clear hb2)
  go_ret
  exact ⟨by rw [←HA.out];rfl,HB1.out.trans (HB2.out.mono HB1.out.size)⟩
 ·have hq:(mayM p==0)=false:=beq_eq_false_iff_ne.2 hm
  have HA:Hid (normalB p=false):=hid (by unfold normalB;simp [hm])
  go_wp2_with fail
  go_ret
  exact ⟨by rw [HA.out];rfl,HB1.out⟩
def fitPt (e:En) (p:Nat):Bool :=
 if p=1 then decide (e.temp=⟨#[]⟩)||tempB e.temp.data.toList
 else if p=2 then keyB e.ka e.kb
 else if p=3 then typeB e.ka.data.toList&&decide (e.kb=⟨#[]⟩)
 else if p=4 then decide (0≤e.iff)&&decide (e.iff≤999999999)
 else if p=5 then mayB e.val
 else if p=7 then normalB e.pred
 else if p=8 then !e.eds.isEmpty&&decide (mayE e.eds=0)
 else if p=9 then decide (0≤e.num)&&decide (e.num≤999999999)
 else true
set_option maxHeartbeats 4000000 in
theorem opfits_any (x:Ex) (p:Nat) (w:World) (hx:ExIn w x) (h1:1≤p) (h2:p≤10) :
  Calls Tryz.prog 55 #[aggEx x,.int .i64 p] w fun e w'=>e=.returned (.bool (fitPt x.en p))∧Below w.heap.size w w':=by
 have HK:=hid (mayK_new hx)
 have HX:=hid hx
 have hm:x.temp.size≤maxLen:=hx.temp
 have ha:x.ka.size≤maxLen:=hx.ka
 have hbk:x.kb.size≤maxLen:=hx.kb
 unfold aggEx
 have HKB:=hid HK.out.bel
 have HMY:=hid (may_any x.vs x.vo _ HK.out.ex.val HK.out.ex.fit)
 have HME:=hid (pmayE_raw x.es x.eo _ HK.out.ex.eds HK.out.ex.efit)
 have HNM:=hid (normal_any x.ps x.po _ HK.out.ex.prd HK.out.ex.pfit)
 simp only [encEx,Ex.vs,Ex.es,Ex.ps] at HK HKB HMY HME HNM ⊢
 clear hx
 have hp:p=1∨p=2∨p=3∨p=4∨p=5∨p=6∨p=7∨p=8∨p=9∨p=10:=by omega
 rcases hp with rfl|rfl|rfl|rfl|rfl|rfl|rfl|rfl|rfl|rfl
 ·by_cases ht:x.temp=⟨#[]⟩
  ·have hse:x.temp.toList.isEmpty=true:=by rw [ht,toList_data];rfl
   have HE:Hid (fitPt x.en 1=true):=hid (by show (decide (x.temp=⟨#[]⟩)||tempB x.temp.data.toList)=true;rw [ht];rfl)
   clear ht
   go_enter Tryz.func55,Tryz.ntmps55
   go_wp2_with fail
   go_ret
   exact ⟨by rw [HE.out];rfl,HKB.out⟩
  ·have hse:x.temp.toList.isEmpty=false:=by
    rw [toList_data]
    cases hl:x.temp.data.toList with
    | nil=>exact absurd (ba_nil hl) ht
    | cons _ _=>rfl
   have HE:Hid (fitPt x.en 1=tempB x.temp.data.toList):=hid (by show (decide (x.temp=⟨#[]⟩)||tempB x.temp.data.toList)=_;simp [ht])
   clear ht
   go_enter Tryz.func55,Tryz.ntmps55
   go_wp2_with (go_at_call 68;refine (temp_any x.temp _ hm).mono ?_;rintro e w1 ⟨rfl,rfl⟩)
   go_ret
   exact ⟨by rw [HE.out];rfl,HKB.out⟩
 ·go_enter Tryz.func55,Tryz.ntmps55
  go_wp2_with (go_at_call 97;refine (key_any x.ka x.kb _ ha hbk).mono ?_;rintro e w1 ⟨rfl,hb1⟩;have HB1:=hid hb1;clear hb1)
  go_ret
  exact ⟨rfl,HKB.out.trans (HB1.out.mono HKB.out.size)⟩
 ·by_cases ht:x.kb=⟨#[]⟩
  ·have hse:x.kb.toList.isEmpty=true:=by rw [ht,toList_data];rfl
   have HE:Hid (fitPt x.en 3=typeB x.ka.data.toList):=hid (by show (typeB x.ka.data.toList&&decide (x.kb=⟨#[]⟩))=_;simp [ht])
   clear ht
   cases hty:typeB x.ka.data.toList
   all_goals
    go_enter Tryz.func55,Tryz.ntmps55
    go_wp2_with (go_at_call 70;refine (type_any x.ka _ ha).mono ?_;rintro e w1 ⟨rfl,rfl⟩;rw [hty])
    go_ret
    exact ⟨by rw [HE.out,hty];rfl,HKB.out⟩
  ·have hse:x.kb.toList.isEmpty=false:=by
    rw [toList_data]
    cases hl:x.kb.data.toList with
    | nil=>exact absurd (ba_nil hl) ht
    | cons _ _=>rfl
   have HE:Hid (fitPt x.en 3=false):=hid (by show (typeB x.ka.data.toList&&decide (x.kb=⟨#[]⟩))=_;simp [ht])
   clear ht
   cases hty:typeB x.ka.data.toList
   all_goals
    go_enter Tryz.func55,Tryz.ntmps55
    go_wp2_with (go_at_call 70;refine (type_any x.ka _ ha).mono ?_;rintro e w1 ⟨rfl,rfl⟩;rw [hty])
    go_ret
    exact ⟨by rw [HE.out];rfl,HKB.out⟩
 ·by_cases h0:0≤x.iff
  ·go_enter Tryz.func55,Tryz.ntmps55
   go_wp2_with fail
   go_ret
   exact ⟨by show _=Ending.returned (.bool (decide (0≤x.iff)&&decide (x.iff≤999999999)));simp [h0],HKB.out⟩
  ·have H0:=hid h0
   go_enter Tryz.func55,Tryz.ntmps55
   go_wp2_with fail
   go_ret
   exact ⟨by show _=Ending.returned (.bool (decide (0≤x.iff)&&decide (x.iff≤999999999)));have h9:¬ 0≤x.iff:=Int.not_le.2 H0.out;simp [h9],HKB.out⟩
 ·go_enter Tryz.func55,Tryz.ntmps55
  go_wp2_with (go_at_call 98;refine HMY.out.mono ?_;rintro e w1 ⟨rfl,hb1⟩;have HB1:=hid hb1.below;clear hb1)
  go_ret
  exact ⟨rfl,HKB.out.trans (HB1.out.mono HKB.out.size)⟩
 ·go_enter Tryz.func55,Tryz.ntmps55
  go_wp2_with fail
  go_ret
  exact ⟨rfl,HKB.out⟩
 ·go_enter Tryz.func55,Tryz.ntmps55
  go_wp2_with (go_at_call 99;refine HNM.out.mono ?_;rintro e w1 ⟨rfl,hb1⟩;have HB1:=hid hb1;clear hb1)
  go_ret
  exact ⟨rfl,HKB.out.trans (HB1.out.mono HKB.out.size)⟩
 ·by_cases h0:x.eo=[]
  ·have HE:Hid (fitPt x.en 8=false):=hid (by show (!x.eo.isEmpty&&decide (mayE x.eo=0))=_;rw [h0];rfl)
   have hl:¬ (0:Int)<(x.eo.length:Int):=by rw [h0];simp
   clear h0
   go_enter Tryz.func55,Tryz.ntmps55
   go_wp2_with fail
   go_ret
   exact ⟨by rw [HE.out];rfl,HKB.out⟩
  ·have hl:(0:Int)<(x.eo.length:Int):=by have:=List.length_pos_iff.2 h0;omega
   have HE:Hid (fitPt x.en 8=(mayE x.eo==0)):=hid (by
    show (!x.eo.isEmpty&&decide (mayE x.eo=0))=_
    cases hq:x.eo with
    | nil=>exact absurd hq h0
    | cons a b=>simp;rfl)
   clear h0
   go_enter Tryz.func55,Tryz.ntmps55
   go_wp2_with (go_at_call 100;refine HME.out.mono ?_;rintro e w1 ⟨rfl,hb1⟩;have HB1:=hid hb1;clear hb1)
   go_ret
   exact ⟨by rw [HE.out];rfl,HKB.out.trans (HB1.out.mono HKB.out.size)⟩
 ·by_cases h0:0≤x.num
  ·go_enter Tryz.func55,Tryz.ntmps55
   go_wp2_with fail
   go_ret
   exact ⟨by show _=Ending.returned (.bool (decide (0≤x.num)&&decide (x.num≤999999999)));simp [h0],HKB.out⟩
  ·have H0:=hid h0
   go_enter Tryz.func55,Tryz.ntmps55
   go_wp2_with fail
   go_ret
   exact ⟨by show _=Ending.returned (.bool (decide (0≤x.num)&&decide (x.num≤999999999)));have h9:¬ 0≤x.num:=Int.not_le.2 H0.out;simp [h9],HKB.out⟩
 ·go_enter Tryz.func55,Tryz.ntmps55
  go_wp2_with fail
  go_ret
  exact ⟨rfl,HKB.out⟩
def wout (x:Ex) (p:Nat):Ex :=
 if p=1 then { x with temp:=⟨#[]⟩ }
 else if p=2∨p=3 then { x with ka:=⟨#[]⟩,kb:=⟨#[]⟩ }
 else if p=4 then { x with iff:=0 }
 else if p=5 then { x with vp:=none,vc:=0,vo:=[] }
 else if p=7 then { x with pp:=none,pc:=0,po:=[] }
 else if p=8 then { x with ep:=none,ec:=0,eo:=[] }
 else if p=9 then { x with num:=0 }
 else if p=10 then { x with stamp:=0 }
 else x
theorem w0_facts (w:World) (x:Ex) (W:World) (h:((w.alloc (.cells #[.int .i64 x.kind,.string x.temp,.string x.ka,.string x.kb,.int .i64 x.iff,.slice x.vp x.vo.length x.vc,.slice x.ep x.eo.length x.ec,.slice x.pp x.po.length x.pc,.int .u64 x.stamp,.int .i64 x.num] 42)).alloc (.cells #[.int .i64 0,.string ⟨#[]⟩,.string ⟨#[]⟩,.string ⟨#[]⟩,.int .i64 0,.slice none 0 0,.slice none 0 0,.slice none 0 0,.int .u64 0,.int .i64 0] 42))=W) :
  W.heap[w.heap.size]? = some (.cells #[.int .i64 x.kind,.string x.temp,.string x.ka,.string x.kb,.int .i64 x.iff,.slice x.vp x.vo.length x.vc,.slice x.ep x.eo.length x.ec,.slice x.pp x.po.length x.pc,.int .u64 x.stamp,.int .i64 x.num] 42 (0,0))∧W.heap[w.heap.size+1]? = some (.cells #[.int .i64 0,.string ⟨#[]⟩,.string ⟨#[]⟩,.string ⟨#[]⟩,.int .i64 0,.slice none 0 0,.slice none 0 0,.slice none 0 0,.int .u64 0,.int .i64 0] 42 (0,0))∧Below w.heap.size w W:=by
 subst h
 refine ⟨?_,?_,((Below.refl _ _).alloc (Nat.le_refl _) _).alloc (by simp) _⟩
 ·rw [Below.heap_alloc _ _ _ (by simp)];exact heap_alloc_new w _
 ·have:=heap_alloc_new (w.alloc (.cells #[.int .i64 x.kind,.string x.temp,.string x.ka,.string x.kb,.int .i64 x.iff,.slice x.vp x.vo.length x.vc,.slice x.ep x.eo.length x.ec,.slice x.pp x.po.length x.pc,.int .u64 x.stamp,.int .i64 x.num] 42)) (.cells #[.int .i64 0,.string ⟨#[]⟩,.string ⟨#[]⟩,.string ⟨#[]⟩,.int .i64 0,.slice none 0 0,.slice none 0 0,.slice none 0 0,.int .u64 0,.int .i64 0] 42)
  simpa using this
theorem Tryz.entTen {W:World} {B:Nat} {c0 c1 c2 c3 c4 c5 c6 c7 c8 c9:Value} (h:W.heap[B]? = some (.cells #[c0,c1,c2,c3,c4,c5,c6,c7,c8,c9] 42 (0,0))):W.rangeAt B 0 [c0,c1,c2,c3,c4,c5,c6,c7,c8,c9]∧W.there B 0 10:=by
 refine ⟨fun j v hv=>?_,fun j hj=>⟨?_,Lib.frozen_of_heap h _⟩⟩
 ·rw [Nat.zero_add,Lib.cell_of_heap h]
  simpa using hv
 ·rw [Nat.zero_add,Lib.cell_of_heap h]
  have:j=0∨j=1∨j=2∨j=3∨j=4∨j=5∨j=6∨j=7∨j=8∨j=9:=by omega
  rcases this with rfl|rfl|rfl|rfl|rfl|rfl|rfl|rfl|rfl|rfl<;>rfl
structure WoSt (w:World) (y:Ex) (W:World):Prop where
 box:W.heap[w.heap.size]? = some (.cells #[.int .i64 y.kind,.string y.temp,.string y.ka,.string y.kb,.int .i64 y.iff,.slice y.vp y.vo.length y.vc,.slice y.ep y.eo.length y.ec,.slice y.pp y.po.length y.pc,.int .u64 y.stamp,.int .i64 y.num] 42 (0,0))
 res:W.heap[w.heap.size+1]? = some (.cells #[.int .i64 0,.string ⟨#[]⟩,.string ⟨#[]⟩,.string ⟨#[]⟩,.int .i64 0,.slice none 0 0,.slice none 0 0,.slice none 0 0,.int .u64 0,.int .i64 0] 42 (0,0))
 bel:Below w.heap.size w W
theorem WoSt.set {w W:World} {y z:Ex} (h:WoSt w y W) (j:Nat) (u:Value) (he:#[.int .i64 z.kind,.string z.temp,.string z.ka,.string z.kb,.int .i64 z.iff,.slice z.vp z.vo.length z.vc,.slice z.ep z.eo.length z.ec,.slice z.pp z.po.length z.pc,.int .u64 z.stamp,.int .i64 z.num]=(#[.int .i64 y.kind,.string y.temp,.string y.ka,.string y.kb,.int .i64 y.iff,.slice y.vp y.vo.length y.vc,.slice y.ep y.eo.length y.ec,.slice y.pp y.po.length y.pc,.int .u64 y.stamp,.int .i64 y.num]:Array Value).setIfInBounds j u):WoSt w z (W.setCell ⟨w.heap.size,j,none⟩ u) :=
 ⟨by rw [he];exact heap_setCell_same _ _ j _ _ _ h.box,(Below.heap_setCell _ _ _ _ (by show w.heap.size+1≠w.heap.size;omega)).trans h.res,h.bel.setCell (p:=⟨w.heap.size,j,none⟩) (Nat.le_refl _) _⟩
set_option maxHeartbeats 4000000 in
theorem without_any (x:Ex) (p:Nat) (w:World) (h1:1≤p) (h2:p≤10):Calls Tryz.prog 56 #[aggEx x,.int .i64 p] w fun e w'=>e=.returned (aggEx (wout x p))∧Below w.heap.size w w':=by
 obtain ⟨y,hy⟩:∃y,wout x p=y:=⟨_,rfl⟩
 rw [hy]
 have HY:=hid hy
 unfold aggEx
 simp only [encEx,Ex.vs,Ex.es,Ex.ps]
 obtain ⟨W,hW⟩:∃W,((w.alloc (.cells #[.int .i64 x.kind,.string x.temp,.string x.ka,.string x.kb,.int .i64 x.iff,.slice x.vp x.vo.length x.vc,.slice x.ep x.eo.length x.ec,.slice x.pp x.po.length x.pc,.int .u64 x.stamp,.int .i64 x.num] 42)).alloc (.cells #[.int .i64 0,.string ⟨#[]⟩,.string ⟨#[]⟩,.string ⟨#[]⟩,.int .i64 0,.slice none 0 0,.slice none 0 0,.slice none 0 0,.int .u64 0,.int .i64 0] 42))=W:=⟨_,rfl⟩
 obtain ⟨b0,b1,hb⟩:=w0_facts w x W hW
 have H0:Hid (WoSt w x W):=hid ⟨b0,b1,hb⟩
 clear hy b0 b1 hb
 go_enter Tryz.func56,Tryz.ntmps56
 go_upto_block 0 with fail
 try rw [hW]
 clear hW
 go_cut [5] from 6 (fun _ wx=>Hid (WoSt w y wx))
 case first =>
  have hp:p=1∨p=2∨p=3∨p=4∨p=5∨p=6∨p=7∨p=8∨p=9∨p=10:=by omega
  obtain ⟨c0,c1,c2,c3,c4,c5,c6,c7,c8,c9⟩:W.cell? ⟨w.heap.size,0,none⟩=some (.int .i64 x.kind)∧W.cell? ⟨w.heap.size,1,none⟩=some (.string x.temp)∧W.cell? ⟨w.heap.size,2,none⟩=some (.string x.ka)∧W.cell? ⟨w.heap.size,3,none⟩=some (.string x.kb)∧W.cell? ⟨w.heap.size,4,none⟩=some (.int .i64 x.iff)∧W.cell? ⟨w.heap.size,5,none⟩=some (.slice x.vp x.vo.length x.vc)∧W.cell? ⟨w.heap.size,6,none⟩=some (.slice x.ep x.eo.length x.ec)∧W.cell? ⟨w.heap.size,7,none⟩=some (.slice x.pp x.po.length x.pc)∧W.cell? ⟨w.heap.size,8,none⟩=some (.int .u64 x.stamp)∧W.cell? ⟨w.heap.size,9,none⟩=some (.int .i64 x.num):=by
   refine ⟨?_,?_,?_,?_,?_,?_,?_,?_,?_,?_⟩<;>(rw [Lib.cell_of_heap H0.out.box];rfl)
  have f1:=Lib.frozen_of_heap H0.out.box 1
  have f2:=Lib.frozen_of_heap H0.out.box 2
  have f3:=Lib.frozen_of_heap H0.out.box 3
  have f4:=Lib.frozen_of_heap H0.out.box 4
  have f5:=Lib.frozen_of_heap H0.out.box 5
  have f6:=Lib.frozen_of_heap H0.out.box 6
  have f7:=Lib.frozen_of_heap H0.out.box 7
  have f8:=Lib.frozen_of_heap H0.out.box 8
  have f9:=Lib.frozen_of_heap H0.out.box 9
  have HS:Hid (∀j u,#[.int .i64 y.kind,.string y.temp,.string y.ka,.string y.kb,.int .i64 y.iff,.slice y.vp y.vo.length y.vc,.slice y.ep y.eo.length y.ec,.slice y.pp y.po.length y.pc,.int .u64 y.stamp,.int .i64 y.num]=(#[.int .i64 x.kind,.string x.temp,.string x.ka,.string x.kb,.int .i64 x.iff,.slice x.vp x.vo.length x.vc,.slice x.ep x.eo.length x.ec,.slice x.pp x.po.length x.pc,.int .u64 x.stamp,.int .i64 x.num]:Array Value).setIfInBounds j u→WoSt w y (W.setCell ⟨w.heap.size,j,none⟩ u)):=hid fun j u he=>H0.out.set j u he
  rcases hp with rfl|rfl|rfl|rfl|rfl|rfl|rfl|rfl|rfl|rfl
  ·go_wp2_with fail
   go_meet
   exact hid (HS.out 1 _ (by rw [←HY.out];rfl))
  ·go_wp2_with fail
   go_meet
   exact hid ((H0.out.set (z:={ x with ka:=⟨#[]⟩ }) 2 (.string ⟨#[]⟩) rfl).set 3 _ (by rw [←HY.out];rfl))
  ·go_wp2_with fail
   go_meet
   exact hid ((H0.out.set (z:={ x with ka:=⟨#[]⟩ }) 2 (.string ⟨#[]⟩) rfl).set 3 _ (by rw [←HY.out];rfl))
  ·go_wp2_with fail
   go_meet
   exact hid (HS.out 4 _ (by rw [←HY.out];rfl))
  ·go_wp2_with fail
   go_meet
   exact hid (HS.out 5 _ (by rw [←HY.out];rfl))
  ·go_wp2_with fail
   go_meet
   exact hid (by rw [←HY.out];exact H0.out)
  ·go_wp2_with fail
   go_meet
   exact hid (HS.out 7 _ (by rw [←HY.out];rfl))
  ·go_wp2_with fail
   go_meet
   exact hid (HS.out 6 _ (by rw [←HY.out];rfl))
  ·go_wp2_with fail
   go_meet
   exact hid (HS.out 9 _ (by rw [←HY.out];rfl))
  ·go_wp2_with fail
   go_meet
   exact hid (HS.out 8 _ (by rw [←HY.out];rfl))
 case rest =>
 have H1:=hcut
 obtain ⟨W4,hW4⟩:∃W4,wc.setCells (w.heap.size+1) 0 [.int .i64 y.kind,.string y.temp,.string y.ka,.string y.kb,.int .i64 y.iff,.slice y.vp y.vo.length y.vc,.slice y.ep y.eo.length y.ec,.slice y.pp y.po.length y.pc,.int .u64 y.stamp,.int .i64 y.num]=W4:=⟨_,rfl⟩
 obtain ⟨h4,f4⟩:=out_ten H1.out.res _ _ _ _ _ _ _ _ _ _ hW4
 have HFIN:Hid (Below w.heap.size w W4):=hid (H1.out.bel.trans (f4.below H1.out.bel.size fun k hk=>by omega))
 obtain ⟨g0,g1,g2,g3,g4,g5,g6,g7,g8,g9⟩:W4.cell? ⟨w.heap.size+1,0,none⟩=some (.int .i64 y.kind)∧W4.cell? ⟨w.heap.size+1,1,none⟩=some (.string y.temp)∧W4.cell? ⟨w.heap.size+1,2,none⟩=some (.string y.ka)∧W4.cell? ⟨w.heap.size+1,3,none⟩=some (.string y.kb)∧W4.cell? ⟨w.heap.size+1,4,none⟩=some (.int .i64 y.iff)∧W4.cell? ⟨w.heap.size+1,5,none⟩=some (.slice y.vp y.vo.length y.vc)∧W4.cell? ⟨w.heap.size+1,6,none⟩=some (.slice y.ep y.eo.length y.ec)∧W4.cell? ⟨w.heap.size+1,7,none⟩=some (.slice y.pp y.po.length y.pc)∧W4.cell? ⟨w.heap.size+1,8,none⟩=some (.int .u64 y.stamp)∧W4.cell? ⟨w.heap.size+1,9,none⟩=some (.int .i64 y.num):=by
  refine ⟨?_,?_,?_,?_,?_,?_,?_,?_,?_,?_⟩<;>(rw [Lib.cell_of_heap h4];rfl)
 have HRG:=hid (Tryz.entTen H1.out.box).1
 have HTH:=hid (Tryz.entTen H1.out.res).2
 have HW4:Hid (wc.setCells (w.heap.size+1) 0 (#[.int .i64 y.kind,.string y.temp,.string y.ka,.string y.kb,.int .i64 y.iff,.slice y.vp y.vo.length y.vc,.slice y.ep y.eo.length y.ec,.slice y.pp y.po.length y.pc,.int .u64 y.stamp,.int .i64 y.num]:Array Value).toList=W4):=hid hW4
 clear h4 f4 hW4
 go_wp2_with (first|(refine wpList_load_as rfl 42 _ rfl w.heap.size 0 rfl [.int .i64 y.kind,.string y.temp,.string y.ka,.string y.kb,.int .i64 y.iff,.slice y.vp y.vo.length y.vc,.slice y.ep y.eo.length y.ec,.slice y.pp y.po.length y.pc,.int .u64 y.stamp,.int .i64 y.num] _ HRG.out Tryz.underlying42 rfl Tryz.entSize (.agg #[.int .i64 y.kind,.string y.temp,.string y.ka,.string y.kb,.int .i64 y.iff,.slice y.vp y.vo.length y.vc,.slice y.ep y.eo.length y.ec,.slice y.pp y.po.length y.pc,.int .u64 y.stamp,.int .i64 y.num]) rfl ?_)|(refine wpList_store_as rfl 42 _ _ rfl (w.heap.size+1) 0 #[.int .i64 y.kind,.string y.temp,.string y.ka,.string y.kb,.int .i64 y.iff,.slice y.vp y.vo.length y.vc,.slice y.ep y.eo.length y.ec,.slice y.pp y.po.length y.pc,.int .u64 y.stamp,.int .i64 y.num] rfl rfl HTH.out Tryz.entSize (one_ex y) W4 HW4.out ?_))
 exact bodyPost_ret (v:=.agg #[.int .i64 y.kind,.string y.temp,.string y.ka,.string y.kb,.int .i64 y.iff,.slice y.vp y.vo.length y.vc,.slice y.ep y.eo.length y.ec,.slice y.pp y.po.length y.pc,.int .u64 y.stamp,.int .i64 y.num]) (by simp [results,Tryz.results56,go_sem,g0,g1,g2,g3,g4,g5,g6,g7,g8,g9]) rfl ⟨rfl,HFIN.out⟩
end
section
open Go.RowKit Go.Sort Go.Lib
theorem eql_keyQ (a b c d:ByteArray) (w:World):(binOp .eql 36 (.agg #[.string a,.string b]) (.agg #[.string c,.string d])).run Tryz.prog w=.ok (.bool (decide (a=c∧b=d))) w:=by
 have hS:Tryz.prog.underlying 36=some (.struct (Tryz.prog.fieldsOf 36)):=by kernel_rfl
 have hp:Tryz.prog.stoodInHeld 36=false:=by kernel_rfl
 have u9:=Tryz.underlying9
 have a9:=Tryz.isAgg9
 have z9:=Tryz.sizeOf9
 rw [run_eql_struct,show (10000:Nat)=9999+1 from rfl,run_equalIn_agg w 9999 36 _ _ hS hp]
 simp only [Program.fieldsOf,Tryz.underlying36]
 go_simp
 by_cases h1:a=c
 ·subst h1
  by_cases h3:b=d
  ·subst h3;simp
  ·have e3:=beq_eq_false_iff_ne.1 (seq_false h3)
   simp [h3,e3]
 ·have e1:=beq_eq_false_iff_ne.1 (seq_false h1)
  simp [h1,e1]
theorem neqE_at:NeqAt Tryz.prog 47 (fun x:Ed=>.agg (encE x).toArray) (fun x y=>decide (x=y)) :=
 ⟨fun x y w=>neq_edit x y w,GuardAt.agg (fun x:Ed=>(encE x).toArray) (by kernel_rfl)⟩
theorem allEqE:∀(p q:List Ed),Lib.allEq (fun x y=>decide (x=y)) p q=decide (p=q)
 | [],[]=>rfl
 | [],y::q=>by simp [Lib.allEq]
 | x::p,[]=>by simp [Lib.allEq]
 | x::p,y::q=>by
  have:=allEqE p q
  unfold Lib.allEq
  rw [this]
  by_cases h1:x=y<;>by_cases h2:p=q<;>simp [h1,h2]
set_option maxHeartbeats 1000000 in
theorem eqE_none1 (q1 q2:Option Addr) (c1 c2 m:Nat) (hm:m≤maxLen) (w:World) :
  Calls Tryz.prog 58 #[.slice q1 0 c1,.slice q2 m c2] w fun e w'=>e=.returned (.bool (decide (m=0)))∧w'=w:=by
 unfold maxLen at hm
 by_cases h0:m=0
 ·subst h0
  go_enter Tryz.func58,Tryz.ntmps58
  go_wp2_with fail
  refine wp_loop_rounds 1 ?_
  rw [rounds_succ]
  go_wp2_with fail
  go_ret
  exact ⟨rfl,rfl⟩
 ·have hz:((0:Int) != (m:Int))=true:=by simp;omega
  have hd:=decide_eq_false h0
  rw [hd]
  go_enter Tryz.func58,Tryz.ntmps58
  go_wp2_with fail
  go_ret
  exact ⟨rfl,rfl⟩
set_option maxHeartbeats 1000000 in
theorem eqE_none2 (q1 q2:Option Addr) (c1 c2 m:Nat) (hm:m≠0) (w:World) :
  Calls Tryz.prog 58 #[.slice q1 m c1,.slice q2 0 c2] w fun e w'=>e=.returned (.bool false)∧w'=w:=by
 have hz:((m:Int) != 0)=true:=by simp;omega
 go_enter Tryz.func58,Tryz.ntmps58
 go_wp2_with fail
 go_ret
 exact ⟨rfl,rfl⟩
theorem eqE_any (v u:Value) (p q:List Ed) (w:World) (hv:KE.Is w v p) (hu:KE.Is w u q) (hl1:p.length≤maxLen) (hl2:q.length≤maxLen) :
  Calls Tryz.prog 58 #[v,u] w fun e w'=>e=.returned (.bool (decide (p=q)))∧Below w.heap.size w w':=by
 obtain ⟨a1,k1,rfl,hd1⟩:=hv
 obtain ⟨a2,k2,rfl,hd2⟩:=hu
 by_cases h1:p=[]
 ·subst h1
  refine (eqE_none1 a1 a2 k1 k2 q.length hl2 w).mono ?_
  rintro e w' ⟨rfl,rfl⟩
  refine ⟨ret_bool ?_,Below.refl _ _⟩
  cases q<;>simp
 ·by_cases h2:q=[]
  ·subst h2
   refine (eqE_none2 a1 a2 k1 k2 p.length (fun e=>h1 (List.length_eq_zero_iff.1 e)) w).mono ?_
   rintro e w' ⟨rfl,rfl⟩
   exact ⟨ret_bool (by rw [decide_eq_false h1]),Below.refl _ _⟩
  ·rcases hd1 with hd1|⟨b1,o1,rfl,x1⟩
   ·exact absurd hd1 h1
   ·rcases hd2 with hd2|⟨b2,o2,rfl,x2⟩
    ·exact absurd hd2 h2
    ·unfold maxLen at hl1 hl2
     have hc:=AnyQ.slices_Equal (α:=Ed) Tryz.eqEdt 3 Tryz.isAgg47 Tryz.sizeOf47 encE (fun _=>rfl) (fun x y=>decide (x=y)) neqE_at b1 o1 p.length k1 b2 o2 q.length k2 p q w (Nat.le_refl _) (Nat.le_refl _) (by omega) (by omega)
      (fun j hj i v hv=>by rw [getElem!_pos p j hj] at hv;exact ke_enc x1 j hj i v hv) (fun j hj i v hv=>by rw [getElem!_pos q j hj] at hv;exact ke_enc x2 j hj i v hv)
     change Calls Tryz.prog 58 _ _ _ at hc
     refine hc.mono ?_
     rintro e w' ⟨rfl,n,rfl⟩
     exact ⟨ret_bool (by rw [List.take_length,List.take_length,allEqE]),bel_drewN (Below.refl _ _) n⟩
instance:DecidableEq En:=fun a b =>
 decidable_of_iff (a.kind=b.kind∧a.temp=b.temp∧(a.ka=b.ka∧a.kb=b.kb)∧a.iff=b.iff∧a.stamp=b.stamp∧a.num=b.num∧a.val=b.val∧a.eds=b.eds∧a.pred=b.pred) (by
  cases a;cases b
  simp only [En.mk.injEq]
  constructor
  ·rintro ⟨h1,h2,⟨h3,h4⟩,h5,h6,h7,h8,h9,h10⟩;exact ⟨h1,h2,h3,h4,h5,h8,h9,h10,h6,h7⟩
  ·rintro ⟨h1,h2,h3,h4,h5,h8,h9,h10,h6,h7⟩;exact ⟨h1,h2,⟨h3,h4⟩,h5,h6,h7,h8,h9,h10⟩)
theorem en_eq (a b:En):a=b↔(a.kind=b.kind∧a.temp=b.temp∧(a.ka=b.ka∧a.kb=b.kb)∧a.iff=b.iff∧a.stamp=b.stamp∧a.num=b.num∧a.val=b.val∧a.eds=b.eds∧a.pred=b.pred):=by
  cases a;cases b
  simp only [En.mk.injEq]
  constructor
  ·rintro ⟨h1,h2,h3,h4,h5,h8,h9,h10,h6,h7⟩;exact ⟨h1,h2,⟨h3,h4⟩,h5,h6,h7,h8,h9,h10⟩
  ·rintro ⟨h1,h2,⟨h3,h4⟩,h5,h6,h7,h8,h9,h10⟩;exact ⟨h1,h2,h3,h4,h5,h8,h9,h10,h6,h7⟩
set_option maxHeartbeats 8000000 in
set_option maxRecDepth 100000 in
theorem opsame_any (x y:Ex) (w:World) (hx:ExIn w x) (hy:ExIn w y) :
  Calls Tryz.prog 30 #[aggEx x,aggEx y] w fun e w'=>e=.returned (.bool (decide (x.en=y.en)))∧Below w.heap.size w w':=by
 obtain ⟨W,hW⟩:∃W,(w.alloc (.cells (encEx x).toArray 42)).alloc (.cells (encEx y).toArray 42)=W:=⟨_,rfl⟩
 have hbl:Below w.heap.size w W:=by rw [←hW];exact ((Below.refl _ _).alloc (Nat.le_refl _) _).alloc (by simp) _
 have b0:W.heap[w.heap.size]? = some (.cells (encEx x).toArray 42 (0,0)):=by
  rw [←hW,Below.heap_alloc _ _ _ (by simp)];exact heap_alloc_new w _
 have b1:W.heap[w.heap.size+1]? = some (.cells (encEx y).toArray 42 (0,0)):=by
  rw [←hW]
  have:=heap_alloc_new (w.alloc (.cells (encEx x).toArray 42)) (.cells (encEx y).toArray 42)
  simpa using this
 have HX:=hid (hx.on hbl)
 have HY:=hid (hy.on hbl)
 have HB:=hid hbl
 have HB0:=hid b0
 have HB1:=hid b1
 have HEV:=hid (equal_any x.vs y.vs x.vo y.vo W HX.out.val HY.out.val HX.out.fit HY.out.fit)
 have HEE:Hid (∀V,Below W.heap.size W V→Calls Tryz.prog 58 #[x.es,y.es] V fun e w'=>e=.returned (.bool (decide (x.eo=y.eo)))∧Below V.heap.size V w'):=hid fun V h=>eqE_any x.es y.es x.eo y.eo V (Kind.is_kept HX.out.eds h) (Kind.is_kept HY.out.eds h) HX.out.efit.1 HY.out.efit.1
 have HEP:Hid (∀V,Below W.heap.size W V→Calls Tryz.prog 59 #[x.ps,y.ps] V fun e w'=>e=.returned (.bool (decide (x.po=y.po)))∧Below V.heap.size V w'):=hid fun V h=>pequal_any x.ps y.ps x.po y.po V (Kind.is_kept HX.out.prd h) (Kind.is_kept HY.out.prd h) HX.out.pfit.1 HY.out.pfit.1
 have HD:Hid (decide (x.en=y.en)=decide (x.kind=y.kind∧x.temp=y.temp∧(x.ka=y.ka∧x.kb=y.kb)∧x.iff=y.iff∧x.stamp=y.stamp∧x.num=y.num∧x.vo.map Fx.fld=y.vo.map Fx.fld∧x.eo=y.eo∧x.po=y.po)):=hid (by
  rw [decide_eq_decide];exact en_eq x.en y.en)
 have HKQ:=hid (eql_keyQ x.ka x.kb y.ka y.kb)
 unfold aggEx
 simp only [encEx,Ex.vs,Ex.es,Ex.ps] at HB0 HB1 HEV HEE HEP hW ⊢
 clear b0 b1 hbl hx hy
 have hc:∀V,Below W.heap.size W V→V.heap[w.heap.size]? = W.heap[w.heap.size]?∧V.heap[w.heap.size+1]? = W.heap[w.heap.size+1]?:=fun V h =>
  ⟨h.block _ (Array.getElem?_eq_some_iff.1 HB0.out).1,h.block _ (Array.getElem?_eq_some_iff.1 HB1.out).1⟩
 have HC:=hid hc
 clear hc
 have x0:W.cell? ⟨w.heap.size,0,none⟩=some (.int .i64 x.kind):=by rw [Lib.cell_of_heap HB0.out];rfl
 have v0:W.cell? ⟨w.heap.size+1,0,none⟩=some (.int .i64 y.kind):=by rw [Lib.cell_of_heap HB1.out];rfl
 have x1:W.cell? ⟨w.heap.size,1,none⟩=some (.string x.temp):=by rw [Lib.cell_of_heap HB0.out];rfl
 have v1:W.cell? ⟨w.heap.size+1,1,none⟩=some (.string y.temp):=by rw [Lib.cell_of_heap HB1.out];rfl
 have x2:W.cell? ⟨w.heap.size,2,none⟩=some (.string x.ka):=by rw [Lib.cell_of_heap HB0.out];rfl
 have v2:W.cell? ⟨w.heap.size+1,2,none⟩=some (.string y.ka):=by rw [Lib.cell_of_heap HB1.out];rfl
 have x3:W.cell? ⟨w.heap.size,3,none⟩=some (.string x.kb):=by rw [Lib.cell_of_heap HB0.out];rfl
 have v3:W.cell? ⟨w.heap.size+1,3,none⟩=some (.string y.kb):=by rw [Lib.cell_of_heap HB1.out];rfl
 have x4:W.cell? ⟨w.heap.size,4,none⟩=some (.int .i64 x.iff):=by rw [Lib.cell_of_heap HB0.out];rfl
 have v4:W.cell? ⟨w.heap.size+1,4,none⟩=some (.int .i64 y.iff):=by rw [Lib.cell_of_heap HB1.out];rfl
 have x5:W.cell? ⟨w.heap.size,5,none⟩=some (.slice x.vp x.vo.length x.vc):=by rw [Lib.cell_of_heap HB0.out];rfl
 have v5:W.cell? ⟨w.heap.size+1,5,none⟩=some (.slice y.vp y.vo.length y.vc):=by rw [Lib.cell_of_heap HB1.out];rfl
 have x6:W.cell? ⟨w.heap.size,6,none⟩=some (.slice x.ep x.eo.length x.ec):=by rw [Lib.cell_of_heap HB0.out];rfl
 have v6:W.cell? ⟨w.heap.size+1,6,none⟩=some (.slice y.ep y.eo.length y.ec):=by rw [Lib.cell_of_heap HB1.out];rfl
 have x7:W.cell? ⟨w.heap.size,7,none⟩=some (.slice x.pp x.po.length x.pc):=by rw [Lib.cell_of_heap HB0.out];rfl
 have v7:W.cell? ⟨w.heap.size+1,7,none⟩=some (.slice y.pp y.po.length y.pc):=by rw [Lib.cell_of_heap HB1.out];rfl
 have x8:W.cell? ⟨w.heap.size,8,none⟩=some (.int .u64 x.stamp):=by rw [Lib.cell_of_heap HB0.out];rfl
 have v8:W.cell? ⟨w.heap.size+1,8,none⟩=some (.int .u64 y.stamp):=by rw [Lib.cell_of_heap HB1.out];rfl
 have x9:W.cell? ⟨w.heap.size,9,none⟩=some (.int .i64 x.num):=by rw [Lib.cell_of_heap HB0.out];rfl
 have v9:W.cell? ⟨w.heap.size+1,9,none⟩=some (.int .i64 y.num):=by rw [Lib.cell_of_heap HB1.out];rfl
 by_cases h_kind:x.kind=y.kind
 case neg =>
  have q_kind:(x.kind==y.kind)=false:=beq_eq_false_iff_ne.2 h_kind
  have HF:Hid (decide (x.kind=y.kind∧x.temp=y.temp∧(x.ka=y.ka∧x.kb=y.kb)∧x.iff=y.iff∧x.stamp=y.stamp∧x.num=y.num∧x.vo.map Fx.fld=y.vo.map Fx.fld∧x.eo=y.eo∧x.po=y.po)=false):=hid (decide_eq_false fun q=>h_kind q.1)
  have H_kind:=hid h_kind
  clear h_kind
  go_enter Tryz.func30,Tryz.ntmps30
  go_upto_region 1 with fail
  try rw [hW]
  go_wp2_with fail
  go_ret
  exact ⟨by rw [HD.out,HF.out];rfl,HB.out⟩
 have q_kind:(x.kind==y.kind)=true:=beq_iff_eq.2 h_kind
 by_cases h_temp:x.temp=y.temp
 case neg =>
  have q_temp:(x.temp.toList==y.temp.toList)=false:=seq_false h_temp
  have HF:Hid (decide (x.kind=y.kind∧x.temp=y.temp∧(x.ka=y.ka∧x.kb=y.kb)∧x.iff=y.iff∧x.stamp=y.stamp∧x.num=y.num∧x.vo.map Fx.fld=y.vo.map Fx.fld∧x.eo=y.eo∧x.po=y.po)=false):=hid (decide_eq_false fun q=>h_temp q.2.1)
  have H_kind:=hid h_kind
  clear h_kind
  have H_temp:=hid h_temp
  clear h_temp
  go_enter Tryz.func30,Tryz.ntmps30
  go_upto_region 1 with fail
  try rw [hW]
  go_wp2_with fail
  go_ret
  exact ⟨by rw [HD.out,HF.out];rfl,HB.out⟩
 have q_temp:(x.temp.toList==y.temp.toList)=true:=seq_true h_temp
 by_cases h_key:(x.ka=y.ka∧x.kb=y.kb)
 case neg =>
  have q_key:∀V,(binOp .eql 36 (.agg #[.string x.ka,.string x.kb]) (.agg #[.string y.ka,.string y.kb])).run Tryz.prog V=.ok (.bool false) V:=fun V=>by rw [HKQ.out V,decide_eq_false h_key]
  have HF:Hid (decide (x.kind=y.kind∧x.temp=y.temp∧(x.ka=y.ka∧x.kb=y.kb)∧x.iff=y.iff∧x.stamp=y.stamp∧x.num=y.num∧x.vo.map Fx.fld=y.vo.map Fx.fld∧x.eo=y.eo∧x.po=y.po)=false):=hid (decide_eq_false fun q=>h_key q.2.2.1)
  have H_kind:=hid h_kind
  clear h_kind
  have H_temp:=hid h_temp
  clear h_temp
  have H_key:=hid h_key
  clear h_key
  go_enter Tryz.func30,Tryz.ntmps30
  go_upto_region 1 with fail
  try rw [hW]
  go_wp2_with fail
  go_ret
  exact ⟨by rw [HD.out,HF.out];rfl,HB.out⟩
 have q_key:∀V,(binOp .eql 36 (.agg #[.string x.ka,.string x.kb]) (.agg #[.string y.ka,.string y.kb])).run Tryz.prog V=.ok (.bool true) V:=fun V=>by rw [HKQ.out V,decide_eq_true h_key]
 by_cases h_iff:x.iff=y.iff
 case neg =>
  have q_iff:(x.iff==y.iff)=false:=beq_eq_false_iff_ne.2 h_iff
  have HF:Hid (decide (x.kind=y.kind∧x.temp=y.temp∧(x.ka=y.ka∧x.kb=y.kb)∧x.iff=y.iff∧x.stamp=y.stamp∧x.num=y.num∧x.vo.map Fx.fld=y.vo.map Fx.fld∧x.eo=y.eo∧x.po=y.po)=false):=hid (decide_eq_false fun q=>h_iff q.2.2.2.1)
  have H_kind:=hid h_kind
  clear h_kind
  have H_temp:=hid h_temp
  clear h_temp
  have H_key:=hid h_key
  clear h_key
  have H_iff:=hid h_iff
  clear h_iff
  go_enter Tryz.func30,Tryz.ntmps30
  go_upto_region 1 with fail
  try rw [hW]
  go_wp2_with fail
  go_ret
  exact ⟨by rw [HD.out,HF.out];rfl,HB.out⟩
 have q_iff:(x.iff==y.iff)=true:=beq_iff_eq.2 h_iff
 by_cases h_stamp:x.stamp=y.stamp
 case neg =>
  have q_stamp:(x.stamp==y.stamp)=false:=beq_eq_false_iff_ne.2 h_stamp
  have HF:Hid (decide (x.kind=y.kind∧x.temp=y.temp∧(x.ka=y.ka∧x.kb=y.kb)∧x.iff=y.iff∧x.stamp=y.stamp∧x.num=y.num∧x.vo.map Fx.fld=y.vo.map Fx.fld∧x.eo=y.eo∧x.po=y.po)=false):=hid (decide_eq_false fun q=>h_stamp q.2.2.2.2.1)
  have H_kind:=hid h_kind
  clear h_kind
  have H_temp:=hid h_temp
  clear h_temp
  have H_key:=hid h_key
  clear h_key
  have H_iff:=hid h_iff
  clear h_iff
  have H_stamp:=hid h_stamp
  clear h_stamp
  go_enter Tryz.func30,Tryz.ntmps30
  go_upto_region 1 with fail
  try rw [hW]
  go_wp2_with fail
  go_ret
  exact ⟨by rw [HD.out,HF.out];rfl,HB.out⟩
 have q_stamp:(x.stamp==y.stamp)=true:=beq_iff_eq.2 h_stamp
 by_cases h_num:x.num=y.num
 case neg =>
  have q_num:(x.num==y.num)=false:=beq_eq_false_iff_ne.2 h_num
  have HF:Hid (decide (x.kind=y.kind∧x.temp=y.temp∧(x.ka=y.ka∧x.kb=y.kb)∧x.iff=y.iff∧x.stamp=y.stamp∧x.num=y.num∧x.vo.map Fx.fld=y.vo.map Fx.fld∧x.eo=y.eo∧x.po=y.po)=false):=hid (decide_eq_false fun q=>h_num q.2.2.2.2.2.1)
  have H_kind:=hid h_kind
  clear h_kind
  have H_temp:=hid h_temp
  clear h_temp
  have H_key:=hid h_key
  clear h_key
  have H_iff:=hid h_iff
  clear h_iff
  have H_stamp:=hid h_stamp
  clear h_stamp
  have H_num:=hid h_num
  clear h_num
  go_enter Tryz.func30,Tryz.ntmps30
  go_upto_region 1 with fail
  try rw [hW]
  go_wp2_with fail
  go_ret
  exact ⟨by rw [HD.out,HF.out];rfl,HB.out⟩
 have q_num:(x.num==y.num)=true:=beq_iff_eq.2 h_num
 have HALL:Hid (decide (x.kind=y.kind∧x.temp=y.temp∧(x.ka=y.ka∧x.kb=y.kb)∧x.iff=y.iff∧x.stamp=y.stamp∧x.num=y.num∧x.vo.map Fx.fld=y.vo.map Fx.fld∧x.eo=y.eo∧x.po=y.po)=decide (x.vo.map Fx.fld=y.vo.map Fx.fld∧x.eo=y.eo∧x.po=y.po)):=hid (by rw [decide_eq_decide];exact ⟨fun q=>q.2.2.2.2.2.2,fun q=>⟨h_kind,h_temp,h_key,h_iff,h_stamp,h_num,q⟩⟩)
 clear h_kind h_temp h_key h_iff h_stamp h_num
 by_cases h_val:x.vo.map Fx.fld=y.vo.map Fx.fld
 case neg =>
  have q_val:=decide_eq_false h_val
  have HF:Hid (decide (x.vo.map Fx.fld=y.vo.map Fx.fld∧x.eo=y.eo∧x.po=y.po)=false):=hid (decide_eq_false fun q=>h_val q.1)
  clear h_val
  go_enter Tryz.func30,Tryz.ntmps30
  go_upto_region 1 with fail
  try rw [hW]
  go_wp2_with (go_at_call 57;refine HEV.out.mono ?_;rintro e W1 ⟨rfl,hb1⟩;have HB2:=hid hb1.below;clear hb1;obtain ⟨d0,d1⟩:=HC.out W1 HB2.out;have eW16:W1.cell? ⟨w.heap.size,6,none⟩=some (.slice x.ep x.eo.length x.ec):=(by rw [Lib.cell_of_heap (d0.trans HB0.out)];rfl);have gW16:W1.cell? ⟨w.heap.size+1,6,none⟩=some (.slice y.ep y.eo.length y.ec):=(by rw [Lib.cell_of_heap (d1.trans HB1.out)];rfl);have eW17:W1.cell? ⟨w.heap.size,7,none⟩=some (.slice x.pp x.po.length x.pc):=(by rw [Lib.cell_of_heap (d0.trans HB0.out)];rfl);have gW17:W1.cell? ⟨w.heap.size+1,7,none⟩=some (.slice y.pp y.po.length y.pc):=(by rw [Lib.cell_of_heap (d1.trans HB1.out)];rfl);rw [q_val])
  go_ret
  exact ⟨by rw [HD.out,HALL.out,HF.out];rfl,HB.out.trans (HB2.out.mono HB.out.size)⟩
 have q_val:=decide_eq_true h_val
 by_cases h_eds:x.eo=y.eo
 case neg =>
  have q_eds:=decide_eq_false h_eds
  have HF:Hid (decide (x.vo.map Fx.fld=y.vo.map Fx.fld∧x.eo=y.eo∧x.po=y.po)=false):=hid (decide_eq_false fun q=>h_eds q.2.1)
  clear h_eds h_val
  go_enter Tryz.func30,Tryz.ntmps30
  go_upto_region 1 with fail
  try rw [hW]
  go_wp2_with (first|(go_at_call 57;refine HEV.out.mono ?_;rintro e W1 ⟨rfl,hb1⟩;have HB2:=hid hb1.below;clear hb1;obtain ⟨d0,d1⟩:=HC.out W1 HB2.out;have eW16:W1.cell? ⟨w.heap.size,6,none⟩=some (.slice x.ep x.eo.length x.ec):=(by rw [Lib.cell_of_heap (d0.trans HB0.out)];rfl);have gW16:W1.cell? ⟨w.heap.size+1,6,none⟩=some (.slice y.ep y.eo.length y.ec):=(by rw [Lib.cell_of_heap (d1.trans HB1.out)];rfl);have eW17:W1.cell? ⟨w.heap.size,7,none⟩=some (.slice x.pp x.po.length x.pc):=(by rw [Lib.cell_of_heap (d0.trans HB0.out)];rfl);have gW17:W1.cell? ⟨w.heap.size+1,7,none⟩=some (.slice y.pp y.po.length y.pc):=(by rw [Lib.cell_of_heap (d1.trans HB1.out)];rfl);rw [q_val])|(go_at_call 58;refine (HEE.out W1 HB2.out).mono ?_;rintro e W2 ⟨rfl,hb2⟩;have HB3:=hid (HB2.out.trans (hb2.mono HB2.out.size));clear hb2;obtain ⟨d2,d3⟩:=HC.out W2 HB3.out;have eW26:W2.cell? ⟨w.heap.size,6,none⟩=some (.slice x.ep x.eo.length x.ec):=(by rw [Lib.cell_of_heap (d2.trans HB0.out)];rfl);have gW26:W2.cell? ⟨w.heap.size+1,6,none⟩=some (.slice y.ep y.eo.length y.ec):=(by rw [Lib.cell_of_heap (d3.trans HB1.out)];rfl);have eW27:W2.cell? ⟨w.heap.size,7,none⟩=some (.slice x.pp x.po.length x.pc):=(by rw [Lib.cell_of_heap (d2.trans HB0.out)];rfl);have gW27:W2.cell? ⟨w.heap.size+1,7,none⟩=some (.slice y.pp y.po.length y.pc):=(by rw [Lib.cell_of_heap (d3.trans HB1.out)];rfl);rw [q_eds]))
  go_ret
  exact ⟨by rw [HD.out,HALL.out,HF.out];rfl,HB.out.trans (HB3.out.mono HB.out.size)⟩
 have q_eds:=decide_eq_true h_eds
 have HF:Hid (decide (x.vo.map Fx.fld=y.vo.map Fx.fld∧x.eo=y.eo∧x.po=y.po)=decide (x.po=y.po)):=hid (by rw [decide_eq_decide];exact ⟨fun q=>q.2.2,fun q=>⟨h_val,h_eds,q⟩⟩)
 clear h_eds h_val
 all_goals
  go_enter Tryz.func30,Tryz.ntmps30
  go_upto_region 1 with fail
  try rw [hW]
  go_wp2_with (first|(go_at_call 57;refine HEV.out.mono ?_;rintro e W1 ⟨rfl,hb1⟩;have HB2:=hid hb1.below;clear hb1;obtain ⟨d0,d1⟩:=HC.out W1 HB2.out;have eW16:W1.cell? ⟨w.heap.size,6,none⟩=some (.slice x.ep x.eo.length x.ec):=(by rw [Lib.cell_of_heap (d0.trans HB0.out)];rfl);have gW16:W1.cell? ⟨w.heap.size+1,6,none⟩=some (.slice y.ep y.eo.length y.ec):=(by rw [Lib.cell_of_heap (d1.trans HB1.out)];rfl);have eW17:W1.cell? ⟨w.heap.size,7,none⟩=some (.slice x.pp x.po.length x.pc):=(by rw [Lib.cell_of_heap (d0.trans HB0.out)];rfl);have gW17:W1.cell? ⟨w.heap.size+1,7,none⟩=some (.slice y.pp y.po.length y.pc):=(by rw [Lib.cell_of_heap (d1.trans HB1.out)];rfl);rw [q_val])|(go_at_call 58;refine (HEE.out W1 HB2.out).mono ?_;rintro e W2 ⟨rfl,hb2⟩;have HB3:=hid (HB2.out.trans (hb2.mono HB2.out.size));clear hb2;obtain ⟨d2,d3⟩:=HC.out W2 HB3.out;have eW26:W2.cell? ⟨w.heap.size,6,none⟩=some (.slice x.ep x.eo.length x.ec):=(by rw [Lib.cell_of_heap (d2.trans HB0.out)];rfl);have gW26:W2.cell? ⟨w.heap.size+1,6,none⟩=some (.slice y.ep y.eo.length y.ec):=(by rw [Lib.cell_of_heap (d3.trans HB1.out)];rfl);have eW27:W2.cell? ⟨w.heap.size,7,none⟩=some (.slice x.pp x.po.length x.pc):=(by rw [Lib.cell_of_heap (d2.trans HB0.out)];rfl);have gW27:W2.cell? ⟨w.heap.size+1,7,none⟩=some (.slice y.pp y.po.length y.pc):=(by rw [Lib.cell_of_heap (d3.trans HB1.out)];rfl);rw [q_eds])|(go_at_call 59;refine (HEP.out W2 HB3.out).mono ?_;rintro e W3 ⟨rfl,hb3⟩;have HB4:=hid (HB3.out.trans (hb3.mono HB3.out.size));clear hb3))
  go_ret
  exact ⟨by rw [HD.out,HALL.out,HF.out];rfl,HB.out.trans (HB4.out.mono HB.out.size)⟩
end
section
open Go.RowKit Go.Lib
theorem OwnQ.ex {n:Nat} {x:Ex} {w:World} (h:OwnQ n x w):ExIn w x :=
 ⟨h.val.is,h.fit,Kind.own_is h.eds,h.efit,Kind.own_is h.prd,h.pfit,h.rng.temp,h.rng.ka,h.rng.kb,h.rng.k0,h.rng.k1,h.rng.i0,h.rng.i1,h.rng.t0,h.rng.t1,h.rng.n0,h.rng.n1⟩
theorem zero_in (w:World):ExIn w (zeroEx 0):=(zero_own 0 w 0 (by omega) (by omega)).ex
theorem ExIn.kind0 {w:World} {x:Ex} (h:ExIn w x):ExIn w { x with kind:=0 } :=
 { h with k0:=by show (-9223372036854775808:Int)≤0;omega,k1:=by show (0:Int)≤9223372036854775807;omega }
theorem ExIn.wout {w:World} {x:Ex} (h:ExIn w x) (p:Nat):ExIn w (wout x p):=by
 have z:=zero_in w
 unfold Go.Proofs.YtjeogllmpjihaaaGreatDoor.wout
 split
 ·exact { h with temp:=z.temp }
 split
 ·exact { h with ka:=z.ka,kb:=z.kb }
 split
 ·exact { h with i0:=z.i0,i1:=z.i1 }
 split
 ·exact { h with val:=z.val,fit:=z.fit }
 split
 ·exact { h with prd:=z.prd,pfit:=z.pfit }
 split
 ·exact { h with eds:=z.eds,efit:=z.efit }
 split
 ·exact { h with n0:=z.n0,n1:=z.n1 }
 split
 ·exact { h with t0:=z.t0,t1:=z.t1 }
 ·exact h
def leftE (x:Ex) (ps:List Nat):Ex:=ps.foldl wout { x with kind:=0 }
theorem leftE_snoc (x:Ex) (ps:List Nat) (p:Nat):leftE x (ps++[p])=wout (leftE x ps) p:=by simp [leftE]
theorem leftE_in {w:World} {x:Ex} (h:ExIn w x) (ps:List Nat):ExIn w (leftE x ps):=by
 unfold leftE
 have:∀(l:List Nat) (y:Ex),ExIn w y→ExIn w (l.foldl wout y):=by
  intro l
  induction l with
  | nil=>exact fun y hy=>hy
  | cons p l ih=>exact fun y hy=>ih _ (hy.wout p)
 exact this ps _ h.kind0
def mayO (x:Ex):Bool:=decide (1≤x.kind∧x.kind≤12)&&(shapeN x.kind.toNat).all (fitPt x.en)&&decide ((leftE x (shapeN x.kind.toNat)).en=(zeroEx 0).en)
structure LmSt (w:World) (L:Nat) (x y:Ex) (W:World):Prop where
 low:Below w.heap.size w W
 box:W.heap[w.heap.size]? = some (.cells (encEx x).toArray 42 (0,0))
 left:W.heap[L]? = some (.cells (encEx y).toArray 42 (0,0))
 gt:w.heap.size<L
theorem LmSt.lt {w:World} {L:Nat} {x y:Ex} {W:World} (h:LmSt w L x y W):L<W.heap.size:=(Array.getElem?_eq_some_iff.1 h.left).1
theorem LmSt.on {w:World} {L:Nat} {x y:Ex} {W V:World} (h:LmSt w L x y W) (hb:Below W.heap.size W V):LmSt w L x y V :=
 ⟨h.low.trans (hb.mono h.low.size),(hb.block _ (by have:=h.lt;have:=h.gt;omega)).trans h.box,(hb.block _ h.lt).trans h.left,h.gt⟩
theorem LmSt.turn {w:World} {L:Nat} {x y z:Ex} {W V:World} (h:LmSt w L x y W) (f:Fr (fun b=>b=L) W V) (hz:V.heap[L]? = some (.cells (encEx z).toArray 42 (0,0))):LmSt w L x z V :=
 ⟨h.low.trans (f.below h.low.size fun k hk=>by have:=h.gt;omega),(f.block _ (by have:=h.lt;have:=h.gt;omega) (by have:=h.gt;omega)).trans h.box,hz,h.gt⟩
set_option maxHeartbeats 8000000 in
set_option maxRecDepth 100000 in
theorem opmay1_any (x:Ex) (w:World) (hx:ExIn w x) :
  Calls Tryz.prog 28 #[aggEx x] w fun e w'=>e=.returned (.bool (mayO x))∧Below w.heap.size w w':=by
 have HX:=hid hx
 have hal:Below w.heap.size w (w.alloc (.cells (encEx x).toArray 42)):=(Below.refl _ _).alloc (Nat.le_refl _) _
 have hb0:(w.alloc (.cells (encEx x).toArray 42)).heap[w.heap.size]? = some (.cells (encEx x).toArray 42 (0,0)):=heap_alloc_new w _
 have HAL:=hid hal
 have HB0:=hid hb0
 have HFT:Hid (∀W p,Below w.heap.size w W→1≤p→p≤10→Calls Tryz.prog 55 #[aggEx x,.int .i64 (p:Nat)] W fun e w'=>e=.returned (.bool (fitPt x.en p))∧Below W.heap.size W w'):=hid fun W p h h1 h2=>opfits_any x p W (HX.out.on h) h1 h2
 unfold aggEx
 simp only [encEx,Ex.vs,Ex.es,Ex.ps] at HAL HB0 HFT ⊢
 clear hal hb0 hx
 unfold aggEx at HFT
 simp only [encEx,Ex.vs,Ex.es,Ex.ps] at HFT
 by_cases hr:1≤x.kind∧x.kind≤12
 case neg =>
  have HF:Hid (mayO x=false):=hid (by unfold mayO;rw [decide_eq_false hr];rfl)
  have hr2:x.kind<1∨12<x.kind:=by omega
  clear hr
  go_enter Tryz.func28,Tryz.ntmps28
  go_wp2_with (go_at_call 36;refine (shape_no x.kind _ hr2).mono ?_;rintro e w1 ⟨rfl,rfl⟩)
  go_ret
  exact ⟨by rw [HF.out];rfl,HAL.out⟩
 obtain ⟨kw,hkw⟩:∃kw:Nat,x.kind=kw:=⟨x.kind.toNat,by omega⟩
 have hk1:1≤kw:=by omega
 have hk12:kw≤12:=by omega
 have HM:Hid (mayO x=((shapeN kw).all (fitPt x.en)&&decide ((leftE x (shapeN kw)).en=(zeroEx 0).en))):=hid (by
  unfold mayO
  rw [decide_eq_true hr,hkw];rfl)
 have hnm:=name_full kw hk1 hk12
 have HKW:=hid hkw
 have HSH:Hid (∀W,Calls Tryz.prog 36 #[.int .i64 x.kind] W fun e w'=>(∃a n,e=.returned (.tuple #[.string ⟨(nameN kw).toArray⟩,.slice a n n])∧n=(shapeN kw).length ∧
   ∀(j p:Nat),(shapeN kw)[j]? = some p→∃P,a=some ⟨P,0,none⟩∧W.heap.size≤P∧w'.cell? ⟨P,j,none⟩=some (.int .i64 p))∧Below W.heap.size W w'):=hid fun W=>by rw [hkw];exact shape_any kw W hk12
 clear hkw hr
 go_enter Tryz.func28,Tryz.ntmps28
 go_wp2_with fail
 refine (HSH.out _).mono ?_
 rintro e w3 ⟨⟨a,n,rfl,hn,hpt⟩,hb3⟩
 have HN:=hid hn
 have HB3:=hid (HAL.out.trans (hb3.mono HAL.out.size))
 have hbx:w3.heap[w.heap.size]? = some (.cells #[.int .i64 x.kind,.string x.temp,.string x.ka,.string x.kb,.int .i64 x.iff,.slice x.vp x.vo.length x.vc,.slice x.ep x.eo.length x.ec,.slice x.pp x.po.length x.pc,.int .u64 x.stamp,.int .i64 x.num] 42 (0,0)):=(hb3.block _ (by simp)).trans HB0.out
 have HBX:=hid hbx
 have HPT:Hid (PtSt a w3.heap.size kw w3):=hid fun j p hp=>by
  obtain ⟨P,h1,h2,h3⟩:=hpt j p hp
  exact ⟨P,h1,Nat.ne_of_lt (cell_lt h3),h3⟩
 clear hn hpt hb3
 have c0:w3.cell? ⟨w.heap.size,0,none⟩=some (.int .i64 x.kind):=cz hbx
 have c1:w3.cell? ⟨w.heap.size,1,none⟩=some (.string x.temp):=cz hbx
 have c2:w3.cell? ⟨w.heap.size,2,none⟩=some (.string x.ka):=cz hbx
 have c3:w3.cell? ⟨w.heap.size,3,none⟩=some (.string x.kb):=cz hbx
 have c4:w3.cell? ⟨w.heap.size,4,none⟩=some (.int .i64 x.iff):=cz hbx
 have c5:w3.cell? ⟨w.heap.size,5,none⟩=some (.slice x.vp x.vo.length x.vc):=cz hbx
 have c6:w3.cell? ⟨w.heap.size,6,none⟩=some (.slice x.ep x.eo.length x.ec):=cz hbx
 have c7:w3.cell? ⟨w.heap.size,7,none⟩=some (.slice x.pp x.po.length x.pc):=cz hbx
 have c8:w3.cell? ⟨w.heap.size,8,none⟩=some (.int .u64 x.stamp):=cz hbx
 have c9:w3.cell? ⟨w.heap.size,9,none⟩=some (.int .i64 x.num):=cz hbx
 clear hbx
 have HS:Hid (LmSt w w3.heap.size x (leftE x []) (w3.alloc (.cells #[.int .i64 0,.string x.temp,.string x.ka,.string x.kb,.int .i64 x.iff,.slice x.vp x.vo.length x.vc,.slice x.ep x.eo.length x.ec,.slice x.pp x.po.length x.pc,.int .u64 x.stamp,.int .i64 x.num] 42))):=hid (by
  have hb4:=(Below.refl w3.heap.size w3).alloc (Nat.le_refl _) (.cells #[.int .i64 0,.string x.temp,.string x.ka,.string x.kb,.int .i64 x.iff,.slice x.vp x.vo.length x.vc,.slice x.ep x.eo.length x.ec,.slice x.pp x.po.length x.pc,.int .u64 x.stamp,.int .i64 x.num] 42)
  have hlt:w.heap.size<w3.heap.size:=(Array.getElem?_eq_some_iff.1 HBX.out).1
  exact ⟨HB3.out.trans (hb4.mono HB3.out.size),(hb4.block _ hlt).trans HBX.out,heap_alloc_new w3 _,hlt⟩)
 have HPT2:Hid (PtSt a w3.heap.size kw (w3.alloc (.cells #[.int .i64 0,.string x.temp,.string x.ka,.string x.kb,.int .i64 x.iff,.slice x.vp x.vo.length x.vc,.slice x.ep x.eo.length x.ec,.slice x.pp x.po.length x.pc,.int .u64 x.stamp,.int .i64 x.num] 42))):=hid (HPT.out.on ((Below.refl w3.heap.size w3).alloc (Nat.le_refl _) _))
 go_wp2_with fail
 go_loopg [20] n (fun g vi wr=>∃(i:Nat),vi=.int .i64 i∧i≤n∧n-i≤g∧Hid (LmSt w w3.heap.size x (leftE x ((shapeN kw).take i)) wr)∧Hid (PtSt a w3.heap.size kw wr)∧Hid (((shapeN kw).take i).all (fitPt x.en)=true))
 case atStart=>exact ⟨0,rfl,by omega,by omega,HS,HPT2,hid rfl⟩
 case round =>
  obtain ⟨i,rfl,hi,hig,HL,HP,HA⟩:=hrel
  have hn5:n≤5:=by rw [HN.out];exact shape_le kw
  by_cases hlt:i<n
  ·have HLT:=hid hlt
   have hltz:(i:Int)<(n:Int):=by omega
   have hiz:(0:Int)≤(i:Int):=by omega
   obtain ⟨p,hp⟩:∃p,(shapeN kw)[i]? = some p:=⟨_,List.getElem?_eq_getElem (by rw [←HN.out];exact hlt)⟩
   obtain ⟨P,hPa,hPG,hPc⟩:=HP.out i p hp
   subst hPa
   obtain ⟨hp1,hp10⟩:=shape_part kw i p hp
   have HTK:Hid ((shapeN kw).take (i+1)=(shapeN kw).take i++[p]):=hid (by
    obtain ⟨h1,h2⟩:=List.getElem?_eq_some_iff.1 hp
    rw [←h2];exact List.take_succ_eq_append_getElem h1)
   have HMEM:=hid (List.mem_of_getElem? hp)
   clear hp
   have hbx:=HL.out.box
   have c0:wr.cell? ⟨w.heap.size,0,none⟩=some (.int .i64 x.kind):=cz hbx
   have c1:wr.cell? ⟨w.heap.size,1,none⟩=some (.string x.temp):=cz hbx
   have c2:wr.cell? ⟨w.heap.size,2,none⟩=some (.string x.ka):=cz hbx
   have c3:wr.cell? ⟨w.heap.size,3,none⟩=some (.string x.kb):=cz hbx
   have c4:wr.cell? ⟨w.heap.size,4,none⟩=some (.int .i64 x.iff):=cz hbx
   have c5:wr.cell? ⟨w.heap.size,5,none⟩=some (.slice x.vp x.vo.length x.vc):=cz hbx
   have c6:wr.cell? ⟨w.heap.size,6,none⟩=some (.slice x.ep x.eo.length x.ec):=cz hbx
   have c7:wr.cell? ⟨w.heap.size,7,none⟩=some (.slice x.pp x.po.length x.pc):=cz hbx
   have c8:wr.cell? ⟨w.heap.size,8,none⟩=some (.int .u64 x.stamp):=cz hbx
   have c9:wr.cell? ⟨w.heap.size,9,none⟩=some (.int .i64 x.num):=cz hbx
   clear hbx
   go_wp2_with fail
   refine (HFT.out wr p HL.out.low hp1 hp10).mono ?_
   rintro e w4 ⟨rfl,hb4⟩
   have HL4:=hid (HL.out.on hb4)
   have HP4:=hid (HP.out.on hb4)
   clear hb4 hPc HL HP c0 c1 c2 c3 c4 c5 c6 c7 c8 c9
   cases hft:fitPt x.en p with
   | false =>
    have HF:Hid ((shapeN kw).all (fitPt x.en)=false):=hid (by
     rw [List.all_eq_false]
     exact ⟨p,HMEM.out,by rw [hft];simp⟩)
    go_wp2_with fail
    go_ret
    exact ⟨by rw [HM.out,HF.out];rfl,HL4.out.low⟩
   | true =>
    have HA2:Hid (((shapeN kw).take (i+1)).all (fitPt x.en)=true):=hid (by
     rw [HTK.out,List.all_append,HA.out];simp [hft])
    have HZ:Hid (leftE x ((shapeN kw).take (i+1))=wout (leftE x ((shapeN kw).take i)) p):=hid (by rw [HTK.out];exact leftE_snoc _ _ _)
    have HLY:=hid HL4.out.left
    have HWO:=hid fun W=>without_any (leftE x ((shapeN kw).take i)) p W hp1 hp10
    generalize leftE x ((shapeN kw).take i)=y at *
    generalize wout y p=z at *
    unfold aggEx at HWO
    simp only [encEx,Ex.vs,Ex.es,Ex.ps] at HWO HLY
    have hby:=HLY.out
    have d0:w4.cell? ⟨w3.heap.size,0,none⟩=some (.int .i64 y.kind):=cz hby
    have d1:w4.cell? ⟨w3.heap.size,1,none⟩=some (.string y.temp):=cz hby
    have d2:w4.cell? ⟨w3.heap.size,2,none⟩=some (.string y.ka):=cz hby
    have d3:w4.cell? ⟨w3.heap.size,3,none⟩=some (.string y.kb):=cz hby
    have d4:w4.cell? ⟨w3.heap.size,4,none⟩=some (.int .i64 y.iff):=cz hby
    have d5:w4.cell? ⟨w3.heap.size,5,none⟩=some (.slice y.vp y.vo.length y.vc):=cz hby
    have d6:w4.cell? ⟨w3.heap.size,6,none⟩=some (.slice y.ep y.eo.length y.ec):=cz hby
    have d7:w4.cell? ⟨w3.heap.size,7,none⟩=some (.slice y.pp y.po.length y.pc):=cz hby
    have d8:w4.cell? ⟨w3.heap.size,8,none⟩=some (.int .u64 y.stamp):=cz hby
    have d9:w4.cell? ⟨w3.heap.size,9,none⟩=some (.int .i64 y.num):=cz hby
    clear hby
    go_wp2_with fail
    refine (HWO.out w4).mono ?_
    rintro e w5 ⟨rfl,hb5⟩
    have HL5:=hid (HL4.out.on hb5)
    have HP5:=hid (HP4.out.on hb5)
    have hb6:w5.heap[w3.heap.size]? = some (.cells #[.int .i64 y.kind,.string y.temp,.string y.ka,.string y.kb,.int .i64 y.iff,.slice y.vp y.vo.length y.vc,.slice y.ep y.eo.length y.ec,.slice y.pp y.po.length y.pc,.int .u64 y.stamp,.int .i64 y.num] 42 (0,0)):=(hb5.block _ HL4.out.lt).trans HLY.out
    clear hb5 d0 d1 d2 d3 d4 d5 d6 d7 d8 d9
    obtain ⟨WZ,hWZ⟩:∃WZ,((((((((((w5.setCell ⟨w3.heap.size,0,none⟩ (.int .i64 z.kind)).setCell ⟨w3.heap.size,1,none⟩ (.string z.temp)).setCell ⟨w3.heap.size,2,none⟩ (.string z.ka)).setCell ⟨w3.heap.size,3,none⟩ (.string z.kb)).setCell ⟨w3.heap.size,4,none⟩ (.int .i64 z.iff)).setCell ⟨w3.heap.size,5,none⟩ (.slice z.vp z.vo.length z.vc)).setCell ⟨w3.heap.size,6,none⟩ (.slice z.ep z.eo.length z.ec)).setCell ⟨w3.heap.size,7,none⟩ (.slice z.pp z.po.length z.pc)).setCell ⟨w3.heap.size,8,none⟩ (.int .u64 z.stamp)).setCell ⟨w3.heap.size,9,none⟩ (.int .i64 z.num))=WZ:=⟨_,rfl⟩
    obtain ⟨bz,fz⟩:=out_ten hb6 _ _ _ _ _ _ _ _ _ _ hWZ
    have HL6:Hid (LmSt w w3.heap.size x z WZ):=hid (HL5.out.turn fz bz)
    have HP6:=hid (HP5.out.turn fz)
    have d0:w5.cell? ⟨w3.heap.size,0,none⟩=some (.int .i64 y.kind):=cz hb6
    have d1:w5.cell? ⟨w3.heap.size,1,none⟩=some (.string y.temp):=cz hb6
    have d2:w5.cell? ⟨w3.heap.size,2,none⟩=some (.string y.ka):=cz hb6
    have d3:w5.cell? ⟨w3.heap.size,3,none⟩=some (.string y.kb):=cz hb6
    have d4:w5.cell? ⟨w3.heap.size,4,none⟩=some (.int .i64 y.iff):=cz hb6
    have d5:w5.cell? ⟨w3.heap.size,5,none⟩=some (.slice y.vp y.vo.length y.vc):=cz hb6
    have d6:w5.cell? ⟨w3.heap.size,6,none⟩=some (.slice y.ep y.eo.length y.ec):=cz hb6
    have d7:w5.cell? ⟨w3.heap.size,7,none⟩=some (.slice y.pp y.po.length y.pc):=cz hb6
    have d8:w5.cell? ⟨w3.heap.size,8,none⟩=some (.int .u64 y.stamp):=cz hb6
    have d9:w5.cell? ⟨w3.heap.size,9,none⟩=some (.int .i64 y.num):=cz hb6
    have f0:=Lib.frozen_of_heap hb6 0
    have f1:=Lib.frozen_of_heap hb6 1
    have f2:=Lib.frozen_of_heap hb6 2
    have f3:=Lib.frozen_of_heap hb6 3
    have f4:=Lib.frozen_of_heap hb6 4
    have f5:=Lib.frozen_of_heap hb6 5
    have f6:=Lib.frozen_of_heap hb6 6
    have f7:=Lib.frozen_of_heap hb6 7
    have f8:=Lib.frozen_of_heap hb6 8
    have f9:=Lib.frozen_of_heap hb6 9
    clear bz fz hb6
    go_wp2_with fail
    try rw [hWZ]
    go_roundg (n-(i+1))
    case measure=>omega
    exact ⟨i+1,by go_num,HLT.out,Nat.le_refl _,by rw [HZ.out];exact HL6,HP6,HA2⟩
  ·have hltz:¬ (i:Int)<(n:Int):=by omega
   have HTA:Hid ((shapeN kw).take i=shapeN kw):=hid (List.take_of_length_le (by rw [←HN.out];omega))
   have HA2:Hid ((shapeN kw).all (fitPt x.en)=true):=hid (by have:=HA.out;rw [HTA.out] at this;exact this)
   have HL2:Hid (LmSt w w3.heap.size x (leftE x (shapeN kw)) wr):=hid (by have:=HL.out;rw [HTA.out] at this;exact this)
   have HSM:=hid (opsame_any (leftE x (shapeN kw)) (zeroEx 0) wr ((leftE_in HX.out _).on HL2.out.low) (zero_in wr))
   have HLY:=hid HL2.out.left
   generalize leftE x (shapeN kw)=y at *
   unfold aggEx at HSM
   simp only [encEx,Ex.vs,Ex.es,Ex.ps] at HSM HLY
   have hby:=HLY.out
   have d0:wr.cell? ⟨w3.heap.size,0,none⟩=some (.int .i64 y.kind):=cz hby
   have d1:wr.cell? ⟨w3.heap.size,1,none⟩=some (.string y.temp):=cz hby
   have d2:wr.cell? ⟨w3.heap.size,2,none⟩=some (.string y.ka):=cz hby
   have d3:wr.cell? ⟨w3.heap.size,3,none⟩=some (.string y.kb):=cz hby
   have d4:wr.cell? ⟨w3.heap.size,4,none⟩=some (.int .i64 y.iff):=cz hby
   have d5:wr.cell? ⟨w3.heap.size,5,none⟩=some (.slice y.vp y.vo.length y.vc):=cz hby
   have d6:wr.cell? ⟨w3.heap.size,6,none⟩=some (.slice y.ep y.eo.length y.ec):=cz hby
   have d7:wr.cell? ⟨w3.heap.size,7,none⟩=some (.slice y.pp y.po.length y.pc):=cz hby
   have d8:wr.cell? ⟨w3.heap.size,8,none⟩=some (.int .u64 y.stamp):=cz hby
   have d9:wr.cell? ⟨w3.heap.size,9,none⟩=some (.int .i64 y.num):=cz hby
   clear hby HL HA
   go_wp2_with fail
   refine HSM.out.mono ?_
   rintro e w7 ⟨rfl,hb7⟩
   have HB7:=hid (HL2.out.low.trans (hb7.mono HL2.out.low.size))
   clear hb7
   go_wp2_with fail
   go_ret
   exact ⟨by rw [HM.out,HA2.out];rfl,HB7.out⟩
end
section
open Go.RowKit Go.Lib
structure RqIn (W:World) (v:Value) (d:List Ex):Prop where
 row:KEx.Is W v d
 each:∀x∈d,ExIn W x
 len:d.length≤4294967000
theorem RqIn.on {W V:World} {v:Value} {d:List Ex} (h:RqIn W v d) (hb:Below W.heap.size W V):RqIn V v d :=
 ⟨Kind.is_kept h.row hb,fun x hx=>(h.each x hx).on hb,h.len⟩
theorem row_cellsQ {W:World} {b off:Nat} {d:List Ex} (h:KEx.At W b off d) (i:Nat) (y:Ex) (hy:d[i]? = some y) :
  W.cell? ⟨b,off+i * 10+0,none⟩=some (.int .i64 y.kind)∧W.cell? ⟨b,off+i * 10+1,none⟩=some (.string y.temp)∧W.cell? ⟨b,off+i * 10+2,none⟩=some (.string y.ka)∧W.cell? ⟨b,off+i * 10+3,none⟩=some (.string y.kb)∧W.cell? ⟨b,off+i * 10+4,none⟩=some (.int .i64 y.iff)∧W.cell? ⟨b,off+i * 10+5,none⟩=some (.slice y.vp y.vo.length y.vc)∧W.cell? ⟨b,off+i * 10+6,none⟩=some (.slice y.ep y.eo.length y.ec)∧W.cell? ⟨b,off+i * 10+7,none⟩=some (.slice y.pp y.po.length y.pc)∧W.cell? ⟨b,off+i * 10+8,none⟩=some (.int .u64 y.stamp)∧W.cell? ⟨b,off+i * 10+9,none⟩=some (.int .i64 y.num):=by
 obtain ⟨hi,rfl⟩:=List.getElem?_eq_some_iff.1 hy
 exact ⟨h i hi 0 _ rfl,h i hi 1 _ rfl,h i hi 2 _ rfl,h i hi 3 _ rfl,h i hi 4 _ rfl,h i hi 5 _ rfl,h i hi 6 _ rfl,h i hi 7 _ rfl,h i hi 8 _ rfl,h i hi 9 _ rfl⟩
def mayRO (d:List Ex):Bool:=decide (0<d.length)&&decide (d.length≤16)&&d.all mayO
set_option maxHeartbeats 8000000 in
set_option maxRecDepth 100000 in
theorem opMay_any (once:Bool) (v:Value) (d:List Ex) (w:World) (hd:RqIn w v d) :
  Calls Tryz.prog 12 #[.agg #[.bool once,v]] w fun e w'=>e=.returned (.bool (mayRO d))∧Below w.heap.size w w':=by
 have HD:=hid hd
 obtain ⟨a,cap,rfl,hrow⟩:=hd.row
 have hlen:=hd.len
 have HR:=hid hrow
 have hal:Below w.heap.size w (w.alloc (.cells #[.bool once,.slice a d.length cap] 25)):=(Below.refl _ _).alloc (Nat.le_refl _) _
 have HAL:=hid hal
 clear hd hrow hal
 by_cases h0:d.length<1
 case pos =>
  have HF:Hid (mayRO d=false):=hid (by unfold mayRO;rw [decide_eq_false (by omega:¬ 0<d.length)];rfl)
  have h0z:(d.length:Int)<1:=by omega
  go_enter Tryz.func12,Tryz.ntmps12
  go_wp2_with fail
  go_ret
  exact ⟨by rw [HF.out];rfl,HAL.out⟩
 have h0z:¬ (d.length:Int)<1:=by omega
 by_cases h16:16<d.length
 case pos =>
  have HF:Hid (mayRO d=false):=hid (by unfold mayRO;rw [decide_eq_false (by omega:¬ d.length≤16)];simp)
  have h16z:(16:Int)<(d.length:Int):=by omega
  go_enter Tryz.func12,Tryz.ntmps12
  go_wp2_with fail
  go_ret
  exact ⟨by rw [HF.out];rfl,HAL.out⟩
 have h16z:¬ (16:Int)<(d.length:Int):=by omega
 have HM:Hid (mayRO d=d.all mayO):=hid (by unfold mayRO;rw [decide_eq_true (by omega:0<d.length),decide_eq_true (by omega:d.length≤16)];rfl)
 obtain ⟨b,off,rfl,hat⟩:∃b off,a=some ⟨b,off,none⟩∧KEx.At w b off d:=by
  rcases HR.out with h|⟨b,off,h1,h2⟩
  ·rw [h] at h0;simp at h0
  ·exact ⟨b,off,h1,h2⟩
 have HAT:=hid hat
 clear hat HR
 go_enter Tryz.func12,Tryz.ntmps12
 go_wp2_with fail
 go_loopg [18] d.length (fun g vi wr=>∃(i:Nat),vi=.int .i64 i∧i≤d.length∧d.length-i≤g∧Hid (Below w.heap.size w wr)∧Hid ((d.take i).all mayO=true))
 case atStart=>exact ⟨0,rfl,by omega,by omega,HAL,hid rfl⟩
 case round =>
  obtain ⟨i,rfl,hi,hig,HB,HA⟩:=hrel
  by_cases hlt:i<d.length
  ·have HLT:=hid hlt
   have hltz:(i:Int)<(d.length:Int):=by omega
   have hiz:(0:Int)≤(i:Int):=by omega
   obtain ⟨y,hy⟩:∃y,d[i]? = some y:=⟨_,List.getElem?_eq_getElem hlt⟩
   obtain ⟨c0,c1,c2,c3,c4,c5,c6,c7,c8,c9⟩:=row_cellsQ (Kind.at_kept HAT.out HB.out) i y hy
   simp only [Nat.add_zero] at c0
   have hmem:=List.mem_of_getElem? hy
   have HTK:Hid (d.take (i+1)=d.take i++[y]):=hid (by
    obtain ⟨h1,h2⟩:=List.getElem?_eq_some_iff.1 hy
    rw [←h2];exact List.take_succ_eq_append_getElem h1)
   have HMEM:=hid hmem
   have HMY:Hid (∀W,Below w.heap.size w W→Calls Tryz.prog 28 #[.agg #[.int .i64 y.kind,.string y.temp,.string y.ka,.string y.kb,.int .i64 y.iff,.slice y.vp y.vo.length y.vc,.slice y.ep y.eo.length y.ec,.slice y.pp y.po.length y.pc,.int .u64 y.stamp,.int .i64 y.num]] W fun e w'=>e=.returned (.bool (mayO y))∧Below W.heap.size W w'):=hid fun W h=>opmay1_any y W ((HD.out.each y HMEM.out).on h)
   have HB2:Hid (Below w.heap.size w (wr.alloc (.cells #[.int .i64 y.kind,.string y.temp,.string y.ka,.string y.kb,.int .i64 y.iff,.slice y.vp y.vo.length y.vc,.slice y.ep y.eo.length y.ec,.slice y.pp y.po.length y.pc,.int .u64 y.stamp,.int .i64 y.num] 42))):=hid (HB.out.alloc HB.out.size _)
   clear hy hmem
   go_wp2_with fail
   refine (HMY.out _ HB2.out).mono ?_
   rintro e w4 ⟨rfl,hb4⟩
   have HB4:=hid (HB2.out.trans (hb4.mono HB2.out.size))
   clear hb4 c0 c1 c2 c3 c4 c5 c6 c7 c8 c9
   cases hm:mayO y with
   | false =>
    have HF:Hid (d.all mayO=false):=hid (by
     rw [List.all_eq_false]
     exact ⟨y,HMEM.out,by rw [hm];simp⟩)
    go_wp2_with fail
    go_ret
    exact ⟨by rw [HM.out,HF.out];rfl,HB4.out⟩
   | true =>
    have HA2:Hid ((d.take (i+1)).all mayO=true):=hid (by rw [HTK.out,List.all_append,HA.out];simp [hm])
    go_wp2_with fail
    go_roundg (d.length-(i+1))
    case measure=>omega
    exact ⟨i+1,by go_num,HLT.out,Nat.le_refl _,HB4,HA2⟩
  ·have hltz:¬ (i:Int)<(d.length:Int):=by omega
   have HF:Hid (d.all mayO=true):=hid (by have:=HA.out;rw [List.take_of_length_le (by omega)] at this;exact this)
   go_wp2_with fail
   go_ret
   exact ⟨by rw [HM.out,HF.out];rfl,HB.out⟩
end
section
open Go.RowKit Go.Lib
theorem all_same {d d':List Ex} (hl:d.length=d'.length) (h:∀(i:Nat) (x y:Ex),d[i]? = some x→d'[i]? = some y→x.en=y.en):d.map Ex.en=d'.map Ex.en:=by
 apply List.ext_getElem?
 intro i
 rw [List.getElem?_map,List.getElem?_map]
 cases hx:d[i]? with
 | none =>
  have:d'[i]? = none:=by rw [List.getElem?_eq_none_iff] at hx ⊢;omega
  rw [this]
 | some x =>
  obtain ⟨hi,_⟩:=List.getElem?_eq_some_iff.1 hx
  have hy:d'[i]? = some d'[i]:=List.getElem?_eq_getElem (by omega)
  rw [hy,Option.map_some,Option.map_some,h i x _ hx hy]
set_option maxHeartbeats 8000000 in
set_option maxRecDepth 100000 in
theorem opeqf_any (v v':Value) (d d':List Ex) (w:World) (hd:RqIn w v d) (hd':RqIn w v' d') :
  Calls Tryz.prog 29 #[v,v',.func (.func 30) #[] #[]] w fun e w'=>e=.returned (.bool (decide (d.map Ex.en=d'.map Ex.en)))∧Below w.heap.size w w':=by
 have HD:=hid hd
 have HD':=hid hd'
 obtain ⟨a,cap,rfl,hrow⟩:=hd.row
 obtain ⟨a',cap',rfl,hrow'⟩:=hd'.row
 have hlen:=hd.len
 have hlen':=hd'.len
 have HR:=hid hrow
 have HR':=hid hrow'
 clear hd hd' hrow hrow'
 by_cases hl:d.length=d'.length
 case neg =>
  have hne:((d.length:Int) != (d'.length:Int))=true:=by rw [bne_iff_ne];omega
  have HF:Hid (decide (d.map Ex.en=d'.map Ex.en)=false):=hid (decide_eq_false fun q=>hl (by have:=congrArg List.length q;simpa using this))
  clear hl
  go_enter Tryz.func29,Tryz.ntmps29
  go_wp2_with fail
  go_ret
  exact ⟨by rw [HF.out];rfl,Below.refl _ _⟩
 have hne:((d.length:Int) != (d'.length:Int))=false:=by simp;omega
 have HL:=hid hl
 clear hl
 go_enter Tryz.func29,Tryz.ntmps29
 go_wp2_with fail
 go_loopg [17] d.length (fun g vi wr=>∃(i:Nat),vi=.int .i64 i∧i≤d.length∧d.length-i≤g∧Hid (Below w.heap.size w wr)∧Hid (∀(j:Nat) (x y:Ex),j<i→d[j]? = some x→d'[j]? = some y→x.en=y.en))
 case atStart=>exact ⟨0,rfl,by omega,by omega,hid (Below.refl _ _),hid fun j x y h=>by omega⟩
 case round =>
  obtain ⟨i,rfl,hi,hig,HB,HA⟩:=hrel
  by_cases hlt:i<d.length
  ·have HLT:=hid hlt
   have hltz:(i:Int)<(d.length:Int):=by omega
   have hlt2:i<d'.length:=by have:=HL.out;omega
   have hltz2:(i:Int)<(d'.length:Int):=by omega
   have hiz:(0:Int)≤(i:Int):=by omega
   obtain ⟨b,off,rfl,hat⟩:∃b off,a=some ⟨b,off,none⟩∧KEx.At w b off d:=by
    rcases HR.out with h|⟨b,off,h1,h2⟩
    ·rw [h] at hlt;simp at hlt
    ·exact ⟨b,off,h1,h2⟩
   obtain ⟨b',off',rfl,hat'⟩:∃b off,a'=some ⟨b,off,none⟩∧KEx.At w b off d':=by
    rcases HR'.out with h|⟨b,off,h1,h2⟩
    ·rw [h] at hlt2;simp at hlt2
    ·exact ⟨b,off,h1,h2⟩
   obtain ⟨x,hx⟩:∃x,d[i]? = some x:=⟨_,List.getElem?_eq_getElem hlt⟩
   obtain ⟨y,hy⟩:∃y,d'[i]? = some y:=⟨_,List.getElem?_eq_getElem hlt2⟩
   obtain ⟨c0,c1,c2,c3,c4,c5,c6,c7,c8,c9⟩:=row_cellsQ (Kind.at_kept hat HB.out) i x hx
   have HB2:Hid (Below w.heap.size w (wr.alloc (.cells #[.int .i64 x.kind,.string x.temp,.string x.ka,.string x.kb,.int .i64 x.iff,.slice x.vp x.vo.length x.vc,.slice x.ep x.eo.length x.ec,.slice x.pp x.po.length x.pc,.int .u64 x.stamp,.int .i64 x.num] 42))):=hid (HB.out.alloc HB.out.size _)
   obtain ⟨f0,f1,f2,f3,f4,f5,f6,f7,f8,f9⟩:=row_cellsQ (Kind.at_kept hat' HB2.out) i y hy
   simp only [Nat.add_zero] at c0 f0
   have HB3:Hid (Below w.heap.size w ((wr.alloc (.cells #[.int .i64 x.kind,.string x.temp,.string x.ka,.string x.kb,.int .i64 x.iff,.slice x.vp x.vo.length x.vc,.slice x.ep x.eo.length x.ec,.slice x.pp x.po.length x.pc,.int .u64 x.stamp,.int .i64 x.num] 42)).alloc (.cells #[.int .i64 y.kind,.string y.temp,.string y.ka,.string y.kb,.int .i64 y.iff,.slice y.vp y.vo.length y.vc,.slice y.ep y.eo.length y.ec,.slice y.pp y.po.length y.pc,.int .u64 y.stamp,.int .i64 y.num] 42))):=hid (HB2.out.alloc HB2.out.size _)
   have HSM:Hid (∀W,Below w.heap.size w W→Calls Tryz.prog 30 #[.agg #[.int .i64 x.kind,.string x.temp,.string x.ka,.string x.kb,.int .i64 x.iff,.slice x.vp x.vo.length x.vc,.slice x.ep x.eo.length x.ec,.slice x.pp x.po.length x.pc,.int .u64 x.stamp,.int .i64 x.num],.agg #[.int .i64 y.kind,.string y.temp,.string y.ka,.string y.kb,.int .i64 y.iff,.slice y.vp y.vo.length y.vc,.slice y.ep y.eo.length y.ec,.slice y.pp y.po.length y.pc,.int .u64 y.stamp,.int .i64 y.num]] W fun e w'=>e=.returned (.bool (decide (x.en=y.en)))∧Below W.heap.size W w'):=hid fun W h=>opsame_any x y W ((HD.out.each x (List.mem_of_getElem? hx)).on h) ((HD'.out.each y (List.mem_of_getElem? hy)).on h)
   have HX:=hid hx
   have HY:=hid hy
   clear hat hat' hx hy
   go_wp2_with fail
   refine (HSM.out _ HB3.out).mono ?_
   rintro e w4 ⟨rfl,hb4⟩
   have HB4:=hid (HB3.out.trans (hb4.mono HB3.out.size))
   clear hb4 c0 c1 c2 c3 c4 c5 c6 c7 c8 c9 f0 f1 f2 f3 f4 f5 f6 f7 f8 f9
   by_cases hs:x.en=y.en
   ·have HA2:Hid (∀(j:Nat) (x y:Ex),j<i+1→d[j]? = some x→d'[j]? = some y→x.en=y.en):=hid fun j x' y' hj h1 h2=>by
     by_cases q:j=i
     ·subst q
      rw [HX.out] at h1;rw [HY.out] at h2
      cases h1;cases h2;exact hs
     ·exact HA.out j x' y' (by omega) h1 h2
    have hd:=decide_eq_true hs
    rw [hd]
    clear hs
    go_wp2_with fail
    go_roundg (d.length-(i+1))
    case measure=>omega
    exact ⟨i+1,by go_num,HLT.out,Nat.le_refl _,HB4,HA2⟩
   ·have HF:Hid (decide (d.map Ex.en=d'.map Ex.en)=false):=hid (decide_eq_false fun q=>hs (by
     have h:=congrArg (·[i]?) q
     simp only [List.getElem?_map,HX.out,HY.out,Option.map_some] at h
     exact Option.some.inj h))
    have hd:=decide_eq_false hs
    rw [hd]
    clear hs
    go_wp2_with fail
    go_ret
    exact ⟨by rw [HF.out];rfl,HB4.out⟩
  ·have hltz:¬ (i:Int)<(d.length:Int):=by omega
   have HF:Hid (decide (d.map Ex.en=d'.map Ex.en)=true):=hid (decide_eq_true (all_same HL.out fun j x y h1 h2=>HA.out j x y (by have:=(List.getElem?_eq_some_iff.1 h1).1;omega) h1 h2))
   go_wp2_with fail
   go_ret
   exact ⟨by rw [HF.out];rfl,HB.out⟩
set_option maxHeartbeats 4000000 in
theorem opEqual_any (o o':Bool) (v v':Value) (d d':List Ex) (w:World) (hd:RqIn w v d) (hd':RqIn w v' d') :
  Calls Tryz.prog 13 #[.agg #[.bool o,v],.agg #[.bool o',v']] w fun e w'=>e=.returned (.bool (decide (o=o'∧d.map Ex.en=d'.map Ex.en)))∧Below w.heap.size w w':=by
 obtain ⟨a,cap,rfl,_⟩:=hd.row
 obtain ⟨a',cap',rfl,_⟩:=hd'.row
 have HB:Hid (Below w.heap.size w ((w.alloc (.cells #[.bool o,.slice a d.length cap] 25)).alloc (.cells #[.bool o',.slice a' d'.length cap'] 25))):=hid (((Below.refl _ _).alloc (Nat.le_refl _) _).alloc (by simp) _)
 have HE:=hid (opeqf_any _ _ d d' _ (hd.on HB.out) (hd'.on HB.out))
 clear hd hd'
 by_cases ho:o=o'
 ·subst ho
  have hq:(o==o)=true:=by cases o<;>rfl
  have HF:Hid (decide (o=o∧d.map Ex.en=d'.map Ex.en)=decide (d.map Ex.en=d'.map Ex.en)):=hid (by simp)
  go_enter Tryz.func13,Tryz.ntmps13
  go_wp2_with (go_at_call 29;refine HE.out.mono ?_;rintro e w1 ⟨rfl,hb1⟩;have HB1:=hid (HB.out.trans (hb1.mono HB.out.size));clear hb1)
  go_ret
  exact ⟨by rw [HF.out];rfl,HB1.out⟩
 ·have hq:(o==o')=false:=by cases o<;>cases o'<;>simp_all
  have HF:Hid (decide (o=o'∧d.map Ex.en=d'.map Ex.en)=false):=hid (decide_eq_false fun q=>ho q.1)
  go_enter Tryz.func13,Tryz.ntmps13
  go_wp2_with fail
  go_ret
  exact ⟨by rw [HF.out];rfl,HB.out⟩
theorem opWrites_any (x:Ex) (w:World) :
  Calls Tryz.prog 14 #[aggEx x] w fun e w'=>e=.returned (.bool (decide (1≤x.kind)&&decide (x.kind≤5)))∧Below w.heap.size w w':=by
 unfold aggEx
 simp only [encEx,Ex.vs,Ex.es,Ex.ps]
 have HB:Hid (Below w.heap.size w (w.alloc (.cells #[.int .i64 x.kind,.string x.temp,.string x.ka,.string x.kb,.int .i64 x.iff,.slice x.vp x.vo.length x.vc,.slice x.ep x.eo.length x.ec,.slice x.pp x.po.length x.pc,.int .u64 x.stamp,.int .i64 x.num] 42))):=hid ((Below.refl _ _).alloc (Nat.le_refl _) _)
 by_cases h0:1≤x.kind
 ·have H0:Hid (decide (1≤x.kind)=true):=hid (decide_eq_true h0)
  go_enter Tryz.func14,Tryz.ntmps14
  go_wp2_with fail
  go_ret
  exact ⟨by rw [H0.out];rfl,HB.out⟩
 ·have H0:Hid (decide (1≤x.kind)=false):=hid (decide_eq_false h0)
  go_enter Tryz.func14,Tryz.ntmps14
  go_wp2_with fail
  go_ret
  exact ⟨by rw [H0.out];rfl,HB.out⟩
end
section
open Go.RowKit Go.Lib
theorem store_tenV {w:World} {B:Nat} {T:TypeId} {v0 v1 v2 v3 v4 v5 v6 v7 v8 v9 z0 z1 z2 z3 z4 z5 z6 z7 z8 z9:Value} (h:w.heap[B]? = some (.cells #[z0,z1,z2,z3,z4,z5,z6,z7,z8,z9] T (0,0))) (W:World) (hW:((((((((((w.setCell ⟨B,0,none⟩ v0).setCell ⟨B,1,none⟩ v1).setCell ⟨B,2,none⟩ v2).setCell ⟨B,3,none⟩ v3).setCell ⟨B,4,none⟩ v4).setCell ⟨B,5,none⟩ v5).setCell ⟨B,6,none⟩ v6).setCell ⟨B,7,none⟩ v7).setCell ⟨B,8,none⟩ v8).setCell ⟨B,9,none⟩ v9)=W) :
  W.heap[B]? = some (.cells #[v0,v1,v2,v3,v4,v5,v6,v7,v8,v9] T (0,0))∧Fr (fun k=>k=B) w W:=by
 have f:∀(W:World) (j:Nat) (v:Value),Fr (fun k=>k=B) W (W.setCell ⟨B,j,none⟩ v):=fun W j v=>⟨rfl,rfl,rfl,by simp,fun k _ hn=>heap_setCell_other _ _ k _ hn⟩
 have g:∀{u v t:World},Fr (fun k=>k=B) u v→Fr (fun k=>k=B) v t→Fr (fun k=>k=B) u t:=fun h1 h2=>h1.then h2 fun k hk=>Or.inl hk
 have f0:=Fr.refl (fun k=>k=B) w
 have h1:(w.setCell ⟨B,0,none⟩ v0).heap[B]? = some (.cells #[v0,z1,z2,z3,z4,z5,z6,z7,z8,z9] T (0,0)):=heap_setCell_same w B 0 _ _ _ h
 have f1:=g f0 (f w 0 v0)
 generalize w.setCell ⟨B,0,none⟩ v0=w1 at hW h1 f1
 have h2:(w1.setCell ⟨B,1,none⟩ v1).heap[B]? = some (.cells #[v0,v1,z2,z3,z4,z5,z6,z7,z8,z9] T (0,0)):=heap_setCell_same w1 B 1 _ _ _ h1
 have f2:=g f1 (f w1 1 v1)
 generalize w1.setCell ⟨B,1,none⟩ v1=w2 at hW h2 f2
 have h3:(w2.setCell ⟨B,2,none⟩ v2).heap[B]? = some (.cells #[v0,v1,v2,z3,z4,z5,z6,z7,z8,z9] T (0,0)):=heap_setCell_same w2 B 2 _ _ _ h2
 have f3:=g f2 (f w2 2 v2)
 generalize w2.setCell ⟨B,2,none⟩ v2=w3 at hW h3 f3
 have h4:(w3.setCell ⟨B,3,none⟩ v3).heap[B]? = some (.cells #[v0,v1,v2,v3,z4,z5,z6,z7,z8,z9] T (0,0)):=heap_setCell_same w3 B 3 _ _ _ h3
 have f4:=g f3 (f w3 3 v3)
 generalize w3.setCell ⟨B,3,none⟩ v3=w4 at hW h4 f4
 have h5:(w4.setCell ⟨B,4,none⟩ v4).heap[B]? = some (.cells #[v0,v1,v2,v3,v4,z5,z6,z7,z8,z9] T (0,0)):=heap_setCell_same w4 B 4 _ _ _ h4
 have f5:=g f4 (f w4 4 v4)
 generalize w4.setCell ⟨B,4,none⟩ v4=w5 at hW h5 f5
 have h6:(w5.setCell ⟨B,5,none⟩ v5).heap[B]? = some (.cells #[v0,v1,v2,v3,v4,v5,z6,z7,z8,z9] T (0,0)):=heap_setCell_same w5 B 5 _ _ _ h5
 have f6:=g f5 (f w5 5 v5)
 generalize w5.setCell ⟨B,5,none⟩ v5=w6 at hW h6 f6
 have h7:(w6.setCell ⟨B,6,none⟩ v6).heap[B]? = some (.cells #[v0,v1,v2,v3,v4,v5,v6,z7,z8,z9] T (0,0)):=heap_setCell_same w6 B 6 _ _ _ h6
 have f7:=g f6 (f w6 6 v6)
 generalize w6.setCell ⟨B,6,none⟩ v6=w7 at hW h7 f7
 have h8:(w7.setCell ⟨B,7,none⟩ v7).heap[B]? = some (.cells #[v0,v1,v2,v3,v4,v5,v6,v7,z8,z9] T (0,0)):=heap_setCell_same w7 B 7 _ _ _ h7
 have f8:=g f7 (f w7 7 v7)
 generalize w7.setCell ⟨B,7,none⟩ v7=w8 at hW h8 f8
 have h9:(w8.setCell ⟨B,8,none⟩ v8).heap[B]? = some (.cells #[v0,v1,v2,v3,v4,v5,v6,v7,v8,z9] T (0,0)):=heap_setCell_same w8 B 8 _ _ _ h8
 have f9:=g f8 (f w8 8 v8)
 generalize w8.setCell ⟨B,8,none⟩ v8=w9 at hW h9 f9
 have h10:(w9.setCell ⟨B,9,none⟩ v9).heap[B]? = some (.cells #[v0,v1,v2,v3,v4,v5,v6,v7,v8,v9] T (0,0)):=heap_setCell_same w9 B 9 _ _ _ h9
 have f10:=g f9 (f w9 9 v9)
 generalize w9.setCell ⟨B,9,none⟩ v9=w10 at hW h10 f10
 subst hW
 exact ⟨h10,f10⟩
theorem store_ten {w:World} {B:Nat} {T:TypeId} (x:Ex) {z0 z1 z2 z3 z4 z5 z6 z7 z8 z9:Value} (h:w.heap[B]? = some (.cells #[z0,z1,z2,z3,z4,z5,z6,z7,z8,z9] T (0,0))) (W:World) (hW:((((((((((w.setCell ⟨B,0,none⟩ (.int .i64 x.kind)).setCell ⟨B,1,none⟩ (.string x.temp)).setCell ⟨B,2,none⟩ (.string x.ka)).setCell ⟨B,3,none⟩ (.string x.kb)).setCell ⟨B,4,none⟩ (.int .i64 x.iff)).setCell ⟨B,5,none⟩ (.slice x.vp x.vo.length x.vc)).setCell ⟨B,6,none⟩ (.slice x.ep x.eo.length x.ec)).setCell ⟨B,7,none⟩ (.slice x.pp x.po.length x.pc)).setCell ⟨B,8,none⟩ (.int .u64 x.stamp)).setCell ⟨B,9,none⟩ (.int .i64 x.num))=W) :
  W.heap[B]? = some (.cells #[.int .i64 x.kind,.string x.temp,.string x.ka,.string x.kb,.int .i64 x.iff,.slice x.vp x.vo.length x.vc,.slice x.ep x.eo.length x.ec,.slice x.pp x.po.length x.pc,.int .u64 x.stamp,.int .i64 x.num] T (0,0))∧Fr (fun k=>k=B) w W:=store_tenV h W hW
theorem neq_keyQ (a b c d:ByteArray) (w:World):(binOp .neq 36 (.agg #[.string a,.string b]) (.agg #[.string c,.string d])).run Tryz.prog w=.ok (.bool (!decide (a=c∧b=d))) w:=by
 have hS:Tryz.prog.underlying 36=some (.struct (Tryz.prog.fieldsOf 36)):=by kernel_rfl
 have hp:Tryz.prog.stoodInHeld 36=false:=by kernel_rfl
 have u9:=Tryz.underlying9
 have a9:=Tryz.isAgg9
 have z9:=Tryz.sizeOf9
 rw [run_neq_struct,show (10000:Nat)=9999+1 from rfl,run_equalIn_agg w 9999 36 _ _ hS hp]
 simp only [Program.fieldsOf,Tryz.underlying36]
 go_simp
 by_cases h1:a=c
 ·subst h1
  by_cases h3:b=d
  ·subst h3;simp
  ·have e3:=beq_eq_false_iff_ne.1 (seq_false h3)
   simp [h3,e3]
 ·have e1:=beq_eq_false_iff_ne.1 (seq_false h1)
  simp [h1,e1]
set_option maxHeartbeats 8000000 in
set_option maxRecDepth 100000 in
theorem rEqual16_any (o o':Bool) (v v':Value) (d d':List Ex) (w:World) (hd:RqIn w v d) (hd':RqIn w v' d') :
  Calls Tryz.prog 8 #[.agg #[.bool o,v],.agg #[.bool o',v']] w fun e w'=>e=.returned (.bool (decide (o=o'∧d.map Ex.en=d'.map Ex.en)))∧Below w.heap.size w w':=by
 have HD:=hid hd
 have HD':=hid hd'
 obtain ⟨a,cap,rfl,hrow⟩:=hd.row
 obtain ⟨a',cap',rfl,hrow'⟩:=hd'.row
 have hlen:=hd.len
 have hlen':=hd'.len
 have HR:=hid hrow
 have HR':=hid hrow'
 clear hd hd' hrow hrow'
 have HB:Hid (Below w.heap.size w ((w.alloc (.cells #[.bool o,.slice a d.length cap] 25)).alloc (.cells #[.bool o',.slice a' d'.length cap'] 25))):=hid (((Below.refl _ _).alloc (Nat.le_refl _) _).alloc (by simp) _)
 by_cases ho:o=o'
 case neg =>
  have hq:(o==o')=false:=by cases o<;>cases o'<;>simp_all
  have HF:Hid (decide (o=o'∧d.map Ex.en=d'.map Ex.en)=false):=hid (decide_eq_false fun q=>ho q.1)
  clear ho
  go_enter Tryz.func8,Tryz.ntmps8
  go_wp2_with fail
  go_ret
  exact ⟨by rw [HF.out];rfl,HB.out⟩
 subst ho
 have hgoal:decide (o=o∧d.map Ex.en=d'.map Ex.en)=decide (d.map Ex.en=d'.map Ex.en):=by simp
 rw [hgoal]
 clear hgoal
 have hq:(o==o)=true:=by cases o<;>rfl
 by_cases hl:d.length=d'.length
 case neg =>
  have hne:((d.length:Int) != (d'.length:Int))=true:=by rw [bne_iff_ne];omega
  have HF:Hid (decide (d.map Ex.en=d'.map Ex.en)=false):=hid (decide_eq_false fun q=>hl (by have:=congrArg List.length q;simpa using this))
  clear hl
  go_enter Tryz.func8,Tryz.ntmps8
  go_wp2_with fail
  go_ret
  exact ⟨by rw [HF.out];rfl,HB.out⟩
 have hne:((d.length:Int) != (d'.length:Int))=false:=by simp;omega
 have HL:=hid hl
 clear hl
 go_enter Tryz.func8,Tryz.ntmps8
 go_wp2_with fail
 go_loopg [5] d.length (fun g vi wr=>∃(i:Nat),vi=.int .i64 i∧i≤d.length∧d.length-i≤g∧Hid (Below w.heap.size w wr)∧wr.heap[w.heap.size]? = some (.cells #[.bool o,.slice a d.length cap] 25 (0,0))∧wr.heap[w.heap.size+1]? = some (.cells #[.bool o,.slice a' d'.length cap'] 25 (0,0))∧Hid (∀(j:Nat) (x y:Ex),j<i→d[j]? = some x→d'[j]? = some y→x.en=y.en))
 case atStart =>
  refine ⟨0,rfl,by omega,by omega,HB,?_,?_,hid fun j x y h=>by omega⟩
  ·rw [Below.heap_alloc _ _ _ (by simp)];exact heap_alloc_new w _
  ·have:=heap_alloc_new (w.alloc (.cells #[.bool o,.slice a d.length cap] 25)) (.cells #[.bool o,.slice a' d'.length cap'] 25)
   simpa using this
 case round =>
  obtain ⟨i,rfl,hi,hig,HBR,hb1,hb2,HA⟩:=hrel
  have k1:wr.cell? ⟨w.heap.size,1,none⟩=some (.slice a d.length cap):=cz hb1
  have k2:wr.cell? ⟨w.heap.size+1,1,none⟩=some (.slice a' d'.length cap'):=cz hb2
  by_cases hlt:i<d.length
  ·have HLT:=hid hlt
   have hltz:(i:Int)<(d.length:Int):=by omega
   have hlt2:i<d'.length:=by have:=HL.out;omega
   have hltz2:(i:Int)<(d'.length:Int):=by omega
   have hiz:(0:Int)≤(i:Int):=by omega
   obtain ⟨b,off,rfl,hat⟩:∃b off,a=some ⟨b,off,none⟩∧KEx.At w b off d:=by
    rcases HR.out with h|⟨b,off,h1,h2⟩
    ·rw [h] at hlt;simp at hlt
    ·exact ⟨b,off,h1,h2⟩
   obtain ⟨b',off',rfl,hat'⟩:∃b off,a'=some ⟨b,off,none⟩∧KEx.At w b off d':=by
    rcases HR'.out with h|⟨b,off,h1,h2⟩
    ·rw [h] at hlt2;simp at hlt2
    ·exact ⟨b,off,h1,h2⟩
   obtain ⟨x,hx⟩:∃x,d[i]? = some x:=⟨_,List.getElem?_eq_getElem hlt⟩
   obtain ⟨y,hy⟩:∃y,d'[i]? = some y:=⟨_,List.getElem?_eq_getElem hlt2⟩
   obtain ⟨W0,hW0⟩:∃W0,wr.drew=W0:=⟨_,rfl⟩
   have HSS:Hid (∀w',Below W0.heap.size W0 w'→(w'.cell? ⟨w.heap.size,1,none⟩=some (.slice (some ⟨b,off,none⟩) d.length cap)∧w'.cell? ⟨w.heap.size+1,1,none⟩=some (.slice (some ⟨b',off',none⟩) d'.length cap')∧w'.cell? ⟨b,off+i * 10,none⟩=some (.int .i64 x.kind)∧w'.cell? ⟨b,off+i * 10+1,none⟩=some (.string x.temp)∧w'.cell? ⟨b,off+i * 10+2,none⟩=some (.string x.ka)∧w'.cell? ⟨b,off+i * 10+3,none⟩=some (.string x.kb)∧w'.cell? ⟨b,off+i * 10+4,none⟩=some (.int .i64 x.iff)∧w'.cell? ⟨b,off+i * 10+5,none⟩=some (.slice x.vp x.vo.length x.vc)∧w'.cell? ⟨b,off+i * 10+6,none⟩=some (.slice x.ep x.eo.length x.ec)∧w'.cell? ⟨b,off+i * 10+7,none⟩=some (.slice x.pp x.po.length x.pc)∧w'.cell? ⟨b,off+i * 10+8,none⟩=some (.int .u64 x.stamp)∧w'.cell? ⟨b,off+i * 10+9,none⟩=some (.int .i64 x.num)∧w'.cell? ⟨b',off'+i * 10,none⟩=some (.int .i64 y.kind)∧w'.cell? ⟨b',off'+i * 10+1,none⟩=some (.string y.temp)∧w'.cell? ⟨b',off'+i * 10+2,none⟩=some (.string y.ka)∧w'.cell? ⟨b',off'+i * 10+3,none⟩=some (.string y.kb)∧w'.cell? ⟨b',off'+i * 10+4,none⟩=some (.int .i64 y.iff)∧w'.cell? ⟨b',off'+i * 10+5,none⟩=some (.slice y.vp y.vo.length y.vc)∧w'.cell? ⟨b',off'+i * 10+6,none⟩=some (.slice y.ep y.eo.length y.ec)∧w'.cell? ⟨b',off'+i * 10+7,none⟩=some (.slice y.pp y.po.length y.pc)∧w'.cell? ⟨b',off'+i * 10+8,none⟩=some (.int .u64 y.stamp)∧w'.cell? ⟨b',off'+i * 10+9,none⟩=some (.int .i64 y.num))):=hid fun w' hb=>by
    have hbw:Below w.heap.size w W0:=by rw [←hW0];exact bel_drewN HBR.out 1
    have hq:=hbw.trans (hb.mono hbw.size)
    have q1:w'.heap[w.heap.size]? = some (.cells #[.bool o,.slice (some ⟨b,off,none⟩) d.length cap] 25 (0,0)):=(hb.block _ (by rw [←hW0];exact (Array.getElem?_eq_some_iff.1 hb1).1)).trans (by rw [←hW0];exact hb1)
    have q2:w'.heap[w.heap.size+1]? = some (.cells #[.bool o,.slice (some ⟨b',off',none⟩) d'.length cap'] 25 (0,0)):=(hb.block _ (by rw [←hW0];exact (Array.getElem?_eq_some_iff.1 hb2).1)).trans (by rw [←hW0];exact hb2)
    obtain ⟨c0,c1,c2,c3,c4,c5,c6,c7,c8,c9⟩:=row_cellsQ (Kind.at_kept hat hq) i x hx
    obtain ⟨f0,f1,f2,f3,f4,f5,f6,f7,f8,f9⟩:=row_cellsQ (Kind.at_kept hat' hq) i y hy
    exact ⟨by rw [Lib.cell_of_heap q1];rfl,by rw [Lib.cell_of_heap q2];rfl,c0,c1,c2,c3,c4,c5,c6,c7,c8,c9,f0,f1,f2,f3,f4,f5,f6,f7,f8,f9⟩
   have HB01:Hid (Below wr.heap.size wr W0):=hid (by rw [←hW0];exact bel_drewN (Below.refl _ _) 1)
   have HQ1:=hid hb1
   have HQ2:=hid hb2
   have HX0:=hid hx
   have HY0:=hid hy
   have HEX:=hid (HD.out.each x (List.mem_of_getElem? hx))
   have HEY:=hid (HD'.out.each y (List.mem_of_getElem? hy))
   clear hx hy hat hat' HD HD' HR HR'
   go_upto_region 6 with fail
   clear hb1 hb2 k1 k2
   go_cut [6,7] from 27 (fun v6 v7 wx=>∃X Y,v6=.pointer (some ⟨X,0,none⟩)∧v7=.pointer (some ⟨Y,0,none⟩)∧Hid (Below wr.heap.size wr wx∧wx.heap[X]? = some (.cells #[.int .i64 x.kind,.string x.temp,.string x.ka,.string x.kb,.int .i64 x.iff,.slice x.vp x.vo.length x.vc,.slice x.ep x.eo.length x.ec,.slice x.pp x.po.length x.pc,.int .u64 x.stamp,.int .i64 x.num] 42 (0,0))∧wx.heap[Y]? = some (.cells #[.int .i64 y.kind,.string y.temp,.string y.ka,.string y.kb,.int .i64 y.iff,.slice y.vp y.vo.length y.vc,.slice y.ep y.eo.length y.ec,.slice y.pp y.po.length y.pc,.int .u64 y.stamp,.int .i64 y.num] 42 (0,0))))
   case first =>
    refine wp_region_held_drew (S:=fun w'=>(w'.cell? ⟨w.heap.size,1,none⟩=some (.slice (some ⟨b,off,none⟩) d.length cap)∧w'.cell? ⟨w.heap.size+1,1,none⟩=some (.slice (some ⟨b',off',none⟩) d'.length cap')∧w'.cell? ⟨b,off+i * 10,none⟩=some (.int .i64 x.kind)∧w'.cell? ⟨b,off+i * 10+1,none⟩=some (.string x.temp)∧w'.cell? ⟨b,off+i * 10+2,none⟩=some (.string x.ka)∧w'.cell? ⟨b,off+i * 10+3,none⟩=some (.string x.kb)∧w'.cell? ⟨b,off+i * 10+4,none⟩=some (.int .i64 x.iff)∧w'.cell? ⟨b,off+i * 10+5,none⟩=some (.slice x.vp x.vo.length x.vc)∧w'.cell? ⟨b,off+i * 10+6,none⟩=some (.slice x.ep x.eo.length x.ec)∧w'.cell? ⟨b,off+i * 10+7,none⟩=some (.slice x.pp x.po.length x.pc)∧w'.cell? ⟨b,off+i * 10+8,none⟩=some (.int .u64 x.stamp)∧w'.cell? ⟨b,off+i * 10+9,none⟩=some (.int .i64 x.num)∧w'.cell? ⟨b',off'+i * 10,none⟩=some (.int .i64 y.kind)∧w'.cell? ⟨b',off'+i * 10+1,none⟩=some (.string y.temp)∧w'.cell? ⟨b',off'+i * 10+2,none⟩=some (.string y.ka)∧w'.cell? ⟨b',off'+i * 10+3,none⟩=some (.string y.kb)∧w'.cell? ⟨b',off'+i * 10+4,none⟩=some (.int .i64 y.iff)∧w'.cell? ⟨b',off'+i * 10+5,none⟩=some (.slice y.vp y.vo.length y.vc)∧w'.cell? ⟨b',off'+i * 10+6,none⟩=some (.slice y.ep y.eo.length y.ec)∧w'.cell? ⟨b',off'+i * 10+7,none⟩=some (.slice y.pp y.po.length y.pc)∧w'.cell? ⟨b',off'+i * 10+8,none⟩=some (.int .u64 y.stamp)∧w'.cell? ⟨b',off'+i * 10+9,none⟩=some (.int .i64 y.num))) (by kernel_rfl) (by rw [hW0];exact HSS.out _ (Below.refl _ _)) (fun hHeld=>?_)
    rw [hW0] at hHeld ⊢
    refine tkv 0 (.pointer (some ⟨w.heap.size,1,none⟩)) hHeld ?_
    simp only [Act.put,sz]
    refine tkv 1 (.slice (some ⟨b,off,none⟩) d.length cap) hHeld ?_
    simp only [Act.put,sz]
    refine tkv 2 (.int .i64 i) hHeld ?_
    simp only [Act.put,sz]
    refine tkv 3 (.pointer (some ⟨b,off+i * 10,none⟩)) hHeld ?_
    simp only [Act.put,sz]
    refine tkv 4 (.agg #[.int .i64 x.kind,.string x.temp,.string x.ka,.string x.kb,.int .i64 x.iff,.slice x.vp x.vo.length x.vc,.slice x.ep x.eo.length x.ec,.slice x.pp x.po.length x.pc,.int .u64 x.stamp,.int .i64 x.num]) hHeld ?_
    simp only [Act.put,sz]
    refine tkv 5 (.pointer (some ⟨w.heap.size+1,1,none⟩)) hHeld ?_
    simp only [Act.put,sz]
    refine tkv 6 (.slice (some ⟨b',off',none⟩) d'.length cap') hHeld ?_
    simp only [Act.put,sz]
    refine tkv 7 (.int .i64 i) hHeld ?_
    simp only [Act.put,sz]
    refine tkv 8 (.pointer (some ⟨b',off'+i * 10,none⟩)) hHeld ?_
    simp only [Act.put,sz]
    refine tkv 9 (.agg #[.int .i64 y.kind,.string y.temp,.string y.ka,.string y.kb,.int .i64 y.iff,.slice y.vp y.vo.length y.vc,.slice y.ep y.eo.length y.ec,.slice y.pp y.po.length y.pc,.int .u64 y.stamp,.int .i64 y.num]) hHeld ?_
    simp only [Act.put,sz]
    refine wpAnyH_ready (rs:=[10,11]) (by kernel_rfl) (by simp) ?_
    refine AllReadyH.cons (at_drop0 rfl) (fun K hK=>?_) (AllReadyH.cons (at_drop0 rfl) (fun K hK=>?_) AllReadyH.nil)
    ·rw [if_pos (by rfl)]
     go_simp
     obtain ⟨X,hX⟩:∃X,W0.heap.size=X:=⟨_,rfl⟩
     obtain ⟨W1,hW1⟩:∃W1,W0.alloc (.cells #[.int .i64 0,.string ⟨#[]⟩,.string ⟨#[]⟩,.string ⟨#[]⟩,.int .i64 0,.slice none 0 0,.slice none 0 0,.slice none 0 0,.int .u64 0,.int .i64 0] 42)=W1:=⟨_,rfl⟩
     have ha1:Below W0.heap.size W0 W1:=by rw [←hW1];exact (Below.refl _ _).alloc (Nat.le_refl _) _
     have HP1:Hid (W1.heap[X]? = some (.cells #[.int .i64 0,.string ⟨#[]⟩,.string ⟨#[]⟩,.string ⟨#[]⟩,.int .i64 0,.slice none 0 0,.slice none 0 0,.slice none 0 0,.int .u64 0,.int .i64 0] 42 (0,0))):=by show _=_;rw [←hW1,←hX];exact heap_alloc_new W0 _
     have hs1:=HSS.out W1 ha1
     have HA1:=hid ha1
     clear ha1
     go_wp2_with fail
     try rw [hX]
     try rw [hW1]
     refine hK.out _ _ hs1 (fun hHeld=>?_)
     clear hK K
     try simp only [Act.put,sz]
     clear hs1
     refine wpAnyH_ready (rs:=[11]) (by kernel_rfl) (by simp) ?_
     refine AllReadyH.cons (at_drop0 rfl) (fun K hK=>?_) AllReadyH.nil
     rw [if_pos (by rfl)]
     go_simp
     obtain ⟨Y,hY⟩:∃Y,W1.heap.size=Y:=⟨_,rfl⟩
     obtain ⟨W2,hW2⟩:∃W2,W1.alloc (.cells #[.int .i64 0,.string ⟨#[]⟩,.string ⟨#[]⟩,.string ⟨#[]⟩,.int .i64 0,.slice none 0 0,.slice none 0 0,.slice none 0 0,.int .u64 0,.int .i64 0] 42)=W2:=⟨_,rfl⟩
     have ha2:Below W1.heap.size W1 W2:=by rw [←hW2];exact (Below.refl _ _).alloc (Nat.le_refl _) _
     have hp2:W2.heap[Y]? = some (.cells #[.int .i64 0,.string ⟨#[]⟩,.string ⟨#[]⟩,.string ⟨#[]⟩,.int .i64 0,.slice none 0 0,.slice none 0 0,.slice none 0 0,.int .u64 0,.int .i64 0] 42 (0,0)):=by rw [←hW2,←hY];exact heap_alloc_new W1 _
     have hpl:X<W1.heap.size:=(Array.getElem?_eq_some_iff.1 HP1.out).1
     have hp1:W2.heap[X]? = some (.cells #[.int .i64 0,.string ⟨#[]⟩,.string ⟨#[]⟩,.string ⟨#[]⟩,.int .i64 0,.slice none 0 0,.slice none 0 0,.slice none 0 0,.int .u64 0,.int .i64 0] 42 (0,0)):=(ha2.block X hpl).trans HP1.out
     have HNE:Hid (X≠Y):=hid (by omega)
     have HLE:Hid (W0.heap.size≤X∧W0.heap.size≤Y):=hid (by have:=HA1.out.size;omega)
     have HA2:Hid (Below W0.heap.size W0 W2):=hid (bel_then HA1.out HA1.out.size ha2)
     have hs2:=HSS.out W2 HA2.out
     have HX:=hid hp1
     have HY:=hid hp2
     clear ha2 hp1 hp2 hpl HA1 HP1
     go_wp2_with fail
     try rw [hY]
     try rw [hW2]
     refine hK.out _ _ hs2 (fun hHeld=>?_)
     clear hK K
     try simp only [Act.put,sz]
     clear hs2 hX hY hW1 hW2
     obtain ⟨W3,hW3⟩:∃W3,((((((((((W2.setCell ⟨X,0,none⟩ (.int .i64 x.kind)).setCell ⟨X,1,none⟩ (.string x.temp)).setCell ⟨X,2,none⟩ (.string x.ka)).setCell ⟨X,3,none⟩ (.string x.kb)).setCell ⟨X,4,none⟩ (.int .i64 x.iff)).setCell ⟨X,5,none⟩ (.slice x.vp x.vo.length x.vc)).setCell ⟨X,6,none⟩ (.slice x.ep x.eo.length x.ec)).setCell ⟨X,7,none⟩ (.slice x.pp x.po.length x.pc)).setCell ⟨X,8,none⟩ (.int .u64 x.stamp)).setCell ⟨X,9,none⟩ (.int .i64 x.num))=W3:=⟨_,rfl⟩
     obtain ⟨hx3,fx3⟩:=store_ten x HX.out W3 hW3
     have zc0:W2.cell? ⟨X,0,none⟩=some (.int .i64 0):=by rw [Lib.cell_of_heap HX.out];rfl
     have zf0:=Lib.frozen_of_heap HX.out 0
     have zc1:W2.cell? ⟨X,1,none⟩=some (.string ⟨#[]⟩):=by rw [Lib.cell_of_heap HX.out];rfl
     have zf1:=Lib.frozen_of_heap HX.out 1
     have zc2:W2.cell? ⟨X,2,none⟩=some (.string ⟨#[]⟩):=by rw [Lib.cell_of_heap HX.out];rfl
     have zf2:=Lib.frozen_of_heap HX.out 2
     have zc3:W2.cell? ⟨X,3,none⟩=some (.string ⟨#[]⟩):=by rw [Lib.cell_of_heap HX.out];rfl
     have zf3:=Lib.frozen_of_heap HX.out 3
     have zc4:W2.cell? ⟨X,4,none⟩=some (.int .i64 0):=by rw [Lib.cell_of_heap HX.out];rfl
     have zf4:=Lib.frozen_of_heap HX.out 4
     have zc5:W2.cell? ⟨X,5,none⟩=some (.slice none 0 0):=by rw [Lib.cell_of_heap HX.out];rfl
     have zf5:=Lib.frozen_of_heap HX.out 5
     have zc6:W2.cell? ⟨X,6,none⟩=some (.slice none 0 0):=by rw [Lib.cell_of_heap HX.out];rfl
     have zf6:=Lib.frozen_of_heap HX.out 6
     have zc7:W2.cell? ⟨X,7,none⟩=some (.slice none 0 0):=by rw [Lib.cell_of_heap HX.out];rfl
     have zf7:=Lib.frozen_of_heap HX.out 7
     have zc8:W2.cell? ⟨X,8,none⟩=some (.int .u64 0):=by rw [Lib.cell_of_heap HX.out];rfl
     have zf8:=Lib.frozen_of_heap HX.out 8
     have zc9:W2.cell? ⟨X,9,none⟩=some (.int .i64 0):=by rw [Lib.cell_of_heap HX.out];rfl
     have zf9:=Lib.frozen_of_heap HX.out 9
     have HB3:Hid (Below W0.heap.size W0 W3):=hid (HA2.out.trans (fx3.below HA2.out.size fun k hk=>by rw [hk];exact HLE.out.1))
     have hy3:W3.heap[Y]? = some (.cells #[.int .i64 0,.string ⟨#[]⟩,.string ⟨#[]⟩,.string ⟨#[]⟩,.int .i64 0,.slice none 0 0,.slice none 0 0,.slice none 0 0,.int .u64 0,.int .i64 0] 42 (0,0)):=(fx3.block Y (Array.getElem?_eq_some_iff.1 HY.out).1 (fun e=>HNE.out e.symm)).trans HY.out
     have HX3:=hid hx3
     have HY3:=hid hy3
     have hs3:=HSS.out W3 HB3.out
     clear hx3 hy3 fx3
     refine wpAnyH_ready (rs:=[12]) (by kernel_rfl) (by simp) ?_
     refine AllReadyH.cons (at_drop0 rfl) (fun K hK=>?_) AllReadyH.nil
     rw [if_pos (by rfl)]
     go_simp
     go_wp2_with fail
     try rw [hW3]
     refine hK.out _ _ hs3 (fun hHeld=>?_)
     clear hK K
     try simp only [Act.put,sz]
     clear hs3 hW3 zc0 zf0 zc1 zf1 zc2 zf2 zc3 zf3 zc4 zf4 zc5 zf5 zc6 zf6 zc7 zf7 zc8 zf8 zc9 zf9
     obtain ⟨W4,hW4⟩:∃W4,((((((((((W3.setCell ⟨Y,0,none⟩ (.int .i64 y.kind)).setCell ⟨Y,1,none⟩ (.string y.temp)).setCell ⟨Y,2,none⟩ (.string y.ka)).setCell ⟨Y,3,none⟩ (.string y.kb)).setCell ⟨Y,4,none⟩ (.int .i64 y.iff)).setCell ⟨Y,5,none⟩ (.slice y.vp y.vo.length y.vc)).setCell ⟨Y,6,none⟩ (.slice y.ep y.eo.length y.ec)).setCell ⟨Y,7,none⟩ (.slice y.pp y.po.length y.pc)).setCell ⟨Y,8,none⟩ (.int .u64 y.stamp)).setCell ⟨Y,9,none⟩ (.int .i64 y.num))=W4:=⟨_,rfl⟩
     obtain ⟨hy4,fy4⟩:=store_ten y HY3.out W4 hW4
     have zc0:W3.cell? ⟨Y,0,none⟩=some (.int .i64 0):=by rw [Lib.cell_of_heap HY3.out];rfl
     have zf0:=Lib.frozen_of_heap HY3.out 0
     have zc1:W3.cell? ⟨Y,1,none⟩=some (.string ⟨#[]⟩):=by rw [Lib.cell_of_heap HY3.out];rfl
     have zf1:=Lib.frozen_of_heap HY3.out 1
     have zc2:W3.cell? ⟨Y,2,none⟩=some (.string ⟨#[]⟩):=by rw [Lib.cell_of_heap HY3.out];rfl
     have zf2:=Lib.frozen_of_heap HY3.out 2
     have zc3:W3.cell? ⟨Y,3,none⟩=some (.string ⟨#[]⟩):=by rw [Lib.cell_of_heap HY3.out];rfl
     have zf3:=Lib.frozen_of_heap HY3.out 3
     have zc4:W3.cell? ⟨Y,4,none⟩=some (.int .i64 0):=by rw [Lib.cell_of_heap HY3.out];rfl
     have zf4:=Lib.frozen_of_heap HY3.out 4
     have zc5:W3.cell? ⟨Y,5,none⟩=some (.slice none 0 0):=by rw [Lib.cell_of_heap HY3.out];rfl
     have zf5:=Lib.frozen_of_heap HY3.out 5
     have zc6:W3.cell? ⟨Y,6,none⟩=some (.slice none 0 0):=by rw [Lib.cell_of_heap HY3.out];rfl
     have zf6:=Lib.frozen_of_heap HY3.out 6
     have zc7:W3.cell? ⟨Y,7,none⟩=some (.slice none 0 0):=by rw [Lib.cell_of_heap HY3.out];rfl
     have zf7:=Lib.frozen_of_heap HY3.out 7
     have zc8:W3.cell? ⟨Y,8,none⟩=some (.int .u64 0):=by rw [Lib.cell_of_heap HY3.out];rfl
     have zf8:=Lib.frozen_of_heap HY3.out 8
     have zc9:W3.cell? ⟨Y,9,none⟩=some (.int .i64 0):=by rw [Lib.cell_of_heap HY3.out];rfl
     have zf9:=Lib.frozen_of_heap HY3.out 9
     have HB4:Hid (Below W0.heap.size W0 W4):=hid (HB3.out.trans (fy4.below HB3.out.size fun k hk=>by rw [hk];exact HLE.out.2))
     have hx4:W4.heap[X]? = some (.cells #[.int .i64 x.kind,.string x.temp,.string x.ka,.string x.kb,.int .i64 x.iff,.slice x.vp x.vo.length x.vc,.slice x.ep x.eo.length x.ec,.slice x.pp x.po.length x.pc,.int .u64 x.stamp,.int .i64 x.num] 42 (0,0)):=(fy4.block X (Array.getElem?_eq_some_iff.1 HX3.out).1 HNE.out).trans HX3.out
     have HX4:=hid hx4
     have HY4:=hid hy4
     have hs4:=HSS.out W4 HB4.out
     clear hx4 hy4 fy4
     refine wpAnyH_ready (rs:=[13]) (by kernel_rfl) (by simp) ?_
     refine AllReadyH.cons (at_drop0 rfl) (fun K hK=>?_) AllReadyH.nil
     rw [if_pos (by rfl)]
     go_simp
     go_wp2_with fail
     try rw [hW4]
     refine hK.out _ _ hs4 (fun hHeld=>?_)
     clear hK K
     try simp only [Act.put,sz]
     clear hs4 hW4 zc0 zf0 zc1 zf1 zc2 zf2 zc3 zf3 zc4 zf4 zc5 zf5 zc6 zf6 zc7 zf7 zc8 zf8 zc9 zf9
     refine wpAnyH_done (by kernel_rfl) ?_ _
     clear hHeld
     go_wp2_with fail
     go_meet
     exact ⟨X,Y,rfl,rfl,hid ⟨HB01.out.trans (HB4.out.mono HB01.out.size),HX4.out,HY4.out⟩⟩
    ·rw [if_pos (by rfl)]
     go_simp
     obtain ⟨Y,hY⟩:∃Y,W0.heap.size=Y:=⟨_,rfl⟩
     obtain ⟨W1,hW1⟩:∃W1,W0.alloc (.cells #[.int .i64 0,.string ⟨#[]⟩,.string ⟨#[]⟩,.string ⟨#[]⟩,.int .i64 0,.slice none 0 0,.slice none 0 0,.slice none 0 0,.int .u64 0,.int .i64 0] 42)=W1:=⟨_,rfl⟩
     have ha1:Below W0.heap.size W0 W1:=by rw [←hW1];exact (Below.refl _ _).alloc (Nat.le_refl _) _
     have HP1:Hid (W1.heap[Y]? = some (.cells #[.int .i64 0,.string ⟨#[]⟩,.string ⟨#[]⟩,.string ⟨#[]⟩,.int .i64 0,.slice none 0 0,.slice none 0 0,.slice none 0 0,.int .u64 0,.int .i64 0] 42 (0,0))):=by show _=_;rw [←hW1,←hY];exact heap_alloc_new W0 _
     have hs1:=HSS.out W1 ha1
     have HA1:=hid ha1
     clear ha1
     go_wp2_with fail
     try rw [hY]
     try rw [hW1]
     refine hK.out _ _ hs1 (fun hHeld=>?_)
     clear hK K
     try simp only [Act.put,sz]
     clear hs1
     refine wpAnyH_ready (rs:=[10]) (by kernel_rfl) (by simp) ?_
     refine AllReadyH.cons (at_drop0 rfl) (fun K hK=>?_) AllReadyH.nil
     rw [if_pos (by rfl)]
     go_simp
     obtain ⟨X,hX⟩:∃X,W1.heap.size=X:=⟨_,rfl⟩
     obtain ⟨W2,hW2⟩:∃W2,W1.alloc (.cells #[.int .i64 0,.string ⟨#[]⟩,.string ⟨#[]⟩,.string ⟨#[]⟩,.int .i64 0,.slice none 0 0,.slice none 0 0,.slice none 0 0,.int .u64 0,.int .i64 0] 42)=W2:=⟨_,rfl⟩
     have ha2:Below W1.heap.size W1 W2:=by rw [←hW2];exact (Below.refl _ _).alloc (Nat.le_refl _) _
     have hp2:W2.heap[X]? = some (.cells #[.int .i64 0,.string ⟨#[]⟩,.string ⟨#[]⟩,.string ⟨#[]⟩,.int .i64 0,.slice none 0 0,.slice none 0 0,.slice none 0 0,.int .u64 0,.int .i64 0] 42 (0,0)):=by rw [←hW2,←hX];exact heap_alloc_new W1 _
     have hpl:Y<W1.heap.size:=(Array.getElem?_eq_some_iff.1 HP1.out).1
     have hp1:W2.heap[Y]? = some (.cells #[.int .i64 0,.string ⟨#[]⟩,.string ⟨#[]⟩,.string ⟨#[]⟩,.int .i64 0,.slice none 0 0,.slice none 0 0,.slice none 0 0,.int .u64 0,.int .i64 0] 42 (0,0)):=(ha2.block Y hpl).trans HP1.out
     have HNE:Hid (X≠Y):=hid (by omega)
     have HLE:Hid (W0.heap.size≤X∧W0.heap.size≤Y):=hid (by have:=HA1.out.size;omega)
     have HA2:Hid (Below W0.heap.size W0 W2):=hid (bel_then HA1.out HA1.out.size ha2)
     have hs2:=HSS.out W2 HA2.out
     have HY:=hid hp1
     have HX:=hid hp2
     clear ha2 hp1 hp2 hpl HA1 HP1
     go_wp2_with fail
     try rw [hX]
     try rw [hW2]
     refine hK.out _ _ hs2 (fun hHeld=>?_)
     clear hK K
     try simp only [Act.put,sz]
     clear hs2 hX hY hW1 hW2
     obtain ⟨W3,hW3⟩:∃W3,((((((((((W2.setCell ⟨X,0,none⟩ (.int .i64 x.kind)).setCell ⟨X,1,none⟩ (.string x.temp)).setCell ⟨X,2,none⟩ (.string x.ka)).setCell ⟨X,3,none⟩ (.string x.kb)).setCell ⟨X,4,none⟩ (.int .i64 x.iff)).setCell ⟨X,5,none⟩ (.slice x.vp x.vo.length x.vc)).setCell ⟨X,6,none⟩ (.slice x.ep x.eo.length x.ec)).setCell ⟨X,7,none⟩ (.slice x.pp x.po.length x.pc)).setCell ⟨X,8,none⟩ (.int .u64 x.stamp)).setCell ⟨X,9,none⟩ (.int .i64 x.num))=W3:=⟨_,rfl⟩
     obtain ⟨hx3,fx3⟩:=store_ten x HX.out W3 hW3
     have zc0:W2.cell? ⟨X,0,none⟩=some (.int .i64 0):=by rw [Lib.cell_of_heap HX.out];rfl
     have zf0:=Lib.frozen_of_heap HX.out 0
     have zc1:W2.cell? ⟨X,1,none⟩=some (.string ⟨#[]⟩):=by rw [Lib.cell_of_heap HX.out];rfl
     have zf1:=Lib.frozen_of_heap HX.out 1
     have zc2:W2.cell? ⟨X,2,none⟩=some (.string ⟨#[]⟩):=by rw [Lib.cell_of_heap HX.out];rfl
     have zf2:=Lib.frozen_of_heap HX.out 2
     have zc3:W2.cell? ⟨X,3,none⟩=some (.string ⟨#[]⟩):=by rw [Lib.cell_of_heap HX.out];rfl
     have zf3:=Lib.frozen_of_heap HX.out 3
     have zc4:W2.cell? ⟨X,4,none⟩=some (.int .i64 0):=by rw [Lib.cell_of_heap HX.out];rfl
     have zf4:=Lib.frozen_of_heap HX.out 4
     have zc5:W2.cell? ⟨X,5,none⟩=some (.slice none 0 0):=by rw [Lib.cell_of_heap HX.out];rfl
     have zf5:=Lib.frozen_of_heap HX.out 5
     have zc6:W2.cell? ⟨X,6,none⟩=some (.slice none 0 0):=by rw [Lib.cell_of_heap HX.out];rfl
     have zf6:=Lib.frozen_of_heap HX.out 6
     have zc7:W2.cell? ⟨X,7,none⟩=some (.slice none 0 0):=by rw [Lib.cell_of_heap HX.out];rfl
     have zf7:=Lib.frozen_of_heap HX.out 7
     have zc8:W2.cell? ⟨X,8,none⟩=some (.int .u64 0):=by rw [Lib.cell_of_heap HX.out];rfl
     have zf8:=Lib.frozen_of_heap HX.out 8
     have zc9:W2.cell? ⟨X,9,none⟩=some (.int .i64 0):=by rw [Lib.cell_of_heap HX.out];rfl
     have zf9:=Lib.frozen_of_heap HX.out 9
     have HB3:Hid (Below W0.heap.size W0 W3):=hid (HA2.out.trans (fx3.below HA2.out.size fun k hk=>by rw [hk];exact HLE.out.1))
     have hy3:W3.heap[Y]? = some (.cells #[.int .i64 0,.string ⟨#[]⟩,.string ⟨#[]⟩,.string ⟨#[]⟩,.int .i64 0,.slice none 0 0,.slice none 0 0,.slice none 0 0,.int .u64 0,.int .i64 0] 42 (0,0)):=(fx3.block Y (Array.getElem?_eq_some_iff.1 HY.out).1 (fun e=>HNE.out e.symm)).trans HY.out
     have HX3:=hid hx3
     have HY3:=hid hy3
     have hs3:=HSS.out W3 HB3.out
     clear hx3 hy3 fx3
     refine wpAnyH_ready (rs:=[12]) (by kernel_rfl) (by simp) ?_
     refine AllReadyH.cons (at_drop0 rfl) (fun K hK=>?_) AllReadyH.nil
     rw [if_pos (by rfl)]
     go_simp
     go_wp2_with fail
     try rw [hW3]
     refine hK.out _ _ hs3 (fun hHeld=>?_)
     clear hK K
     try simp only [Act.put,sz]
     clear hs3 hW3 zc0 zf0 zc1 zf1 zc2 zf2 zc3 zf3 zc4 zf4 zc5 zf5 zc6 zf6 zc7 zf7 zc8 zf8 zc9 zf9
     obtain ⟨W4,hW4⟩:∃W4,((((((((((W3.setCell ⟨Y,0,none⟩ (.int .i64 y.kind)).setCell ⟨Y,1,none⟩ (.string y.temp)).setCell ⟨Y,2,none⟩ (.string y.ka)).setCell ⟨Y,3,none⟩ (.string y.kb)).setCell ⟨Y,4,none⟩ (.int .i64 y.iff)).setCell ⟨Y,5,none⟩ (.slice y.vp y.vo.length y.vc)).setCell ⟨Y,6,none⟩ (.slice y.ep y.eo.length y.ec)).setCell ⟨Y,7,none⟩ (.slice y.pp y.po.length y.pc)).setCell ⟨Y,8,none⟩ (.int .u64 y.stamp)).setCell ⟨Y,9,none⟩ (.int .i64 y.num))=W4:=⟨_,rfl⟩
     obtain ⟨hy4,fy4⟩:=store_ten y HY3.out W4 hW4
     have zc0:W3.cell? ⟨Y,0,none⟩=some (.int .i64 0):=by rw [Lib.cell_of_heap HY3.out];rfl
     have zf0:=Lib.frozen_of_heap HY3.out 0
     have zc1:W3.cell? ⟨Y,1,none⟩=some (.string ⟨#[]⟩):=by rw [Lib.cell_of_heap HY3.out];rfl
     have zf1:=Lib.frozen_of_heap HY3.out 1
     have zc2:W3.cell? ⟨Y,2,none⟩=some (.string ⟨#[]⟩):=by rw [Lib.cell_of_heap HY3.out];rfl
     have zf2:=Lib.frozen_of_heap HY3.out 2
     have zc3:W3.cell? ⟨Y,3,none⟩=some (.string ⟨#[]⟩):=by rw [Lib.cell_of_heap HY3.out];rfl
     have zf3:=Lib.frozen_of_heap HY3.out 3
     have zc4:W3.cell? ⟨Y,4,none⟩=some (.int .i64 0):=by rw [Lib.cell_of_heap HY3.out];rfl
     have zf4:=Lib.frozen_of_heap HY3.out 4
     have zc5:W3.cell? ⟨Y,5,none⟩=some (.slice none 0 0):=by rw [Lib.cell_of_heap HY3.out];rfl
     have zf5:=Lib.frozen_of_heap HY3.out 5
     have zc6:W3.cell? ⟨Y,6,none⟩=some (.slice none 0 0):=by rw [Lib.cell_of_heap HY3.out];rfl
     have zf6:=Lib.frozen_of_heap HY3.out 6
     have zc7:W3.cell? ⟨Y,7,none⟩=some (.slice none 0 0):=by rw [Lib.cell_of_heap HY3.out];rfl
     have zf7:=Lib.frozen_of_heap HY3.out 7
     have zc8:W3.cell? ⟨Y,8,none⟩=some (.int .u64 0):=by rw [Lib.cell_of_heap HY3.out];rfl
     have zf8:=Lib.frozen_of_heap HY3.out 8
     have zc9:W3.cell? ⟨Y,9,none⟩=some (.int .i64 0):=by rw [Lib.cell_of_heap HY3.out];rfl
     have zf9:=Lib.frozen_of_heap HY3.out 9
     have HB4:Hid (Below W0.heap.size W0 W4):=hid (HB3.out.trans (fy4.below HB3.out.size fun k hk=>by rw [hk];exact HLE.out.2))
     have hx4:W4.heap[X]? = some (.cells #[.int .i64 x.kind,.string x.temp,.string x.ka,.string x.kb,.int .i64 x.iff,.slice x.vp x.vo.length x.vc,.slice x.ep x.eo.length x.ec,.slice x.pp x.po.length x.pc,.int .u64 x.stamp,.int .i64 x.num] 42 (0,0)):=(fy4.block X (Array.getElem?_eq_some_iff.1 HX3.out).1 HNE.out).trans HX3.out
     have HX4:=hid hx4
     have HY4:=hid hy4
     have hs4:=HSS.out W4 HB4.out
     clear hx4 hy4 fy4
     refine wpAnyH_ready (rs:=[13]) (by kernel_rfl) (by simp) ?_
     refine AllReadyH.cons (at_drop0 rfl) (fun K hK=>?_) AllReadyH.nil
     rw [if_pos (by rfl)]
     go_simp
     go_wp2_with fail
     try rw [hW4]
     refine hK.out _ _ hs4 (fun hHeld=>?_)
     clear hK K
     try simp only [Act.put,sz]
     clear hs4 hW4 zc0 zf0 zc1 zf1 zc2 zf2 zc3 zf3 zc4 zf4 zc5 zf5 zc6 zf6 zc7 zf7 zc8 zf8 zc9 zf9
     refine wpAnyH_done (by kernel_rfl) ?_ _
     clear hHeld
     go_wp2_with fail
     go_meet
     exact ⟨X,Y,rfl,rfl,hid ⟨HB01.out.trans (HB4.out.mono HB01.out.size),HX4.out,HY4.out⟩⟩
   obtain ⟨X,Y,rfl,rfl,HCUT⟩:=hcut
   obtain ⟨hbc,hxc,hyc⟩:=HCUT.out
   have HBC:Hid (Below w.heap.size w wc):=hid (HBR.out.trans (hbc.mono HBR.out.size))
   have HC1:Hid (wc.heap[w.heap.size]? = some (.cells #[.bool o,.slice (some ⟨b,off,none⟩) d.length cap] 25 (0,0))):=hid ((hbc.block _ (Array.getElem?_eq_some_iff.1 HQ1.out).1).trans HQ1.out)
   have HC2:Hid (wc.heap[w.heap.size+1]? = some (.cells #[.bool o,.slice (some ⟨b',off',none⟩) d'.length cap'] 25 (0,0))):=hid ((hbc.block _ (Array.getElem?_eq_some_iff.1 HQ2.out).1).trans HQ2.out)
   have xc0:wc.cell? ⟨X,0,none⟩=some (.int .i64 x.kind):=cz hxc
   have xc1:wc.cell? ⟨X,1,none⟩=some (.string x.temp):=cz hxc
   have xc2:wc.cell? ⟨X,2,none⟩=some (.string x.ka):=cz hxc
   have xc3:wc.cell? ⟨X,3,none⟩=some (.string x.kb):=cz hxc
   have xc4:wc.cell? ⟨X,4,none⟩=some (.int .i64 x.iff):=cz hxc
   have xc5:wc.cell? ⟨X,5,none⟩=some (.slice x.vp x.vo.length x.vc):=cz hxc
   have xc6:wc.cell? ⟨X,6,none⟩=some (.slice x.ep x.eo.length x.ec):=cz hxc
   have xc7:wc.cell? ⟨X,7,none⟩=some (.slice x.pp x.po.length x.pc):=cz hxc
   have xc8:wc.cell? ⟨X,8,none⟩=some (.int .u64 x.stamp):=cz hxc
   have xc9:wc.cell? ⟨X,9,none⟩=some (.int .i64 x.num):=cz hxc
   have yc0:wc.cell? ⟨Y,0,none⟩=some (.int .i64 y.kind):=cz hyc
   have yc1:wc.cell? ⟨Y,1,none⟩=some (.string y.temp):=cz hyc
   have yc2:wc.cell? ⟨Y,2,none⟩=some (.string y.ka):=cz hyc
   have yc3:wc.cell? ⟨Y,3,none⟩=some (.string y.kb):=cz hyc
   have yc4:wc.cell? ⟨Y,4,none⟩=some (.int .i64 y.iff):=cz hyc
   have yc5:wc.cell? ⟨Y,5,none⟩=some (.slice y.vp y.vo.length y.vc):=cz hyc
   have yc6:wc.cell? ⟨Y,6,none⟩=some (.slice y.ep y.eo.length y.ec):=cz hyc
   have yc7:wc.cell? ⟨Y,7,none⟩=some (.slice y.pp y.po.length y.pc):=cz hyc
   have yc8:wc.cell? ⟨Y,8,none⟩=some (.int .u64 y.stamp):=cz hyc
   have yc9:wc.cell? ⟨Y,9,none⟩=some (.int .i64 y.num):=cz hyc
   clear hbc hxc hyc HCUT HSS HQ1 HQ2
   have HEX2:=hid (HEX.out.on HBC.out)
   have HEY2:=hid (HEY.out.on HBC.out)
   have HEN:Hid (decide (x.en=y.en)=decide (x.kind=y.kind∧x.temp=y.temp∧(x.ka=y.ka∧x.kb=y.kb)∧x.iff=y.iff∧x.stamp=y.stamp∧x.num=y.num∧x.vo.map Fx.fld=y.vo.map Fx.fld∧x.eo=y.eo∧x.po=y.po)):=hid (by rw [decide_eq_decide];exact en_eq x.en y.en)
   have HSF:Hid (Calls Tryz.prog 21 #[.slice x.vp x.vo.length x.vc,.slice y.vp y.vo.length y.vc] wc fun e w'=>e=.returned (.bool (decide (x.vo.map Fx.fld=y.vo.map Fx.fld)))∧∃m,w'=wc.drewN m):=hid (sameF_any _ _ x.vo y.vo _ HEX2.out.val HEY2.out.val HEX2.out.fit HEY2.out.fit)
   have HSE:Hid (∀n,Calls Tryz.prog 22 #[.slice x.ep x.eo.length x.ec,.slice y.ep y.eo.length y.ec] (wc.drewN n) fun e w'=>e=.returned (.bool (decide (x.eo=y.eo)))∧∃m,w'=(wc.drewN n).drewN m):=hid fun n=>rsameE_any _ _ x.eo y.eo _ (HEX2.out.on (bel_drewN (Below.refl _ _) n)).eds (HEY2.out.on (bel_drewN (Below.refl _ _) n)).eds HEX2.out.efit.1
   have HSP:Hid (∀n,Calls Tryz.prog 23 #[.slice x.pp x.po.length x.pc,.slice y.pp y.po.length y.pc] (wc.drewN n) fun e w'=>e=.returned (.bool (decide (x.po=y.po)))∧∃m,w'=(wc.drewN n).drewN m):=hid fun n=>rsameM_any _ _ x.po y.po _ (HEX2.out.on (bel_drewN (Below.refl _ _) n)).prd (HEY2.out.on (bel_drewN (Below.refl _ _) n)).prd HEX2.out.pfit.1
   have HKQ:=hid (neq_keyQ x.ka x.kb y.ka y.kb)
   go_upto_region 7 with fail
   go_cut [102] from 27 (fun c wx=>c=.bool (!decide (x.en=y.en))∧Hid (∃n,wx=wc.drewN n))
   case first =>
    by_cases h_kind:x.kind=y.kind
    case neg =>
     have q_kind:(x.kind != y.kind)=true:=bne_iff_ne.2 h_kind
     have HF:Hid (decide (x.kind=y.kind∧x.temp=y.temp∧(x.ka=y.ka∧x.kb=y.kb)∧x.iff=y.iff∧x.stamp=y.stamp∧x.num=y.num∧x.vo.map Fx.fld=y.vo.map Fx.fld∧x.eo=y.eo∧x.po=y.po)=false):=hid (decide_eq_false fun q=>h_kind q.1)
     clear h_kind
     go_wp2_with fail
     go_meet
     exact ⟨by rw [HEN.out,HF.out];rfl,hid ⟨0,rfl⟩⟩
    have q_kind:(x.kind != y.kind)=false:=by rw [h_kind];simp
    by_cases h_temp:x.temp=y.temp
    case neg =>
     have q_temp:(x.temp.toList==y.temp.toList)=false:=seq_false h_temp
     have HF:Hid (decide (x.kind=y.kind∧x.temp=y.temp∧(x.ka=y.ka∧x.kb=y.kb)∧x.iff=y.iff∧x.stamp=y.stamp∧x.num=y.num∧x.vo.map Fx.fld=y.vo.map Fx.fld∧x.eo=y.eo∧x.po=y.po)=false):=hid (decide_eq_false fun q=>h_temp q.2.1)
     clear h_kind h_temp
     go_wp2_with fail
     go_meet
     exact ⟨by rw [HEN.out,HF.out];rfl,hid ⟨0,rfl⟩⟩
    have q_temp:(x.temp.toList==y.temp.toList)=true:=seq_true h_temp
    by_cases h_key:(x.ka=y.ka∧x.kb=y.kb)
    case neg =>
     have q_key:∀V,(binOp .neq 36 (.agg #[.string x.ka,.string x.kb]) (.agg #[.string y.ka,.string y.kb])).run Tryz.prog V=.ok (.bool true) V:=fun V=>by rw [HKQ.out V,decide_eq_false h_key];rfl
     have HF:Hid (decide (x.kind=y.kind∧x.temp=y.temp∧(x.ka=y.ka∧x.kb=y.kb)∧x.iff=y.iff∧x.stamp=y.stamp∧x.num=y.num∧x.vo.map Fx.fld=y.vo.map Fx.fld∧x.eo=y.eo∧x.po=y.po)=false):=hid (decide_eq_false fun q=>h_key q.2.2.1)
     clear h_kind h_temp h_key
     go_wp2_with fail
     go_meet
     exact ⟨by rw [HEN.out,HF.out];rfl,hid ⟨0,rfl⟩⟩
    have q_key:∀V,(binOp .neq 36 (.agg #[.string x.ka,.string x.kb]) (.agg #[.string y.ka,.string y.kb])).run Tryz.prog V=.ok (.bool false) V:=fun V=>by rw [HKQ.out V,decide_eq_true h_key];rfl
    by_cases h_iff:x.iff=y.iff
    case neg =>
     have q_iff:(x.iff != y.iff)=true:=bne_iff_ne.2 h_iff
     have HF:Hid (decide (x.kind=y.kind∧x.temp=y.temp∧(x.ka=y.ka∧x.kb=y.kb)∧x.iff=y.iff∧x.stamp=y.stamp∧x.num=y.num∧x.vo.map Fx.fld=y.vo.map Fx.fld∧x.eo=y.eo∧x.po=y.po)=false):=hid (decide_eq_false fun q=>h_iff q.2.2.2.1)
     clear h_kind h_temp h_key h_iff
     go_wp2_with fail
     go_meet
     exact ⟨by rw [HEN.out,HF.out];rfl,hid ⟨0,rfl⟩⟩
    have q_iff:(x.iff != y.iff)=false:=by rw [h_iff];simp
    by_cases h_stamp:x.stamp=y.stamp
    case neg =>
     have q_stamp:(x.stamp != y.stamp)=true:=bne_iff_ne.2 h_stamp
     have HF:Hid (decide (x.kind=y.kind∧x.temp=y.temp∧(x.ka=y.ka∧x.kb=y.kb)∧x.iff=y.iff∧x.stamp=y.stamp∧x.num=y.num∧x.vo.map Fx.fld=y.vo.map Fx.fld∧x.eo=y.eo∧x.po=y.po)=false):=hid (decide_eq_false fun q=>h_stamp q.2.2.2.2.1)
     clear h_kind h_temp h_key h_iff h_stamp
     go_wp2_with fail
     go_meet
     exact ⟨by rw [HEN.out,HF.out];rfl,hid ⟨0,rfl⟩⟩
    have q_stamp:(x.stamp != y.stamp)=false:=by rw [h_stamp];simp
    by_cases h_num:x.num=y.num
    case neg =>
     have q_num:(x.num != y.num)=true:=bne_iff_ne.2 h_num
     have HF:Hid (decide (x.kind=y.kind∧x.temp=y.temp∧(x.ka=y.ka∧x.kb=y.kb)∧x.iff=y.iff∧x.stamp=y.stamp∧x.num=y.num∧x.vo.map Fx.fld=y.vo.map Fx.fld∧x.eo=y.eo∧x.po=y.po)=false):=hid (decide_eq_false fun q=>h_num q.2.2.2.2.2.1)
     clear h_kind h_temp h_key h_iff h_stamp h_num
     go_wp2_with fail
     go_meet
     exact ⟨by rw [HEN.out,HF.out];rfl,hid ⟨0,rfl⟩⟩
    have q_num:(x.num != y.num)=false:=by rw [h_num];simp
    by_cases h_val:x.vo.map Fx.fld=y.vo.map Fx.fld
    case neg =>
     have q_val:=decide_eq_false h_val
     have HF:Hid (decide (x.kind=y.kind∧x.temp=y.temp∧(x.ka=y.ka∧x.kb=y.kb)∧x.iff=y.iff∧x.stamp=y.stamp∧x.num=y.num∧x.vo.map Fx.fld=y.vo.map Fx.fld∧x.eo=y.eo∧x.po=y.po)=false):=hid (decide_eq_false fun q=>h_val q.2.2.2.2.2.2.1)
     clear h_kind h_temp h_key h_iff h_stamp h_num h_val
     go_wp2_with (first|(go_at_call 21;refine HSF.out.mono ?_;rintro e w1 ⟨rfl,n1,rfl⟩))
     go_meet
     exact ⟨by rw [HEN.out,HF.out];rfl,hid ⟨_,rfl⟩⟩
    have q_val:=decide_eq_true h_val
    by_cases h_eds:x.eo=y.eo
    case neg =>
     have q_eds:=decide_eq_false h_eds
     have HF:Hid (decide (x.kind=y.kind∧x.temp=y.temp∧(x.ka=y.ka∧x.kb=y.kb)∧x.iff=y.iff∧x.stamp=y.stamp∧x.num=y.num∧x.vo.map Fx.fld=y.vo.map Fx.fld∧x.eo=y.eo∧x.po=y.po)=false):=hid (decide_eq_false fun q=>h_eds q.2.2.2.2.2.2.2.1)
     clear h_kind h_temp h_key h_iff h_stamp h_num h_val h_eds
     go_wp2_with (first|(go_at_call 21;refine HSF.out.mono ?_;rintro e w1 ⟨rfl,n1,rfl⟩)|(go_at_call 22;refine (HSE.out n1).mono ?_;rintro e w2 ⟨rfl,n2,rfl⟩))
     go_meet
     exact ⟨by rw [HEN.out,HF.out];rfl,hid ⟨_,rfl⟩⟩
    have q_eds:=decide_eq_true h_eds
    by_cases h_prd:x.po=y.po
    case neg =>
     have q_prd:=decide_eq_false h_prd
     have HF:Hid (decide (x.kind=y.kind∧x.temp=y.temp∧(x.ka=y.ka∧x.kb=y.kb)∧x.iff=y.iff∧x.stamp=y.stamp∧x.num=y.num∧x.vo.map Fx.fld=y.vo.map Fx.fld∧x.eo=y.eo∧x.po=y.po)=false):=hid (decide_eq_false fun q=>h_prd q.2.2.2.2.2.2.2.2)
     clear h_kind h_temp h_key h_iff h_stamp h_num h_val h_eds h_prd
     go_wp2_with (first|(go_at_call 21;refine HSF.out.mono ?_;rintro e w1 ⟨rfl,n1,rfl⟩)|(go_at_call 22;refine (HSE.out n1).mono ?_;rintro e w2 ⟨rfl,n2,rfl⟩)|(go_at_call 23;refine (HSP.out _).mono ?_;rintro e w3 ⟨rfl,n3,rfl⟩))
     go_meet
     exact ⟨by rw [HEN.out,HF.out];rfl,hid ⟨_,rfl⟩⟩
    have q_prd:=decide_eq_true h_prd
    have HF:Hid (decide (x.kind=y.kind∧x.temp=y.temp∧(x.ka=y.ka∧x.kb=y.kb)∧x.iff=y.iff∧x.stamp=y.stamp∧x.num=y.num∧x.vo.map Fx.fld=y.vo.map Fx.fld∧x.eo=y.eo∧x.po=y.po)=true):=hid (decide_eq_true ⟨h_kind,h_temp,h_key,h_iff,h_stamp,h_num,h_val,h_eds,h_prd⟩)
    clear h_kind h_temp h_key h_iff h_stamp h_num h_val h_eds h_prd
    go_wp2_with (first|(go_at_call 21;refine HSF.out.mono ?_;rintro e w1 ⟨rfl,n1,rfl⟩)|(go_at_call 22;refine (HSE.out n1).mono ?_;rintro e w2 ⟨rfl,n2,rfl⟩)|(go_at_call 23;refine (HSP.out _).mono ?_;rintro e w3 ⟨rfl,n3,rfl⟩))
    go_meet
    exact ⟨by rw [HEN.out,HF.out];rfl,hid ⟨_,rfl⟩⟩
   obtain ⟨rfl,HW⟩:=hcut
   obtain ⟨n,rfl⟩:=HW.out
   have HBN:Hid (Below w.heap.size w (wc.drewN n)):=hid (bel_drewN HBC.out n)
   have HN1:Hid ((wc.drewN n).heap[w.heap.size]? = some (.cells #[.bool o,.slice (some ⟨b,off,none⟩) d.length cap] 25 (0,0))):=hid HC1.out
   have HN2:Hid ((wc.drewN n).heap[w.heap.size+1]? = some (.cells #[.bool o,.slice (some ⟨b',off',none⟩) d'.length cap'] 25 (0,0))):=hid HC2.out
   clear xc0 yc0 xc1 yc1 xc2 yc2 xc3 yc3 xc4 yc4 xc5 yc5 xc6 yc6 xc7 yc7 xc8 yc8 xc9 yc9 HW HEN HSF HSE HSP HKQ HEX HEY HEX2 HEY2 HC1 HC2 HBC
   by_cases hs:x.en=y.en
   ·have HA2:Hid (∀(j:Nat) (x y:Ex),j<i+1→d[j]? = some x→d'[j]? = some y→x.en=y.en):=hid fun j x' y' hj h1 h2=>by
     by_cases q:j=i
     ·subst q
      rw [HX0.out] at h1;rw [HY0.out] at h2
      cases h1;cases h2;exact hs
     ·exact HA.out j x' y' (by omega) h1 h2
    have hd:=decide_eq_true hs
    rw [hd]
    clear hs hd
    go_wp2_with fail
    go_roundg (d.length-(i+1))
    case measure=>omega
    exact ⟨i+1,by go_num,HLT.out,Nat.le_refl _,HBN,HN1.out,HN2.out,HA2⟩
   ·have HF:Hid (decide (d.map Ex.en=d'.map Ex.en)=false):=hid (decide_eq_false fun q=>hs (by
     have h:=congrArg (·[i]?) q
     simp only [List.getElem?_map,HX0.out,HY0.out,Option.map_some] at h
     exact Option.some.inj h))
    have hd:=decide_eq_false hs
    rw [hd]
    clear hs hd
    go_wp2_with fail
    go_ret
    exact ⟨by rw [HF.out];rfl,HBN.out⟩
  ·have hltz:¬ (i:Int)<(d.length:Int):=by omega
   have HF:Hid (decide (d.map Ex.en=d'.map Ex.en)=true):=hid (decide_eq_true (all_same HL.out fun j x y h1 h2=>HA.out j x y (by have:=(List.getElem?_eq_some_iff.1 h1).1;omega) h1 h2))
   go_wp2_with fail
   go_ret
   exact ⟨by rw [HF.out];rfl,HBR.out⟩
end
section
open Go.RowKit
structure RowSt {α:Type} (K:Kind α) (N:Nat) (W:World) (v:Value) (l:List α) (w:World):Prop where
 own:K.Own N w v l
 bel:Below N W w
 base:N≤w.heap.size
theorem below_grown {N:Nat} {W w w':World} {ob:Option Nat} (hb:Below N W w) (hg:w.grownBy w' ob) (ho:∀k,ob=some k→N≤k) (hN:N≤w.heap.size):Below N W w' :=
 hb.trans ⟨hg.os,hg.tape,hg.output,hg.size,fun k hk=>hg.block k (by omega) fun e=>by have:=ho k e.symm;omega⟩
section
variable {α:Type} {K:Kind α} {N:Nat} {W:World} {v:Value} {l:List α} {w:World}
theorem RowSt.push {g cap:Nat} {w':World} {x:α} (h:RowSt K N W v l w) (ho:w'.ownsRow N K.T K.k (.slice (some ⟨g,0,none⟩) (l.length+1) cap) (l.length+1) (K.cells l++K.cells [x])) (hg:w.grownBy w' v.ownBlock):RowSt K N W (.slice (some ⟨g,0,none⟩) (l.length+1) cap) (l++[x]) w' :=
 ⟨Kind.own_snoc ho rfl rfl,below_grown h.bel hg (fun k hk=>(World.ownsRow.lt h.own k hk).1) h.base,Nat.le_trans h.base hg.size⟩
end
theorem news_box {α:Type} (K:Kind α) {w:World} {B:Nat} {x:α} {t:TypeId} {fz:Nat × Nat} (h:w.heap[B]? = some (.cells (K.enc x).toArray t fz)):∀j u,(K.cells [x])[j]? = some u→w.cell? ((⟨B,0,none⟩:Addr).add j)=some u:=fun j u hu=>by
 rw [K.cells_one] at hu
 exact World.news_of_block h j u (by simpa using hu)
section
variable {P:Program} {α:Type} {w:World} {ops:Array Oper} {rest:List Oper} {o:Oper} {a:Act} {Q:Exit→Act→World→Prop}
theorem wpList_push (K:Kind α) (hgd:o.guard=none) (s x:Operand) (t:TypeId) (ho:o.op=.call { callee:=.builtin .append,args:=#[s,x],argTypes:=#[t,t] })
  (i:TypeInfo) (z:Value) (bytes:Nat) (ht:P.underlying t=some (.slice K.T)) (hi:P.info? K.T=some i) (hz:i.zero=some z) (hsize:i.size=K.k) (hby:i.bytes=bytes) (hzs:z.cells.size=K.k)
  (N:Nat) (W:World) (v:Value) (l:List α) (hs:a.eval s=v) (hst:RowSt K N W v l w) (y:α) (B m c:Nat) (hm:m=1) (hx:a.eval x=.slice (some ⟨B,0,none⟩) m c) (te:TypeId) (fz:Nat × Nat) (hB:w.heap[B]? = some (.cells (K.enc y).toArray te fz))
  (hlen:l.length+1≤maxLen) (hbytes:(l.length+1) * bytes≤140737488355328)
  (h:∀g cap w',RowSt K N W (.slice (some ⟨g,0,none⟩) (l.length+1) cap) (l++[y]) w'→w.grownBy w' v.ownBlock→(v.ownBlock=some g∨g=w.heap.size)→wpList P ops Q rest (a.put o.dst (.slice (some ⟨g,0,none⟩) (l.length+1) cap)) w'):wpList P ops Q (o::rest) a w:=by
 subst hm
 refine wpList_append_lies _ hgd s x t ho N K.T i z K.k bytes ht hi hz hsize hby hzs K.pos v l.length (K.cells l) hs hst.own ⟨B,0,none⟩ 1 c (K.cells [y]) hx ?_ (news_box K hB) (K.cells_ones _) (by decide) hlen hbytes hst.base _ rfl ?_
 ·rw [K.cells_len];rfl
 ·exact fun g cap w' h1 h2 h3 _=>h g cap w' (hst.push h1 h2) h2 h3
end
end
section
open Go.RowKit Go.Lib
theorem shapeX {n:Nat} {w:World} {v:Value} {d:List Fx} (h:OwnXs n w v d):∃p cap,v=.slice p d.length cap:=by
 rcases h.1.2 with ⟨hv,h0⟩|⟨g,cap,cur,hv,_⟩
 ·exact ⟨none,0,by rw [hv,h0]⟩
 ·exact ⟨_,_,hv⟩
end
section
open Go.RowKit Go.Lib
theorem rstamp16_any (p:Option Addr) (cap:Nat) (ws:List ByteArray) (i:Nat) (w:World) (ht:TxtAt w p ws) (hs:∀x∈ws,x.size≤1000000000000) (hi:i≤1000000000001) :
  Calls Tryz.prog 40 #[.slice p ws.length cap,.int .i64 i] w fun e w'=>e=.returned (numV (stampR ((ws.map (·.data.toList))[i]?)))∧w'=w:=by
 by_cases h:i<ws.length
 ·have hltz:(i:Int)<(ws.length:Int):=by omega
  have hz:¬ (ws.length:Int)≤(i:Int):=by omega
  have hiz:(0:Int)≤(i:Int):=by omega
  have HR:Hid (stampR ((ws.map (·.data.toList))[i]?)=numL 18446744073709551615 (ws[i]).data.toList):=by
   show _=_
   rw [List.getElem?_map,List.getElem?_eq_getElem h]
   rfl
  rcases ht with hn|⟨b,off,rfl,hc⟩
  ·rw [hn] at h;simp at h
  have c0:=hc i h
  have HC:=hid (rnum16_any ws[i] 18446744073709551615 w (by omega) (by have:=hs _ (List.getElem_mem h);unfold maxLen;omega))
  clear hs hc
  obtain ⟨x,hx⟩:∃x,ws[i]=x:=⟨_,rfl⟩
  rw [hx] at c0 HR HC
  obtain ⟨o,ho⟩:∃o,numL 18446744073709551615 x.data.toList=o:=⟨_,rfl⟩
  rw [ho] at HR HC
  unfold numV at HC
  clear hx ho
  go_enter Tryz.func40,Tryz.ntmps40
  go_wp2_with (first|(go_at_call 77;refine HC.out.mono ?_;rintro e w1 ⟨rfl,rfl⟩))
  go_ret2
  rw [HR.out]
  exact ⟨rfl,rfl⟩
 ·have hz:(ws.length:Int)≤(i:Int):=by omega
  have HR:Hid (stampR ((ws.map (·.data.toList))[i]?)=none):=by
   show _=_
   rw [List.getElem?_eq_none (by rw [List.length_map];omega)]
   rfl
  clear hs ht h
  go_enter Tryz.func40,Tryz.ntmps40
  go_wp2_with fail
  go_ret2
  rw [HR.out]
  exact ⟨rfl,rfl⟩
theorem rsmall16_any (p:Option Addr) (cap:Nat) (ws:List ByteArray) (i:Nat) (w:World) (ht:TxtAt w p ws) (hs:∀x∈ws,x.size≤1000000000000) (hi:i≤1000000000001) :
  Calls Tryz.prog 42 #[.slice p ws.length cap,.int .i64 i] w fun e w'=>e=.returned (numV (smallR ((ws.map (·.data.toList))[i]?)))∧w'=w:=by
 by_cases h:i<ws.length
 ·have hltz:(i:Int)<(ws.length:Int):=by omega
  have hz:¬ (ws.length:Int)≤(i:Int):=by omega
  have hiz:(0:Int)≤(i:Int):=by omega
  have HR:Hid (smallR ((ws.map (·.data.toList))[i]?)=numL 999999999 (ws[i]).data.toList):=by
   show _=_
   rw [List.getElem?_map,List.getElem?_eq_getElem h]
   rfl
  rcases ht with hn|⟨b,off,rfl,hc⟩
  ·rw [hn] at h;simp at h
  have c0:=hc i h
  have HC:=hid (rnum16_any ws[i] 999999999 w (by omega) (by have:=hs _ (List.getElem_mem h);unfold maxLen;omega))
  clear hs hc
  obtain ⟨x,hx⟩:∃x,ws[i]=x:=⟨_,rfl⟩
  rw [hx] at c0 HR HC
  obtain ⟨o,ho⟩:∃o,numL 999999999 x.data.toList=o:=⟨_,rfl⟩
  rw [ho] at HR HC
  unfold numV at HC
  clear hx ho
  go_enter Tryz.func42,Tryz.ntmps42
  go_wp2_with (first|(go_at_call 77;refine HC.out.mono ?_;rintro e w1 ⟨rfl,rfl⟩))
  go_ret2
  rw [HR.out]
  exact ⟨rfl,rfl⟩
 ·have hz:(ws.length:Int)≤(i:Int):=by omega
  have HR:Hid (smallR ((ws.map (·.data.toList))[i]?)=none):=by
   show _=_
   rw [List.getElem?_eq_none (by rw [List.length_map];omega)]
   rfl
  clear hs ht h
  go_enter Tryz.func42,Tryz.ntmps42
  go_wp2_with fail
  go_ret2
  rw [HR.out]
  exact ⟨rfl,rfl⟩
end
section
open Go.RowKit Go.Lib
def bareX (k:Int) (tp ka kb:ByteArray) (fi st nm:Int):Ex:=⟨k,tp,ka,kb,fi,none,0,[],none,0,[],none,0,[],st,nm⟩
def EnR (w:World) (o:Option En) (e:Ending) (w':World):Prop :=
 (∃(y:Ex) (ok:Bool),e=.returned (.tuple #[aggEx y,.bool ok])∧(ok=true→OwnQ w.heap.size y w')∧o=if ok=true then some y.en else none)∧Below w.heap.size w w'
theorem pw_val {w w':World} {ls:List (List UInt8)} {e:Ending} (h:PwPost w ls e w'):∃(up:Option Addr) (uc:Nat) (fo:List Fx) (c:Int),e=.returned (.tuple #[.slice up fo.length uc,.int .i64 c])∧OwnXs w.heap.size w' (.slice up fo.length uc) fo∧FitX fo∧valR ls=(if c=0 then some (fo.map Fx.fld) else none)∧Below w.heap.size w w':=by
 obtain ⟨h|⟨fs,hfs,u,o,he,ho,hm⟩,hb⟩:=h
 ·exact ⟨none,0,[],4,h.2,(own_noneX _ _).1,⟨Nat.zero_le _,fun x hx=>by simp at hx⟩,by unfold valR;rw [h.1];rfl,hb⟩
 ·obtain ⟨up,uc,rfl⟩:=shapeX ho
  refine ⟨up,uc,o,codeF fs,he,ho,ans_fit hm,?_,hb⟩
  unfold valR
  rw [hfs,Option.bind_some,hm]
theorem tw_prd {w w':World} {ls:List (List UInt8)} {e:Ending} (h:TWPost w (termsW ls) e w'):∃(up:Option Addr) (uc:Nat) (po:List Tm) (c:Int),e=.returned (.tuple #[.slice up po.length uc,.int .i64 c])∧KM.Own w.heap.size w' (.slice up po.length uc) po∧FitM po∧prdR ls=(if c=0 then some po else none)∧Below w.heap.size w w':=by
 obtain ⟨⟨u,he,ho⟩,hb⟩:=h
 obtain ⟨up,uc,rfl⟩:=Kind.own_shape ho
 exact ⟨up,uc,_,_,he,ho,fitM_ans _,rfl,hb⟩
theorem ew_eds {w w':World} {ls:List (List UInt8)} {e:Ending} (h:EWPost w (editsW ls) e w'):∃(up:Option Addr) (uc:Nat) (eo:List Ed) (c:Int),e=.returned (.tuple #[.slice up eo.length uc,.int .i64 c])∧KE.Own w.heap.size w' (.slice up eo.length uc) eo∧FitE eo∧edsR ls=(if c=0 then some eo else none)∧Below w.heap.size w w':=by
 obtain ⟨⟨u,he,ho⟩,hb⟩:=h
 obtain ⟨up,uc,rfl⟩:=Kind.own_shape ho
 exact ⟨up,uc,_,_,he,ho,fitE_ans _,rfl,hb⟩
structure RsSt (w:World) (B R:Nat) (V:World) (y:Ex):Prop where
 box:V.heap[B]? = some (.cells #[.int .i64 y.kind,.string y.temp,.string y.ka,.string y.kb,.int .i64 y.iff,.slice y.vp y.vo.length y.vc,.slice y.ep y.eo.length y.ec,.slice y.pp y.po.length y.pc,.int .u64 y.stamp,.int .i64 y.num] 42 (0,0))
 res:V.heap[R]? = some (.cells #[.int .i64 0,.string ⟨#[]⟩,.string ⟨#[]⟩,.string ⟨#[]⟩,.int .i64 0,.slice none 0 0,.slice none 0 0,.slice none 0 0,.int .u64 0,.int .i64 0] 42 (0,0))
 own:OwnQ w.heap.size y V
 bel:Below w.heap.size w V
 hB:w.heap.size≤B
 hR:w.heap.size≤R
 hne:B≠R
section
variable {w V:World} {B R:Nat} {y z:Ex}
theorem RsSt.size (h:RsSt w B R V y):B<V.heap.size∧R<V.heap.size:=⟨(Array.getElem?_eq_some_iff.1 h.box).1,(Array.getElem?_eq_some_iff.1 h.res).1⟩
theorem RsSt.on {V1:World} (h:RsSt w B R V y) (hb:Below V.heap.size V V1):RsSt w B R V1 y :=
 ⟨(hb.block _ h.size.1).trans h.box,(hb.block _ h.size.2).trans h.res,h.own.on hb,h.bel.trans (hb.mono h.bel.size),h.hB,h.hR,h.hne⟩
theorem RsSt.turn (h:RsSt w B R V y) (i:Nat) (u:Value) (ho:OwnQ w.heap.size z V) (he:#[.int .i64 z.kind,.string z.temp,.string z.ka,.string z.kb,.int .i64 z.iff,.slice z.vp z.vo.length z.vc,.slice z.ep z.eo.length z.ec,.slice z.pp z.po.length z.pc,.int .u64 z.stamp,.int .i64 z.num]=(#[.int .i64 y.kind,.string y.temp,.string y.ka,.string y.kb,.int .i64 y.iff,.slice y.vp y.vo.length y.vc,.slice y.ep y.eo.length y.ec,.slice y.pp y.po.length y.pc,.int .u64 y.stamp,.int .i64 y.num]).setIfInBounds i u):RsSt w B R (V.setCell ⟨B,i,none⟩ u) z:=by
 have f:=fr_setE V B i u
 refine ⟨by rw [he];exact heap_setCell_same _ _ i _ _ _ h.box,(heap_setCell_other _ _ _ _ (by show R≠B;exact fun q=>h.hne q.symm)).trans h.res,ho.fr h.box f,h.bel.trans (f.below h.bel.size fun k hk=>by rw [hk];exact h.hB),h.hB,h.hR,h.hne⟩
theorem RsSt.cells (h:RsSt w B R V y):V.cell? ⟨B,0,none⟩=some (.int .i64 y.kind)∧V.cell? ⟨B,1,none⟩=some (.string y.temp)∧V.cell? ⟨B,2,none⟩=some (.string y.ka)∧V.cell? ⟨B,3,none⟩=some (.string y.kb)∧V.cell? ⟨B,4,none⟩=some (.int .i64 y.iff)∧V.cell? ⟨B,5,none⟩=some (.slice y.vp y.vo.length y.vc)∧V.cell? ⟨B,6,none⟩=some (.slice y.ep y.eo.length y.ec)∧V.cell? ⟨B,7,none⟩=some (.slice y.pp y.po.length y.pc)∧V.cell? ⟨B,8,none⟩=some (.int .u64 y.stamp)∧V.cell? ⟨B,9,none⟩=some (.int .i64 y.num):=by
 refine ⟨?_,?_,?_,?_,?_,?_,?_,?_,?_,?_⟩<;>(rw [Lib.cell_of_heap h.box];rfl)
theorem RsSt.free (h:RsSt w B R V y) (i:Nat):V.frozen? ⟨R,i,none⟩=false:=Lib.frozen_of_heap h.res i
theorem RsSt.open (h:RsSt w B R V y) (i:Nat):V.frozen? ⟨B,i,none⟩=false:=Lib.frozen_of_heap h.box i
theorem RsSt.fin (h:RsSt w B R V y) (W:World) (hW:((((((((((V.setCell ⟨R,0,none⟩ (.int .i64 y.kind)).setCell ⟨R,1,none⟩ (.string y.temp)).setCell ⟨R,2,none⟩ (.string y.ka)).setCell ⟨R,3,none⟩ (.string y.kb)).setCell ⟨R,4,none⟩ (.int .i64 y.iff)).setCell ⟨R,5,none⟩ (.slice y.vp y.vo.length y.vc)).setCell ⟨R,6,none⟩ (.slice y.ep y.eo.length y.ec)).setCell ⟨R,7,none⟩ (.slice y.pp y.po.length y.pc)).setCell ⟨R,8,none⟩ (.int .u64 y.stamp)).setCell ⟨R,9,none⟩ (.int .i64 y.num))=W):(W.cell? ⟨R,0,none⟩=some (.int .i64 y.kind)∧W.cell? ⟨R,1,none⟩=some (.string y.temp)∧W.cell? ⟨R,2,none⟩=some (.string y.ka)∧W.cell? ⟨R,3,none⟩=some (.string y.kb)∧W.cell? ⟨R,4,none⟩=some (.int .i64 y.iff)∧W.cell? ⟨R,5,none⟩=some (.slice y.vp y.vo.length y.vc)∧W.cell? ⟨R,6,none⟩=some (.slice y.ep y.eo.length y.ec)∧W.cell? ⟨R,7,none⟩=some (.slice y.pp y.po.length y.pc)∧W.cell? ⟨R,8,none⟩=some (.int .u64 y.stamp)∧W.cell? ⟨R,9,none⟩=some (.int .i64 y.num))∧OwnQ w.heap.size y W∧Below w.heap.size w W:=by
 obtain ⟨h1,f⟩:=store_tenV h.res W hW
 refine ⟨?_,h.own.fr h.res f,h.bel.trans (f.below h.bel.size fun k hk=>by rw [hk];exact h.hR)⟩
 refine ⟨?_,?_,?_,?_,?_,?_,?_,?_,?_,?_⟩<;>(rw [Lib.cell_of_heap h1];rfl)
end
section
variable {w V:World} {B R:Nat} {y:Ex}
theorem RsSt.range (h:RsSt w B R V y):V.rangeAt B 0 [.int .i64 y.kind,.string y.temp,.string y.ka,.string y.kb,.int .i64 y.iff,.slice y.vp y.vo.length y.vc,.slice y.ep y.eo.length y.ec,.slice y.pp y.po.length y.pc,.int .u64 y.stamp,.int .i64 y.num]:=fun j v hv=>by
 rw [Nat.zero_add,Lib.cell_of_heap h.box]
 simpa using hv
theorem RsSt.there (h:RsSt w B R V y):V.there R 0 10:=fun j hj=>by
 refine ⟨?_,by rw [Nat.zero_add];exact h.free j⟩
 rw [Nat.zero_add,Lib.cell_of_heap h.res]
 have:j=0∨j=1∨j=2∨j=3∨j=4∨j=5∨j=6∨j=7∨j=8∨j=9:=by omega
 rcases this with rfl|rfl|rfl|rfl|rfl|rfl|rfl|rfl|rfl|rfl<;>rfl
end
theorem RsSt.leave {w V:World} {B R:Nat} {y z:Ex} (h:RsSt w B R V y) (W:World) (hW:((((((((((V.setCell ⟨R,0,none⟩ (.int .i64 z.kind)).setCell ⟨R,1,none⟩ (.string z.temp)).setCell ⟨R,2,none⟩ (.string z.ka)).setCell ⟨R,3,none⟩ (.string z.kb)).setCell ⟨R,4,none⟩ (.int .i64 z.iff)).setCell ⟨R,5,none⟩ (.slice z.vp z.vo.length z.vc)).setCell ⟨R,6,none⟩ (.slice z.ep z.eo.length z.ec)).setCell ⟨R,7,none⟩ (.slice z.pp z.po.length z.pc)).setCell ⟨R,8,none⟩ (.int .u64 z.stamp)).setCell ⟨R,9,none⟩ (.int .i64 z.num))=W):(W.cell? ⟨R,0,none⟩=some (.int .i64 z.kind)∧W.cell? ⟨R,1,none⟩=some (.string z.temp)∧W.cell? ⟨R,2,none⟩=some (.string z.ka)∧W.cell? ⟨R,3,none⟩=some (.string z.kb)∧W.cell? ⟨R,4,none⟩=some (.int .i64 z.iff)∧W.cell? ⟨R,5,none⟩=some (.slice z.vp z.vo.length z.vc)∧W.cell? ⟨R,6,none⟩=some (.slice z.ep z.eo.length z.ec)∧W.cell? ⟨R,7,none⟩=some (.slice z.pp z.po.length z.pc)∧W.cell? ⟨R,8,none⟩=some (.int .u64 z.stamp)∧W.cell? ⟨R,9,none⟩=some (.int .i64 z.num))∧(OwnQ w.heap.size z V→OwnQ w.heap.size z W)∧Below w.heap.size w W∧(W.cell? ⟨B,0,none⟩=some (.int .i64 y.kind)∧W.cell? ⟨B,1,none⟩=some (.string y.temp)∧W.cell? ⟨B,2,none⟩=some (.string y.ka)∧W.cell? ⟨B,3,none⟩=some (.string y.kb)∧W.cell? ⟨B,4,none⟩=some (.int .i64 y.iff)∧W.cell? ⟨B,5,none⟩=some (.slice y.vp y.vo.length y.vc)∧W.cell? ⟨B,6,none⟩=some (.slice y.ep y.eo.length y.ec)∧W.cell? ⟨B,7,none⟩=some (.slice y.pp y.po.length y.pc)∧W.cell? ⟨B,8,none⟩=some (.int .u64 y.stamp)∧W.cell? ⟨B,9,none⟩=some (.int .i64 y.num)):=by
 obtain ⟨h1,f⟩:=store_tenV h.res W hW
 have hb:W.heap[B]? = _:=(f.block B h.size.1 h.hne).trans h.box
 refine ⟨?_,fun ho=>ho.fr h.res f,h.bel.trans (f.below h.bel.size fun k hk=>by rw [hk];exact h.hR),?_⟩
 ·refine ⟨?_,?_,?_,?_,?_,?_,?_,?_,?_,?_⟩<;>(rw [Lib.cell_of_heap h1];rfl)
 ·refine ⟨?_,?_,?_,?_,?_,?_,?_,?_,?_,?_⟩<;>(rw [Lib.cell_of_heap hb];rfl)
theorem rs_start {w:World} {y:Ex} (ho:OwnQ w.heap.size y w):RsSt w w.heap.size (w.heap.size+1) ((w.alloc (.cells #[.int .i64 y.kind,.string y.temp,.string y.ka,.string y.kb,.int .i64 y.iff,.slice y.vp y.vo.length y.vc,.slice y.ep y.eo.length y.ec,.slice y.pp y.po.length y.pc,.int .u64 y.stamp,.int .i64 y.num] 42)).alloc (.cells #[.int .i64 0,.string ⟨#[]⟩,.string ⟨#[]⟩,.string ⟨#[]⟩,.int .i64 0,.slice none 0 0,.slice none 0 0,.slice none 0 0,.int .u64 0,.int .i64 0] 42)) y:=by
 have hb:Below w.heap.size w ((w.alloc (.cells #[.int .i64 y.kind,.string y.temp,.string y.ka,.string y.kb,.int .i64 y.iff,.slice y.vp y.vo.length y.vc,.slice y.ep y.eo.length y.ec,.slice y.pp y.po.length y.pc,.int .u64 y.stamp,.int .i64 y.num] 42)).alloc (.cells #[.int .i64 0,.string ⟨#[]⟩,.string ⟨#[]⟩,.string ⟨#[]⟩,.int .i64 0,.slice none 0 0,.slice none 0 0,.slice none 0 0,.int .u64 0,.int .i64 0] 42)):=((Below.refl _ _).alloc (Nat.le_refl _) _).alloc (by simp) _
 exact ⟨(Below.heap_alloc _ _ _ (by simp)).trans (heap_alloc_new w _),by have:=heap_alloc_new (w.alloc (.cells #[.int .i64 y.kind,.string y.temp,.string y.ka,.string y.kb,.int .i64 y.iff,.slice y.vp y.vo.length y.vc,.slice y.ep y.eo.length y.ec,.slice y.pp y.po.length y.pc,.int .u64 y.stamp,.int .i64 y.num] 42)) (.cells #[.int .i64 0,.string ⟨#[]⟩,.string ⟨#[]⟩,.string ⟨#[]⟩,.int .i64 0,.slice none 0 0,.slice none 0 0,.slice none 0 0,.int .u64 0,.int .i64 0] 42);simpa using this,ho.on hb,hb,Nat.le_refl _,by omega,by omega⟩
theorem cut_while {q:List UInt8}:∀(i:Nat) (l:List (List UInt8)),(∀z∈l.take i,z≠q)→l[i]? = some q→(l.takeWhile fun x=>decide (x≠q))=l.take i∧(l.dropWhile fun x=>decide (x≠q)).drop 1=l.drop (i+1)∧q∈l
 | 0,[],_,h=>by simp at h
 | 0,x::l,_,h=>by
  have:x=q:=by simpa using h
  subst this
  simp
 | i+1,[],_,h=>by simp at h
 | i+1,x::l,h1,h2=>by
  have hx:x≠q:=h1 x (by simp)
  obtain ⟨a,b,c⟩:=cut_while i l (fun z hz=>h1 z (by simp [hz])) (by simpa using h2)
  refine ⟨?_,?_,by simp [c]⟩
  ·rw [List.takeWhile_cons_of_pos (by simpa using hx),List.take_succ_cons,a]
  ·rw [List.dropWhile_cons_of_pos (by simpa using hx),b,List.drop_succ_cons]
theorem txt_drop {w:World} {p:Option Addr} {ws:List ByteArray} (h:TxtAt w p ws) {b off:Nat} (hp:p=some ⟨b,off,none⟩) (n:Nat):TxtAt w (some ⟨b,off+n,none⟩) (ws.drop n):=by
 rcases h with h|⟨b',off',h1,h2⟩
 ·left;rw [h];simp
 ·rw [hp] at h1
  cases h1
  refine Or.inr ⟨_,_,rfl,fun i hi=>?_⟩
  rw [List.length_drop] at hi
  have q:=h2 (n+i) (by omega)
  rw [Nat.add_assoc,q]
  simp
theorem txt_take {w:World} {p:Option Addr} {ws:List ByteArray} (h:TxtAt w p ws) (n:Nat):TxtAt w p (ws.take n):=by
 rcases h with h|⟨b',off',h1,h2⟩
 ·left;rw [h];simp
 ·refine Or.inr ⟨_,_,h1,fun i hi=>?_⟩
  rw [List.length_take] at hi
  rw [h2 i (by omega)]
  simp
theorem txt_on {w w':World} {p:Option Addr} {ws:List ByteArray} (h:TxtAt w p ws) (hb:Below w.heap.size w w'):TxtAt w' p ws:=by
 rcases h with h|⟨b,off,h1,h2⟩
 ·exact Or.inl h
 ·exact Or.inr ⟨b,off,h1,fun i hi=>kept hb (h2 i hi)⟩
end
end Go.Proofs.YtjeogllmpjihaaaGreatDoor
