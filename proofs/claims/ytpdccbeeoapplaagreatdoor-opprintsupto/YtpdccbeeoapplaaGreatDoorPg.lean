/-
  Texts of this claim, one behind the other: Krf Krk Opy Opq Oqm Oqu Oqy Ora Orb Orc Orx.
-/
import Derived.Test.YtpdccbeeoapplaaGreatDoorPf
namespace Go.Proofs.YtpdccbeeoapplaaGreatDoor
section
open Go.RowKit
set_option maxHeartbeats 1000000 in
theorem rtype_any (s : ByteArray) (w : World) (hs : s.size ≤ maxLen) :
    Calls Tryz.prog 72 #[.string s] w fun e w' => e = .returned (.bool (typeB s.data.toList)) ∧ w' = w := by
  unfold maxLen at hs
  have HE := hid (spell_empty bigB letB s)
  have HG := hid (spell_long bigB letB s)
  have HF := hid (spell_first bigB letB s)
  have HA := hid (spell_at bigB letB s)
  have HT := hid (spell_true bigB letB s)
  have HB : Hid (typeB s.data.toList = spell bigB letB s.data.toList) := rfl
  go_enter Tryz.func72, Tryz.ntmps72
  go_wp2
  go_loop [3] (fun i => ∃ k : Nat, k ≤ s.size ∧ i = .int .i64 k ∧ (∀ j, j < k → (hj : j < s.size) → (j = 0 → bigB (s[j].toNat : Int) = true) ∧ (1 ≤ j → letB (s[j].toNat : Int) = true))) (fun i => s.size - (intOf i).toNat)
  case atStart => exact ⟨0, by omega, rfl, fun j h => by omega⟩
  case round =>
    obtain ⟨k, hk, rfl, hall⟩ := hrel
    have HL := hid hall
    clear hall
    by_cases hlt : k < s.size
    · rcases Nat.eq_zero_or_pos k with h0 | h0
      · have HZ := hid h0
        have hz : ((k : Int) == 0) = true := by rw [h0]; rfl
        clear h0
        rcases cls_cases (s[k].toNat : Int) with h | h | h | h | h
        all_goals
          have HC := hid h
          clear h
          go_wp2_with (go_at_call 116; refine (class_any _ _).mono ?_; rintro e w' ⟨rfl, rfl⟩; rw [HC.out.1])
          first
          | (go_ret; exact ⟨ret_bool (by rw [HB.out]; have hz' := HZ.out; subst hz'; exact (HF.out hlt (by first | exact HC.out.2.1 | exact HC.out.2.2.1 | exact HC.out.2.2.2.2.1 | exact HC.out.2.2.2.2.2)).symm), rfl⟩)
          | (go_round
             case rel =>
               refine ⟨k + 1, by omega, by go_num, fun j h1 hj => ?_⟩
               have hz' := HZ.out
               have hj0 : j = k := by omega
               subst hj0
               exact ⟨fun _ => (by first | exact HC.out.2.1 | exact HC.out.2.2.1 | exact HC.out.2.2.2.2.1 | exact HC.out.2.2.2.2.2), fun _ => by omega⟩
             case measure => simp [intOf]; omega)
      · have HZ := hid h0
        have hz : ((k : Int) == 0) = false := by rw [beq_eq_false_iff_ne]; omega
        clear h0
        rcases cls_cases (s[k].toNat : Int) with h | h | h | h | h
        all_goals
          have HC := hid h
          clear h
          go_wp2_with (go_at_call 116; refine (class_any _ _).mono ?_; rintro e w' ⟨rfl, rfl⟩; rw [HC.out.1])
          first
          | (go_ret; exact ⟨ret_bool (by rw [HB.out]; exact (HA.out k HZ.out hlt (by first | exact HC.out.2.2.2.1 | exact HC.out.2.2.2.2.1 | exact HC.out.2.2.2.2.2)).symm), rfl⟩)
          | (go_round
             case rel =>
               refine ⟨k + 1, by omega, by go_num, fun j h1 hj => ?_⟩
               by_cases hjk : j = k
               · subst hjk
                 exact ⟨fun e => by have := HZ.out; omega, fun _ => (by first | exact HC.out.2.2.2.1 | exact HC.out.2.2.2.2.1 | exact HC.out.2.2.2.2.2)⟩
               · exact HL.out j (by omega) hj
             case measure => simp [intOf]; omega)
    · have hks : k = s.size := by omega
      rcases Nat.eq_zero_or_pos s.size with hz | hz
      · have hn : ¬ (0 : Int) < (s.size : Int) := by omega
        have HZ := hid hz
        clear hz hks
        go_wp2_with fail
        go_ret
        exact ⟨ret_bool (by rw [HB.out]; exact (HE.out HZ.out).symm), rfl⟩
      · have hn : (0 : Int) < (s.size : Int) := by omega
        by_cases hm : s.size ≤ 32
        · have hm' : (s.size : Int) ≤ 32 := by omega
          have HK := hid hks
          clear hks
          go_wp2_with fail
          go_ret
          refine ⟨ret_bool (by rw [HB.out]; exact (HT.out hz hm ((HL.out 0 (by have := HK.out; omega) hz).1 rfl) (fun j h1 hj => (HL.out j (by have := HK.out; omega) hj).2 h1)).symm), rfl⟩
        · have hm' : ¬ (s.size : Int) ≤ 32 := by omega
          clear hks
          go_wp2_with fail
          go_ret
          exact ⟨ret_bool (by rw [HB.out]; exact (HG.out (by omega)).symm), rfl⟩
set_option maxHeartbeats 1000000 in
theorem riden_any (s : ByteArray) (w : World) (hs : s.size ≤ maxLen) :
    Calls Tryz.prog 117 #[.string s] w fun e w' => e = .returned (.bool (idenB s.data.toList)) ∧ w' = w := by
  unfold maxLen at hs
  have HE := hid (spell_empty idB idB s)
  have HG := hid (spell_long idB idB s)
  have HF := hid (spell_first idB idB s)
  have HA := hid (spell_at idB idB s)
  have HT := hid (spell_true idB idB s)
  have HB : Hid (idenB s.data.toList = spell idB idB s.data.toList) := rfl
  go_enter Tryz.func117, Tryz.ntmps117
  go_wp2
  go_loop [3] (fun i => ∃ k : Nat, k ≤ s.size ∧ i = .int .i64 k ∧ (∀ j, j < k → (hj : j < s.size) → (j = 0 → idB (s[j].toNat : Int) = true) ∧ (1 ≤ j → idB (s[j].toNat : Int) = true))) (fun i => s.size - (intOf i).toNat)
  case atStart => exact ⟨0, by omega, rfl, fun j h => by omega⟩
  case round =>
    obtain ⟨k, hk, rfl, hall⟩ := hrel
    have HL := hid hall
    clear hall
    by_cases hlt : k < s.size
    · rcases Nat.eq_zero_or_pos k with h0 | h0
      · have HZ := hid h0
        have hz : ((k : Int) == 0) = true := by rw [h0]; rfl
        clear h0
        rcases cls_cases (s[k].toNat : Int) with h | h | h | h | h
        all_goals
          have HC := hid h
          clear h
          go_wp2_with (go_at_call 116; refine (class_any _ _).mono ?_; rintro e w' ⟨rfl, rfl⟩; rw [HC.out.1])
          first
          | (go_ret; exact ⟨ret_bool (by rw [HB.out]; have hz' := HZ.out; subst hz'; exact (HF.out hlt (by first | exact HC.out.2.1 | exact HC.out.2.2.1 | exact HC.out.2.2.2.2.1 | exact HC.out.2.2.2.2.2)).symm), rfl⟩)
          | (go_round
             case rel =>
               refine ⟨k + 1, by omega, by go_num, fun j h1 hj => ?_⟩
               have hz' := HZ.out
               have hj0 : j = k := by omega
               subst hj0
               exact ⟨fun _ => (by first | exact HC.out.2.1 | exact HC.out.2.2.1 | exact HC.out.2.2.2.2.1 | exact HC.out.2.2.2.2.2), fun _ => by omega⟩
             case measure => simp [intOf]; omega)
      · have HZ := hid h0
        have hz : ((k : Int) == 0) = false := by rw [beq_eq_false_iff_ne]; omega
        clear h0
        rcases cls_cases (s[k].toNat : Int) with h | h | h | h | h
        all_goals
          have HC := hid h
          clear h
          go_wp2_with (go_at_call 116; refine (class_any _ _).mono ?_; rintro e w' ⟨rfl, rfl⟩; rw [HC.out.1])
          first
          | (go_ret; exact ⟨ret_bool (by rw [HB.out]; exact (HA.out k HZ.out hlt (by first | exact HC.out.2.2.2.1 | exact HC.out.2.2.2.2.1 | exact HC.out.2.2.2.2.2)).symm), rfl⟩)
          | (go_round
             case rel =>
               refine ⟨k + 1, by omega, by go_num, fun j h1 hj => ?_⟩
               by_cases hjk : j = k
               · subst hjk
                 exact ⟨fun e => by have := HZ.out; omega, fun _ => (by first | exact HC.out.2.2.2.1 | exact HC.out.2.2.2.2.1 | exact HC.out.2.2.2.2.2)⟩
               · exact HL.out j (by omega) hj
             case measure => simp [intOf]; omega)
    · have hks : k = s.size := by omega
      rcases Nat.eq_zero_or_pos s.size with hz | hz
      · have hn : ¬ (0 : Int) < (s.size : Int) := by omega
        have HZ := hid hz
        clear hz hks
        go_wp2_with fail
        go_ret
        exact ⟨ret_bool (by rw [HB.out]; exact (HE.out HZ.out).symm), rfl⟩
      · have hn : (0 : Int) < (s.size : Int) := by omega
        by_cases hm : s.size ≤ 32
        · have hm' : (s.size : Int) ≤ 32 := by omega
          have HK := hid hks
          clear hks
          go_wp2_with fail
          go_ret
          refine ⟨ret_bool (by rw [HB.out]; exact (HT.out hz hm ((HL.out 0 (by have := HK.out; omega) hz).1 rfl) (fun j h1 hj => (HL.out j (by have := HK.out; omega) hj).2 h1)).symm), rfl⟩
        · have hm' : ¬ (s.size : Int) ≤ 32 := by omega
          clear hks
          go_wp2_with fail
          go_ret
          exact ⟨ret_bool (by rw [HB.out]; exact (HG.out (by omega)).symm), rfl⟩
set_option maxHeartbeats 1000000 in
theorem rtemp_any (s : ByteArray) (w : World) (hs : s.size ≤ maxLen) :
    Calls Tryz.prog 74 #[.string s] w fun e w' => e = .returned (.bool (tempB s.data.toList)) ∧ w' = w := by
  unfold maxLen at hs
  have HE := hid (spell_empty lodB lodB s)
  have HG := hid (spell_long lodB lodB s)
  have HF := hid (spell_first lodB lodB s)
  have HA := hid (spell_at lodB lodB s)
  have HT := hid (spell_true lodB lodB s)
  have HB : Hid (tempB s.data.toList = spell lodB lodB s.data.toList) := rfl
  go_enter Tryz.func74, Tryz.ntmps74
  go_wp2
  go_loop [3] (fun i => ∃ k : Nat, k ≤ s.size ∧ i = .int .i64 k ∧ (∀ j, j < k → (hj : j < s.size) → (j = 0 → lodB (s[j].toNat : Int) = true) ∧ (1 ≤ j → lodB (s[j].toNat : Int) = true))) (fun i => s.size - (intOf i).toNat)
  case atStart => exact ⟨0, by omega, rfl, fun j h => by omega⟩
  case round =>
    obtain ⟨k, hk, rfl, hall⟩ := hrel
    have HL := hid hall
    clear hall
    by_cases hlt : k < s.size
    · rcases Nat.eq_zero_or_pos k with h0 | h0
      · have HZ := hid h0
        have hz : ((k : Int) == 0) = true := by rw [h0]; rfl
        clear h0
        rcases cls_cases (s[k].toNat : Int) with h | h | h | h | h
        all_goals
          have HC := hid h
          clear h
          go_wp2_with (go_at_call 116; refine (class_any _ _).mono ?_; rintro e w' ⟨rfl, rfl⟩; rw [HC.out.1])
          first
          | (go_ret; exact ⟨ret_bool (by rw [HB.out]; have hz' := HZ.out; subst hz'; exact (HF.out hlt (by first | exact HC.out.2.1 | exact HC.out.2.2.1 | exact HC.out.2.2.2.2.1 | exact HC.out.2.2.2.2.2)).symm), rfl⟩)
          | (go_round
             case rel =>
               refine ⟨k + 1, by omega, by go_num, fun j h1 hj => ?_⟩
               have hz' := HZ.out
               have hj0 : j = k := by omega
               subst hj0
               exact ⟨fun _ => (by first | exact HC.out.2.1 | exact HC.out.2.2.1 | exact HC.out.2.2.2.2.1 | exact HC.out.2.2.2.2.2), fun _ => by omega⟩
             case measure => simp [intOf]; omega)
      · have HZ := hid h0
        have hz : ((k : Int) == 0) = false := by rw [beq_eq_false_iff_ne]; omega
        clear h0
        rcases cls_cases (s[k].toNat : Int) with h | h | h | h | h
        all_goals
          have HC := hid h
          clear h
          go_wp2_with (go_at_call 116; refine (class_any _ _).mono ?_; rintro e w' ⟨rfl, rfl⟩; rw [HC.out.1])
          first
          | (go_ret; exact ⟨ret_bool (by rw [HB.out]; exact (HA.out k HZ.out hlt (by first | exact HC.out.2.2.2.1 | exact HC.out.2.2.2.2.1 | exact HC.out.2.2.2.2.2)).symm), rfl⟩)
          | (go_round
             case rel =>
               refine ⟨k + 1, by omega, by go_num, fun j h1 hj => ?_⟩
               by_cases hjk : j = k
               · subst hjk
                 exact ⟨fun e => by have := HZ.out; omega, fun _ => (by first | exact HC.out.2.2.2.1 | exact HC.out.2.2.2.2.1 | exact HC.out.2.2.2.2.2)⟩
               · exact HL.out j (by omega) hj
             case measure => simp [intOf]; omega)
    · have hks : k = s.size := by omega
      rcases Nat.eq_zero_or_pos s.size with hz | hz
      · have hn : ¬ (0 : Int) < (s.size : Int) := by omega
        have HZ := hid hz
        clear hz hks
        go_wp2_with fail
        go_ret
        exact ⟨ret_bool (by rw [HB.out]; exact (HE.out HZ.out).symm), rfl⟩
      · have hn : (0 : Int) < (s.size : Int) := by omega
        by_cases hm : s.size ≤ 32
        · have hm' : (s.size : Int) ≤ 32 := by omega
          have HK := hid hks
          clear hks
          go_wp2_with fail
          go_ret
          refine ⟨ret_bool (by rw [HB.out]; exact (HT.out hz hm ((HL.out 0 (by have := HK.out; omega) hz).1 rfl) (fun j h1 hj => (HL.out j (by have := HK.out; omega) hj).2 h1)).symm), rfl⟩
        · have hm' : ¬ (s.size : Int) ≤ 32 := by omega
          clear hks
          go_wp2_with fail
          go_ret
          exact ⟨ret_bool (by rw [HB.out]; exact (HG.out (by omega)).symm), rfl⟩
end
section
open Go.RowKit
set_option maxHeartbeats 400000 in
theorem rkey_any (a b:ByteArray) (w:World) (ha:a.size≤maxLen) (hb:b.size≤maxLen) :
  Calls Tryz.prog 73 #[.agg #[.string a,.string b]] w fun e w'=>e=.returned (.bool (keyB a b))∧Below w.heap.size w w':=by
 have HK:Hid (keyB a b=(typeB a.data.toList&&idenB b.data.toList)):=rfl
 cases ht:typeB a.data.toList
 all_goals
  go_enter Tryz.func73,Tryz.ntmps73
  go_wp2_with (first|(go_at_call 72;refine (rtype_any _ _ ha).mono ?_;rintro e w' ⟨rfl,rfl⟩)|(go_at_call 117;refine (riden_any _ _ hb).mono ?_;rintro e w' ⟨rfl,rfl⟩))
  go_ret
  exact ⟨ret_bool (by rw [HK.out,ht];rfl),(Below.refl _ _).alloc (Nat.le_refl _) _⟩
end
section
open Go.RowKit
structure MayK (w:World) (N:Nat) (x:Ex) (W:World):Prop where
 box:W.heap[N]? = some (.cells (encEx x).toArray 41)
 lt:N<W.heap.size
 bel:Below w.heap.size w W
 ex:ExIn W x
theorem MayK.on {w W W':World} {N:Nat} {x:Ex} (h:MayK w N x W) (hb:Below W.heap.size W W'):MayK w N x W' :=
 ⟨(hb.block N h.lt).trans h.box,Nat.lt_of_lt_of_le h.lt hb.size,bel_then h.bel h.bel.size hb,h.ex.on hb⟩
theorem MayK.cells {w W:World} {N:Nat} {x:Ex} (h:MayK w N x W) :
  W.cell? ⟨N,0,none⟩=some (.int .i64 x.kind)∧W.cell? ⟨N,1,none⟩=some (.string x.temp)∧W.cell? ⟨N,2,none⟩=some (.string x.ka)∧W.cell? ⟨N,3,none⟩=some (.string x.kb)∧W.cell? ⟨N,4,none⟩=some (.int .i64 x.iff)∧W.cell? ⟨N,5,none⟩=some x.vs∧W.cell? ⟨N,6,none⟩=some x.es∧W.cell? ⟨N,7,none⟩=some x.ps∧W.cell? ⟨N,8,none⟩=some (.int .u64 x.stamp)∧W.cell? ⟨N,9,none⟩=some (.int .i64 x.num):=by
 refine ⟨?_,?_,?_,?_,?_,?_,?_,?_,?_,?_⟩<;>(rw [Lib.cell_of_heap h.box];rfl)
theorem mayK_new {w:World} {x:Ex} (h:ExIn w x):MayK w w.heap.size x (w.alloc (.cells (encEx x).toArray 41)) :=
 ⟨heap_alloc_new w _,by simp,(Below.refl _ _).alloc (Nat.le_refl _) _,h.on ((Below.refl _ _).alloc (Nat.le_refl _) _)⟩
theorem name_ne (k:Int) (h1:1≤k) (h2:k≤12):(nameS k).toList.isEmpty=false:=by
 rw [Lib.toList_data]
 unfold nameS nameK
 have:k=1∨k=2∨k=3∨k=4∨k=5∨k=6∨k=7∨k=8∨k=9∨k=10∨k=11∨k=12:=by omega
 rcases this with rfl|rfl|rfl|rfl|rfl|rfl|rfl|rfl|rfl|rfl|rfl|rfl<;>rfl
theorem isEmpty_no16 {s:ByteArray} (h:¬ s=⟨#[]⟩):s.toList.isEmpty=false:=by
 rw [Lib.toList_data]
 cases hq:s.data.toList with
 | nil=>exact absurd (ba_empty hq) h
 | cons _ _=>rfl
set_option maxHeartbeats 4000000 in
set_option maxRecDepth 100000 in
theorem rmay16_out (x:Ex) (w:World) (h:ExIn w x) (hr:¬ (1≤x.kind∧x.kind≤12)) :
  Calls Tryz.prog 40 #[aggEx x] w fun e w'=>e=.returned (.bool (mayEn x.en))∧Below w.heap.size w w':=by
 have HK:=hid (mayK_new h)
 have HN:=hid fun W=>rname16_no x.kind W (by omega)
 have HF:Hid (mayEn x.en=false):=by
  show _=_
  cases hm:mayEn x.en with
  | false=>rfl
  | true=>exact absurd ⟨(mayEn_parts hm).k1,(mayEn_parts hm).k2⟩ hr
 obtain ⟨c0,-⟩:=HK.out.cells
 unfold aggEx
 simp only [encEx,Ex.vs,Ex.es,Ex.ps] at HK c0 ⊢
 go_enter Tryz.func40,Tryz.ntmps40
 go_wp2_with (first|(go_at_call 41;refine (HN.out _).mono ?_;rintro e w1 ⟨rfl,q1⟩))
 go_ret
 rw [HF.out]
 exact ⟨rfl,bel_then HK.out.bel HK.out.bel.size q1⟩
end
section
open Go.RowKit Go.Lib
theorem ba_of (b:ByteArray):(⟨b.data.toList.toArray⟩:ByteArray)=b:=by obtain ⟨⟨l⟩⟩:=b;rfl
theorem conv_one (w:World) (v:Int) (c:UInt8) (h:v=((c.toNat:Nat):Int)) :
  (convert 76 9 (.slice (some ⟨w.heap.size,0,none⟩) 1 1)).run Tryz.prog (w.alloc (.cells #[.int .u8 v] 5))=.ok (.string ⟨#[c]⟩) (w.alloc (.cells #[.int .u8 v] 5)):=by
 subst h
 exact run_convert_bytes_back _ _ _ _ ⟨w.heap.size,0,none⟩ 1 [c] Tryz.underlying76 Tryz.underlying5 Tryz.underlying9 (fun j hj=>by
  obtain rfl:j=0:=by simpa using hj
  exact new_byte w _ 0 _ rfl)
set_option maxHeartbeats 4000000 in
theorem rdec16_any (m:Nat) (w:World) (hm:m≤18446744073709551615) :
  Calls Tryz.prog 45 #[.int .u64 (m:Nat)] w fun e w'=>e=.returned (.string ⟨(decL m).toArray⟩)∧Below w.heap.size w w':=by
 have HL:=hid (decL_len m 19 (by omega))
 go_enter Tryz.func45,Tryz.ntmps45
 go_wp2_with fail
 go_loopg [0,3] m (fun g v0 vs wr=>∃(n:Nat) (S:ByteArray),v0=.int .u64 (n:Nat)∧vs=.string S∧n≤m∧n≤g∧Below w.heap.size w wr∧Hid (decL m=decL n++S.data.toList))
 case atStart=>exact ⟨m,⟨#[]⟩,rfl,rfl,by omega,by omega,Below.refl _ _,by show _=_;exact (List.append_nil _).symm⟩
 case round =>
  obtain ⟨n,S,rfl,rfl,hn,hg,hb,HD⟩:=hrel
  have hsz:S.size≤20:=by
   have h1:=congrArg List.length HD.out
   have h2:=HL.out
   have h3:S.data.toList.length=S.size:=by simp
   rw [List.length_append] at h1
   omega
  have HD1:Hid (n<10→decL m=UInt8.ofNat (48+n % 10)::S.data.toList):=fun h=>by rw [HD.out,decL_one h];rfl
  have HD2:Hid (¬ n<10→decL m=decL (n / 10)++UInt8.ofNat (48+n % 10)::S.data.toList):=fun h=>by rw [HD.out,decL_more h,List.append_assoc];rfl
  have HB:=hid hb
  clear hb
  have kc:=conv_one wr (48+(n:Int) % 10) (UInt8.ofNat (48+n % 10)) (by rw [digit_nat (Nat.mod_lt _ (by omega))];omega)
  generalize UInt8.ofNat (48+n % 10)=c at *
  have HS:Hid (((⟨#[c]⟩:ByteArray)++S).data.toList=c::S.data.toList):=by
   show _=_
   rw [ByteArray.data_append]
   simp
  have HB2:Hid (Below w.heap.size w (wr.alloc (.cells #[.int .u8 (48+(n:Int) % 10)] 5))):=HB.out.alloc HB.out.size _
  by_cases h:n<10
  ·have hz:((n:Int) / 10==0)=true:=by rw [beq_iff_eq];omega
   have HF:=hid (HD1.out h)
   clear HD1 HD2
   go_wp2_with fail
   go_ret
   rw [HF.out,←HS.out,ba_of]
   exact ⟨rfl,HB2.out⟩
  ·have hz:((n:Int) / 10==0)=false:=by rw [beq_eq_false_iff_ne];omega
   have HF:=hid (HD2.out h)
   clear HD1 HD2
   go_wp2_with fail
   go_roundg (n / 10)
   case measure=>omega
   refine ⟨n / 10,⟨#[c]⟩++S,by go_num,rfl,by omega,by omega,HB2.out,?_⟩
   rw [HS.out]
   exact HF.out
end
section
open Go.RowKit Go.Lib
def normalB (p:List Tm):Bool:=decide (mayM p=0)&&decide (sortM p=p)
theorem ansM_le (p:List Tm) (h:p.length≤maxLen):(ansM p).length≤maxLen:=by
 unfold ansM
 split
 ·exact Nat.le_trans (sortM_len p) h
 ·exact Nat.zero_le _
set_option maxHeartbeats 1000000 in
theorem normal_any (v:Value) (p:List Tm) (w:World) (hv:KM.Is w v p) (hf:FitM p) :
  Calls Tryz.prog 84 #[v] w fun e w'=>e=.returned (.bool (normalB p))∧Below w.heap.size w w':=by
 have HV:=hid hv
 have HN:=hid (pnorm_any v p w hv hf)
 clear hv
 go_enter Tryz.func84,Tryz.ntmps84
 go_wp2_with fail
 refine HN.out.mono ?_
 rintro e w1 ⟨⟨u,rfl,ho⟩,hb⟩
 have HB1:=hid hb
 have HE:=hid (pequal_any u v (ansM p) p w1 (Kind.own_is ho) (Kind.is_kept HV.out hb) (ansM_le p hf.1) hf.1)
 clear ho hb
 by_cases hm:mayM p=0
 ·have HA:Hid (decide (ansM p=p)=normalB p):=hid (by unfold normalB ansM;rw [if_pos hm,hm];simp)
  have HM:=hid hm
  rw [hm]
  clear hm
  go_wp2_with (go_at_call 58;refine HE.out.mono ?_;rintro e w2 ⟨rfl,hb2⟩;have HB2:=hid hb2;clear hb2)
  go_ret
  exact ⟨by rw [←HA.out];rfl,HB1.out.trans (HB2.out.mono HB1.out.size)⟩
 ·have hq:(mayM p==0)=false:=beq_eq_false_iff_ne.2 hm
  have HA:Hid (normalB p=false):=hid (by unfold normalB;simp [hm])
  go_wp2_with fail
  go_ret
  exact ⟨by rw [HA.out];rfl,HB1.out⟩
def fitPt (e:En) (p:Nat):Bool :=
 if p=1 then decide (e.temp=⟨#[]⟩)||tempB e.temp.data.toList
 else if p=2 then keyB e.ka e.kb
 else if p=3 then typeB e.ka.data.toList&&decide (e.kb=⟨#[]⟩)
 else if p=4 then decide (0≤e.iff)&&decide (e.iff≤999999999)
 else if p=5 then mayB e.val
 else if p=7 then normalB e.pred
 else if p=8 then !e.eds.isEmpty&&decide (mayE e.eds=0)
 else if p=9 then decide (0≤e.num)&&decide (e.num≤999999999)
 else true
set_option maxHeartbeats 4000000 in
theorem opfits_any (x:Ex) (p:Nat) (w:World) (hx:ExIn w x) (h1:1≤p) (h2:p≤10) :
  Calls Tryz.prog 47 #[aggEx x,.int .i64 p] w fun e w'=>e=.returned (.bool (fitPt x.en p))∧Below w.heap.size w w':=by
 have HK:=hid (mayK_new hx)
 have HX:=hid hx
 have hm:x.temp.size≤maxLen:=hx.temp
 have ha:x.ka.size≤maxLen:=hx.ka
 have hbk:x.kb.size≤maxLen:=hx.kb
 unfold aggEx
 have HKB:=hid HK.out.bel
 have HMY:=hid (may_any x.vs x.vo _ HK.out.ex.val HK.out.ex.fit)
 have HME:=hid (pmayE_raw x.es x.eo _ HK.out.ex.eds HK.out.ex.efit)
 have HNM:=hid (normal_any x.ps x.po _ HK.out.ex.prd HK.out.ex.pfit)
 simp only [encEx,Ex.vs,Ex.es,Ex.ps] at HK HKB HMY HME HNM ⊢
 clear hx
 have hp:p=1∨p=2∨p=3∨p=4∨p=5∨p=6∨p=7∨p=8∨p=9∨p=10:=by omega
 rcases hp with rfl|rfl|rfl|rfl|rfl|rfl|rfl|rfl|rfl|rfl
 ·by_cases ht:x.temp=⟨#[]⟩
  ·have hse:x.temp.toList.isEmpty=true:=by rw [ht,toList_data];rfl
   have HE:Hid (fitPt x.en 1=true):=hid (by show (decide (x.temp=⟨#[]⟩)||tempB x.temp.data.toList)=true;rw [ht];rfl)
   clear ht
   go_enter Tryz.func47,Tryz.ntmps47
   go_wp2_with fail
   go_ret
   exact ⟨by rw [HE.out];rfl,HKB.out⟩
  ·have hse:x.temp.toList.isEmpty=false:=by
    rw [toList_data]
    cases hl:x.temp.data.toList with
    | nil=>exact absurd (ba_nil hl) ht
    | cons _ _=>rfl
   have HE:Hid (fitPt x.en 1=tempB x.temp.data.toList):=hid (by show (decide (x.temp=⟨#[]⟩)||tempB x.temp.data.toList)=_;simp [ht])
   clear ht
   go_enter Tryz.func47,Tryz.ntmps47
   go_wp2_with (go_at_call 80;refine (temp_any x.temp _ hm).mono ?_;rintro e w1 ⟨rfl,rfl⟩)
   go_ret
   exact ⟨by rw [HE.out];rfl,HKB.out⟩
 ·go_enter Tryz.func47,Tryz.ntmps47
  go_wp2_with (go_at_call 81;refine (key_any x.ka x.kb _ ha hbk).mono ?_;rintro e w1 ⟨rfl,hb1⟩;have HB1:=hid hb1;clear hb1)
  go_ret
  exact ⟨rfl,HKB.out.trans (HB1.out.mono HKB.out.size)⟩
 ·by_cases ht:x.kb=⟨#[]⟩
  ·have hse:x.kb.toList.isEmpty=true:=by rw [ht,toList_data];rfl
   have HE:Hid (fitPt x.en 3=typeB x.ka.data.toList):=hid (by show (typeB x.ka.data.toList&&decide (x.kb=⟨#[]⟩))=_;simp [ht])
   clear ht
   cases hty:typeB x.ka.data.toList
   all_goals
    go_enter Tryz.func47,Tryz.ntmps47
    go_wp2_with (go_at_call 82;refine (type_any x.ka _ ha).mono ?_;rintro e w1 ⟨rfl,rfl⟩;rw [hty])
    go_ret
    exact ⟨by rw [HE.out,hty];rfl,HKB.out⟩
  ·have hse:x.kb.toList.isEmpty=false:=by
    rw [toList_data]
    cases hl:x.kb.data.toList with
    | nil=>exact absurd (ba_nil hl) ht
    | cons _ _=>rfl
   have HE:Hid (fitPt x.en 3=false):=hid (by show (typeB x.ka.data.toList&&decide (x.kb=⟨#[]⟩))=_;simp [ht])
   clear ht
   cases hty:typeB x.ka.data.toList
   all_goals
    go_enter Tryz.func47,Tryz.ntmps47
    go_wp2_with (go_at_call 82;refine (type_any x.ka _ ha).mono ?_;rintro e w1 ⟨rfl,rfl⟩;rw [hty])
    go_ret
    exact ⟨by rw [HE.out];rfl,HKB.out⟩
 ·by_cases h0:0≤x.iff
  ·go_enter Tryz.func47,Tryz.ntmps47
   go_wp2_with fail
   go_ret
   exact ⟨by show _=Ending.returned (.bool (decide (0≤x.iff)&&decide (x.iff≤999999999)));simp [h0],HKB.out⟩
  ·have H0:=hid h0
   go_enter Tryz.func47,Tryz.ntmps47
   go_wp2_with fail
   go_ret
   exact ⟨by show _=Ending.returned (.bool (decide (0≤x.iff)&&decide (x.iff≤999999999)));have h9:¬ 0≤x.iff:=Int.not_le.2 H0.out;simp [h9],HKB.out⟩
 ·go_enter Tryz.func47,Tryz.ntmps47
  go_wp2_with (go_at_call 83;refine HMY.out.mono ?_;rintro e w1 ⟨rfl,hb1⟩;have HB1:=hid hb1.below;clear hb1)
  go_ret
  exact ⟨rfl,HKB.out.trans (HB1.out.mono HKB.out.size)⟩
 ·go_enter Tryz.func47,Tryz.ntmps47
  go_wp2_with fail
  go_ret
  exact ⟨rfl,HKB.out⟩
 ·go_enter Tryz.func47,Tryz.ntmps47
  go_wp2_with (go_at_call 84;refine HNM.out.mono ?_;rintro e w1 ⟨rfl,hb1⟩;have HB1:=hid hb1;clear hb1)
  go_ret
  exact ⟨rfl,HKB.out.trans (HB1.out.mono HKB.out.size)⟩
 ·by_cases h0:x.eo=[]
  ·have HE:Hid (fitPt x.en 8=false):=hid (by show (!x.eo.isEmpty&&decide (mayE x.eo=0))=_;rw [h0];rfl)
   have hl:¬ (0:Int)<(x.eo.length:Int):=by rw [h0];simp
   clear h0
   go_enter Tryz.func47,Tryz.ntmps47
   go_wp2_with fail
   go_ret
   exact ⟨by rw [HE.out];rfl,HKB.out⟩
  ·have hl:(0:Int)<(x.eo.length:Int):=by have:=List.length_pos_iff.2 h0;omega
   have HE:Hid (fitPt x.en 8=(mayE x.eo==0)):=hid (by
    show (!x.eo.isEmpty&&decide (mayE x.eo=0))=_
    cases hq:x.eo with
    | nil=>exact absurd hq h0
    | cons a b=>simp;rfl)
   clear h0
   go_enter Tryz.func47,Tryz.ntmps47
   go_wp2_with (go_at_call 85;refine HME.out.mono ?_;rintro e w1 ⟨rfl,hb1⟩;have HB1:=hid hb1;clear hb1)
   go_ret
   exact ⟨by rw [HE.out];rfl,HKB.out.trans (HB1.out.mono HKB.out.size)⟩
 ·by_cases h0:0≤x.num
  ·go_enter Tryz.func47,Tryz.ntmps47
   go_wp2_with fail
   go_ret
   exact ⟨by show _=Ending.returned (.bool (decide (0≤x.num)&&decide (x.num≤999999999)));simp [h0],HKB.out⟩
  ·have H0:=hid h0
   go_enter Tryz.func47,Tryz.ntmps47
   go_wp2_with fail
   go_ret
   exact ⟨by show _=Ending.returned (.bool (decide (0≤x.num)&&decide (x.num≤999999999)));have h9:¬ 0≤x.num:=Int.not_le.2 H0.out;simp [h9],HKB.out⟩
 ·go_enter Tryz.func47,Tryz.ntmps47
  go_wp2_with fail
  go_ret
  exact ⟨rfl,HKB.out⟩
def wout (x:Ex) (p:Nat):Ex :=
 if p=1 then { x with temp:=⟨#[]⟩ }
 else if p=2∨p=3 then { x with ka:=⟨#[]⟩,kb:=⟨#[]⟩ }
 else if p=4 then { x with iff:=0 }
 else if p=5 then { x with vp:=none,vc:=0,vo:=[] }
 else if p=7 then { x with pp:=none,pc:=0,po:=[] }
 else if p=8 then { x with ep:=none,ec:=0,eo:=[] }
 else if p=9 then { x with num:=0 }
 else if p=10 then { x with stamp:=0 }
 else x
theorem w0_facts (w:World) (x:Ex) (W:World) (h:((w.alloc (.cells #[.int .i64 x.kind,.string x.temp,.string x.ka,.string x.kb,.int .i64 x.iff,.slice x.vp x.vo.length x.vc,.slice x.ep x.eo.length x.ec,.slice x.pp x.po.length x.pc,.int .u64 x.stamp,.int .i64 x.num] 41)).alloc (.cells #[.int .i64 0,.string ⟨#[]⟩,.string ⟨#[]⟩,.string ⟨#[]⟩,.int .i64 0,.slice none 0 0,.slice none 0 0,.slice none 0 0,.int .u64 0,.int .i64 0] 41))=W) :
  W.heap[w.heap.size]? = some (.cells #[.int .i64 x.kind,.string x.temp,.string x.ka,.string x.kb,.int .i64 x.iff,.slice x.vp x.vo.length x.vc,.slice x.ep x.eo.length x.ec,.slice x.pp x.po.length x.pc,.int .u64 x.stamp,.int .i64 x.num] 41 (0,0))∧W.heap[w.heap.size+1]? = some (.cells #[.int .i64 0,.string ⟨#[]⟩,.string ⟨#[]⟩,.string ⟨#[]⟩,.int .i64 0,.slice none 0 0,.slice none 0 0,.slice none 0 0,.int .u64 0,.int .i64 0] 41 (0,0))∧Below w.heap.size w W:=by
 subst h
 refine ⟨?_,?_,((Below.refl _ _).alloc (Nat.le_refl _) _).alloc (by simp) _⟩
 ·rw [Below.heap_alloc _ _ _ (by simp)];exact heap_alloc_new w _
 ·have:=heap_alloc_new (w.alloc (.cells #[.int .i64 x.kind,.string x.temp,.string x.ka,.string x.kb,.int .i64 x.iff,.slice x.vp x.vo.length x.vc,.slice x.ep x.eo.length x.ec,.slice x.pp x.po.length x.pc,.int .u64 x.stamp,.int .i64 x.num] 41)) (.cells #[.int .i64 0,.string ⟨#[]⟩,.string ⟨#[]⟩,.string ⟨#[]⟩,.int .i64 0,.slice none 0 0,.slice none 0 0,.slice none 0 0,.int .u64 0,.int .i64 0] 41)
  simpa using this
set_option maxHeartbeats 4000000 in
theorem without1 (x:Ex) (w:World):Calls Tryz.prog 48 #[aggEx x,.int .i64 1] w fun e w'=>e=.returned (aggEx (wout x 1))∧Below w.heap.size w w':=by
 unfold aggEx
 simp only [encEx,Ex.vs,Ex.es,Ex.ps]
 obtain ⟨W,hW⟩:∃W,((w.alloc (.cells #[.int .i64 x.kind,.string x.temp,.string x.ka,.string x.kb,.int .i64 x.iff,.slice x.vp x.vo.length x.vc,.slice x.ep x.eo.length x.ec,.slice x.pp x.po.length x.pc,.int .u64 x.stamp,.int .i64 x.num] 41)).alloc (.cells #[.int .i64 0,.string ⟨#[]⟩,.string ⟨#[]⟩,.string ⟨#[]⟩,.int .i64 0,.slice none 0 0,.slice none 0 0,.slice none 0 0,.int .u64 0,.int .i64 0] 41))=W:=⟨_,rfl⟩
 obtain ⟨b0,b1,hb⟩:=w0_facts w x W hW
 have c0:(W.setCell ⟨w.heap.size,1,none⟩ (.string ⟨#[]⟩)).heap[w.heap.size]? = some (.cells #[.int .i64 x.kind,.string ⟨#[]⟩,.string x.ka,.string x.kb,.int .i64 x.iff,.slice x.vp x.vo.length x.vc,.slice x.ep x.eo.length x.ec,.slice x.pp x.po.length x.pc,.int .u64 x.stamp,.int .i64 x.num] 41 (0,0)):=heap_setCell_same _ w.heap.size 1 _ _ (.string ⟨#[]⟩) b0
 have r1:(W.setCell ⟨w.heap.size,1,none⟩ (.string ⟨#[]⟩)).heap[w.heap.size+1]? = some (.cells #[.int .i64 0,.string ⟨#[]⟩,.string ⟨#[]⟩,.string ⟨#[]⟩,.int .i64 0,.slice none 0 0,.slice none 0 0,.slice none 0 0,.int .u64 0,.int .i64 0] 41 (0,0)):=((Below.heap_setCell _ _ _ _ (by show w.heap.size+1≠w.heap.size;omega)).trans b1)
 obtain ⟨W1,hW1⟩:∃W1,(W.setCell ⟨w.heap.size,1,none⟩ (.string ⟨#[]⟩))=W1:=⟨_,rfl⟩
 rw [hW1] at c0 r1
 obtain ⟨WZ,hWZ⟩:∃WZ,((((((((((W1.setCell ⟨w.heap.size+1,0,none⟩ (.int .i64 x.kind)).setCell ⟨w.heap.size+1,1,none⟩ (.string ⟨#[]⟩)).setCell ⟨w.heap.size+1,2,none⟩ (.string x.ka)).setCell ⟨w.heap.size+1,3,none⟩ (.string x.kb)).setCell ⟨w.heap.size+1,4,none⟩ (.int .i64 x.iff)).setCell ⟨w.heap.size+1,5,none⟩ (.slice x.vp x.vo.length x.vc)).setCell ⟨w.heap.size+1,6,none⟩ (.slice x.ep x.eo.length x.ec)).setCell ⟨w.heap.size+1,7,none⟩ (.slice x.pp x.po.length x.pc)).setCell ⟨w.heap.size+1,8,none⟩ (.int .u64 x.stamp)).setCell ⟨w.heap.size+1,9,none⟩ (.int .i64 x.num))=WZ:=⟨_,rfl⟩
 obtain ⟨bz,fz⟩:=out_ten r1 _ _ _ _ _ _ _ _ _ _ hWZ
 have hbW:Below w.heap.size w W1:=by rw [←hW1];exact (hb.setCell (p:=⟨w.heap.size,1,none⟩) (Nat.le_refl _) (.string ⟨#[]⟩))
 have HFIN:Hid (Ending.returned (.agg #[.int .i64 x.kind,.string ⟨#[]⟩,.string x.ka,.string x.kb,.int .i64 x.iff,.slice x.vp x.vo.length x.vc,.slice x.ep x.eo.length x.ec,.slice x.pp x.po.length x.pc,.int .u64 x.stamp,.int .i64 x.num])=.returned (.agg (encEx (wout x 1)).toArray)∧Below w.heap.size w WZ):=hid ⟨rfl,hbW.trans (fz.below hbW.size fun k hk=>by omega)⟩
 have s0:W.cell? ⟨w.heap.size,1,none⟩=some (.string x.temp):=cz b0
 have f0:=Lib.frozen_of_heap b0 1
 have k0:(W.setCell ⟨w.heap.size,1,none⟩ (.string ⟨#[]⟩)).heap[w.heap.size]? = some (.cells #[.int .i64 x.kind,.string ⟨#[]⟩,.string x.ka,.string x.kb,.int .i64 x.iff,.slice x.vp x.vo.length x.vc,.slice x.ep x.eo.length x.ec,.slice x.pp x.po.length x.pc,.int .u64 x.stamp,.int .i64 x.num] 41 (0,0)):=heap_setCell_same _ w.heap.size 1 _ _ (.string ⟨#[]⟩) b0
 have l0:W1.cell? ⟨w.heap.size,0,none⟩=some (.int .i64 x.kind):=cz c0
 have l1:W1.cell? ⟨w.heap.size,1,none⟩=some (.string ⟨#[]⟩):=cz c0
 have l2:W1.cell? ⟨w.heap.size,2,none⟩=some (.string x.ka):=cz c0
 have l3:W1.cell? ⟨w.heap.size,3,none⟩=some (.string x.kb):=cz c0
 have l4:W1.cell? ⟨w.heap.size,4,none⟩=some (.int .i64 x.iff):=cz c0
 have l5:W1.cell? ⟨w.heap.size,5,none⟩=some (.slice x.vp x.vo.length x.vc):=cz c0
 have l6:W1.cell? ⟨w.heap.size,6,none⟩=some (.slice x.ep x.eo.length x.ec):=cz c0
 have l7:W1.cell? ⟨w.heap.size,7,none⟩=some (.slice x.pp x.po.length x.pc):=cz c0
 have l8:W1.cell? ⟨w.heap.size,8,none⟩=some (.int .u64 x.stamp):=cz c0
 have l9:W1.cell? ⟨w.heap.size,9,none⟩=some (.int .i64 x.num):=cz c0
 have y0:W1.cell? ⟨w.heap.size+1,0,none⟩=some (.int .i64 0):=cz r1
 have z0:=Lib.frozen_of_heap r1 0
 have y1:W1.cell? ⟨w.heap.size+1,1,none⟩=some (.string ⟨#[]⟩):=cz r1
 have z1:=Lib.frozen_of_heap r1 1
 have y2:W1.cell? ⟨w.heap.size+1,2,none⟩=some (.string ⟨#[]⟩):=cz r1
 have z2:=Lib.frozen_of_heap r1 2
 have y3:W1.cell? ⟨w.heap.size+1,3,none⟩=some (.string ⟨#[]⟩):=cz r1
 have z3:=Lib.frozen_of_heap r1 3
 have y4:W1.cell? ⟨w.heap.size+1,4,none⟩=some (.int .i64 0):=cz r1
 have z4:=Lib.frozen_of_heap r1 4
 have y5:W1.cell? ⟨w.heap.size+1,5,none⟩=some (.slice none 0 0):=cz r1
 have z5:=Lib.frozen_of_heap r1 5
 have y6:W1.cell? ⟨w.heap.size+1,6,none⟩=some (.slice none 0 0):=cz r1
 have z6:=Lib.frozen_of_heap r1 6
 have y7:W1.cell? ⟨w.heap.size+1,7,none⟩=some (.slice none 0 0):=cz r1
 have z7:=Lib.frozen_of_heap r1 7
 have y8:W1.cell? ⟨w.heap.size+1,8,none⟩=some (.int .u64 0):=cz r1
 have z8:=Lib.frozen_of_heap r1 8
 have y9:W1.cell? ⟨w.heap.size+1,9,none⟩=some (.int .i64 0):=cz r1
 have z9:=Lib.frozen_of_heap r1 9
 have g0:WZ.cell? ⟨w.heap.size+1,0,none⟩=some (.int .i64 x.kind):=cz bz
 have g1:WZ.cell? ⟨w.heap.size+1,1,none⟩=some (.string ⟨#[]⟩):=cz bz
 have g2:WZ.cell? ⟨w.heap.size+1,2,none⟩=some (.string x.ka):=cz bz
 have g3:WZ.cell? ⟨w.heap.size+1,3,none⟩=some (.string x.kb):=cz bz
 have g4:WZ.cell? ⟨w.heap.size+1,4,none⟩=some (.int .i64 x.iff):=cz bz
 have g5:WZ.cell? ⟨w.heap.size+1,5,none⟩=some (.slice x.vp x.vo.length x.vc):=cz bz
 have g6:WZ.cell? ⟨w.heap.size+1,6,none⟩=some (.slice x.ep x.eo.length x.ec):=cz bz
 have g7:WZ.cell? ⟨w.heap.size+1,7,none⟩=some (.slice x.pp x.po.length x.pc):=cz bz
 have g8:WZ.cell? ⟨w.heap.size+1,8,none⟩=some (.int .u64 x.stamp):=cz bz
 have g9:WZ.cell? ⟨w.heap.size+1,9,none⟩=some (.int .i64 x.num):=cz bz
 clear bz fz b0 b1 r1 hb hbW c0 k0
 go_enter Tryz.func48,Tryz.ntmps48
 go_upto_region 3 with fail
 try rw [hW]
 go_upto_region 19 with fail
 try rw [hW1]
 go_wp2_with fail
 try rw [hWZ]
 exact bodyPost_ret (v:=.agg #[.int .i64 x.kind,.string ⟨#[]⟩,.string x.ka,.string x.kb,.int .i64 x.iff,.slice x.vp x.vo.length x.vc,.slice x.ep x.eo.length x.ec,.slice x.pp x.po.length x.pc,.int .u64 x.stamp,.int .i64 x.num]) (by simp [results,Tryz.results48,go_sem,g0,g1,g2,g3,g4,g5,g6,g7,g8,g9]) rfl HFIN.out
set_option maxHeartbeats 4000000 in
theorem without2 (x:Ex) (w:World):Calls Tryz.prog 48 #[aggEx x,.int .i64 2] w fun e w'=>e=.returned (aggEx (wout x 2))∧Below w.heap.size w w':=by
 unfold aggEx
 simp only [encEx,Ex.vs,Ex.es,Ex.ps]
 obtain ⟨W,hW⟩:∃W,((w.alloc (.cells #[.int .i64 x.kind,.string x.temp,.string x.ka,.string x.kb,.int .i64 x.iff,.slice x.vp x.vo.length x.vc,.slice x.ep x.eo.length x.ec,.slice x.pp x.po.length x.pc,.int .u64 x.stamp,.int .i64 x.num] 41)).alloc (.cells #[.int .i64 0,.string ⟨#[]⟩,.string ⟨#[]⟩,.string ⟨#[]⟩,.int .i64 0,.slice none 0 0,.slice none 0 0,.slice none 0 0,.int .u64 0,.int .i64 0] 41))=W:=⟨_,rfl⟩
 obtain ⟨b0,b1,hb⟩:=w0_facts w x W hW
 have c0:(W.setCell ⟨w.heap.size,2,none⟩ (.string ⟨#[]⟩)).heap[w.heap.size]? = some (.cells #[.int .i64 x.kind,.string x.temp,.string ⟨#[]⟩,.string x.kb,.int .i64 x.iff,.slice x.vp x.vo.length x.vc,.slice x.ep x.eo.length x.ec,.slice x.pp x.po.length x.pc,.int .u64 x.stamp,.int .i64 x.num] 41 (0,0)):=heap_setCell_same _ w.heap.size 2 _ _ (.string ⟨#[]⟩) b0
 have c1:((W.setCell ⟨w.heap.size,2,none⟩ (.string ⟨#[]⟩)).setCell ⟨w.heap.size,3,none⟩ (.string ⟨#[]⟩)).heap[w.heap.size]? = some (.cells #[.int .i64 x.kind,.string x.temp,.string ⟨#[]⟩,.string ⟨#[]⟩,.int .i64 x.iff,.slice x.vp x.vo.length x.vc,.slice x.ep x.eo.length x.ec,.slice x.pp x.po.length x.pc,.int .u64 x.stamp,.int .i64 x.num] 41 (0,0)):=heap_setCell_same _ w.heap.size 3 _ _ (.string ⟨#[]⟩) c0
 have r1:((W.setCell ⟨w.heap.size,2,none⟩ (.string ⟨#[]⟩)).setCell ⟨w.heap.size,3,none⟩ (.string ⟨#[]⟩)).heap[w.heap.size+1]? = some (.cells #[.int .i64 0,.string ⟨#[]⟩,.string ⟨#[]⟩,.string ⟨#[]⟩,.int .i64 0,.slice none 0 0,.slice none 0 0,.slice none 0 0,.int .u64 0,.int .i64 0] 41 (0,0)):=((Below.heap_setCell _ _ _ _ (by show w.heap.size+1≠w.heap.size;omega)).trans ((Below.heap_setCell _ _ _ _ (by show w.heap.size+1≠w.heap.size;omega)).trans b1))
 obtain ⟨W1,hW1⟩:∃W1,((W.setCell ⟨w.heap.size,2,none⟩ (.string ⟨#[]⟩)).setCell ⟨w.heap.size,3,none⟩ (.string ⟨#[]⟩))=W1:=⟨_,rfl⟩
 rw [hW1] at c1 r1
 obtain ⟨WZ,hWZ⟩:∃WZ,((((((((((W1.setCell ⟨w.heap.size+1,0,none⟩ (.int .i64 x.kind)).setCell ⟨w.heap.size+1,1,none⟩ (.string x.temp)).setCell ⟨w.heap.size+1,2,none⟩ (.string ⟨#[]⟩)).setCell ⟨w.heap.size+1,3,none⟩ (.string ⟨#[]⟩)).setCell ⟨w.heap.size+1,4,none⟩ (.int .i64 x.iff)).setCell ⟨w.heap.size+1,5,none⟩ (.slice x.vp x.vo.length x.vc)).setCell ⟨w.heap.size+1,6,none⟩ (.slice x.ep x.eo.length x.ec)).setCell ⟨w.heap.size+1,7,none⟩ (.slice x.pp x.po.length x.pc)).setCell ⟨w.heap.size+1,8,none⟩ (.int .u64 x.stamp)).setCell ⟨w.heap.size+1,9,none⟩ (.int .i64 x.num))=WZ:=⟨_,rfl⟩
 obtain ⟨bz,fz⟩:=out_ten r1 _ _ _ _ _ _ _ _ _ _ hWZ
 have hbW:Below w.heap.size w W1:=by rw [←hW1];exact ((hb.setCell (p:=⟨w.heap.size,2,none⟩) (Nat.le_refl _) (.string ⟨#[]⟩)).setCell (p:=⟨w.heap.size,3,none⟩) (Nat.le_refl _) (.string ⟨#[]⟩))
 have HFIN:Hid (Ending.returned (.agg #[.int .i64 x.kind,.string x.temp,.string ⟨#[]⟩,.string ⟨#[]⟩,.int .i64 x.iff,.slice x.vp x.vo.length x.vc,.slice x.ep x.eo.length x.ec,.slice x.pp x.po.length x.pc,.int .u64 x.stamp,.int .i64 x.num])=.returned (.agg (encEx (wout x 2)).toArray)∧Below w.heap.size w WZ):=hid ⟨rfl,hbW.trans (fz.below hbW.size fun k hk=>by omega)⟩
 have s0:W.cell? ⟨w.heap.size,2,none⟩=some (.string x.ka):=cz b0
 have f0:=Lib.frozen_of_heap b0 2
 have k0:(W.setCell ⟨w.heap.size,2,none⟩ (.string ⟨#[]⟩)).heap[w.heap.size]? = some (.cells #[.int .i64 x.kind,.string x.temp,.string ⟨#[]⟩,.string x.kb,.int .i64 x.iff,.slice x.vp x.vo.length x.vc,.slice x.ep x.eo.length x.ec,.slice x.pp x.po.length x.pc,.int .u64 x.stamp,.int .i64 x.num] 41 (0,0)):=heap_setCell_same _ w.heap.size 2 _ _ (.string ⟨#[]⟩) b0
 have s1:(W.setCell ⟨w.heap.size,2,none⟩ (.string ⟨#[]⟩)).cell? ⟨w.heap.size,3,none⟩=some (.string x.kb):=cz k0
 have f1:(W.setCell ⟨w.heap.size,2,none⟩ (.string ⟨#[]⟩)).frozen? ⟨w.heap.size,3,none⟩=false:=Lib.frozen_of_heap k0 3
 have k1:((W.setCell ⟨w.heap.size,2,none⟩ (.string ⟨#[]⟩)).setCell ⟨w.heap.size,3,none⟩ (.string ⟨#[]⟩)).heap[w.heap.size]? = some (.cells #[.int .i64 x.kind,.string x.temp,.string ⟨#[]⟩,.string ⟨#[]⟩,.int .i64 x.iff,.slice x.vp x.vo.length x.vc,.slice x.ep x.eo.length x.ec,.slice x.pp x.po.length x.pc,.int .u64 x.stamp,.int .i64 x.num] 41 (0,0)):=heap_setCell_same _ w.heap.size 3 _ _ (.string ⟨#[]⟩) k0
 have l0:W1.cell? ⟨w.heap.size,0,none⟩=some (.int .i64 x.kind):=cz c1
 have l1:W1.cell? ⟨w.heap.size,1,none⟩=some (.string x.temp):=cz c1
 have l2:W1.cell? ⟨w.heap.size,2,none⟩=some (.string ⟨#[]⟩):=cz c1
 have l3:W1.cell? ⟨w.heap.size,3,none⟩=some (.string ⟨#[]⟩):=cz c1
 have l4:W1.cell? ⟨w.heap.size,4,none⟩=some (.int .i64 x.iff):=cz c1
 have l5:W1.cell? ⟨w.heap.size,5,none⟩=some (.slice x.vp x.vo.length x.vc):=cz c1
 have l6:W1.cell? ⟨w.heap.size,6,none⟩=some (.slice x.ep x.eo.length x.ec):=cz c1
 have l7:W1.cell? ⟨w.heap.size,7,none⟩=some (.slice x.pp x.po.length x.pc):=cz c1
 have l8:W1.cell? ⟨w.heap.size,8,none⟩=some (.int .u64 x.stamp):=cz c1
 have l9:W1.cell? ⟨w.heap.size,9,none⟩=some (.int .i64 x.num):=cz c1
 have y0:W1.cell? ⟨w.heap.size+1,0,none⟩=some (.int .i64 0):=cz r1
 have z0:=Lib.frozen_of_heap r1 0
 have y1:W1.cell? ⟨w.heap.size+1,1,none⟩=some (.string ⟨#[]⟩):=cz r1
 have z1:=Lib.frozen_of_heap r1 1
 have y2:W1.cell? ⟨w.heap.size+1,2,none⟩=some (.string ⟨#[]⟩):=cz r1
 have z2:=Lib.frozen_of_heap r1 2
 have y3:W1.cell? ⟨w.heap.size+1,3,none⟩=some (.string ⟨#[]⟩):=cz r1
 have z3:=Lib.frozen_of_heap r1 3
 have y4:W1.cell? ⟨w.heap.size+1,4,none⟩=some (.int .i64 0):=cz r1
 have z4:=Lib.frozen_of_heap r1 4
 have y5:W1.cell? ⟨w.heap.size+1,5,none⟩=some (.slice none 0 0):=cz r1
 have z5:=Lib.frozen_of_heap r1 5
 have y6:W1.cell? ⟨w.heap.size+1,6,none⟩=some (.slice none 0 0):=cz r1
 have z6:=Lib.frozen_of_heap r1 6
 have y7:W1.cell? ⟨w.heap.size+1,7,none⟩=some (.slice none 0 0):=cz r1
 have z7:=Lib.frozen_of_heap r1 7
 have y8:W1.cell? ⟨w.heap.size+1,8,none⟩=some (.int .u64 0):=cz r1
 have z8:=Lib.frozen_of_heap r1 8
 have y9:W1.cell? ⟨w.heap.size+1,9,none⟩=some (.int .i64 0):=cz r1
 have z9:=Lib.frozen_of_heap r1 9
 have g0:WZ.cell? ⟨w.heap.size+1,0,none⟩=some (.int .i64 x.kind):=cz bz
 have g1:WZ.cell? ⟨w.heap.size+1,1,none⟩=some (.string x.temp):=cz bz
 have g2:WZ.cell? ⟨w.heap.size+1,2,none⟩=some (.string ⟨#[]⟩):=cz bz
 have g3:WZ.cell? ⟨w.heap.size+1,3,none⟩=some (.string ⟨#[]⟩):=cz bz
 have g4:WZ.cell? ⟨w.heap.size+1,4,none⟩=some (.int .i64 x.iff):=cz bz
 have g5:WZ.cell? ⟨w.heap.size+1,5,none⟩=some (.slice x.vp x.vo.length x.vc):=cz bz
 have g6:WZ.cell? ⟨w.heap.size+1,6,none⟩=some (.slice x.ep x.eo.length x.ec):=cz bz
 have g7:WZ.cell? ⟨w.heap.size+1,7,none⟩=some (.slice x.pp x.po.length x.pc):=cz bz
 have g8:WZ.cell? ⟨w.heap.size+1,8,none⟩=some (.int .u64 x.stamp):=cz bz
 have g9:WZ.cell? ⟨w.heap.size+1,9,none⟩=some (.int .i64 x.num):=cz bz
 clear bz fz b0 b1 r1 hb hbW c0 k0 c1 k1
 go_enter Tryz.func48,Tryz.ntmps48
 go_upto_region 6 with fail
 try rw [hW]
 go_upto_region 19 with fail
 try rw [hW1]
 go_wp2_with fail
 try rw [hWZ]
 exact bodyPost_ret (v:=.agg #[.int .i64 x.kind,.string x.temp,.string ⟨#[]⟩,.string ⟨#[]⟩,.int .i64 x.iff,.slice x.vp x.vo.length x.vc,.slice x.ep x.eo.length x.ec,.slice x.pp x.po.length x.pc,.int .u64 x.stamp,.int .i64 x.num]) (by simp [results,Tryz.results48,go_sem,g0,g1,g2,g3,g4,g5,g6,g7,g8,g9]) rfl HFIN.out
set_option maxHeartbeats 4000000 in
theorem without3 (x:Ex) (w:World):Calls Tryz.prog 48 #[aggEx x,.int .i64 3] w fun e w'=>e=.returned (aggEx (wout x 3))∧Below w.heap.size w w':=by
 unfold aggEx
 simp only [encEx,Ex.vs,Ex.es,Ex.ps]
 obtain ⟨W,hW⟩:∃W,((w.alloc (.cells #[.int .i64 x.kind,.string x.temp,.string x.ka,.string x.kb,.int .i64 x.iff,.slice x.vp x.vo.length x.vc,.slice x.ep x.eo.length x.ec,.slice x.pp x.po.length x.pc,.int .u64 x.stamp,.int .i64 x.num] 41)).alloc (.cells #[.int .i64 0,.string ⟨#[]⟩,.string ⟨#[]⟩,.string ⟨#[]⟩,.int .i64 0,.slice none 0 0,.slice none 0 0,.slice none 0 0,.int .u64 0,.int .i64 0] 41))=W:=⟨_,rfl⟩
 obtain ⟨b0,b1,hb⟩:=w0_facts w x W hW
 have c0:(W.setCell ⟨w.heap.size,2,none⟩ (.string ⟨#[]⟩)).heap[w.heap.size]? = some (.cells #[.int .i64 x.kind,.string x.temp,.string ⟨#[]⟩,.string x.kb,.int .i64 x.iff,.slice x.vp x.vo.length x.vc,.slice x.ep x.eo.length x.ec,.slice x.pp x.po.length x.pc,.int .u64 x.stamp,.int .i64 x.num] 41 (0,0)):=heap_setCell_same _ w.heap.size 2 _ _ (.string ⟨#[]⟩) b0
 have c1:((W.setCell ⟨w.heap.size,2,none⟩ (.string ⟨#[]⟩)).setCell ⟨w.heap.size,3,none⟩ (.string ⟨#[]⟩)).heap[w.heap.size]? = some (.cells #[.int .i64 x.kind,.string x.temp,.string ⟨#[]⟩,.string ⟨#[]⟩,.int .i64 x.iff,.slice x.vp x.vo.length x.vc,.slice x.ep x.eo.length x.ec,.slice x.pp x.po.length x.pc,.int .u64 x.stamp,.int .i64 x.num] 41 (0,0)):=heap_setCell_same _ w.heap.size 3 _ _ (.string ⟨#[]⟩) c0
 have r1:((W.setCell ⟨w.heap.size,2,none⟩ (.string ⟨#[]⟩)).setCell ⟨w.heap.size,3,none⟩ (.string ⟨#[]⟩)).heap[w.heap.size+1]? = some (.cells #[.int .i64 0,.string ⟨#[]⟩,.string ⟨#[]⟩,.string ⟨#[]⟩,.int .i64 0,.slice none 0 0,.slice none 0 0,.slice none 0 0,.int .u64 0,.int .i64 0] 41 (0,0)):=((Below.heap_setCell _ _ _ _ (by show w.heap.size+1≠w.heap.size;omega)).trans ((Below.heap_setCell _ _ _ _ (by show w.heap.size+1≠w.heap.size;omega)).trans b1))
 obtain ⟨W1,hW1⟩:∃W1,((W.setCell ⟨w.heap.size,2,none⟩ (.string ⟨#[]⟩)).setCell ⟨w.heap.size,3,none⟩ (.string ⟨#[]⟩))=W1:=⟨_,rfl⟩
 rw [hW1] at c1 r1
 obtain ⟨WZ,hWZ⟩:∃WZ,((((((((((W1.setCell ⟨w.heap.size+1,0,none⟩ (.int .i64 x.kind)).setCell ⟨w.heap.size+1,1,none⟩ (.string x.temp)).setCell ⟨w.heap.size+1,2,none⟩ (.string ⟨#[]⟩)).setCell ⟨w.heap.size+1,3,none⟩ (.string ⟨#[]⟩)).setCell ⟨w.heap.size+1,4,none⟩ (.int .i64 x.iff)).setCell ⟨w.heap.size+1,5,none⟩ (.slice x.vp x.vo.length x.vc)).setCell ⟨w.heap.size+1,6,none⟩ (.slice x.ep x.eo.length x.ec)).setCell ⟨w.heap.size+1,7,none⟩ (.slice x.pp x.po.length x.pc)).setCell ⟨w.heap.size+1,8,none⟩ (.int .u64 x.stamp)).setCell ⟨w.heap.size+1,9,none⟩ (.int .i64 x.num))=WZ:=⟨_,rfl⟩
 obtain ⟨bz,fz⟩:=out_ten r1 _ _ _ _ _ _ _ _ _ _ hWZ
 have hbW:Below w.heap.size w W1:=by rw [←hW1];exact ((hb.setCell (p:=⟨w.heap.size,2,none⟩) (Nat.le_refl _) (.string ⟨#[]⟩)).setCell (p:=⟨w.heap.size,3,none⟩) (Nat.le_refl _) (.string ⟨#[]⟩))
 have HFIN:Hid (Ending.returned (.agg #[.int .i64 x.kind,.string x.temp,.string ⟨#[]⟩,.string ⟨#[]⟩,.int .i64 x.iff,.slice x.vp x.vo.length x.vc,.slice x.ep x.eo.length x.ec,.slice x.pp x.po.length x.pc,.int .u64 x.stamp,.int .i64 x.num])=.returned (.agg (encEx (wout x 3)).toArray)∧Below w.heap.size w WZ):=hid ⟨rfl,hbW.trans (fz.below hbW.size fun k hk=>by omega)⟩
 have s0:W.cell? ⟨w.heap.size,2,none⟩=some (.string x.ka):=cz b0
 have f0:=Lib.frozen_of_heap b0 2
 have k0:(W.setCell ⟨w.heap.size,2,none⟩ (.string ⟨#[]⟩)).heap[w.heap.size]? = some (.cells #[.int .i64 x.kind,.string x.temp,.string ⟨#[]⟩,.string x.kb,.int .i64 x.iff,.slice x.vp x.vo.length x.vc,.slice x.ep x.eo.length x.ec,.slice x.pp x.po.length x.pc,.int .u64 x.stamp,.int .i64 x.num] 41 (0,0)):=heap_setCell_same _ w.heap.size 2 _ _ (.string ⟨#[]⟩) b0
 have s1:(W.setCell ⟨w.heap.size,2,none⟩ (.string ⟨#[]⟩)).cell? ⟨w.heap.size,3,none⟩=some (.string x.kb):=cz k0
 have f1:(W.setCell ⟨w.heap.size,2,none⟩ (.string ⟨#[]⟩)).frozen? ⟨w.heap.size,3,none⟩=false:=Lib.frozen_of_heap k0 3
 have k1:((W.setCell ⟨w.heap.size,2,none⟩ (.string ⟨#[]⟩)).setCell ⟨w.heap.size,3,none⟩ (.string ⟨#[]⟩)).heap[w.heap.size]? = some (.cells #[.int .i64 x.kind,.string x.temp,.string ⟨#[]⟩,.string ⟨#[]⟩,.int .i64 x.iff,.slice x.vp x.vo.length x.vc,.slice x.ep x.eo.length x.ec,.slice x.pp x.po.length x.pc,.int .u64 x.stamp,.int .i64 x.num] 41 (0,0)):=heap_setCell_same _ w.heap.size 3 _ _ (.string ⟨#[]⟩) k0
 have l0:W1.cell? ⟨w.heap.size,0,none⟩=some (.int .i64 x.kind):=cz c1
 have l1:W1.cell? ⟨w.heap.size,1,none⟩=some (.string x.temp):=cz c1
 have l2:W1.cell? ⟨w.heap.size,2,none⟩=some (.string ⟨#[]⟩):=cz c1
 have l3:W1.cell? ⟨w.heap.size,3,none⟩=some (.string ⟨#[]⟩):=cz c1
 have l4:W1.cell? ⟨w.heap.size,4,none⟩=some (.int .i64 x.iff):=cz c1
 have l5:W1.cell? ⟨w.heap.size,5,none⟩=some (.slice x.vp x.vo.length x.vc):=cz c1
 have l6:W1.cell? ⟨w.heap.size,6,none⟩=some (.slice x.ep x.eo.length x.ec):=cz c1
 have l7:W1.cell? ⟨w.heap.size,7,none⟩=some (.slice x.pp x.po.length x.pc):=cz c1
 have l8:W1.cell? ⟨w.heap.size,8,none⟩=some (.int .u64 x.stamp):=cz c1
 have l9:W1.cell? ⟨w.heap.size,9,none⟩=some (.int .i64 x.num):=cz c1
 have y0:W1.cell? ⟨w.heap.size+1,0,none⟩=some (.int .i64 0):=cz r1
 have z0:=Lib.frozen_of_heap r1 0
 have y1:W1.cell? ⟨w.heap.size+1,1,none⟩=some (.string ⟨#[]⟩):=cz r1
 have z1:=Lib.frozen_of_heap r1 1
 have y2:W1.cell? ⟨w.heap.size+1,2,none⟩=some (.string ⟨#[]⟩):=cz r1
 have z2:=Lib.frozen_of_heap r1 2
 have y3:W1.cell? ⟨w.heap.size+1,3,none⟩=some (.string ⟨#[]⟩):=cz r1
 have z3:=Lib.frozen_of_heap r1 3
 have y4:W1.cell? ⟨w.heap.size+1,4,none⟩=some (.int .i64 0):=cz r1
 have z4:=Lib.frozen_of_heap r1 4
 have y5:W1.cell? ⟨w.heap.size+1,5,none⟩=some (.slice none 0 0):=cz r1
 have z5:=Lib.frozen_of_heap r1 5
 have y6:W1.cell? ⟨w.heap.size+1,6,none⟩=some (.slice none 0 0):=cz r1
 have z6:=Lib.frozen_of_heap r1 6
 have y7:W1.cell? ⟨w.heap.size+1,7,none⟩=some (.slice none 0 0):=cz r1
 have z7:=Lib.frozen_of_heap r1 7
 have y8:W1.cell? ⟨w.heap.size+1,8,none⟩=some (.int .u64 0):=cz r1
 have z8:=Lib.frozen_of_heap r1 8
 have y9:W1.cell? ⟨w.heap.size+1,9,none⟩=some (.int .i64 0):=cz r1
 have z9:=Lib.frozen_of_heap r1 9
 have g0:WZ.cell? ⟨w.heap.size+1,0,none⟩=some (.int .i64 x.kind):=cz bz
 have g1:WZ.cell? ⟨w.heap.size+1,1,none⟩=some (.string x.temp):=cz bz
 have g2:WZ.cell? ⟨w.heap.size+1,2,none⟩=some (.string ⟨#[]⟩):=cz bz
 have g3:WZ.cell? ⟨w.heap.size+1,3,none⟩=some (.string ⟨#[]⟩):=cz bz
 have g4:WZ.cell? ⟨w.heap.size+1,4,none⟩=some (.int .i64 x.iff):=cz bz
 have g5:WZ.cell? ⟨w.heap.size+1,5,none⟩=some (.slice x.vp x.vo.length x.vc):=cz bz
 have g6:WZ.cell? ⟨w.heap.size+1,6,none⟩=some (.slice x.ep x.eo.length x.ec):=cz bz
 have g7:WZ.cell? ⟨w.heap.size+1,7,none⟩=some (.slice x.pp x.po.length x.pc):=cz bz
 have g8:WZ.cell? ⟨w.heap.size+1,8,none⟩=some (.int .u64 x.stamp):=cz bz
 have g9:WZ.cell? ⟨w.heap.size+1,9,none⟩=some (.int .i64 x.num):=cz bz
 clear bz fz b0 b1 r1 hb hbW c0 k0 c1 k1
 go_enter Tryz.func48,Tryz.ntmps48
 go_upto_region 6 with fail
 try rw [hW]
 go_upto_region 19 with fail
 try rw [hW1]
 go_wp2_with fail
 try rw [hWZ]
 exact bodyPost_ret (v:=.agg #[.int .i64 x.kind,.string x.temp,.string ⟨#[]⟩,.string ⟨#[]⟩,.int .i64 x.iff,.slice x.vp x.vo.length x.vc,.slice x.ep x.eo.length x.ec,.slice x.pp x.po.length x.pc,.int .u64 x.stamp,.int .i64 x.num]) (by simp [results,Tryz.results48,go_sem,g0,g1,g2,g3,g4,g5,g6,g7,g8,g9]) rfl HFIN.out
set_option maxHeartbeats 4000000 in
theorem without4 (x:Ex) (w:World):Calls Tryz.prog 48 #[aggEx x,.int .i64 4] w fun e w'=>e=.returned (aggEx (wout x 4))∧Below w.heap.size w w':=by
 unfold aggEx
 simp only [encEx,Ex.vs,Ex.es,Ex.ps]
 obtain ⟨W,hW⟩:∃W,((w.alloc (.cells #[.int .i64 x.kind,.string x.temp,.string x.ka,.string x.kb,.int .i64 x.iff,.slice x.vp x.vo.length x.vc,.slice x.ep x.eo.length x.ec,.slice x.pp x.po.length x.pc,.int .u64 x.stamp,.int .i64 x.num] 41)).alloc (.cells #[.int .i64 0,.string ⟨#[]⟩,.string ⟨#[]⟩,.string ⟨#[]⟩,.int .i64 0,.slice none 0 0,.slice none 0 0,.slice none 0 0,.int .u64 0,.int .i64 0] 41))=W:=⟨_,rfl⟩
 obtain ⟨b0,b1,hb⟩:=w0_facts w x W hW
 have c0:(W.setCell ⟨w.heap.size,4,none⟩ (.int .i64 0)).heap[w.heap.size]? = some (.cells #[.int .i64 x.kind,.string x.temp,.string x.ka,.string x.kb,.int .i64 0,.slice x.vp x.vo.length x.vc,.slice x.ep x.eo.length x.ec,.slice x.pp x.po.length x.pc,.int .u64 x.stamp,.int .i64 x.num] 41 (0,0)):=heap_setCell_same _ w.heap.size 4 _ _ (.int .i64 0) b0
 have r1:(W.setCell ⟨w.heap.size,4,none⟩ (.int .i64 0)).heap[w.heap.size+1]? = some (.cells #[.int .i64 0,.string ⟨#[]⟩,.string ⟨#[]⟩,.string ⟨#[]⟩,.int .i64 0,.slice none 0 0,.slice none 0 0,.slice none 0 0,.int .u64 0,.int .i64 0] 41 (0,0)):=((Below.heap_setCell _ _ _ _ (by show w.heap.size+1≠w.heap.size;omega)).trans b1)
 obtain ⟨W1,hW1⟩:∃W1,(W.setCell ⟨w.heap.size,4,none⟩ (.int .i64 0))=W1:=⟨_,rfl⟩
 rw [hW1] at c0 r1
 obtain ⟨WZ,hWZ⟩:∃WZ,((((((((((W1.setCell ⟨w.heap.size+1,0,none⟩ (.int .i64 x.kind)).setCell ⟨w.heap.size+1,1,none⟩ (.string x.temp)).setCell ⟨w.heap.size+1,2,none⟩ (.string x.ka)).setCell ⟨w.heap.size+1,3,none⟩ (.string x.kb)).setCell ⟨w.heap.size+1,4,none⟩ (.int .i64 0)).setCell ⟨w.heap.size+1,5,none⟩ (.slice x.vp x.vo.length x.vc)).setCell ⟨w.heap.size+1,6,none⟩ (.slice x.ep x.eo.length x.ec)).setCell ⟨w.heap.size+1,7,none⟩ (.slice x.pp x.po.length x.pc)).setCell ⟨w.heap.size+1,8,none⟩ (.int .u64 x.stamp)).setCell ⟨w.heap.size+1,9,none⟩ (.int .i64 x.num))=WZ:=⟨_,rfl⟩
 obtain ⟨bz,fz⟩:=out_ten r1 _ _ _ _ _ _ _ _ _ _ hWZ
 have hbW:Below w.heap.size w W1:=by rw [←hW1];exact (hb.setCell (p:=⟨w.heap.size,4,none⟩) (Nat.le_refl _) (.int .i64 0))
 have HFIN:Hid (Ending.returned (.agg #[.int .i64 x.kind,.string x.temp,.string x.ka,.string x.kb,.int .i64 0,.slice x.vp x.vo.length x.vc,.slice x.ep x.eo.length x.ec,.slice x.pp x.po.length x.pc,.int .u64 x.stamp,.int .i64 x.num])=.returned (.agg (encEx (wout x 4)).toArray)∧Below w.heap.size w WZ):=hid ⟨rfl,hbW.trans (fz.below hbW.size fun k hk=>by omega)⟩
 have s0:W.cell? ⟨w.heap.size,4,none⟩=some (.int .i64 x.iff):=cz b0
 have f0:=Lib.frozen_of_heap b0 4
 have k0:(W.setCell ⟨w.heap.size,4,none⟩ (.int .i64 0)).heap[w.heap.size]? = some (.cells #[.int .i64 x.kind,.string x.temp,.string x.ka,.string x.kb,.int .i64 0,.slice x.vp x.vo.length x.vc,.slice x.ep x.eo.length x.ec,.slice x.pp x.po.length x.pc,.int .u64 x.stamp,.int .i64 x.num] 41 (0,0)):=heap_setCell_same _ w.heap.size 4 _ _ (.int .i64 0) b0
 have l0:W1.cell? ⟨w.heap.size,0,none⟩=some (.int .i64 x.kind):=cz c0
 have l1:W1.cell? ⟨w.heap.size,1,none⟩=some (.string x.temp):=cz c0
 have l2:W1.cell? ⟨w.heap.size,2,none⟩=some (.string x.ka):=cz c0
 have l3:W1.cell? ⟨w.heap.size,3,none⟩=some (.string x.kb):=cz c0
 have l4:W1.cell? ⟨w.heap.size,4,none⟩=some (.int .i64 0):=cz c0
 have l5:W1.cell? ⟨w.heap.size,5,none⟩=some (.slice x.vp x.vo.length x.vc):=cz c0
 have l6:W1.cell? ⟨w.heap.size,6,none⟩=some (.slice x.ep x.eo.length x.ec):=cz c0
 have l7:W1.cell? ⟨w.heap.size,7,none⟩=some (.slice x.pp x.po.length x.pc):=cz c0
 have l8:W1.cell? ⟨w.heap.size,8,none⟩=some (.int .u64 x.stamp):=cz c0
 have l9:W1.cell? ⟨w.heap.size,9,none⟩=some (.int .i64 x.num):=cz c0
 have y0:W1.cell? ⟨w.heap.size+1,0,none⟩=some (.int .i64 0):=cz r1
 have z0:=Lib.frozen_of_heap r1 0
 have y1:W1.cell? ⟨w.heap.size+1,1,none⟩=some (.string ⟨#[]⟩):=cz r1
 have z1:=Lib.frozen_of_heap r1 1
 have y2:W1.cell? ⟨w.heap.size+1,2,none⟩=some (.string ⟨#[]⟩):=cz r1
 have z2:=Lib.frozen_of_heap r1 2
 have y3:W1.cell? ⟨w.heap.size+1,3,none⟩=some (.string ⟨#[]⟩):=cz r1
 have z3:=Lib.frozen_of_heap r1 3
 have y4:W1.cell? ⟨w.heap.size+1,4,none⟩=some (.int .i64 0):=cz r1
 have z4:=Lib.frozen_of_heap r1 4
 have y5:W1.cell? ⟨w.heap.size+1,5,none⟩=some (.slice none 0 0):=cz r1
 have z5:=Lib.frozen_of_heap r1 5
 have y6:W1.cell? ⟨w.heap.size+1,6,none⟩=some (.slice none 0 0):=cz r1
 have z6:=Lib.frozen_of_heap r1 6
 have y7:W1.cell? ⟨w.heap.size+1,7,none⟩=some (.slice none 0 0):=cz r1
 have z7:=Lib.frozen_of_heap r1 7
 have y8:W1.cell? ⟨w.heap.size+1,8,none⟩=some (.int .u64 0):=cz r1
 have z8:=Lib.frozen_of_heap r1 8
 have y9:W1.cell? ⟨w.heap.size+1,9,none⟩=some (.int .i64 0):=cz r1
 have z9:=Lib.frozen_of_heap r1 9
 have g0:WZ.cell? ⟨w.heap.size+1,0,none⟩=some (.int .i64 x.kind):=cz bz
 have g1:WZ.cell? ⟨w.heap.size+1,1,none⟩=some (.string x.temp):=cz bz
 have g2:WZ.cell? ⟨w.heap.size+1,2,none⟩=some (.string x.ka):=cz bz
 have g3:WZ.cell? ⟨w.heap.size+1,3,none⟩=some (.string x.kb):=cz bz
 have g4:WZ.cell? ⟨w.heap.size+1,4,none⟩=some (.int .i64 0):=cz bz
 have g5:WZ.cell? ⟨w.heap.size+1,5,none⟩=some (.slice x.vp x.vo.length x.vc):=cz bz
 have g6:WZ.cell? ⟨w.heap.size+1,6,none⟩=some (.slice x.ep x.eo.length x.ec):=cz bz
 have g7:WZ.cell? ⟨w.heap.size+1,7,none⟩=some (.slice x.pp x.po.length x.pc):=cz bz
 have g8:WZ.cell? ⟨w.heap.size+1,8,none⟩=some (.int .u64 x.stamp):=cz bz
 have g9:WZ.cell? ⟨w.heap.size+1,9,none⟩=some (.int .i64 x.num):=cz bz
 clear bz fz b0 b1 r1 hb hbW c0 k0
 go_enter Tryz.func48,Tryz.ntmps48
 go_upto_region 8 with fail
 try rw [hW]
 go_upto_region 19 with fail
 try rw [hW1]
 go_wp2_with fail
 try rw [hWZ]
 exact bodyPost_ret (v:=.agg #[.int .i64 x.kind,.string x.temp,.string x.ka,.string x.kb,.int .i64 0,.slice x.vp x.vo.length x.vc,.slice x.ep x.eo.length x.ec,.slice x.pp x.po.length x.pc,.int .u64 x.stamp,.int .i64 x.num]) (by simp [results,Tryz.results48,go_sem,g0,g1,g2,g3,g4,g5,g6,g7,g8,g9]) rfl HFIN.out
set_option maxHeartbeats 4000000 in
theorem without5 (x:Ex) (w:World):Calls Tryz.prog 48 #[aggEx x,.int .i64 5] w fun e w'=>e=.returned (aggEx (wout x 5))∧Below w.heap.size w w':=by
 unfold aggEx
 simp only [encEx,Ex.vs,Ex.es,Ex.ps]
 obtain ⟨W,hW⟩:∃W,((w.alloc (.cells #[.int .i64 x.kind,.string x.temp,.string x.ka,.string x.kb,.int .i64 x.iff,.slice x.vp x.vo.length x.vc,.slice x.ep x.eo.length x.ec,.slice x.pp x.po.length x.pc,.int .u64 x.stamp,.int .i64 x.num] 41)).alloc (.cells #[.int .i64 0,.string ⟨#[]⟩,.string ⟨#[]⟩,.string ⟨#[]⟩,.int .i64 0,.slice none 0 0,.slice none 0 0,.slice none 0 0,.int .u64 0,.int .i64 0] 41))=W:=⟨_,rfl⟩
 obtain ⟨b0,b1,hb⟩:=w0_facts w x W hW
 have c0:(W.setCell ⟨w.heap.size,5,none⟩ (.slice none 0 0)).heap[w.heap.size]? = some (.cells #[.int .i64 x.kind,.string x.temp,.string x.ka,.string x.kb,.int .i64 x.iff,.slice none 0 0,.slice x.ep x.eo.length x.ec,.slice x.pp x.po.length x.pc,.int .u64 x.stamp,.int .i64 x.num] 41 (0,0)):=heap_setCell_same _ w.heap.size 5 _ _ (.slice none 0 0) b0
 have r1:(W.setCell ⟨w.heap.size,5,none⟩ (.slice none 0 0)).heap[w.heap.size+1]? = some (.cells #[.int .i64 0,.string ⟨#[]⟩,.string ⟨#[]⟩,.string ⟨#[]⟩,.int .i64 0,.slice none 0 0,.slice none 0 0,.slice none 0 0,.int .u64 0,.int .i64 0] 41 (0,0)):=((Below.heap_setCell _ _ _ _ (by show w.heap.size+1≠w.heap.size;omega)).trans b1)
 obtain ⟨W1,hW1⟩:∃W1,(W.setCell ⟨w.heap.size,5,none⟩ (.slice none 0 0))=W1:=⟨_,rfl⟩
 rw [hW1] at c0 r1
 obtain ⟨WZ,hWZ⟩:∃WZ,((((((((((W1.setCell ⟨w.heap.size+1,0,none⟩ (.int .i64 x.kind)).setCell ⟨w.heap.size+1,1,none⟩ (.string x.temp)).setCell ⟨w.heap.size+1,2,none⟩ (.string x.ka)).setCell ⟨w.heap.size+1,3,none⟩ (.string x.kb)).setCell ⟨w.heap.size+1,4,none⟩ (.int .i64 x.iff)).setCell ⟨w.heap.size+1,5,none⟩ (.slice none 0 0)).setCell ⟨w.heap.size+1,6,none⟩ (.slice x.ep x.eo.length x.ec)).setCell ⟨w.heap.size+1,7,none⟩ (.slice x.pp x.po.length x.pc)).setCell ⟨w.heap.size+1,8,none⟩ (.int .u64 x.stamp)).setCell ⟨w.heap.size+1,9,none⟩ (.int .i64 x.num))=WZ:=⟨_,rfl⟩
 obtain ⟨bz,fz⟩:=out_ten r1 _ _ _ _ _ _ _ _ _ _ hWZ
 have hbW:Below w.heap.size w W1:=by rw [←hW1];exact (hb.setCell (p:=⟨w.heap.size,5,none⟩) (Nat.le_refl _) (.slice none 0 0))
 have HFIN:Hid (Ending.returned (.agg #[.int .i64 x.kind,.string x.temp,.string x.ka,.string x.kb,.int .i64 x.iff,.slice none 0 0,.slice x.ep x.eo.length x.ec,.slice x.pp x.po.length x.pc,.int .u64 x.stamp,.int .i64 x.num])=.returned (.agg (encEx (wout x 5)).toArray)∧Below w.heap.size w WZ):=hid ⟨rfl,hbW.trans (fz.below hbW.size fun k hk=>by omega)⟩
 have s0:W.cell? ⟨w.heap.size,5,none⟩=some (.slice x.vp x.vo.length x.vc):=cz b0
 have f0:=Lib.frozen_of_heap b0 5
 have k0:(W.setCell ⟨w.heap.size,5,none⟩ (.slice none 0 0)).heap[w.heap.size]? = some (.cells #[.int .i64 x.kind,.string x.temp,.string x.ka,.string x.kb,.int .i64 x.iff,.slice none 0 0,.slice x.ep x.eo.length x.ec,.slice x.pp x.po.length x.pc,.int .u64 x.stamp,.int .i64 x.num] 41 (0,0)):=heap_setCell_same _ w.heap.size 5 _ _ (.slice none 0 0) b0
 have l0:W1.cell? ⟨w.heap.size,0,none⟩=some (.int .i64 x.kind):=cz c0
 have l1:W1.cell? ⟨w.heap.size,1,none⟩=some (.string x.temp):=cz c0
 have l2:W1.cell? ⟨w.heap.size,2,none⟩=some (.string x.ka):=cz c0
 have l3:W1.cell? ⟨w.heap.size,3,none⟩=some (.string x.kb):=cz c0
 have l4:W1.cell? ⟨w.heap.size,4,none⟩=some (.int .i64 x.iff):=cz c0
 have l5:W1.cell? ⟨w.heap.size,5,none⟩=some (.slice none 0 0):=cz c0
 have l6:W1.cell? ⟨w.heap.size,6,none⟩=some (.slice x.ep x.eo.length x.ec):=cz c0
 have l7:W1.cell? ⟨w.heap.size,7,none⟩=some (.slice x.pp x.po.length x.pc):=cz c0
 have l8:W1.cell? ⟨w.heap.size,8,none⟩=some (.int .u64 x.stamp):=cz c0
 have l9:W1.cell? ⟨w.heap.size,9,none⟩=some (.int .i64 x.num):=cz c0
 have y0:W1.cell? ⟨w.heap.size+1,0,none⟩=some (.int .i64 0):=cz r1
 have z0:=Lib.frozen_of_heap r1 0
 have y1:W1.cell? ⟨w.heap.size+1,1,none⟩=some (.string ⟨#[]⟩):=cz r1
 have z1:=Lib.frozen_of_heap r1 1
 have y2:W1.cell? ⟨w.heap.size+1,2,none⟩=some (.string ⟨#[]⟩):=cz r1
 have z2:=Lib.frozen_of_heap r1 2
 have y3:W1.cell? ⟨w.heap.size+1,3,none⟩=some (.string ⟨#[]⟩):=cz r1
 have z3:=Lib.frozen_of_heap r1 3
 have y4:W1.cell? ⟨w.heap.size+1,4,none⟩=some (.int .i64 0):=cz r1
 have z4:=Lib.frozen_of_heap r1 4
 have y5:W1.cell? ⟨w.heap.size+1,5,none⟩=some (.slice none 0 0):=cz r1
 have z5:=Lib.frozen_of_heap r1 5
 have y6:W1.cell? ⟨w.heap.size+1,6,none⟩=some (.slice none 0 0):=cz r1
 have z6:=Lib.frozen_of_heap r1 6
 have y7:W1.cell? ⟨w.heap.size+1,7,none⟩=some (.slice none 0 0):=cz r1
 have z7:=Lib.frozen_of_heap r1 7
 have y8:W1.cell? ⟨w.heap.size+1,8,none⟩=some (.int .u64 0):=cz r1
 have z8:=Lib.frozen_of_heap r1 8
 have y9:W1.cell? ⟨w.heap.size+1,9,none⟩=some (.int .i64 0):=cz r1
 have z9:=Lib.frozen_of_heap r1 9
 have g0:WZ.cell? ⟨w.heap.size+1,0,none⟩=some (.int .i64 x.kind):=cz bz
 have g1:WZ.cell? ⟨w.heap.size+1,1,none⟩=some (.string x.temp):=cz bz
 have g2:WZ.cell? ⟨w.heap.size+1,2,none⟩=some (.string x.ka):=cz bz
 have g3:WZ.cell? ⟨w.heap.size+1,3,none⟩=some (.string x.kb):=cz bz
 have g4:WZ.cell? ⟨w.heap.size+1,4,none⟩=some (.int .i64 x.iff):=cz bz
 have g5:WZ.cell? ⟨w.heap.size+1,5,none⟩=some (.slice none 0 0):=cz bz
 have g6:WZ.cell? ⟨w.heap.size+1,6,none⟩=some (.slice x.ep x.eo.length x.ec):=cz bz
 have g7:WZ.cell? ⟨w.heap.size+1,7,none⟩=some (.slice x.pp x.po.length x.pc):=cz bz
 have g8:WZ.cell? ⟨w.heap.size+1,8,none⟩=some (.int .u64 x.stamp):=cz bz
 have g9:WZ.cell? ⟨w.heap.size+1,9,none⟩=some (.int .i64 x.num):=cz bz
 clear bz fz b0 b1 r1 hb hbW c0 k0
 go_enter Tryz.func48,Tryz.ntmps48
 go_upto_region 10 with fail
 try rw [hW]
 go_upto_region 19 with fail
 try rw [hW1]
 go_wp2_with fail
 try rw [hWZ]
 exact bodyPost_ret (v:=.agg #[.int .i64 x.kind,.string x.temp,.string x.ka,.string x.kb,.int .i64 x.iff,.slice none 0 0,.slice x.ep x.eo.length x.ec,.slice x.pp x.po.length x.pc,.int .u64 x.stamp,.int .i64 x.num]) (by simp [results,Tryz.results48,go_sem,g0,g1,g2,g3,g4,g5,g6,g7,g8,g9]) rfl HFIN.out
set_option maxHeartbeats 4000000 in
theorem without6 (x:Ex) (w:World):Calls Tryz.prog 48 #[aggEx x,.int .i64 6] w fun e w'=>e=.returned (aggEx (wout x 6))∧Below w.heap.size w w':=by
 unfold aggEx
 simp only [encEx,Ex.vs,Ex.es,Ex.ps]
 obtain ⟨W,hW⟩:∃W,((w.alloc (.cells #[.int .i64 x.kind,.string x.temp,.string x.ka,.string x.kb,.int .i64 x.iff,.slice x.vp x.vo.length x.vc,.slice x.ep x.eo.length x.ec,.slice x.pp x.po.length x.pc,.int .u64 x.stamp,.int .i64 x.num] 41)).alloc (.cells #[.int .i64 0,.string ⟨#[]⟩,.string ⟨#[]⟩,.string ⟨#[]⟩,.int .i64 0,.slice none 0 0,.slice none 0 0,.slice none 0 0,.int .u64 0,.int .i64 0] 41))=W:=⟨_,rfl⟩
 obtain ⟨b0,b1,hb⟩:=w0_facts w x W hW
 have r1:=b1
 obtain ⟨W1,hW1⟩:∃W1,W=W1:=⟨_,rfl⟩
 subst hW1
 obtain ⟨WZ,hWZ⟩:∃WZ,((((((((((W.setCell ⟨w.heap.size+1,0,none⟩ (.int .i64 x.kind)).setCell ⟨w.heap.size+1,1,none⟩ (.string x.temp)).setCell ⟨w.heap.size+1,2,none⟩ (.string x.ka)).setCell ⟨w.heap.size+1,3,none⟩ (.string x.kb)).setCell ⟨w.heap.size+1,4,none⟩ (.int .i64 x.iff)).setCell ⟨w.heap.size+1,5,none⟩ (.slice x.vp x.vo.length x.vc)).setCell ⟨w.heap.size+1,6,none⟩ (.slice x.ep x.eo.length x.ec)).setCell ⟨w.heap.size+1,7,none⟩ (.slice x.pp x.po.length x.pc)).setCell ⟨w.heap.size+1,8,none⟩ (.int .u64 x.stamp)).setCell ⟨w.heap.size+1,9,none⟩ (.int .i64 x.num))=WZ:=⟨_,rfl⟩
 obtain ⟨bz,fz⟩:=out_ten r1 _ _ _ _ _ _ _ _ _ _ hWZ
 have hbW:Below w.heap.size w W:=hb
 have HFIN:Hid (Ending.returned (.agg #[.int .i64 x.kind,.string x.temp,.string x.ka,.string x.kb,.int .i64 x.iff,.slice x.vp x.vo.length x.vc,.slice x.ep x.eo.length x.ec,.slice x.pp x.po.length x.pc,.int .u64 x.stamp,.int .i64 x.num])=.returned (.agg (encEx (wout x 6)).toArray)∧Below w.heap.size w WZ):=hid ⟨rfl,hbW.trans (fz.below hbW.size fun k hk=>by omega)⟩
 have l0:W.cell? ⟨w.heap.size,0,none⟩=some (.int .i64 x.kind):=cz b0
 have l1:W.cell? ⟨w.heap.size,1,none⟩=some (.string x.temp):=cz b0
 have l2:W.cell? ⟨w.heap.size,2,none⟩=some (.string x.ka):=cz b0
 have l3:W.cell? ⟨w.heap.size,3,none⟩=some (.string x.kb):=cz b0
 have l4:W.cell? ⟨w.heap.size,4,none⟩=some (.int .i64 x.iff):=cz b0
 have l5:W.cell? ⟨w.heap.size,5,none⟩=some (.slice x.vp x.vo.length x.vc):=cz b0
 have l6:W.cell? ⟨w.heap.size,6,none⟩=some (.slice x.ep x.eo.length x.ec):=cz b0
 have l7:W.cell? ⟨w.heap.size,7,none⟩=some (.slice x.pp x.po.length x.pc):=cz b0
 have l8:W.cell? ⟨w.heap.size,8,none⟩=some (.int .u64 x.stamp):=cz b0
 have l9:W.cell? ⟨w.heap.size,9,none⟩=some (.int .i64 x.num):=cz b0
 have y0:W.cell? ⟨w.heap.size+1,0,none⟩=some (.int .i64 0):=cz r1
 have z0:=Lib.frozen_of_heap r1 0
 have y1:W.cell? ⟨w.heap.size+1,1,none⟩=some (.string ⟨#[]⟩):=cz r1
 have z1:=Lib.frozen_of_heap r1 1
 have y2:W.cell? ⟨w.heap.size+1,2,none⟩=some (.string ⟨#[]⟩):=cz r1
 have z2:=Lib.frozen_of_heap r1 2
 have y3:W.cell? ⟨w.heap.size+1,3,none⟩=some (.string ⟨#[]⟩):=cz r1
 have z3:=Lib.frozen_of_heap r1 3
 have y4:W.cell? ⟨w.heap.size+1,4,none⟩=some (.int .i64 0):=cz r1
 have z4:=Lib.frozen_of_heap r1 4
 have y5:W.cell? ⟨w.heap.size+1,5,none⟩=some (.slice none 0 0):=cz r1
 have z5:=Lib.frozen_of_heap r1 5
 have y6:W.cell? ⟨w.heap.size+1,6,none⟩=some (.slice none 0 0):=cz r1
 have z6:=Lib.frozen_of_heap r1 6
 have y7:W.cell? ⟨w.heap.size+1,7,none⟩=some (.slice none 0 0):=cz r1
 have z7:=Lib.frozen_of_heap r1 7
 have y8:W.cell? ⟨w.heap.size+1,8,none⟩=some (.int .u64 0):=cz r1
 have z8:=Lib.frozen_of_heap r1 8
 have y9:W.cell? ⟨w.heap.size+1,9,none⟩=some (.int .i64 0):=cz r1
 have z9:=Lib.frozen_of_heap r1 9
 have g0:WZ.cell? ⟨w.heap.size+1,0,none⟩=some (.int .i64 x.kind):=cz bz
 have g1:WZ.cell? ⟨w.heap.size+1,1,none⟩=some (.string x.temp):=cz bz
 have g2:WZ.cell? ⟨w.heap.size+1,2,none⟩=some (.string x.ka):=cz bz
 have g3:WZ.cell? ⟨w.heap.size+1,3,none⟩=some (.string x.kb):=cz bz
 have g4:WZ.cell? ⟨w.heap.size+1,4,none⟩=some (.int .i64 x.iff):=cz bz
 have g5:WZ.cell? ⟨w.heap.size+1,5,none⟩=some (.slice x.vp x.vo.length x.vc):=cz bz
 have g6:WZ.cell? ⟨w.heap.size+1,6,none⟩=some (.slice x.ep x.eo.length x.ec):=cz bz
 have g7:WZ.cell? ⟨w.heap.size+1,7,none⟩=some (.slice x.pp x.po.length x.pc):=cz bz
 have g8:WZ.cell? ⟨w.heap.size+1,8,none⟩=some (.int .u64 x.stamp):=cz bz
 have g9:WZ.cell? ⟨w.heap.size+1,9,none⟩=some (.int .i64 x.num):=cz bz
 clear bz fz b0 b1 r1 hb hbW
 go_enter Tryz.func48,Tryz.ntmps48
 go_upto_region 19 with fail
 try rw [hW]
 go_wp2_with fail
 try rw [hWZ]
 exact bodyPost_ret (v:=.agg #[.int .i64 x.kind,.string x.temp,.string x.ka,.string x.kb,.int .i64 x.iff,.slice x.vp x.vo.length x.vc,.slice x.ep x.eo.length x.ec,.slice x.pp x.po.length x.pc,.int .u64 x.stamp,.int .i64 x.num]) (by simp [results,Tryz.results48,go_sem,g0,g1,g2,g3,g4,g5,g6,g7,g8,g9]) rfl HFIN.out
set_option maxHeartbeats 4000000 in
theorem without7 (x:Ex) (w:World):Calls Tryz.prog 48 #[aggEx x,.int .i64 7] w fun e w'=>e=.returned (aggEx (wout x 7))∧Below w.heap.size w w':=by
 unfold aggEx
 simp only [encEx,Ex.vs,Ex.es,Ex.ps]
 obtain ⟨W,hW⟩:∃W,((w.alloc (.cells #[.int .i64 x.kind,.string x.temp,.string x.ka,.string x.kb,.int .i64 x.iff,.slice x.vp x.vo.length x.vc,.slice x.ep x.eo.length x.ec,.slice x.pp x.po.length x.pc,.int .u64 x.stamp,.int .i64 x.num] 41)).alloc (.cells #[.int .i64 0,.string ⟨#[]⟩,.string ⟨#[]⟩,.string ⟨#[]⟩,.int .i64 0,.slice none 0 0,.slice none 0 0,.slice none 0 0,.int .u64 0,.int .i64 0] 41))=W:=⟨_,rfl⟩
 obtain ⟨b0,b1,hb⟩:=w0_facts w x W hW
 have c0:(W.setCell ⟨w.heap.size,7,none⟩ (.slice none 0 0)).heap[w.heap.size]? = some (.cells #[.int .i64 x.kind,.string x.temp,.string x.ka,.string x.kb,.int .i64 x.iff,.slice x.vp x.vo.length x.vc,.slice x.ep x.eo.length x.ec,.slice none 0 0,.int .u64 x.stamp,.int .i64 x.num] 41 (0,0)):=heap_setCell_same _ w.heap.size 7 _ _ (.slice none 0 0) b0
 have r1:(W.setCell ⟨w.heap.size,7,none⟩ (.slice none 0 0)).heap[w.heap.size+1]? = some (.cells #[.int .i64 0,.string ⟨#[]⟩,.string ⟨#[]⟩,.string ⟨#[]⟩,.int .i64 0,.slice none 0 0,.slice none 0 0,.slice none 0 0,.int .u64 0,.int .i64 0] 41 (0,0)):=((Below.heap_setCell _ _ _ _ (by show w.heap.size+1≠w.heap.size;omega)).trans b1)
 obtain ⟨W1,hW1⟩:∃W1,(W.setCell ⟨w.heap.size,7,none⟩ (.slice none 0 0))=W1:=⟨_,rfl⟩
 rw [hW1] at c0 r1
 obtain ⟨WZ,hWZ⟩:∃WZ,((((((((((W1.setCell ⟨w.heap.size+1,0,none⟩ (.int .i64 x.kind)).setCell ⟨w.heap.size+1,1,none⟩ (.string x.temp)).setCell ⟨w.heap.size+1,2,none⟩ (.string x.ka)).setCell ⟨w.heap.size+1,3,none⟩ (.string x.kb)).setCell ⟨w.heap.size+1,4,none⟩ (.int .i64 x.iff)).setCell ⟨w.heap.size+1,5,none⟩ (.slice x.vp x.vo.length x.vc)).setCell ⟨w.heap.size+1,6,none⟩ (.slice x.ep x.eo.length x.ec)).setCell ⟨w.heap.size+1,7,none⟩ (.slice none 0 0)).setCell ⟨w.heap.size+1,8,none⟩ (.int .u64 x.stamp)).setCell ⟨w.heap.size+1,9,none⟩ (.int .i64 x.num))=WZ:=⟨_,rfl⟩
 obtain ⟨bz,fz⟩:=out_ten r1 _ _ _ _ _ _ _ _ _ _ hWZ
 have hbW:Below w.heap.size w W1:=by rw [←hW1];exact (hb.setCell (p:=⟨w.heap.size,7,none⟩) (Nat.le_refl _) (.slice none 0 0))
 have HFIN:Hid (Ending.returned (.agg #[.int .i64 x.kind,.string x.temp,.string x.ka,.string x.kb,.int .i64 x.iff,.slice x.vp x.vo.length x.vc,.slice x.ep x.eo.length x.ec,.slice none 0 0,.int .u64 x.stamp,.int .i64 x.num])=.returned (.agg (encEx (wout x 7)).toArray)∧Below w.heap.size w WZ):=hid ⟨rfl,hbW.trans (fz.below hbW.size fun k hk=>by omega)⟩
 have s0:W.cell? ⟨w.heap.size,7,none⟩=some (.slice x.pp x.po.length x.pc):=cz b0
 have f0:=Lib.frozen_of_heap b0 7
 have k0:(W.setCell ⟨w.heap.size,7,none⟩ (.slice none 0 0)).heap[w.heap.size]? = some (.cells #[.int .i64 x.kind,.string x.temp,.string x.ka,.string x.kb,.int .i64 x.iff,.slice x.vp x.vo.length x.vc,.slice x.ep x.eo.length x.ec,.slice none 0 0,.int .u64 x.stamp,.int .i64 x.num] 41 (0,0)):=heap_setCell_same _ w.heap.size 7 _ _ (.slice none 0 0) b0
 have l0:W1.cell? ⟨w.heap.size,0,none⟩=some (.int .i64 x.kind):=cz c0
 have l1:W1.cell? ⟨w.heap.size,1,none⟩=some (.string x.temp):=cz c0
 have l2:W1.cell? ⟨w.heap.size,2,none⟩=some (.string x.ka):=cz c0
 have l3:W1.cell? ⟨w.heap.size,3,none⟩=some (.string x.kb):=cz c0
 have l4:W1.cell? ⟨w.heap.size,4,none⟩=some (.int .i64 x.iff):=cz c0
 have l5:W1.cell? ⟨w.heap.size,5,none⟩=some (.slice x.vp x.vo.length x.vc):=cz c0
 have l6:W1.cell? ⟨w.heap.size,6,none⟩=some (.slice x.ep x.eo.length x.ec):=cz c0
 have l7:W1.cell? ⟨w.heap.size,7,none⟩=some (.slice none 0 0):=cz c0
 have l8:W1.cell? ⟨w.heap.size,8,none⟩=some (.int .u64 x.stamp):=cz c0
 have l9:W1.cell? ⟨w.heap.size,9,none⟩=some (.int .i64 x.num):=cz c0
 have y0:W1.cell? ⟨w.heap.size+1,0,none⟩=some (.int .i64 0):=cz r1
 have z0:=Lib.frozen_of_heap r1 0
 have y1:W1.cell? ⟨w.heap.size+1,1,none⟩=some (.string ⟨#[]⟩):=cz r1
 have z1:=Lib.frozen_of_heap r1 1
 have y2:W1.cell? ⟨w.heap.size+1,2,none⟩=some (.string ⟨#[]⟩):=cz r1
 have z2:=Lib.frozen_of_heap r1 2
 have y3:W1.cell? ⟨w.heap.size+1,3,none⟩=some (.string ⟨#[]⟩):=cz r1
 have z3:=Lib.frozen_of_heap r1 3
 have y4:W1.cell? ⟨w.heap.size+1,4,none⟩=some (.int .i64 0):=cz r1
 have z4:=Lib.frozen_of_heap r1 4
 have y5:W1.cell? ⟨w.heap.size+1,5,none⟩=some (.slice none 0 0):=cz r1
 have z5:=Lib.frozen_of_heap r1 5
 have y6:W1.cell? ⟨w.heap.size+1,6,none⟩=some (.slice none 0 0):=cz r1
 have z6:=Lib.frozen_of_heap r1 6
 have y7:W1.cell? ⟨w.heap.size+1,7,none⟩=some (.slice none 0 0):=cz r1
 have z7:=Lib.frozen_of_heap r1 7
 have y8:W1.cell? ⟨w.heap.size+1,8,none⟩=some (.int .u64 0):=cz r1
 have z8:=Lib.frozen_of_heap r1 8
 have y9:W1.cell? ⟨w.heap.size+1,9,none⟩=some (.int .i64 0):=cz r1
 have z9:=Lib.frozen_of_heap r1 9
 have g0:WZ.cell? ⟨w.heap.size+1,0,none⟩=some (.int .i64 x.kind):=cz bz
 have g1:WZ.cell? ⟨w.heap.size+1,1,none⟩=some (.string x.temp):=cz bz
 have g2:WZ.cell? ⟨w.heap.size+1,2,none⟩=some (.string x.ka):=cz bz
 have g3:WZ.cell? ⟨w.heap.size+1,3,none⟩=some (.string x.kb):=cz bz
 have g4:WZ.cell? ⟨w.heap.size+1,4,none⟩=some (.int .i64 x.iff):=cz bz
 have g5:WZ.cell? ⟨w.heap.size+1,5,none⟩=some (.slice x.vp x.vo.length x.vc):=cz bz
 have g6:WZ.cell? ⟨w.heap.size+1,6,none⟩=some (.slice x.ep x.eo.length x.ec):=cz bz
 have g7:WZ.cell? ⟨w.heap.size+1,7,none⟩=some (.slice none 0 0):=cz bz
 have g8:WZ.cell? ⟨w.heap.size+1,8,none⟩=some (.int .u64 x.stamp):=cz bz
 have g9:WZ.cell? ⟨w.heap.size+1,9,none⟩=some (.int .i64 x.num):=cz bz
 clear bz fz b0 b1 r1 hb hbW c0 k0
 go_enter Tryz.func48,Tryz.ntmps48
 go_upto_region 12 with fail
 try rw [hW]
 go_upto_region 19 with fail
 try rw [hW1]
 go_wp2_with fail
 try rw [hWZ]
 exact bodyPost_ret (v:=.agg #[.int .i64 x.kind,.string x.temp,.string x.ka,.string x.kb,.int .i64 x.iff,.slice x.vp x.vo.length x.vc,.slice x.ep x.eo.length x.ec,.slice none 0 0,.int .u64 x.stamp,.int .i64 x.num]) (by simp [results,Tryz.results48,go_sem,g0,g1,g2,g3,g4,g5,g6,g7,g8,g9]) rfl HFIN.out
set_option maxHeartbeats 4000000 in
theorem without8 (x:Ex) (w:World):Calls Tryz.prog 48 #[aggEx x,.int .i64 8] w fun e w'=>e=.returned (aggEx (wout x 8))∧Below w.heap.size w w':=by
 unfold aggEx
 simp only [encEx,Ex.vs,Ex.es,Ex.ps]
 obtain ⟨W,hW⟩:∃W,((w.alloc (.cells #[.int .i64 x.kind,.string x.temp,.string x.ka,.string x.kb,.int .i64 x.iff,.slice x.vp x.vo.length x.vc,.slice x.ep x.eo.length x.ec,.slice x.pp x.po.length x.pc,.int .u64 x.stamp,.int .i64 x.num] 41)).alloc (.cells #[.int .i64 0,.string ⟨#[]⟩,.string ⟨#[]⟩,.string ⟨#[]⟩,.int .i64 0,.slice none 0 0,.slice none 0 0,.slice none 0 0,.int .u64 0,.int .i64 0] 41))=W:=⟨_,rfl⟩
 obtain ⟨b0,b1,hb⟩:=w0_facts w x W hW
 have c0:(W.setCell ⟨w.heap.size,6,none⟩ (.slice none 0 0)).heap[w.heap.size]? = some (.cells #[.int .i64 x.kind,.string x.temp,.string x.ka,.string x.kb,.int .i64 x.iff,.slice x.vp x.vo.length x.vc,.slice none 0 0,.slice x.pp x.po.length x.pc,.int .u64 x.stamp,.int .i64 x.num] 41 (0,0)):=heap_setCell_same _ w.heap.size 6 _ _ (.slice none 0 0) b0
 have r1:(W.setCell ⟨w.heap.size,6,none⟩ (.slice none 0 0)).heap[w.heap.size+1]? = some (.cells #[.int .i64 0,.string ⟨#[]⟩,.string ⟨#[]⟩,.string ⟨#[]⟩,.int .i64 0,.slice none 0 0,.slice none 0 0,.slice none 0 0,.int .u64 0,.int .i64 0] 41 (0,0)):=((Below.heap_setCell _ _ _ _ (by show w.heap.size+1≠w.heap.size;omega)).trans b1)
 obtain ⟨W1,hW1⟩:∃W1,(W.setCell ⟨w.heap.size,6,none⟩ (.slice none 0 0))=W1:=⟨_,rfl⟩
 rw [hW1] at c0 r1
 obtain ⟨WZ,hWZ⟩:∃WZ,((((((((((W1.setCell ⟨w.heap.size+1,0,none⟩ (.int .i64 x.kind)).setCell ⟨w.heap.size+1,1,none⟩ (.string x.temp)).setCell ⟨w.heap.size+1,2,none⟩ (.string x.ka)).setCell ⟨w.heap.size+1,3,none⟩ (.string x.kb)).setCell ⟨w.heap.size+1,4,none⟩ (.int .i64 x.iff)).setCell ⟨w.heap.size+1,5,none⟩ (.slice x.vp x.vo.length x.vc)).setCell ⟨w.heap.size+1,6,none⟩ (.slice none 0 0)).setCell ⟨w.heap.size+1,7,none⟩ (.slice x.pp x.po.length x.pc)).setCell ⟨w.heap.size+1,8,none⟩ (.int .u64 x.stamp)).setCell ⟨w.heap.size+1,9,none⟩ (.int .i64 x.num))=WZ:=⟨_,rfl⟩
 obtain ⟨bz,fz⟩:=out_ten r1 _ _ _ _ _ _ _ _ _ _ hWZ
 have hbW:Below w.heap.size w W1:=by rw [←hW1];exact (hb.setCell (p:=⟨w.heap.size,6,none⟩) (Nat.le_refl _) (.slice none 0 0))
 have HFIN:Hid (Ending.returned (.agg #[.int .i64 x.kind,.string x.temp,.string x.ka,.string x.kb,.int .i64 x.iff,.slice x.vp x.vo.length x.vc,.slice none 0 0,.slice x.pp x.po.length x.pc,.int .u64 x.stamp,.int .i64 x.num])=.returned (.agg (encEx (wout x 8)).toArray)∧Below w.heap.size w WZ):=hid ⟨rfl,hbW.trans (fz.below hbW.size fun k hk=>by omega)⟩
 have s0:W.cell? ⟨w.heap.size,6,none⟩=some (.slice x.ep x.eo.length x.ec):=cz b0
 have f0:=Lib.frozen_of_heap b0 6
 have k0:(W.setCell ⟨w.heap.size,6,none⟩ (.slice none 0 0)).heap[w.heap.size]? = some (.cells #[.int .i64 x.kind,.string x.temp,.string x.ka,.string x.kb,.int .i64 x.iff,.slice x.vp x.vo.length x.vc,.slice none 0 0,.slice x.pp x.po.length x.pc,.int .u64 x.stamp,.int .i64 x.num] 41 (0,0)):=heap_setCell_same _ w.heap.size 6 _ _ (.slice none 0 0) b0
 have l0:W1.cell? ⟨w.heap.size,0,none⟩=some (.int .i64 x.kind):=cz c0
 have l1:W1.cell? ⟨w.heap.size,1,none⟩=some (.string x.temp):=cz c0
 have l2:W1.cell? ⟨w.heap.size,2,none⟩=some (.string x.ka):=cz c0
 have l3:W1.cell? ⟨w.heap.size,3,none⟩=some (.string x.kb):=cz c0
 have l4:W1.cell? ⟨w.heap.size,4,none⟩=some (.int .i64 x.iff):=cz c0
 have l5:W1.cell? ⟨w.heap.size,5,none⟩=some (.slice x.vp x.vo.length x.vc):=cz c0
 have l6:W1.cell? ⟨w.heap.size,6,none⟩=some (.slice none 0 0):=cz c0
 have l7:W1.cell? ⟨w.heap.size,7,none⟩=some (.slice x.pp x.po.length x.pc):=cz c0
 have l8:W1.cell? ⟨w.heap.size,8,none⟩=some (.int .u64 x.stamp):=cz c0
 have l9:W1.cell? ⟨w.heap.size,9,none⟩=some (.int .i64 x.num):=cz c0
 have y0:W1.cell? ⟨w.heap.size+1,0,none⟩=some (.int .i64 0):=cz r1
 have z0:=Lib.frozen_of_heap r1 0
 have y1:W1.cell? ⟨w.heap.size+1,1,none⟩=some (.string ⟨#[]⟩):=cz r1
 have z1:=Lib.frozen_of_heap r1 1
 have y2:W1.cell? ⟨w.heap.size+1,2,none⟩=some (.string ⟨#[]⟩):=cz r1
 have z2:=Lib.frozen_of_heap r1 2
 have y3:W1.cell? ⟨w.heap.size+1,3,none⟩=some (.string ⟨#[]⟩):=cz r1
 have z3:=Lib.frozen_of_heap r1 3
 have y4:W1.cell? ⟨w.heap.size+1,4,none⟩=some (.int .i64 0):=cz r1
 have z4:=Lib.frozen_of_heap r1 4
 have y5:W1.cell? ⟨w.heap.size+1,5,none⟩=some (.slice none 0 0):=cz r1
 have z5:=Lib.frozen_of_heap r1 5
 have y6:W1.cell? ⟨w.heap.size+1,6,none⟩=some (.slice none 0 0):=cz r1
 have z6:=Lib.frozen_of_heap r1 6
 have y7:W1.cell? ⟨w.heap.size+1,7,none⟩=some (.slice none 0 0):=cz r1
 have z7:=Lib.frozen_of_heap r1 7
 have y8:W1.cell? ⟨w.heap.size+1,8,none⟩=some (.int .u64 0):=cz r1
 have z8:=Lib.frozen_of_heap r1 8
 have y9:W1.cell? ⟨w.heap.size+1,9,none⟩=some (.int .i64 0):=cz r1
 have z9:=Lib.frozen_of_heap r1 9
 have g0:WZ.cell? ⟨w.heap.size+1,0,none⟩=some (.int .i64 x.kind):=cz bz
 have g1:WZ.cell? ⟨w.heap.size+1,1,none⟩=some (.string x.temp):=cz bz
 have g2:WZ.cell? ⟨w.heap.size+1,2,none⟩=some (.string x.ka):=cz bz
 have g3:WZ.cell? ⟨w.heap.size+1,3,none⟩=some (.string x.kb):=cz bz
 have g4:WZ.cell? ⟨w.heap.size+1,4,none⟩=some (.int .i64 x.iff):=cz bz
 have g5:WZ.cell? ⟨w.heap.size+1,5,none⟩=some (.slice x.vp x.vo.length x.vc):=cz bz
 have g6:WZ.cell? ⟨w.heap.size+1,6,none⟩=some (.slice none 0 0):=cz bz
 have g7:WZ.cell? ⟨w.heap.size+1,7,none⟩=some (.slice x.pp x.po.length x.pc):=cz bz
 have g8:WZ.cell? ⟨w.heap.size+1,8,none⟩=some (.int .u64 x.stamp):=cz bz
 have g9:WZ.cell? ⟨w.heap.size+1,9,none⟩=some (.int .i64 x.num):=cz bz
 clear bz fz b0 b1 r1 hb hbW c0 k0
 go_enter Tryz.func48,Tryz.ntmps48
 go_upto_region 14 with fail
 try rw [hW]
 go_upto_region 19 with fail
 try rw [hW1]
 go_wp2_with fail
 try rw [hWZ]
 exact bodyPost_ret (v:=.agg #[.int .i64 x.kind,.string x.temp,.string x.ka,.string x.kb,.int .i64 x.iff,.slice x.vp x.vo.length x.vc,.slice none 0 0,.slice x.pp x.po.length x.pc,.int .u64 x.stamp,.int .i64 x.num]) (by simp [results,Tryz.results48,go_sem,g0,g1,g2,g3,g4,g5,g6,g7,g8,g9]) rfl HFIN.out
set_option maxHeartbeats 4000000 in
theorem without9 (x:Ex) (w:World):Calls Tryz.prog 48 #[aggEx x,.int .i64 9] w fun e w'=>e=.returned (aggEx (wout x 9))∧Below w.heap.size w w':=by
 unfold aggEx
 simp only [encEx,Ex.vs,Ex.es,Ex.ps]
 obtain ⟨W,hW⟩:∃W,((w.alloc (.cells #[.int .i64 x.kind,.string x.temp,.string x.ka,.string x.kb,.int .i64 x.iff,.slice x.vp x.vo.length x.vc,.slice x.ep x.eo.length x.ec,.slice x.pp x.po.length x.pc,.int .u64 x.stamp,.int .i64 x.num] 41)).alloc (.cells #[.int .i64 0,.string ⟨#[]⟩,.string ⟨#[]⟩,.string ⟨#[]⟩,.int .i64 0,.slice none 0 0,.slice none 0 0,.slice none 0 0,.int .u64 0,.int .i64 0] 41))=W:=⟨_,rfl⟩
 obtain ⟨b0,b1,hb⟩:=w0_facts w x W hW
 have c0:(W.setCell ⟨w.heap.size,9,none⟩ (.int .i64 0)).heap[w.heap.size]? = some (.cells #[.int .i64 x.kind,.string x.temp,.string x.ka,.string x.kb,.int .i64 x.iff,.slice x.vp x.vo.length x.vc,.slice x.ep x.eo.length x.ec,.slice x.pp x.po.length x.pc,.int .u64 x.stamp,.int .i64 0] 41 (0,0)):=heap_setCell_same _ w.heap.size 9 _ _ (.int .i64 0) b0
 have r1:(W.setCell ⟨w.heap.size,9,none⟩ (.int .i64 0)).heap[w.heap.size+1]? = some (.cells #[.int .i64 0,.string ⟨#[]⟩,.string ⟨#[]⟩,.string ⟨#[]⟩,.int .i64 0,.slice none 0 0,.slice none 0 0,.slice none 0 0,.int .u64 0,.int .i64 0] 41 (0,0)):=((Below.heap_setCell _ _ _ _ (by show w.heap.size+1≠w.heap.size;omega)).trans b1)
 obtain ⟨W1,hW1⟩:∃W1,(W.setCell ⟨w.heap.size,9,none⟩ (.int .i64 0))=W1:=⟨_,rfl⟩
 rw [hW1] at c0 r1
 obtain ⟨WZ,hWZ⟩:∃WZ,((((((((((W1.setCell ⟨w.heap.size+1,0,none⟩ (.int .i64 x.kind)).setCell ⟨w.heap.size+1,1,none⟩ (.string x.temp)).setCell ⟨w.heap.size+1,2,none⟩ (.string x.ka)).setCell ⟨w.heap.size+1,3,none⟩ (.string x.kb)).setCell ⟨w.heap.size+1,4,none⟩ (.int .i64 x.iff)).setCell ⟨w.heap.size+1,5,none⟩ (.slice x.vp x.vo.length x.vc)).setCell ⟨w.heap.size+1,6,none⟩ (.slice x.ep x.eo.length x.ec)).setCell ⟨w.heap.size+1,7,none⟩ (.slice x.pp x.po.length x.pc)).setCell ⟨w.heap.size+1,8,none⟩ (.int .u64 x.stamp)).setCell ⟨w.heap.size+1,9,none⟩ (.int .i64 0))=WZ:=⟨_,rfl⟩
 obtain ⟨bz,fz⟩:=out_ten r1 _ _ _ _ _ _ _ _ _ _ hWZ
 have hbW:Below w.heap.size w W1:=by rw [←hW1];exact (hb.setCell (p:=⟨w.heap.size,9,none⟩) (Nat.le_refl _) (.int .i64 0))
 have HFIN:Hid (Ending.returned (.agg #[.int .i64 x.kind,.string x.temp,.string x.ka,.string x.kb,.int .i64 x.iff,.slice x.vp x.vo.length x.vc,.slice x.ep x.eo.length x.ec,.slice x.pp x.po.length x.pc,.int .u64 x.stamp,.int .i64 0])=.returned (.agg (encEx (wout x 9)).toArray)∧Below w.heap.size w WZ):=hid ⟨rfl,hbW.trans (fz.below hbW.size fun k hk=>by omega)⟩
 have s0:W.cell? ⟨w.heap.size,9,none⟩=some (.int .i64 x.num):=cz b0
 have f0:=Lib.frozen_of_heap b0 9
 have k0:(W.setCell ⟨w.heap.size,9,none⟩ (.int .i64 0)).heap[w.heap.size]? = some (.cells #[.int .i64 x.kind,.string x.temp,.string x.ka,.string x.kb,.int .i64 x.iff,.slice x.vp x.vo.length x.vc,.slice x.ep x.eo.length x.ec,.slice x.pp x.po.length x.pc,.int .u64 x.stamp,.int .i64 0] 41 (0,0)):=heap_setCell_same _ w.heap.size 9 _ _ (.int .i64 0) b0
 have l0:W1.cell? ⟨w.heap.size,0,none⟩=some (.int .i64 x.kind):=cz c0
 have l1:W1.cell? ⟨w.heap.size,1,none⟩=some (.string x.temp):=cz c0
 have l2:W1.cell? ⟨w.heap.size,2,none⟩=some (.string x.ka):=cz c0
 have l3:W1.cell? ⟨w.heap.size,3,none⟩=some (.string x.kb):=cz c0
 have l4:W1.cell? ⟨w.heap.size,4,none⟩=some (.int .i64 x.iff):=cz c0
 have l5:W1.cell? ⟨w.heap.size,5,none⟩=some (.slice x.vp x.vo.length x.vc):=cz c0
 have l6:W1.cell? ⟨w.heap.size,6,none⟩=some (.slice x.ep x.eo.length x.ec):=cz c0
 have l7:W1.cell? ⟨w.heap.size,7,none⟩=some (.slice x.pp x.po.length x.pc):=cz c0
 have l8:W1.cell? ⟨w.heap.size,8,none⟩=some (.int .u64 x.stamp):=cz c0
 have l9:W1.cell? ⟨w.heap.size,9,none⟩=some (.int .i64 0):=cz c0
 have y0:W1.cell? ⟨w.heap.size+1,0,none⟩=some (.int .i64 0):=cz r1
 have z0:=Lib.frozen_of_heap r1 0
 have y1:W1.cell? ⟨w.heap.size+1,1,none⟩=some (.string ⟨#[]⟩):=cz r1
 have z1:=Lib.frozen_of_heap r1 1
 have y2:W1.cell? ⟨w.heap.size+1,2,none⟩=some (.string ⟨#[]⟩):=cz r1
 have z2:=Lib.frozen_of_heap r1 2
 have y3:W1.cell? ⟨w.heap.size+1,3,none⟩=some (.string ⟨#[]⟩):=cz r1
 have z3:=Lib.frozen_of_heap r1 3
 have y4:W1.cell? ⟨w.heap.size+1,4,none⟩=some (.int .i64 0):=cz r1
 have z4:=Lib.frozen_of_heap r1 4
 have y5:W1.cell? ⟨w.heap.size+1,5,none⟩=some (.slice none 0 0):=cz r1
 have z5:=Lib.frozen_of_heap r1 5
 have y6:W1.cell? ⟨w.heap.size+1,6,none⟩=some (.slice none 0 0):=cz r1
 have z6:=Lib.frozen_of_heap r1 6
 have y7:W1.cell? ⟨w.heap.size+1,7,none⟩=some (.slice none 0 0):=cz r1
 have z7:=Lib.frozen_of_heap r1 7
 have y8:W1.cell? ⟨w.heap.size+1,8,none⟩=some (.int .u64 0):=cz r1
 have z8:=Lib.frozen_of_heap r1 8
 have y9:W1.cell? ⟨w.heap.size+1,9,none⟩=some (.int .i64 0):=cz r1
 have z9:=Lib.frozen_of_heap r1 9
 have g0:WZ.cell? ⟨w.heap.size+1,0,none⟩=some (.int .i64 x.kind):=cz bz
 have g1:WZ.cell? ⟨w.heap.size+1,1,none⟩=some (.string x.temp):=cz bz
 have g2:WZ.cell? ⟨w.heap.size+1,2,none⟩=some (.string x.ka):=cz bz
 have g3:WZ.cell? ⟨w.heap.size+1,3,none⟩=some (.string x.kb):=cz bz
 have g4:WZ.cell? ⟨w.heap.size+1,4,none⟩=some (.int .i64 x.iff):=cz bz
 have g5:WZ.cell? ⟨w.heap.size+1,5,none⟩=some (.slice x.vp x.vo.length x.vc):=cz bz
 have g6:WZ.cell? ⟨w.heap.size+1,6,none⟩=some (.slice x.ep x.eo.length x.ec):=cz bz
 have g7:WZ.cell? ⟨w.heap.size+1,7,none⟩=some (.slice x.pp x.po.length x.pc):=cz bz
 have g8:WZ.cell? ⟨w.heap.size+1,8,none⟩=some (.int .u64 x.stamp):=cz bz
 have g9:WZ.cell? ⟨w.heap.size+1,9,none⟩=some (.int .i64 0):=cz bz
 clear bz fz b0 b1 r1 hb hbW c0 k0
 go_enter Tryz.func48,Tryz.ntmps48
 go_upto_region 16 with fail
 try rw [hW]
 go_upto_region 19 with fail
 try rw [hW1]
 go_wp2_with fail
 try rw [hWZ]
 exact bodyPost_ret (v:=.agg #[.int .i64 x.kind,.string x.temp,.string x.ka,.string x.kb,.int .i64 x.iff,.slice x.vp x.vo.length x.vc,.slice x.ep x.eo.length x.ec,.slice x.pp x.po.length x.pc,.int .u64 x.stamp,.int .i64 0]) (by simp [results,Tryz.results48,go_sem,g0,g1,g2,g3,g4,g5,g6,g7,g8,g9]) rfl HFIN.out
set_option maxHeartbeats 4000000 in
theorem without10 (x:Ex) (w:World):Calls Tryz.prog 48 #[aggEx x,.int .i64 10] w fun e w'=>e=.returned (aggEx (wout x 10))∧Below w.heap.size w w':=by
 unfold aggEx
 simp only [encEx,Ex.vs,Ex.es,Ex.ps]
 obtain ⟨W,hW⟩:∃W,((w.alloc (.cells #[.int .i64 x.kind,.string x.temp,.string x.ka,.string x.kb,.int .i64 x.iff,.slice x.vp x.vo.length x.vc,.slice x.ep x.eo.length x.ec,.slice x.pp x.po.length x.pc,.int .u64 x.stamp,.int .i64 x.num] 41)).alloc (.cells #[.int .i64 0,.string ⟨#[]⟩,.string ⟨#[]⟩,.string ⟨#[]⟩,.int .i64 0,.slice none 0 0,.slice none 0 0,.slice none 0 0,.int .u64 0,.int .i64 0] 41))=W:=⟨_,rfl⟩
 obtain ⟨b0,b1,hb⟩:=w0_facts w x W hW
 have c0:(W.setCell ⟨w.heap.size,8,none⟩ (.int .u64 0)).heap[w.heap.size]? = some (.cells #[.int .i64 x.kind,.string x.temp,.string x.ka,.string x.kb,.int .i64 x.iff,.slice x.vp x.vo.length x.vc,.slice x.ep x.eo.length x.ec,.slice x.pp x.po.length x.pc,.int .u64 0,.int .i64 x.num] 41 (0,0)):=heap_setCell_same _ w.heap.size 8 _ _ (.int .u64 0) b0
 have r1:(W.setCell ⟨w.heap.size,8,none⟩ (.int .u64 0)).heap[w.heap.size+1]? = some (.cells #[.int .i64 0,.string ⟨#[]⟩,.string ⟨#[]⟩,.string ⟨#[]⟩,.int .i64 0,.slice none 0 0,.slice none 0 0,.slice none 0 0,.int .u64 0,.int .i64 0] 41 (0,0)):=((Below.heap_setCell _ _ _ _ (by show w.heap.size+1≠w.heap.size;omega)).trans b1)
 obtain ⟨W1,hW1⟩:∃W1,(W.setCell ⟨w.heap.size,8,none⟩ (.int .u64 0))=W1:=⟨_,rfl⟩
 rw [hW1] at c0 r1
 obtain ⟨WZ,hWZ⟩:∃WZ,((((((((((W1.setCell ⟨w.heap.size+1,0,none⟩ (.int .i64 x.kind)).setCell ⟨w.heap.size+1,1,none⟩ (.string x.temp)).setCell ⟨w.heap.size+1,2,none⟩ (.string x.ka)).setCell ⟨w.heap.size+1,3,none⟩ (.string x.kb)).setCell ⟨w.heap.size+1,4,none⟩ (.int .i64 x.iff)).setCell ⟨w.heap.size+1,5,none⟩ (.slice x.vp x.vo.length x.vc)).setCell ⟨w.heap.size+1,6,none⟩ (.slice x.ep x.eo.length x.ec)).setCell ⟨w.heap.size+1,7,none⟩ (.slice x.pp x.po.length x.pc)).setCell ⟨w.heap.size+1,8,none⟩ (.int .u64 0)).setCell ⟨w.heap.size+1,9,none⟩ (.int .i64 x.num))=WZ:=⟨_,rfl⟩
 obtain ⟨bz,fz⟩:=out_ten r1 _ _ _ _ _ _ _ _ _ _ hWZ
 have hbW:Below w.heap.size w W1:=by rw [←hW1];exact (hb.setCell (p:=⟨w.heap.size,8,none⟩) (Nat.le_refl _) (.int .u64 0))
 have HFIN:Hid (Ending.returned (.agg #[.int .i64 x.kind,.string x.temp,.string x.ka,.string x.kb,.int .i64 x.iff,.slice x.vp x.vo.length x.vc,.slice x.ep x.eo.length x.ec,.slice x.pp x.po.length x.pc,.int .u64 0,.int .i64 x.num])=.returned (.agg (encEx (wout x 10)).toArray)∧Below w.heap.size w WZ):=hid ⟨rfl,hbW.trans (fz.below hbW.size fun k hk=>by omega)⟩
 have s0:W.cell? ⟨w.heap.size,8,none⟩=some (.int .u64 x.stamp):=cz b0
 have f0:=Lib.frozen_of_heap b0 8
 have k0:(W.setCell ⟨w.heap.size,8,none⟩ (.int .u64 0)).heap[w.heap.size]? = some (.cells #[.int .i64 x.kind,.string x.temp,.string x.ka,.string x.kb,.int .i64 x.iff,.slice x.vp x.vo.length x.vc,.slice x.ep x.eo.length x.ec,.slice x.pp x.po.length x.pc,.int .u64 0,.int .i64 x.num] 41 (0,0)):=heap_setCell_same _ w.heap.size 8 _ _ (.int .u64 0) b0
 have l0:W1.cell? ⟨w.heap.size,0,none⟩=some (.int .i64 x.kind):=cz c0
 have l1:W1.cell? ⟨w.heap.size,1,none⟩=some (.string x.temp):=cz c0
 have l2:W1.cell? ⟨w.heap.size,2,none⟩=some (.string x.ka):=cz c0
 have l3:W1.cell? ⟨w.heap.size,3,none⟩=some (.string x.kb):=cz c0
 have l4:W1.cell? ⟨w.heap.size,4,none⟩=some (.int .i64 x.iff):=cz c0
 have l5:W1.cell? ⟨w.heap.size,5,none⟩=some (.slice x.vp x.vo.length x.vc):=cz c0
 have l6:W1.cell? ⟨w.heap.size,6,none⟩=some (.slice x.ep x.eo.length x.ec):=cz c0
 have l7:W1.cell? ⟨w.heap.size,7,none⟩=some (.slice x.pp x.po.length x.pc):=cz c0
 have l8:W1.cell? ⟨w.heap.size,8,none⟩=some (.int .u64 0):=cz c0
 have l9:W1.cell? ⟨w.heap.size,9,none⟩=some (.int .i64 x.num):=cz c0
 have y0:W1.cell? ⟨w.heap.size+1,0,none⟩=some (.int .i64 0):=cz r1
 have z0:=Lib.frozen_of_heap r1 0
 have y1:W1.cell? ⟨w.heap.size+1,1,none⟩=some (.string ⟨#[]⟩):=cz r1
 have z1:=Lib.frozen_of_heap r1 1
 have y2:W1.cell? ⟨w.heap.size+1,2,none⟩=some (.string ⟨#[]⟩):=cz r1
 have z2:=Lib.frozen_of_heap r1 2
 have y3:W1.cell? ⟨w.heap.size+1,3,none⟩=some (.string ⟨#[]⟩):=cz r1
 have z3:=Lib.frozen_of_heap r1 3
 have y4:W1.cell? ⟨w.heap.size+1,4,none⟩=some (.int .i64 0):=cz r1
 have z4:=Lib.frozen_of_heap r1 4
 have y5:W1.cell? ⟨w.heap.size+1,5,none⟩=some (.slice none 0 0):=cz r1
 have z5:=Lib.frozen_of_heap r1 5
 have y6:W1.cell? ⟨w.heap.size+1,6,none⟩=some (.slice none 0 0):=cz r1
 have z6:=Lib.frozen_of_heap r1 6
 have y7:W1.cell? ⟨w.heap.size+1,7,none⟩=some (.slice none 0 0):=cz r1
 have z7:=Lib.frozen_of_heap r1 7
 have y8:W1.cell? ⟨w.heap.size+1,8,none⟩=some (.int .u64 0):=cz r1
 have z8:=Lib.frozen_of_heap r1 8
 have y9:W1.cell? ⟨w.heap.size+1,9,none⟩=some (.int .i64 0):=cz r1
 have z9:=Lib.frozen_of_heap r1 9
 have g0:WZ.cell? ⟨w.heap.size+1,0,none⟩=some (.int .i64 x.kind):=cz bz
 have g1:WZ.cell? ⟨w.heap.size+1,1,none⟩=some (.string x.temp):=cz bz
 have g2:WZ.cell? ⟨w.heap.size+1,2,none⟩=some (.string x.ka):=cz bz
 have g3:WZ.cell? ⟨w.heap.size+1,3,none⟩=some (.string x.kb):=cz bz
 have g4:WZ.cell? ⟨w.heap.size+1,4,none⟩=some (.int .i64 x.iff):=cz bz
 have g5:WZ.cell? ⟨w.heap.size+1,5,none⟩=some (.slice x.vp x.vo.length x.vc):=cz bz
 have g6:WZ.cell? ⟨w.heap.size+1,6,none⟩=some (.slice x.ep x.eo.length x.ec):=cz bz
 have g7:WZ.cell? ⟨w.heap.size+1,7,none⟩=some (.slice x.pp x.po.length x.pc):=cz bz
 have g8:WZ.cell? ⟨w.heap.size+1,8,none⟩=some (.int .u64 0):=cz bz
 have g9:WZ.cell? ⟨w.heap.size+1,9,none⟩=some (.int .i64 x.num):=cz bz
 clear bz fz b0 b1 r1 hb hbW c0 k0
 go_enter Tryz.func48,Tryz.ntmps48
 go_upto_region 18 with fail
 try rw [hW]
 go_upto_region 19 with fail
 try rw [hW1]
 go_wp2_with fail
 try rw [hWZ]
 exact bodyPost_ret (v:=.agg #[.int .i64 x.kind,.string x.temp,.string x.ka,.string x.kb,.int .i64 x.iff,.slice x.vp x.vo.length x.vc,.slice x.ep x.eo.length x.ec,.slice x.pp x.po.length x.pc,.int .u64 0,.int .i64 x.num]) (by simp [results,Tryz.results48,go_sem,g0,g1,g2,g3,g4,g5,g6,g7,g8,g9]) rfl HFIN.out
theorem without_any (x:Ex) (p:Nat) (w:World) (h1:1≤p) (h2:p≤10):Calls Tryz.prog 48 #[aggEx x,.int .i64 p] w fun e w'=>e=.returned (aggEx (wout x p))∧Below w.heap.size w w':=by
 have hp:p=1∨p=2∨p=3∨p=4∨p=5∨p=6∨p=7∨p=8∨p=9∨p=10:=by omega
 rcases hp with rfl|rfl|rfl|rfl|rfl|rfl|rfl|rfl|rfl|rfl
 ·exact without1 x w
 ·exact without2 x w
 ·exact without3 x w
 ·exact without4 x w
 ·exact without5 x w
 ·exact without6 x w
 ·exact without7 x w
 ·exact without8 x w
 ·exact without9 x w
 ·exact without10 x w
end
section
open Go.RowKit Go.Sort Go.Lib
theorem eql_keyQ (a b c d:ByteArray) (w:World):(binOp .eql 35 (.agg #[.string a,.string b]) (.agg #[.string c,.string d])).run Tryz.prog w=.ok (.bool (decide (a=c∧b=d))) w:=by
 have hS:Tryz.prog.underlying 35=some (.struct (Tryz.prog.fieldsOf 35)):=by kernel_rfl
 have hp:Tryz.prog.stoodInHeld 35=false:=by kernel_rfl
 have u9:=Tryz.underlying9
 have a9:=Tryz.isAgg9
 have z9:=Tryz.sizeOf9
 rw [run_eql_struct,show (10000:Nat)=9999+1 from rfl,run_equalIn_agg w 9999 35 _ _ hS hp]
 simp only [Program.fieldsOf,Tryz.underlying35]
 go_simp
 by_cases h1:a=c
 ·subst h1
  by_cases h3:b=d
  ·subst h3;simp
  ·have e3:=beq_eq_false_iff_ne.1 (seq_false h3)
   simp [h3,e3]
 ·have e1:=beq_eq_false_iff_ne.1 (seq_false h1)
  simp [h1,e1]
theorem neqE_at:NeqAt Tryz.prog 49 (fun x:Ed=>.agg (encE x).toArray) (fun x y=>decide (x=y)) :=
 ⟨fun x y w=>neq_edit x y w,GuardAt.agg (fun x:Ed=>(encE x).toArray) (by kernel_rfl)⟩
theorem allEqE:∀(p q:List Ed),Lib.allEq (fun x y=>decide (x=y)) p q=decide (p=q)
 | [],[]=>rfl
 | [],y::q=>by simp [Lib.allEq]
 | x::p,[]=>by simp [Lib.allEq]
 | x::p,y::q=>by
  have:=allEqE p q
  unfold Lib.allEq
  rw [this]
  by_cases h1:x=y<;>by_cases h2:p=q<;>simp [h1,h2]
set_option maxHeartbeats 1000000 in
theorem eqE_none1 (q1 q2:Option Addr) (c1 c2 m:Nat) (hm:m≤maxLen) (w:World) :
  Calls Tryz.prog 57 #[.slice q1 0 c1,.slice q2 m c2] w fun e w'=>e=.returned (.bool (decide (m=0)))∧w'=w:=by
 unfold maxLen at hm
 by_cases h0:m=0
 ·subst h0
  go_enter Tryz.func57,Tryz.ntmps57
  go_wp2_with fail
  refine wp_loop_rounds 1 ?_
  rw [rounds_succ]
  go_wp2_with fail
  go_ret
  exact ⟨rfl,rfl⟩
 ·have hz:((0:Int) != (m:Int))=true:=by simp;omega
  have hd:=decide_eq_false h0
  rw [hd]
  go_enter Tryz.func57,Tryz.ntmps57
  go_wp2_with fail
  go_ret
  exact ⟨rfl,rfl⟩
set_option maxHeartbeats 1000000 in
theorem eqE_none2 (q1 q2:Option Addr) (c1 c2 m:Nat) (hm:m≠0) (w:World) :
  Calls Tryz.prog 57 #[.slice q1 m c1,.slice q2 0 c2] w fun e w'=>e=.returned (.bool false)∧w'=w:=by
 have hz:((m:Int) != 0)=true:=by simp;omega
 go_enter Tryz.func57,Tryz.ntmps57
 go_wp2_with fail
 go_ret
 exact ⟨rfl,rfl⟩
theorem eqE_any (v u:Value) (p q:List Ed) (w:World) (hv:KE.Is w v p) (hu:KE.Is w u q) (hl1:p.length≤maxLen) (hl2:q.length≤maxLen) :
  Calls Tryz.prog 57 #[v,u] w fun e w'=>e=.returned (.bool (decide (p=q)))∧Below w.heap.size w w':=by
 obtain ⟨a1,k1,rfl,hd1⟩:=hv
 obtain ⟨a2,k2,rfl,hd2⟩:=hu
 by_cases h1:p=[]
 ·subst h1
  refine (eqE_none1 a1 a2 k1 k2 q.length hl2 w).mono ?_
  rintro e w' ⟨rfl,rfl⟩
  refine ⟨ret_bool ?_,Below.refl _ _⟩
  cases q<;>simp
 ·by_cases h2:q=[]
  ·subst h2
   refine (eqE_none2 a1 a2 k1 k2 p.length (fun e=>h1 (List.length_eq_zero_iff.1 e)) w).mono ?_
   rintro e w' ⟨rfl,rfl⟩
   exact ⟨ret_bool (by rw [decide_eq_false h1]),Below.refl _ _⟩
  ·rcases hd1 with hd1|⟨b1,o1,rfl,x1⟩
   ·exact absurd hd1 h1
   ·rcases hd2 with hd2|⟨b2,o2,rfl,x2⟩
    ·exact absurd hd2 h2
    ·unfold maxLen at hl1 hl2
     have hc:=AnyQ.slices_Equal (α:=Ed) Tryz.eqEdt 3 Tryz.isAgg49 Tryz.sizeOf49 encE (fun _=>rfl) (fun x y=>decide (x=y)) neqE_at b1 o1 p.length k1 b2 o2 q.length k2 p q w (Nat.le_refl _) (Nat.le_refl _) (by omega) (by omega)
      (fun j hj i v hv=>by rw [getElem!_pos p j hj] at hv;exact ke_enc x1 j hj i v hv) (fun j hj i v hv=>by rw [getElem!_pos q j hj] at hv;exact ke_enc x2 j hj i v hv)
     change Calls Tryz.prog 57 _ _ _ at hc
     refine hc.mono ?_
     rintro e w' ⟨rfl,n,rfl⟩
     exact ⟨ret_bool (by rw [List.take_length,List.take_length,allEqE]),bel_drewN (Below.refl _ _) n⟩
instance:DecidableEq En:=fun a b =>
 decidable_of_iff (a.kind=b.kind∧a.temp=b.temp∧(a.ka=b.ka∧a.kb=b.kb)∧a.iff=b.iff∧a.stamp=b.stamp∧a.num=b.num∧a.val=b.val∧a.eds=b.eds∧a.pred=b.pred) (by
  cases a;cases b
  simp only [En.mk.injEq]
  constructor
  ·rintro ⟨h1,h2,⟨h3,h4⟩,h5,h6,h7,h8,h9,h10⟩;exact ⟨h1,h2,h3,h4,h5,h8,h9,h10,h6,h7⟩
  ·rintro ⟨h1,h2,h3,h4,h5,h8,h9,h10,h6,h7⟩;exact ⟨h1,h2,⟨h3,h4⟩,h5,h6,h7,h8,h9,h10⟩)
theorem en_eq (a b:En):a=b↔(a.kind=b.kind∧a.temp=b.temp∧(a.ka=b.ka∧a.kb=b.kb)∧a.iff=b.iff∧a.stamp=b.stamp∧a.num=b.num∧a.val=b.val∧a.eds=b.eds∧a.pred=b.pred):=by
  cases a;cases b
  simp only [En.mk.injEq]
  constructor
  ·rintro ⟨h1,h2,h3,h4,h5,h8,h9,h10,h6,h7⟩;exact ⟨h1,h2,⟨h3,h4⟩,h5,h6,h7,h8,h9,h10⟩
  ·rintro ⟨h1,h2,⟨h3,h4⟩,h5,h6,h7,h8,h9,h10⟩;exact ⟨h1,h2,h3,h4,h5,h8,h9,h10,h6,h7⟩
set_option maxHeartbeats 8000000 in
set_option maxRecDepth 100000 in
theorem opsame_any (x y:Ex) (w:World) (hx:ExIn w x) (hy:ExIn w y) :
  Calls Tryz.prog 28 #[aggEx x,aggEx y] w fun e w'=>e=.returned (.bool (decide (x.en=y.en)))∧Below w.heap.size w w':=by
 obtain ⟨W,hW⟩:∃W,(w.alloc (.cells (encEx x).toArray 41)).alloc (.cells (encEx y).toArray 41)=W:=⟨_,rfl⟩
 have hbl:Below w.heap.size w W:=by rw [←hW];exact ((Below.refl _ _).alloc (Nat.le_refl _) _).alloc (by simp) _
 have b0:W.heap[w.heap.size]? = some (.cells (encEx x).toArray 41 (0,0)):=by
  rw [←hW,Below.heap_alloc _ _ _ (by simp)];exact heap_alloc_new w _
 have b1:W.heap[w.heap.size+1]? = some (.cells (encEx y).toArray 41 (0,0)):=by
  rw [←hW]
  have:=heap_alloc_new (w.alloc (.cells (encEx x).toArray 41)) (.cells (encEx y).toArray 41)
  simpa using this
 have HX:=hid (hx.on hbl)
 have HY:=hid (hy.on hbl)
 have HB:=hid hbl
 have HB0:=hid b0
 have HB1:=hid b1
 have HEV:=hid (equal_any x.vs y.vs x.vo y.vo W HX.out.val HY.out.val HX.out.fit HY.out.fit)
 have HEE:Hid (∀V,Below W.heap.size W V→Calls Tryz.prog 57 #[x.es,y.es] V fun e w'=>e=.returned (.bool (decide (x.eo=y.eo)))∧Below V.heap.size V w'):=hid fun V h=>eqE_any x.es y.es x.eo y.eo V (Kind.is_kept HX.out.eds h) (Kind.is_kept HY.out.eds h) HX.out.efit.1 HY.out.efit.1
 have HEP:Hid (∀V,Below W.heap.size W V→Calls Tryz.prog 58 #[x.ps,y.ps] V fun e w'=>e=.returned (.bool (decide (x.po=y.po)))∧Below V.heap.size V w'):=hid fun V h=>pequal_any x.ps y.ps x.po y.po V (Kind.is_kept HX.out.prd h) (Kind.is_kept HY.out.prd h) HX.out.pfit.1 HY.out.pfit.1
 have HD:Hid (decide (x.en=y.en)=decide (x.kind=y.kind∧x.temp=y.temp∧(x.ka=y.ka∧x.kb=y.kb)∧x.iff=y.iff∧x.stamp=y.stamp∧x.num=y.num∧x.vo.map Fx.fld=y.vo.map Fx.fld∧x.eo=y.eo∧x.po=y.po)):=hid (by
  rw [decide_eq_decide];exact en_eq x.en y.en)
 have HKQ:=hid (eql_keyQ x.ka x.kb y.ka y.kb)
 unfold aggEx
 simp only [encEx,Ex.vs,Ex.es,Ex.ps] at HB0 HB1 HEV HEE HEP hW ⊢
 clear b0 b1 hbl hx hy
 have hc:∀V,Below W.heap.size W V→V.heap[w.heap.size]? = W.heap[w.heap.size]?∧V.heap[w.heap.size+1]? = W.heap[w.heap.size+1]?:=fun V h =>
  ⟨h.block _ (Array.getElem?_eq_some_iff.1 HB0.out).1,h.block _ (Array.getElem?_eq_some_iff.1 HB1.out).1⟩
 have HC:=hid hc
 clear hc
 have x0:W.cell? ⟨w.heap.size,0,none⟩=some (.int .i64 x.kind):=by rw [Lib.cell_of_heap HB0.out];rfl
 have v0:W.cell? ⟨w.heap.size+1,0,none⟩=some (.int .i64 y.kind):=by rw [Lib.cell_of_heap HB1.out];rfl
 have x1:W.cell? ⟨w.heap.size,1,none⟩=some (.string x.temp):=by rw [Lib.cell_of_heap HB0.out];rfl
 have v1:W.cell? ⟨w.heap.size+1,1,none⟩=some (.string y.temp):=by rw [Lib.cell_of_heap HB1.out];rfl
 have x2:W.cell? ⟨w.heap.size,2,none⟩=some (.string x.ka):=by rw [Lib.cell_of_heap HB0.out];rfl
 have v2:W.cell? ⟨w.heap.size+1,2,none⟩=some (.string y.ka):=by rw [Lib.cell_of_heap HB1.out];rfl
 have x3:W.cell? ⟨w.heap.size,3,none⟩=some (.string x.kb):=by rw [Lib.cell_of_heap HB0.out];rfl
 have v3:W.cell? ⟨w.heap.size+1,3,none⟩=some (.string y.kb):=by rw [Lib.cell_of_heap HB1.out];rfl
 have x4:W.cell? ⟨w.heap.size,4,none⟩=some (.int .i64 x.iff):=by rw [Lib.cell_of_heap HB0.out];rfl
 have v4:W.cell? ⟨w.heap.size+1,4,none⟩=some (.int .i64 y.iff):=by rw [Lib.cell_of_heap HB1.out];rfl
 have x5:W.cell? ⟨w.heap.size,5,none⟩=some (.slice x.vp x.vo.length x.vc):=by rw [Lib.cell_of_heap HB0.out];rfl
 have v5:W.cell? ⟨w.heap.size+1,5,none⟩=some (.slice y.vp y.vo.length y.vc):=by rw [Lib.cell_of_heap HB1.out];rfl
 have x6:W.cell? ⟨w.heap.size,6,none⟩=some (.slice x.ep x.eo.length x.ec):=by rw [Lib.cell_of_heap HB0.out];rfl
 have v6:W.cell? ⟨w.heap.size+1,6,none⟩=some (.slice y.ep y.eo.length y.ec):=by rw [Lib.cell_of_heap HB1.out];rfl
 have x7:W.cell? ⟨w.heap.size,7,none⟩=some (.slice x.pp x.po.length x.pc):=by rw [Lib.cell_of_heap HB0.out];rfl
 have v7:W.cell? ⟨w.heap.size+1,7,none⟩=some (.slice y.pp y.po.length y.pc):=by rw [Lib.cell_of_heap HB1.out];rfl
 have x8:W.cell? ⟨w.heap.size,8,none⟩=some (.int .u64 x.stamp):=by rw [Lib.cell_of_heap HB0.out];rfl
 have v8:W.cell? ⟨w.heap.size+1,8,none⟩=some (.int .u64 y.stamp):=by rw [Lib.cell_of_heap HB1.out];rfl
 have x9:W.cell? ⟨w.heap.size,9,none⟩=some (.int .i64 x.num):=by rw [Lib.cell_of_heap HB0.out];rfl
 have v9:W.cell? ⟨w.heap.size+1,9,none⟩=some (.int .i64 y.num):=by rw [Lib.cell_of_heap HB1.out];rfl
 by_cases h_kind:x.kind=y.kind
 case neg =>
  have q_kind:(x.kind==y.kind)=false:=beq_eq_false_iff_ne.2 h_kind
  have HF:Hid (decide (x.kind=y.kind∧x.temp=y.temp∧(x.ka=y.ka∧x.kb=y.kb)∧x.iff=y.iff∧x.stamp=y.stamp∧x.num=y.num∧x.vo.map Fx.fld=y.vo.map Fx.fld∧x.eo=y.eo∧x.po=y.po)=false):=hid (decide_eq_false fun q=>h_kind q.1)
  have H_kind:=hid h_kind
  clear h_kind
  go_enter Tryz.func28,Tryz.ntmps28
  go_upto_region 1 with fail
  try rw [hW]
  go_wp2_with fail
  go_ret
  exact ⟨by rw [HD.out,HF.out];rfl,HB.out⟩
 have q_kind:(x.kind==y.kind)=true:=beq_iff_eq.2 h_kind
 by_cases h_temp:x.temp=y.temp
 case neg =>
  have q_temp:(x.temp.toList==y.temp.toList)=false:=seq_false h_temp
  have HF:Hid (decide (x.kind=y.kind∧x.temp=y.temp∧(x.ka=y.ka∧x.kb=y.kb)∧x.iff=y.iff∧x.stamp=y.stamp∧x.num=y.num∧x.vo.map Fx.fld=y.vo.map Fx.fld∧x.eo=y.eo∧x.po=y.po)=false):=hid (decide_eq_false fun q=>h_temp q.2.1)
  have H_kind:=hid h_kind
  clear h_kind
  have H_temp:=hid h_temp
  clear h_temp
  go_enter Tryz.func28,Tryz.ntmps28
  go_upto_region 1 with fail
  try rw [hW]
  go_wp2_with fail
  go_ret
  exact ⟨by rw [HD.out,HF.out];rfl,HB.out⟩
 have q_temp:(x.temp.toList==y.temp.toList)=true:=seq_true h_temp
 by_cases h_key:(x.ka=y.ka∧x.kb=y.kb)
 case neg =>
  have q_key:∀V,(binOp .eql 35 (.agg #[.string x.ka,.string x.kb]) (.agg #[.string y.ka,.string y.kb])).run Tryz.prog V=.ok (.bool false) V:=fun V=>by rw [HKQ.out V,decide_eq_false h_key]
  have HF:Hid (decide (x.kind=y.kind∧x.temp=y.temp∧(x.ka=y.ka∧x.kb=y.kb)∧x.iff=y.iff∧x.stamp=y.stamp∧x.num=y.num∧x.vo.map Fx.fld=y.vo.map Fx.fld∧x.eo=y.eo∧x.po=y.po)=false):=hid (decide_eq_false fun q=>h_key q.2.2.1)
  have H_kind:=hid h_kind
  clear h_kind
  have H_temp:=hid h_temp
  clear h_temp
  have H_key:=hid h_key
  clear h_key
  go_enter Tryz.func28,Tryz.ntmps28
  go_upto_region 1 with fail
  try rw [hW]
  go_wp2_with fail
  go_ret
  exact ⟨by rw [HD.out,HF.out];rfl,HB.out⟩
 have q_key:∀V,(binOp .eql 35 (.agg #[.string x.ka,.string x.kb]) (.agg #[.string y.ka,.string y.kb])).run Tryz.prog V=.ok (.bool true) V:=fun V=>by rw [HKQ.out V,decide_eq_true h_key]
 by_cases h_iff:x.iff=y.iff
 case neg =>
  have q_iff:(x.iff==y.iff)=false:=beq_eq_false_iff_ne.2 h_iff
  have HF:Hid (decide (x.kind=y.kind∧x.temp=y.temp∧(x.ka=y.ka∧x.kb=y.kb)∧x.iff=y.iff∧x.stamp=y.stamp∧x.num=y.num∧x.vo.map Fx.fld=y.vo.map Fx.fld∧x.eo=y.eo∧x.po=y.po)=false):=hid (decide_eq_false fun q=>h_iff q.2.2.2.1)
  have H_kind:=hid h_kind
  clear h_kind
  have H_temp:=hid h_temp
  clear h_temp
  have H_key:=hid h_key
  clear h_key
  have H_iff:=hid h_iff
  clear h_iff
  go_enter Tryz.func28,Tryz.ntmps28
  go_upto_region 1 with fail
  try rw [hW]
  go_wp2_with fail
  go_ret
  exact ⟨by rw [HD.out,HF.out];rfl,HB.out⟩
 have q_iff:(x.iff==y.iff)=true:=beq_iff_eq.2 h_iff
 by_cases h_stamp:x.stamp=y.stamp
 case neg =>
  have q_stamp:(x.stamp==y.stamp)=false:=beq_eq_false_iff_ne.2 h_stamp
  have HF:Hid (decide (x.kind=y.kind∧x.temp=y.temp∧(x.ka=y.ka∧x.kb=y.kb)∧x.iff=y.iff∧x.stamp=y.stamp∧x.num=y.num∧x.vo.map Fx.fld=y.vo.map Fx.fld∧x.eo=y.eo∧x.po=y.po)=false):=hid (decide_eq_false fun q=>h_stamp q.2.2.2.2.1)
  have H_kind:=hid h_kind
  clear h_kind
  have H_temp:=hid h_temp
  clear h_temp
  have H_key:=hid h_key
  clear h_key
  have H_iff:=hid h_iff
  clear h_iff
  have H_stamp:=hid h_stamp
  clear h_stamp
  go_enter Tryz.func28,Tryz.ntmps28
  go_upto_region 1 with fail
  try rw [hW]
  go_wp2_with fail
  go_ret
  exact ⟨by rw [HD.out,HF.out];rfl,HB.out⟩
 have q_stamp:(x.stamp==y.stamp)=true:=beq_iff_eq.2 h_stamp
 by_cases h_num:x.num=y.num
 case neg =>
  have q_num:(x.num==y.num)=false:=beq_eq_false_iff_ne.2 h_num
  have HF:Hid (decide (x.kind=y.kind∧x.temp=y.temp∧(x.ka=y.ka∧x.kb=y.kb)∧x.iff=y.iff∧x.stamp=y.stamp∧x.num=y.num∧x.vo.map Fx.fld=y.vo.map Fx.fld∧x.eo=y.eo∧x.po=y.po)=false):=hid (decide_eq_false fun q=>h_num q.2.2.2.2.2.1)
  have H_kind:=hid h_kind
  clear h_kind
  have H_temp:=hid h_temp
  clear h_temp
  have H_key:=hid h_key
  clear h_key
  have H_iff:=hid h_iff
  clear h_iff
  have H_stamp:=hid h_stamp
  clear h_stamp
  have H_num:=hid h_num
  clear h_num
  go_enter Tryz.func28,Tryz.ntmps28
  go_upto_region 1 with fail
  try rw [hW]
  go_wp2_with fail
  go_ret
  exact ⟨by rw [HD.out,HF.out];rfl,HB.out⟩
 have q_num:(x.num==y.num)=true:=beq_iff_eq.2 h_num
 have HALL:Hid (decide (x.kind=y.kind∧x.temp=y.temp∧(x.ka=y.ka∧x.kb=y.kb)∧x.iff=y.iff∧x.stamp=y.stamp∧x.num=y.num∧x.vo.map Fx.fld=y.vo.map Fx.fld∧x.eo=y.eo∧x.po=y.po)=decide (x.vo.map Fx.fld=y.vo.map Fx.fld∧x.eo=y.eo∧x.po=y.po)):=hid (by rw [decide_eq_decide];exact ⟨fun q=>q.2.2.2.2.2.2,fun q=>⟨h_kind,h_temp,h_key,h_iff,h_stamp,h_num,q⟩⟩)
 clear h_kind h_temp h_key h_iff h_stamp h_num
 by_cases h_val:x.vo.map Fx.fld=y.vo.map Fx.fld
 case neg =>
  have q_val:=decide_eq_false h_val
  have HF:Hid (decide (x.vo.map Fx.fld=y.vo.map Fx.fld∧x.eo=y.eo∧x.po=y.po)=false):=hid (decide_eq_false fun q=>h_val q.1)
  clear h_val
  go_enter Tryz.func28,Tryz.ntmps28
  go_upto_region 1 with fail
  try rw [hW]
  go_wp2_with (go_at_call 56;refine HEV.out.mono ?_;rintro e W1 ⟨rfl,hb1⟩;have HB2:=hid hb1.below;clear hb1;obtain ⟨d0,d1⟩:=HC.out W1 HB2.out;have eW16:W1.cell? ⟨w.heap.size,6,none⟩=some (.slice x.ep x.eo.length x.ec):=(by rw [Lib.cell_of_heap (d0.trans HB0.out)];rfl);have gW16:W1.cell? ⟨w.heap.size+1,6,none⟩=some (.slice y.ep y.eo.length y.ec):=(by rw [Lib.cell_of_heap (d1.trans HB1.out)];rfl);have eW17:W1.cell? ⟨w.heap.size,7,none⟩=some (.slice x.pp x.po.length x.pc):=(by rw [Lib.cell_of_heap (d0.trans HB0.out)];rfl);have gW17:W1.cell? ⟨w.heap.size+1,7,none⟩=some (.slice y.pp y.po.length y.pc):=(by rw [Lib.cell_of_heap (d1.trans HB1.out)];rfl);rw [q_val])
  go_ret
  exact ⟨by rw [HD.out,HALL.out,HF.out];rfl,HB.out.trans (HB2.out.mono HB.out.size)⟩
 have q_val:=decide_eq_true h_val
 by_cases h_eds:x.eo=y.eo
 case neg =>
  have q_eds:=decide_eq_false h_eds
  have HF:Hid (decide (x.vo.map Fx.fld=y.vo.map Fx.fld∧x.eo=y.eo∧x.po=y.po)=false):=hid (decide_eq_false fun q=>h_eds q.2.1)
  clear h_eds h_val
  go_enter Tryz.func28,Tryz.ntmps28
  go_upto_region 1 with fail
  try rw [hW]
  go_wp2_with (first|(go_at_call 56;refine HEV.out.mono ?_;rintro e W1 ⟨rfl,hb1⟩;have HB2:=hid hb1.below;clear hb1;obtain ⟨d0,d1⟩:=HC.out W1 HB2.out;have eW16:W1.cell? ⟨w.heap.size,6,none⟩=some (.slice x.ep x.eo.length x.ec):=(by rw [Lib.cell_of_heap (d0.trans HB0.out)];rfl);have gW16:W1.cell? ⟨w.heap.size+1,6,none⟩=some (.slice y.ep y.eo.length y.ec):=(by rw [Lib.cell_of_heap (d1.trans HB1.out)];rfl);have eW17:W1.cell? ⟨w.heap.size,7,none⟩=some (.slice x.pp x.po.length x.pc):=(by rw [Lib.cell_of_heap (d0.trans HB0.out)];rfl);have gW17:W1.cell? ⟨w.heap.size+1,7,none⟩=some (.slice y.pp y.po.length y.pc):=(by rw [Lib.cell_of_heap (d1.trans HB1.out)];rfl);rw [q_val])|(go_at_call 57;refine (HEE.out W1 HB2.out).mono ?_;rintro e W2 ⟨rfl,hb2⟩;have HB3:=hid (HB2.out.trans (hb2.mono HB2.out.size));clear hb2;obtain ⟨d2,d3⟩:=HC.out W2 HB3.out;have eW26:W2.cell? ⟨w.heap.size,6,none⟩=some (.slice x.ep x.eo.length x.ec):=(by rw [Lib.cell_of_heap (d2.trans HB0.out)];rfl);have gW26:W2.cell? ⟨w.heap.size+1,6,none⟩=some (.slice y.ep y.eo.length y.ec):=(by rw [Lib.cell_of_heap (d3.trans HB1.out)];rfl);have eW27:W2.cell? ⟨w.heap.size,7,none⟩=some (.slice x.pp x.po.length x.pc):=(by rw [Lib.cell_of_heap (d2.trans HB0.out)];rfl);have gW27:W2.cell? ⟨w.heap.size+1,7,none⟩=some (.slice y.pp y.po.length y.pc):=(by rw [Lib.cell_of_heap (d3.trans HB1.out)];rfl);rw [q_eds]))
  go_ret
  exact ⟨by rw [HD.out,HALL.out,HF.out];rfl,HB.out.trans (HB3.out.mono HB.out.size)⟩
 have q_eds:=decide_eq_true h_eds
 have HF:Hid (decide (x.vo.map Fx.fld=y.vo.map Fx.fld∧x.eo=y.eo∧x.po=y.po)=decide (x.po=y.po)):=hid (by rw [decide_eq_decide];exact ⟨fun q=>q.2.2,fun q=>⟨h_val,h_eds,q⟩⟩)
 clear h_eds h_val
 all_goals
  go_enter Tryz.func28,Tryz.ntmps28
  go_upto_region 1 with fail
  try rw [hW]
  go_wp2_with (first|(go_at_call 56;refine HEV.out.mono ?_;rintro e W1 ⟨rfl,hb1⟩;have HB2:=hid hb1.below;clear hb1;obtain ⟨d0,d1⟩:=HC.out W1 HB2.out;have eW16:W1.cell? ⟨w.heap.size,6,none⟩=some (.slice x.ep x.eo.length x.ec):=(by rw [Lib.cell_of_heap (d0.trans HB0.out)];rfl);have gW16:W1.cell? ⟨w.heap.size+1,6,none⟩=some (.slice y.ep y.eo.length y.ec):=(by rw [Lib.cell_of_heap (d1.trans HB1.out)];rfl);have eW17:W1.cell? ⟨w.heap.size,7,none⟩=some (.slice x.pp x.po.length x.pc):=(by rw [Lib.cell_of_heap (d0.trans HB0.out)];rfl);have gW17:W1.cell? ⟨w.heap.size+1,7,none⟩=some (.slice y.pp y.po.length y.pc):=(by rw [Lib.cell_of_heap (d1.trans HB1.out)];rfl);rw [q_val])|(go_at_call 57;refine (HEE.out W1 HB2.out).mono ?_;rintro e W2 ⟨rfl,hb2⟩;have HB3:=hid (HB2.out.trans (hb2.mono HB2.out.size));clear hb2;obtain ⟨d2,d3⟩:=HC.out W2 HB3.out;have eW26:W2.cell? ⟨w.heap.size,6,none⟩=some (.slice x.ep x.eo.length x.ec):=(by rw [Lib.cell_of_heap (d2.trans HB0.out)];rfl);have gW26:W2.cell? ⟨w.heap.size+1,6,none⟩=some (.slice y.ep y.eo.length y.ec):=(by rw [Lib.cell_of_heap (d3.trans HB1.out)];rfl);have eW27:W2.cell? ⟨w.heap.size,7,none⟩=some (.slice x.pp x.po.length x.pc):=(by rw [Lib.cell_of_heap (d2.trans HB0.out)];rfl);have gW27:W2.cell? ⟨w.heap.size+1,7,none⟩=some (.slice y.pp y.po.length y.pc):=(by rw [Lib.cell_of_heap (d3.trans HB1.out)];rfl);rw [q_eds])|(go_at_call 58;refine (HEP.out W2 HB3.out).mono ?_;rintro e W3 ⟨rfl,hb3⟩;have HB4:=hid (HB3.out.trans (hb3.mono HB3.out.size));clear hb3))
  go_ret
  exact ⟨by rw [HD.out,HALL.out,HF.out];rfl,HB.out.trans (HB4.out.mono HB.out.size)⟩
end
section
open Go.RowKit Go.Lib
theorem OwnQ.ex {n:Nat} {x:Ex} {w:World} (h:OwnQ n x w):ExIn w x :=
 ⟨h.val.is,h.fit,Kind.own_is h.eds,h.efit,Kind.own_is h.prd,h.pfit,h.rng.temp,h.rng.ka,h.rng.kb,h.rng.k0,h.rng.k1,h.rng.i0,h.rng.i1,h.rng.t0,h.rng.t1,h.rng.n0,h.rng.n1⟩
theorem zero_in (w:World):ExIn w (zeroEx 0):=(zero_own 0 w 0 (by omega) (by omega)).ex
theorem ExIn.kind0 {w:World} {x:Ex} (h:ExIn w x):ExIn w { x with kind:=0 } :=
 { h with k0:=by show (-9223372036854775808:Int)≤0;omega,k1:=by show (0:Int)≤9223372036854775807;omega }
theorem ExIn.wout {w:World} {x:Ex} (h:ExIn w x) (p:Nat):ExIn w (wout x p):=by
 have z:=zero_in w
 unfold Go.Proofs.YtpdccbeeoapplaaGreatDoor.wout
 split
 ·exact { h with temp:=z.temp }
 split
 ·exact { h with ka:=z.ka,kb:=z.kb }
 split
 ·exact { h with i0:=z.i0,i1:=z.i1 }
 split
 ·exact { h with val:=z.val,fit:=z.fit }
 split
 ·exact { h with prd:=z.prd,pfit:=z.pfit }
 split
 ·exact { h with eds:=z.eds,efit:=z.efit }
 split
 ·exact { h with n0:=z.n0,n1:=z.n1 }
 split
 ·exact { h with t0:=z.t0,t1:=z.t1 }
 ·exact h
def leftE (x:Ex) (ps:List Nat):Ex:=ps.foldl wout { x with kind:=0 }
theorem leftE_snoc (x:Ex) (ps:List Nat) (p:Nat):leftE x (ps++[p])=wout (leftE x ps) p:=by simp [leftE]
theorem leftE_in {w:World} {x:Ex} (h:ExIn w x) (ps:List Nat):ExIn w (leftE x ps):=by
 unfold leftE
 have:∀(l:List Nat) (y:Ex),ExIn w y→ExIn w (l.foldl wout y):=by
  intro l
  induction l with
  | nil=>exact fun y hy=>hy
  | cons p l ih=>exact fun y hy=>ih _ (hy.wout p)
 exact this ps _ h.kind0
def mayO (x:Ex):Bool:=decide (1≤x.kind∧x.kind≤12)&&(shapeN x.kind.toNat).all (fitPt x.en)&&decide ((leftE x (shapeN x.kind.toNat)).en=(zeroEx 0).en)
structure LmSt (w:World) (L:Nat) (x y:Ex) (W:World):Prop where
 low:Below w.heap.size w W
 box:W.heap[w.heap.size]? = some (.cells (encEx x).toArray 41 (0,0))
 left:W.heap[L]? = some (.cells (encEx y).toArray 41 (0,0))
 gt:w.heap.size<L
theorem LmSt.lt {w:World} {L:Nat} {x y:Ex} {W:World} (h:LmSt w L x y W):L<W.heap.size:=(Array.getElem?_eq_some_iff.1 h.left).1
theorem LmSt.on {w:World} {L:Nat} {x y:Ex} {W V:World} (h:LmSt w L x y W) (hb:Below W.heap.size W V):LmSt w L x y V :=
 ⟨h.low.trans (hb.mono h.low.size),(hb.block _ (by have:=h.lt;have:=h.gt;omega)).trans h.box,(hb.block _ h.lt).trans h.left,h.gt⟩
theorem LmSt.turn {w:World} {L:Nat} {x y z:Ex} {W V:World} (h:LmSt w L x y W) (f:Fr (fun b=>b=L) W V) (hz:V.heap[L]? = some (.cells (encEx z).toArray 41 (0,0))):LmSt w L x z V :=
 ⟨h.low.trans (f.below h.low.size fun k hk=>by have:=h.gt;omega),(f.block _ (by have:=h.lt;have:=h.gt;omega) (by have:=h.gt;omega)).trans h.box,hz,h.gt⟩
set_option maxHeartbeats 8000000 in
set_option maxRecDepth 100000 in
theorem opmay1_any (x:Ex) (w:World) (hx:ExIn w x) :
  Calls Tryz.prog 23 #[aggEx x] w fun e w'=>e=.returned (.bool (mayO x))∧Below w.heap.size w w':=by
 have HX:=hid hx
 have hal:Below w.heap.size w (w.alloc (.cells (encEx x).toArray 41)):=(Below.refl _ _).alloc (Nat.le_refl _) _
 have hb0:(w.alloc (.cells (encEx x).toArray 41)).heap[w.heap.size]? = some (.cells (encEx x).toArray 41 (0,0)):=heap_alloc_new w _
 have HAL:=hid hal
 have HB0:=hid hb0
 have HFT:Hid (∀W p,Below w.heap.size w W→1≤p→p≤10→Calls Tryz.prog 47 #[aggEx x,.int .i64 (p:Nat)] W fun e w'=>e=.returned (.bool (fitPt x.en p))∧Below W.heap.size W w'):=hid fun W p h h1 h2=>opfits_any x p W (HX.out.on h) h1 h2
 unfold aggEx
 simp only [encEx,Ex.vs,Ex.es,Ex.ps] at HAL HB0 HFT ⊢
 clear hal hb0 hx
 unfold aggEx at HFT
 simp only [encEx,Ex.vs,Ex.es,Ex.ps] at HFT
 by_cases hr:1≤x.kind∧x.kind≤12
 case neg =>
  have HF:Hid (mayO x=false):=hid (by unfold mayO;rw [decide_eq_false hr];rfl)
  have hr2:x.kind<1∨12<x.kind:=by omega
  clear hr
  go_enter Tryz.func23,Tryz.ntmps23
  go_wp2_with (go_at_call 35;refine (shape_no x.kind _ hr2).mono ?_;rintro e w1 ⟨rfl,rfl⟩)
  go_ret
  exact ⟨by rw [HF.out];rfl,HAL.out⟩
 obtain ⟨kw,hkw⟩:∃kw:Nat,x.kind=kw:=⟨x.kind.toNat,by omega⟩
 have hk1:1≤kw:=by omega
 have hk12:kw≤12:=by omega
 have HM:Hid (mayO x=((shapeN kw).all (fitPt x.en)&&decide ((leftE x (shapeN kw)).en=(zeroEx 0).en))):=hid (by
  unfold mayO
  rw [decide_eq_true hr,hkw];rfl)
 have hnm:=name_full kw hk1 hk12
 have HKW:=hid hkw
 have HSH:Hid (∀W,Calls Tryz.prog 35 #[.int .i64 x.kind] W fun e w'=>(∃a n,e=.returned (.tuple #[.string ⟨(nameN kw).toArray⟩,.slice a n n])∧n=(shapeN kw).length ∧
   ∀(j p:Nat),(shapeN kw)[j]? = some p→∃P,a=some ⟨P,0,none⟩∧W.heap.size≤P∧w'.cell? ⟨P,j,none⟩=some (.int .i64 p))∧Below W.heap.size W w'):=hid fun W=>by rw [hkw];exact shape_any kw W hk12
 clear hkw hr
 go_enter Tryz.func23,Tryz.ntmps23
 go_wp2_with fail
 refine (HSH.out _).mono ?_
 rintro e w3 ⟨⟨a,n,rfl,hn,hpt⟩,hb3⟩
 have HN:=hid hn
 have HB3:=hid (HAL.out.trans (hb3.mono HAL.out.size))
 have hbx:w3.heap[w.heap.size]? = some (.cells #[.int .i64 x.kind,.string x.temp,.string x.ka,.string x.kb,.int .i64 x.iff,.slice x.vp x.vo.length x.vc,.slice x.ep x.eo.length x.ec,.slice x.pp x.po.length x.pc,.int .u64 x.stamp,.int .i64 x.num] 41 (0,0)):=(hb3.block _ (by simp)).trans HB0.out
 have HBX:=hid hbx
 have HPT:Hid (PtSt a w3.heap.size kw w3):=hid fun j p hp=>by
  obtain ⟨P,h1,h2,h3⟩:=hpt j p hp
  exact ⟨P,h1,Nat.ne_of_lt (cell_lt h3),h3⟩
 clear hn hpt hb3
 have c0:w3.cell? ⟨w.heap.size,0,none⟩=some (.int .i64 x.kind):=cz hbx
 have c1:w3.cell? ⟨w.heap.size,1,none⟩=some (.string x.temp):=cz hbx
 have c2:w3.cell? ⟨w.heap.size,2,none⟩=some (.string x.ka):=cz hbx
 have c3:w3.cell? ⟨w.heap.size,3,none⟩=some (.string x.kb):=cz hbx
 have c4:w3.cell? ⟨w.heap.size,4,none⟩=some (.int .i64 x.iff):=cz hbx
 have c5:w3.cell? ⟨w.heap.size,5,none⟩=some (.slice x.vp x.vo.length x.vc):=cz hbx
 have c6:w3.cell? ⟨w.heap.size,6,none⟩=some (.slice x.ep x.eo.length x.ec):=cz hbx
 have c7:w3.cell? ⟨w.heap.size,7,none⟩=some (.slice x.pp x.po.length x.pc):=cz hbx
 have c8:w3.cell? ⟨w.heap.size,8,none⟩=some (.int .u64 x.stamp):=cz hbx
 have c9:w3.cell? ⟨w.heap.size,9,none⟩=some (.int .i64 x.num):=cz hbx
 clear hbx
 have HS:Hid (LmSt w w3.heap.size x (leftE x []) (w3.alloc (.cells #[.int .i64 0,.string x.temp,.string x.ka,.string x.kb,.int .i64 x.iff,.slice x.vp x.vo.length x.vc,.slice x.ep x.eo.length x.ec,.slice x.pp x.po.length x.pc,.int .u64 x.stamp,.int .i64 x.num] 41))):=hid (by
  have hb4:=(Below.refl w3.heap.size w3).alloc (Nat.le_refl _) (.cells #[.int .i64 0,.string x.temp,.string x.ka,.string x.kb,.int .i64 x.iff,.slice x.vp x.vo.length x.vc,.slice x.ep x.eo.length x.ec,.slice x.pp x.po.length x.pc,.int .u64 x.stamp,.int .i64 x.num] 41)
  have hlt:w.heap.size<w3.heap.size:=(Array.getElem?_eq_some_iff.1 HBX.out).1
  exact ⟨HB3.out.trans (hb4.mono HB3.out.size),(hb4.block _ hlt).trans HBX.out,heap_alloc_new w3 _,hlt⟩)
 have HPT2:Hid (PtSt a w3.heap.size kw (w3.alloc (.cells #[.int .i64 0,.string x.temp,.string x.ka,.string x.kb,.int .i64 x.iff,.slice x.vp x.vo.length x.vc,.slice x.ep x.eo.length x.ec,.slice x.pp x.po.length x.pc,.int .u64 x.stamp,.int .i64 x.num] 41))):=hid (HPT.out.on ((Below.refl w3.heap.size w3).alloc (Nat.le_refl _) _))
 go_wp2_with fail
 go_loopg [20] n (fun g vi wr=>∃(i:Nat),vi=.int .i64 i∧i≤n∧n-i≤g∧Hid (LmSt w w3.heap.size x (leftE x ((shapeN kw).take i)) wr)∧Hid (PtSt a w3.heap.size kw wr)∧Hid (((shapeN kw).take i).all (fitPt x.en)=true))
 case atStart=>exact ⟨0,rfl,by omega,by omega,HS,HPT2,hid rfl⟩
 case round =>
  obtain ⟨i,rfl,hi,hig,HL,HP,HA⟩:=hrel
  have hn5:n≤5:=by rw [HN.out];exact shape_le kw
  by_cases hlt:i<n
  ·have HLT:=hid hlt
   have hltz:(i:Int)<(n:Int):=by omega
   have hiz:(0:Int)≤(i:Int):=by omega
   obtain ⟨p,hp⟩:∃p,(shapeN kw)[i]? = some p:=⟨_,List.getElem?_eq_getElem (by rw [←HN.out];exact hlt)⟩
   obtain ⟨P,hPa,hPG,hPc⟩:=HP.out i p hp
   subst hPa
   obtain ⟨hp1,hp10⟩:=shape_part kw i p hp
   have HTK:Hid ((shapeN kw).take (i+1)=(shapeN kw).take i++[p]):=hid (by
    obtain ⟨h1,h2⟩:=List.getElem?_eq_some_iff.1 hp
    rw [←h2];exact List.take_succ_eq_append_getElem h1)
   have HMEM:=hid (List.mem_of_getElem? hp)
   clear hp
   have hbx:=HL.out.box
   have c0:wr.cell? ⟨w.heap.size,0,none⟩=some (.int .i64 x.kind):=cz hbx
   have c1:wr.cell? ⟨w.heap.size,1,none⟩=some (.string x.temp):=cz hbx
   have c2:wr.cell? ⟨w.heap.size,2,none⟩=some (.string x.ka):=cz hbx
   have c3:wr.cell? ⟨w.heap.size,3,none⟩=some (.string x.kb):=cz hbx
   have c4:wr.cell? ⟨w.heap.size,4,none⟩=some (.int .i64 x.iff):=cz hbx
   have c5:wr.cell? ⟨w.heap.size,5,none⟩=some (.slice x.vp x.vo.length x.vc):=cz hbx
   have c6:wr.cell? ⟨w.heap.size,6,none⟩=some (.slice x.ep x.eo.length x.ec):=cz hbx
   have c7:wr.cell? ⟨w.heap.size,7,none⟩=some (.slice x.pp x.po.length x.pc):=cz hbx
   have c8:wr.cell? ⟨w.heap.size,8,none⟩=some (.int .u64 x.stamp):=cz hbx
   have c9:wr.cell? ⟨w.heap.size,9,none⟩=some (.int .i64 x.num):=cz hbx
   clear hbx
   go_wp2_with fail
   refine (HFT.out wr p HL.out.low hp1 hp10).mono ?_
   rintro e w4 ⟨rfl,hb4⟩
   have HL4:=hid (HL.out.on hb4)
   have HP4:=hid (HP.out.on hb4)
   clear hb4 hPc HL HP c0 c1 c2 c3 c4 c5 c6 c7 c8 c9
   cases hft:fitPt x.en p with
   | false =>
    have HF:Hid ((shapeN kw).all (fitPt x.en)=false):=hid (by
     rw [List.all_eq_false]
     exact ⟨p,HMEM.out,by rw [hft];simp⟩)
    go_wp2_with fail
    go_ret
    exact ⟨by rw [HM.out,HF.out];rfl,HL4.out.low⟩
   | true =>
    have HA2:Hid (((shapeN kw).take (i+1)).all (fitPt x.en)=true):=hid (by
     rw [HTK.out,List.all_append,HA.out];simp [hft])
    have HZ:Hid (leftE x ((shapeN kw).take (i+1))=wout (leftE x ((shapeN kw).take i)) p):=hid (by rw [HTK.out];exact leftE_snoc _ _ _)
    have HLY:=hid HL4.out.left
    have HWO:=hid fun W=>without_any (leftE x ((shapeN kw).take i)) p W hp1 hp10
    generalize leftE x ((shapeN kw).take i)=y at *
    generalize wout y p=z at *
    unfold aggEx at HWO
    simp only [encEx,Ex.vs,Ex.es,Ex.ps] at HWO HLY
    have hby:=HLY.out
    have d0:w4.cell? ⟨w3.heap.size,0,none⟩=some (.int .i64 y.kind):=cz hby
    have d1:w4.cell? ⟨w3.heap.size,1,none⟩=some (.string y.temp):=cz hby
    have d2:w4.cell? ⟨w3.heap.size,2,none⟩=some (.string y.ka):=cz hby
    have d3:w4.cell? ⟨w3.heap.size,3,none⟩=some (.string y.kb):=cz hby
    have d4:w4.cell? ⟨w3.heap.size,4,none⟩=some (.int .i64 y.iff):=cz hby
    have d5:w4.cell? ⟨w3.heap.size,5,none⟩=some (.slice y.vp y.vo.length y.vc):=cz hby
    have d6:w4.cell? ⟨w3.heap.size,6,none⟩=some (.slice y.ep y.eo.length y.ec):=cz hby
    have d7:w4.cell? ⟨w3.heap.size,7,none⟩=some (.slice y.pp y.po.length y.pc):=cz hby
    have d8:w4.cell? ⟨w3.heap.size,8,none⟩=some (.int .u64 y.stamp):=cz hby
    have d9:w4.cell? ⟨w3.heap.size,9,none⟩=some (.int .i64 y.num):=cz hby
    clear hby
    go_wp2_with fail
    refine (HWO.out w4).mono ?_
    rintro e w5 ⟨rfl,hb5⟩
    have HL5:=hid (HL4.out.on hb5)
    have HP5:=hid (HP4.out.on hb5)
    have hb6:w5.heap[w3.heap.size]? = some (.cells #[.int .i64 y.kind,.string y.temp,.string y.ka,.string y.kb,.int .i64 y.iff,.slice y.vp y.vo.length y.vc,.slice y.ep y.eo.length y.ec,.slice y.pp y.po.length y.pc,.int .u64 y.stamp,.int .i64 y.num] 41 (0,0)):=(hb5.block _ HL4.out.lt).trans HLY.out
    clear hb5 d0 d1 d2 d3 d4 d5 d6 d7 d8 d9
    obtain ⟨WZ,hWZ⟩:∃WZ,((((((((((w5.setCell ⟨w3.heap.size,0,none⟩ (.int .i64 z.kind)).setCell ⟨w3.heap.size,1,none⟩ (.string z.temp)).setCell ⟨w3.heap.size,2,none⟩ (.string z.ka)).setCell ⟨w3.heap.size,3,none⟩ (.string z.kb)).setCell ⟨w3.heap.size,4,none⟩ (.int .i64 z.iff)).setCell ⟨w3.heap.size,5,none⟩ (.slice z.vp z.vo.length z.vc)).setCell ⟨w3.heap.size,6,none⟩ (.slice z.ep z.eo.length z.ec)).setCell ⟨w3.heap.size,7,none⟩ (.slice z.pp z.po.length z.pc)).setCell ⟨w3.heap.size,8,none⟩ (.int .u64 z.stamp)).setCell ⟨w3.heap.size,9,none⟩ (.int .i64 z.num))=WZ:=⟨_,rfl⟩
    obtain ⟨bz,fz⟩:=out_ten hb6 _ _ _ _ _ _ _ _ _ _ hWZ
    have HL6:Hid (LmSt w w3.heap.size x z WZ):=hid (HL5.out.turn fz bz)
    have HP6:=hid (HP5.out.turn fz)
    have d0:w5.cell? ⟨w3.heap.size,0,none⟩=some (.int .i64 y.kind):=cz hb6
    have d1:w5.cell? ⟨w3.heap.size,1,none⟩=some (.string y.temp):=cz hb6
    have d2:w5.cell? ⟨w3.heap.size,2,none⟩=some (.string y.ka):=cz hb6
    have d3:w5.cell? ⟨w3.heap.size,3,none⟩=some (.string y.kb):=cz hb6
    have d4:w5.cell? ⟨w3.heap.size,4,none⟩=some (.int .i64 y.iff):=cz hb6
    have d5:w5.cell? ⟨w3.heap.size,5,none⟩=some (.slice y.vp y.vo.length y.vc):=cz hb6
    have d6:w5.cell? ⟨w3.heap.size,6,none⟩=some (.slice y.ep y.eo.length y.ec):=cz hb6
    have d7:w5.cell? ⟨w3.heap.size,7,none⟩=some (.slice y.pp y.po.length y.pc):=cz hb6
    have d8:w5.cell? ⟨w3.heap.size,8,none⟩=some (.int .u64 y.stamp):=cz hb6
    have d9:w5.cell? ⟨w3.heap.size,9,none⟩=some (.int .i64 y.num):=cz hb6
    have f0:=Lib.frozen_of_heap hb6 0
    have f1:=Lib.frozen_of_heap hb6 1
    have f2:=Lib.frozen_of_heap hb6 2
    have f3:=Lib.frozen_of_heap hb6 3
    have f4:=Lib.frozen_of_heap hb6 4
    have f5:=Lib.frozen_of_heap hb6 5
    have f6:=Lib.frozen_of_heap hb6 6
    have f7:=Lib.frozen_of_heap hb6 7
    have f8:=Lib.frozen_of_heap hb6 8
    have f9:=Lib.frozen_of_heap hb6 9
    clear bz fz hb6
    go_wp2_with fail
    try rw [hWZ]
    go_roundg (n-(i+1))
    case measure=>omega
    exact ⟨i+1,by go_num,HLT.out,Nat.le_refl _,by rw [HZ.out];exact HL6,HP6,HA2⟩
  ·have hltz:¬ (i:Int)<(n:Int):=by omega
   have HTA:Hid ((shapeN kw).take i=shapeN kw):=hid (List.take_of_length_le (by rw [←HN.out];omega))
   have HA2:Hid ((shapeN kw).all (fitPt x.en)=true):=hid (by have:=HA.out;rw [HTA.out] at this;exact this)
   have HL2:Hid (LmSt w w3.heap.size x (leftE x (shapeN kw)) wr):=hid (by have:=HL.out;rw [HTA.out] at this;exact this)
   have HSM:=hid (opsame_any (leftE x (shapeN kw)) (zeroEx 0) wr ((leftE_in HX.out _).on HL2.out.low) (zero_in wr))
   have HLY:=hid HL2.out.left
   generalize leftE x (shapeN kw)=y at *
   unfold aggEx at HSM
   simp only [encEx,Ex.vs,Ex.es,Ex.ps] at HSM HLY
   have hby:=HLY.out
   have d0:wr.cell? ⟨w3.heap.size,0,none⟩=some (.int .i64 y.kind):=cz hby
   have d1:wr.cell? ⟨w3.heap.size,1,none⟩=some (.string y.temp):=cz hby
   have d2:wr.cell? ⟨w3.heap.size,2,none⟩=some (.string y.ka):=cz hby
   have d3:wr.cell? ⟨w3.heap.size,3,none⟩=some (.string y.kb):=cz hby
   have d4:wr.cell? ⟨w3.heap.size,4,none⟩=some (.int .i64 y.iff):=cz hby
   have d5:wr.cell? ⟨w3.heap.size,5,none⟩=some (.slice y.vp y.vo.length y.vc):=cz hby
   have d6:wr.cell? ⟨w3.heap.size,6,none⟩=some (.slice y.ep y.eo.length y.ec):=cz hby
   have d7:wr.cell? ⟨w3.heap.size,7,none⟩=some (.slice y.pp y.po.length y.pc):=cz hby
   have d8:wr.cell? ⟨w3.heap.size,8,none⟩=some (.int .u64 y.stamp):=cz hby
   have d9:wr.cell? ⟨w3.heap.size,9,none⟩=some (.int .i64 y.num):=cz hby
   clear hby HL HA
   go_wp2_with fail
   refine HSM.out.mono ?_
   rintro e w7 ⟨rfl,hb7⟩
   have HB7:=hid (HL2.out.low.trans (hb7.mono HL2.out.low.size))
   clear hb7
   go_wp2_with fail
   go_ret
   exact ⟨by rw [HM.out,HA2.out];rfl,HB7.out⟩
end
section
open Go.RowKit Go.Lib
theorem m0B:mayB ([]:List Fld)=true:=by decide
theorem m0E:mayE ([]:List Ed)=0:=by decide
theorem m0M:mayM ([]:List Tm)=0:=by decide
theorem s0M:sortM ([]:List Tm)=[]:=rfl
theorem mayEn_of {e:En} (h:MayP e):mayEn e=true:=by
 unfold mayEn
 simp only [Bool.and_eq_true,Bool.or_eq_true,decide_eq_true_eq]
 exact ⟨⟨⟨⟨⟨⟨⟨⟨⟨⟨⟨⟨h.k1,h.k2⟩,h.key⟩,h.tmp⟩,h.iff⟩,h.num⟩,h.stamp⟩,h.val⟩,h.mayv⟩,h.eds⟩,h.maye⟩,⟨h.mayp,h.srt⟩⟩,h.pred⟩
theorem mayO_parts' {x:Ex} (h:mayO x=true):(1≤x.kind∧x.kind≤12)∧(shapeN x.kind.toNat).all (fitPt x.en)=true∧(leftE x (shapeN x.kind.toNat)).en=(zeroEx 0).en:=by
 unfold mayO at h
 simp only [Bool.and_eq_true,decide_eq_true_eq] at h
 exact ⟨h.1.1,h.1.2,h.2⟩
set_option maxHeartbeats 4000000 in
theorem mayO_is (x:Ex):mayO x=mayEn x.en:=by
 by_cases hr:1≤x.kind∧x.kind≤12
 case neg =>
  have h1:mayO x=false:=by unfold mayO;rw [decide_eq_false hr];rfl
  have h2:mayEn x.en=false:=by
   cases hm:mayEn x.en with
   | false=>rfl
   | true=>exact absurd ⟨(mayEn_parts hm).k1,(mayEn_parts hm).k2⟩ hr
  rw [h1,h2]
 obtain ⟨k,t,a,b,i,vp,vc,vo,ep,ec,eo,pp,pc,po,s,n⟩:=x
 simp only at hr
 have hk:k=1∨k=2∨k=3∨k=4∨k=5∨k=6∨k=7∨k=8∨k=9∨k=10∨k=11∨k=12:=by omega
 clear hr
 rw [Bool.eq_iff_iff]
 constructor
 ·intro h
  obtain ⟨hr,hf,hz⟩:=mayO_parts' h
  apply mayEn_of
  rcases hk with rfl|rfl|rfl|rfl|rfl|rfl|rfl|rfl|rfl|rfl|rfl|rfl
  all_goals
   simp [shapeN,fitPt,leftE,wout,Ex.en,zeroEx,normalB] at hf hz
   constructor<;>simp_all [Ex.en,keyEn,typedK,m0B,m0E,m0M,s0M]
 ·intro h
  have hp:=mayEn_parts h
  obtain ⟨h1,h2,h3,h4,h5,h6,h7,h8,h9,h10,h11,h12,h13,h14⟩:=hp
  unfold mayO
  rcases hk with rfl|rfl|rfl|rfl|rfl|rfl|rfl|rfl|rfl|rfl|rfl|rfl
  all_goals
   simp [Ex.en,keyEn,typedK] at h1 h2 h3 h4 h5 h6 h7 h8 h9 h10 h11 h12 h13 h14
   simp [shapeN,fitPt,leftE,wout,Ex.en,zeroEx,normalB]
   simp_all
   try omega
   try exact of_decide_eq_true h3.1
end
section
open Go.RowKit Go.Lib
def Good (w:List (List UInt8)):Prop:=∀x∈w,x≠[]∧(32:UInt8) ∉ x
theorem Good.tail {x:List UInt8} {w:List (List UInt8)} (h:Good (x::w)):Good w:=fun y hy=>h y (List.mem_cons_of_mem _ hy)
theorem Good.drop {w:List (List UInt8)} (h:Good w) (n:Nat):Good (w.drop n):=fun y hy=>h y (List.mem_of_mem_drop hy)
theorem readP1 (e:En) (x:List UInt8):readP e 1 x=if x=[]∨tempB (untag x)=true then some { e with temp:=⟨(untag x).toArray⟩ } else none:=by unfold readP;simp
theorem part_key (ps:List Nat) (e:En) (w:List (List UInt8)):partsR (2::ps) e w=match w with | []=>none|x::w'=>(keyR x).bind fun k=>partsR ps { e with ka:=k.1,kb:=k.2 } w':=by
 cases w with
 | nil=>rfl
 | cons x w =>
  have hs:spanP (x::w) 2=1:=rfl
  rw [partsR,hs,if_neg (by simp)]
  simp only [List.take_succ_cons,List.take_zero,List.drop_succ_cons,List.drop_zero,joinW_one]
  have hr:readP e 2 x=(keyR x).map fun k=>{ e with ka:=k.1,kb:=k.2 }:=by unfold readP;simp
  rw [hr]
  cases keyR x<;>rfl
theorem part_typ (ps:List Nat) (e:En) (w:List (List UInt8)):partsR (3::ps) e w=match w with | []=>none|x::w'=>if typeB x=true then partsR ps { e with ka:=⟨x.toArray⟩ } w' else none:=by
 cases w with
 | nil=>rfl
 | cons x w =>
  have hs:spanP (x::w) 3=1:=rfl
  rw [partsR,hs,if_neg (by simp)]
  simp only [List.take_succ_cons,List.take_zero,List.drop_succ_cons,List.drop_zero,joinW_one]
  have hr:readP e 3 x=if typeB x=true then some { e with ka:=⟨x.toArray⟩ } else none:=by unfold readP;simp
  rw [hr]
  split<;>rfl
theorem part_num (ps:List Nat) (e:En) (w:List (List UInt8)):partsR (9::ps) e w=match w with | []=>none|x::w'=>(numL 999999999 x).bind fun n=>partsR ps { e with num:=(n:Int) } w':=by
 cases w with
 | nil=>rfl
 | cons x w =>
  have hs:spanP (x::w) 9=1:=rfl
  rw [partsR,hs,if_neg (by simp)]
  simp only [List.take_succ_cons,List.take_zero,List.drop_succ_cons,List.drop_zero,joinW_one]
  have hr:readP e 9 x=(numL 999999999 x).map fun (n:Nat)=>{ e with num:=(n:Int) }:=by unfold readP;simp
  rw [hr]
  cases numL 999999999 x<;>rfl
theorem part_stp (ps:List Nat) (e:En) (w:List (List UInt8)):partsR (10::ps) e w=match w with | []=>none|x::w'=>(numL 18446744073709551615 x).bind fun n=>partsR ps { e with stamp:=(n:Int) } w':=by
 cases w with
 | nil=>rfl
 | cons x w =>
  have hs:spanP (x::w) 10=1:=rfl
  rw [partsR,hs,if_neg (by simp)]
  simp only [List.take_succ_cons,List.take_zero,List.drop_succ_cons,List.drop_zero,joinW_one]
  have hr:readP e 10 x=(numL 18446744073709551615 x).map fun (n:Nat)=>{ e with stamp:=(n:Int) }:=by unfold readP;simp
  rw [hr]
  cases numL 18446744073709551615 x<;>rfl
theorem part_ask (ps:List Nat) (e:En) (w:List (List UInt8)):partsR (6::ps) e w=match w with | []=>none|x::w'=>if x=[63] then partsR ps e w' else none:=by
 cases w with
 | nil=>rfl
 | cons x w =>
  have hs:spanP (x::w) 6=1:=rfl
  rw [partsR,hs,if_neg (by simp)]
  simp only [List.take_succ_cons,List.take_zero,List.drop_succ_cons,List.drop_zero,joinW_one]
  have hr:readP e 6 x=if x=[63] then some e else none:=by unfold readP;simp
  rw [hr]
  split<;>rfl
theorem part_prd (ps:List Nat) (e:En) (w:List (List UInt8)) (hw:Good w):partsR (7::ps) e w=(prdR w).bind fun v=>partsR ps { e with pred:=v } []:=by
 have hs:spanP w 7=w.length:=rfl
 rw [partsR,hs,if_neg (by omega),List.take_length,List.drop_length]
 have hr:readP e 7 (joinW w)=(prdR (wordsAns (joinW w))).map fun v=>{ e with pred:=v }:=by unfold readP;simp
 rw [hr,words_join hw]
 cases prdR w<;>rfl
theorem part_eds (ps:List Nat) (e:En) (w:List (List UInt8)) (hw:Good w):partsR (8::ps) e w=(edsR w).bind fun v=>if v=[] then none else partsR ps { e with eds:=v } []:=by
 have hs:spanP w 8=w.length:=rfl
 rw [partsR,hs,if_neg (by omega),List.take_length,List.drop_length]
 have hr:readP e 8 (joinW w)=(edsR (wordsAns (joinW w))).bind fun v=>if v=[] then none else some { e with eds:=v }:=by unfold readP;simp
 rw [hr,words_join hw]
 cases edsR w with
 | none=>rfl
 | some v =>
  simp only [Option.bind_some]
  split<;>rfl
theorem part_val (ps:List Nat) (e:En) (w:List (List UInt8)) (hw:Good w):partsR (5::ps) e w=(valR (w.takeWhile fun x=>decide (x≠[63]))).bind fun v=>partsR ps { e with val:=v } (w.dropWhile fun x=>decide (x≠[63])):=by
 have hs:spanP w 5=(w.takeWhile fun x=>decide (x≠[63])).length:=rfl
 rw [partsR,hs,if_neg (by have:=while_len_all (w:=w);omega),take_while,drop_while]
 have hg:Good (w.takeWhile fun x=>decide (x≠[63])):=fun y hy=>hw y ((List.takeWhile_sublist _).mem hy)
 have hr:readP e 5 (joinW (w.takeWhile fun x=>decide (x≠[63])))=(valR (wordsAns (joinW (w.takeWhile fun x=>decide (x≠[63]))))).map fun v=>{ e with val:=v }:=by unfold readP;simp
 rw [hr,words_join hg]
 cases valR (w.takeWhile fun x=>decide (x≠[63]))<;>rfl
theorem part_tmp (ps:List Nat) (e:En) (w:List (List UInt8)):partsR (1::ps) e w=match w with
  | (64::t)::w'=>if tempB t=true then partsR ps { e with temp:=⟨t.toArray⟩ } w' else none
  | w=>partsR ps { e with temp:=⟨#[]⟩ } w:=by
 have h0:∀w:List (List UInt8),spanP w 1=0→partsR (1::ps) e w=partsR ps { e with temp:=⟨#[]⟩ } w:=fun w hs=>by
  rw [partsR,hs,if_neg (by omega),List.take_zero,List.drop_zero,joinW_nil,readP1,if_pos (Or.inl rfl)]
  rfl
 match w with
 | []=>exact h0 _ rfl
 | []::w'=>exact h0 _ rfl
 | (c::t)::w' =>
  by_cases hc:c=64
  ·subst hc
   have hs:spanP ((64::t)::w') 1=1:=rfl
   rw [partsR,hs,if_neg (by simp)]
   simp only [List.take_succ_cons,List.take_zero,List.drop_succ_cons,List.drop_zero,joinW_one]
   have hu:untag (64::t)=t:=rfl
   rw [readP1,hu]
   by_cases ht:tempB t=true
   ·rw [if_pos (Or.inr ht),if_pos ht];rfl
   ·have hno:¬ ((64::t:List UInt8)=[]∨tempB t=true):=fun q=>q.elim (fun q=>by cases q) ht
    rw [if_neg hno,if_neg ht];rfl
  ·have hs:spanP ((c::t)::w') 1=0:=by
    show (if ((some (c::t)).bind List.head?)=some 64 then 1 else 0)=0
    rw [if_neg (by simpa using hc)]
   rw [h0 _ hs]
   split
   ·rename_i heq;cases heq;exact absurd rfl hc
   ·rfl
theorem part_if (ps:List Nat) (e:En) (w:List (List UInt8)) (hw:Good w):partsR (4::ps) e w =
  if w[0]? = some [105,102] then (smallR w[1]?).bind fun n=>if n=0 then none else partsR ps { e with iff:=(n:Int) } (w.drop 2) else partsR ps { e with iff:=0 } w:=by
 have hr:∀x,readP e 4 x=(condL x).map fun (n:Nat)=>{ e with iff:=(n:Int) }:=fun x=>by unfold readP;simp
 by_cases h:w[0]? = some [105,102]
 ·rw [if_pos h]
  match w,h with
  | [x],h =>
   have hx:x=[105,102]:=by simpa using h
   subst hx
   rfl
  | x::y::w',h =>
   have hx:x=[105,102]:=by simpa using h
   subst hx
   have hs:spanP ([105,102]::y::w') 4=2:=rfl
   rw [partsR,hs,if_neg (by simp)]
   simp only [List.take_succ_cons,List.take_zero,List.drop_succ_cons,List.drop_zero,joinW_two]
   have hc:condL ([105,102]++32::y)=(numL 999999999 y).bind fun n=>if 0<n then some n else none:=by
    unfold condL
    rw [if_neg (by simp)]
    have hu:unif ([105,102]++32::y)=y:=by simp [unif,List.isPrefixOf]
    rw [hu]
   rw [hr,hc]
   show _=(numL 999999999 y).bind _
   cases numL 999999999 y with
   | none=>rfl
   | some n =>
    simp only [Option.bind_some]
    by_cases hn:n=0
    ·subst hn;rfl
    ·rw [if_pos (by omega),if_neg hn];rfl
 ·rw [if_neg h]
  have hs:spanP w 4=0:=by
   show (if w.head? = some [105,102] then 2 else 0)=0
   rw [if_neg]
   rw [List.head?_eq_getElem?];exact h
  rw [partsR,hs,if_neg (by omega),List.take_zero,List.drop_zero,joinW_nil,hr]
  rfl
theorem pk_nil (ps:List Nat) (e:En):partsR (2::ps) e []=none:=part_key ps e []
theorem pk_cons (ps:List Nat) (e:En) (x:List UInt8) (w:List (List UInt8)):partsR (2::ps) e (x::w)=(keyR x).bind fun k=>partsR ps { e with ka:=k.1,kb:=k.2 } w:=part_key ps e (x::w)
theorem pt_nil (ps:List Nat) (e:En):partsR (3::ps) e []=none:=part_typ ps e []
theorem pt_cons (ps:List Nat) (e:En) (x:List UInt8) (w:List (List UInt8)):partsR (3::ps) e (x::w)=if typeB x=true then partsR ps { e with ka:=⟨x.toArray⟩ } w else none:=part_typ ps e (x::w)
theorem pn_nil (ps:List Nat) (e:En):partsR (9::ps) e []=none:=part_num ps e []
theorem pn_cons (ps:List Nat) (e:En) (x:List UInt8) (w:List (List UInt8)):partsR (9::ps) e (x::w)=(numL 999999999 x).bind fun n=>partsR ps { e with num:=(n:Int) } w:=part_num ps e (x::w)
theorem ps_nil (ps:List Nat) (e:En):partsR (10::ps) e []=none:=part_stp ps e []
theorem ps_cons (ps:List Nat) (e:En) (x:List UInt8) (w:List (List UInt8)):partsR (10::ps) e (x::w)=(numL 18446744073709551615 x).bind fun n=>partsR ps { e with stamp:=(n:Int) } w:=part_stp ps e (x::w)
theorem pa_nil (ps:List Nat) (e:En):partsR (6::ps) e []=none:=part_ask ps e []
theorem pa_cons (ps:List Nat) (e:En) (x:List UInt8) (w:List (List UInt8)):partsR (6::ps) e (x::w)=if x=[63] then partsR ps e w else none:=part_ask ps e (x::w)
end
section
open Go.RowKit Go.Lib
def fil (o:Option En):Option En:=o.bind fun e=>if mayEn e=true then some e else none
theorem fil_yes {e:En} (h:mayEn e=true):fil (some e)=some e:=by unfold fil;rw [Option.bind_some,if_pos h]
theorem fil_no {e:En} (h:MayP e→False):fil (some e)=none:=by
 unfold fil;rw [Option.bind_some,if_neg fun q=>h (mayEn_parts q)]
def finO (o:Option (En × List (List UInt8))):Option En:=o.bind fun r=>if r.2=[] then some r.1 else none
theorem temp_hi (k:Int) (hk:2<k) (w:List (List UInt8)):tempT (zeroEn k) w=stampT (zeroEn k) w:=tempT_no _ _ fun h=>by
 exfalso
 have h':k≤2:=h
 omega
theorem stamp_lo (e:En) (h:¬ 10<e.kind) (w:List (List UInt8)):stampT e w=keyT e w:=by unfold stampT;rw [if_neg h]
theorem part_end (e:En) (w:List (List UInt8)):finO (partsR [] e w)=if w=[] then some e else none:=rfl
theorem finO_none:finO none=none:=rfl
theorem key_side (e:En) (hK:typedK e.kind=false) (ps:List Nat) (w:List (List UInt8))
  (h:∀(a b:ByteArray) (w:List (List UInt8)),Good w→keyB a b=true→finO (partsR ps { e with ka:=a,kb:=b } w)=fil (tailR { e with ka:=a,kb:=b } w)) (hw:Good w) :
  finO (partsR (2::ps) e w)=fil (keyT e w):=by
 cases w with
 | nil=>rw [pk_nil];rfl
 | cons x w =>
  rw [pk_cons,keyT_cons,hK]
  cases hx:keyR x with
  | none=>rfl
  | some k=>exact h k.1 k.2 w hw.tail (keyR_key hx)
theorem typ_side (e:En) (hK:typedK e.kind=true) (ps:List Nat) (w:List (List UInt8))
  (h:∀(x:List UInt8) (w:List (List UInt8)),Good w→(if typeB x=true then finO (partsR ps { e with ka:=⟨x.toArray⟩ } w) else none)=fil (tailR { e with ka:=⟨x.toArray⟩ } w)) (hw:Good w) :
  finO (partsR (3::ps) e w)=fil (keyT e w):=by
 cases w with
 | nil=>rw [pt_nil];rfl
 | cons x w =>
  rw [pt_cons,keyT_cons,hK,if_pos rfl,←h x w hw.tail]
  split<;>rfl
theorem t6 (e:En) (hz:MayP e) (hk:e.kind=6) (w:List (List UInt8)):finO (partsR [] e w)=fil (tailR e w):=by
 rw [part_end]
 have ht:tailR e w=if w=[] then some e else none:=by unfold tailR;simp [hk]
 rw [ht]
 split
 ·rw [fil_yes (mayEn_of hz)]
 ·rfl
theorem e6 (w:List (List UInt8)) (hw:Good w):finO (partsR [2] (zeroEn 6) w)=fil (tempT (zeroEn 6) w):=by
 rw [temp_hi 6 (by decide),stamp_lo _ (by decide)]
 refine key_side _ (by rfl) [] w (fun a b w hw hk=>t6 _ ?_ rfl w) hw
 constructor<;>simp_all [zeroEn,keyEn,typedK,m0B,m0E,m0M,s0M]
theorem e7 (w:List (List UInt8)) (hw:Good w):finO (partsR [2,9] (zeroEn 7) w)=fil (tempT (zeroEn 7) w):=by
 rw [temp_hi 7 (by decide),stamp_lo _ (by decide)]
 refine key_side _ (by rfl) [9] w (fun a b w hw hk=>?_) hw
 cases w with
 | nil=>rw [pn_nil];simp [tailR,zeroEn,finO,fil]
 | cons y w =>
  rw [pn_cons]
  cases hn:numL 999999999 y with
  | none =>
   simp only [Option.bind_none,finO_none]
   cases w<;>simp [tailR,zeroEn,smallR,hn,fil]
  | some n =>
   have hle:=numL_le hn
   rw [Option.bind_some,part_end]
   cases w with
   | nil =>
    simp [tailR,zeroEn,smallR,hn]
    rw [fil_yes]
    apply mayEn_of
    constructor<;>simp_all [keyEn,typedK,m0B,m0E,m0M,s0M]<;>omega
   | cons z w=>simp [tailR,zeroEn,fil]
theorem e9 (w:List (List UInt8)) (hw:Good w):finO (partsR [2,10] (zeroEn 9) w)=fil (tempT (zeroEn 9) w):=by
 rw [temp_hi 9 (by decide),stamp_lo _ (by decide)]
 refine key_side _ (by rfl) [10] w (fun a b w hw hk=>?_) hw
 cases w with
 | nil=>rw [ps_nil];simp [tailR,zeroEn,finO,fil]
 | cons y w =>
  rw [ps_cons]
  cases hn:numL 18446744073709551615 y with
  | none =>
   simp only [Option.bind_none,finO_none]
   cases w<;>simp [tailR,zeroEn,stampR,hn,fil]
  | some n =>
   rw [Option.bind_some,part_end]
   cases w with
   | nil =>
    simp [tailR,zeroEn,stampR,hn]
    rw [fil_yes]
    apply mayEn_of
    constructor<;>simp_all [keyEn,typedK,m0B,m0E,m0M,s0M]
   | cons z w=>simp [tailR,zeroEn,fil]
theorem e10 (w:List (List UInt8)) (hw:Good w):finO (partsR [3,10] (zeroEn 10) w)=fil (tempT (zeroEn 10) w):=by
 rw [temp_hi 10 (by decide),stamp_lo _ (by decide)]
 refine typ_side _ (by rfl) [10] w (fun x w hw=>?_) hw
 cases w with
 | nil=>rw [ps_nil];simp [tailR,zeroEn,finO,fil]
 | cons y w =>
  rw [ps_cons]
  cases hn:numL 18446744073709551615 y with
  | none =>
   simp only [Option.bind_none,finO_none]
   cases w<;>simp [tailR,zeroEn,stampR,hn,fil]
  | some n =>
   rw [Option.bind_some,part_end]
   cases w with
   | nil =>
    simp [tailR,zeroEn,stampR,hn]
    by_cases ht:typeB x=true
    ·rw [if_pos ht,fil_yes]
     apply mayEn_of
     constructor<;>simp_all [keyEn,typedK,m0B,m0E,m0M,s0M]
    ·rw [if_neg ht,fil_no]
     intro h
     have:=h.key
     simp_all [keyEn,typedK]
   | cons z w=>simp [tailR,zeroEn,fil]
theorem e8 (w:List (List UInt8)) (hw:Good w):finO (partsR [3,7] (zeroEn 8) w)=fil (tempT (zeroEn 8) w):=by
 rw [temp_hi 8 (by decide),stamp_lo _ (by decide)]
 refine typ_side _ (by rfl) [7] w (fun x w hw=>?_) hw
 rw [part_prd _ _ _ hw]
 cases hp:prdR w with
 | none=>simp [tailR,restR,zeroEn,hp,fil,finO]
 | some p =>
  obtain ⟨h1,h2⟩:=prd_may hp
  rw [Option.bind_some,part_end]
  simp [tailR,restR,zeroEn,hp]
  by_cases ht:typeB x=true
  ·rw [if_pos ht,fil_yes]
   apply mayEn_of
   constructor<;>simp_all [keyEn,typedK,m0B,m0E]
  ·rw [if_neg ht,fil_no]
   intro h
   have:=h.key
   simp_all [keyEn,typedK]
theorem e11 (w:List (List UInt8)) (hw:Good w):finO (partsR [10,2] (zeroEn 11) w)=fil (tempT (zeroEn 11) w):=by
 rw [temp_hi 11 (by decide)]
 cases w with
 | nil=>rw [ps_nil];simp [stampT,zeroEn,stampR,finO,fil]
 | cons y w =>
  rw [ps_cons]
  cases hn:numL 18446744073709551615 y with
  | none=>simp [stampT,zeroEn,stampR,hn,finO,fil]
  | some n =>
   have hst:stampT (zeroEn 11) (y::w)=keyT { zeroEn 11 with stamp:=(n:Int) } w:=by simp [stampT,zeroEn,stampR,hn]
   rw [Option.bind_some,hst]
   refine key_side _ (by rfl) [] w (fun a b w hw hk=>?_) hw.tail
   rw [part_end]
   simp [tailR,zeroEn]
   split
   ·rw [fil_yes]
    apply mayEn_of
    constructor<;>simp_all [keyEn,typedK,m0B,m0E,m0M,s0M]
   ·rfl
theorem e12 (w:List (List UInt8)) (hw:Good w):finO (partsR [10,3,7] (zeroEn 12) w)=fil (tempT (zeroEn 12) w):=by
 rw [temp_hi 12 (by decide)]
 cases w with
 | nil=>rw [ps_nil];simp [stampT,zeroEn,stampR,finO,fil]
 | cons y w =>
  rw [ps_cons]
  cases hn:numL 18446744073709551615 y with
  | none=>simp [stampT,zeroEn,stampR,hn,finO,fil]
  | some n =>
   have hst:stampT (zeroEn 12) (y::w)=keyT { zeroEn 12 with stamp:=(n:Int) } w:=by simp [stampT,zeroEn,stampR,hn]
   rw [Option.bind_some,hst]
   refine typ_side _ (by rfl) [7] w (fun x w hw=>?_) hw.tail
   rw [part_prd _ _ _ hw]
   cases hp:prdR w with
   | none=>simp [tailR,restR,zeroEn,hp,fil,finO]
   | some p =>
    obtain ⟨h1,h2⟩:=prd_may hp
    rw [Option.bind_some,part_end]
    simp [tailR,restR,zeroEn,hp]
    by_cases ht:typeB x=true
    ·rw [if_pos ht,fil_yes]
     apply mayEn_of
     constructor<;>simp_all [keyEn,typedK,m0B,m0E]
    ·rw [if_neg ht,fil_no]
     intro h
     have:=h.key
     simp_all [keyEn,typedK]
theorem if_side (e:En) (h3:3≤e.kind) (h5:e.kind≤5) (h0:e.iff=0) (ps:List Nat) (w:List (List UInt8)) (hw:Good w)
  (h:∀(n:Nat) (w:List (List UInt8)),n≤999999999→Good w→finO (partsR ps { e with iff:=(n:Int) } w)=fil (restR { e with iff:=(n:Int) } w)) :
  finO (partsR (4::ps) e w)=fil (tailR e w):=by
 have ht:tailR e w=if w[0]? = some [105,102] then (smallR w[1]?).bind fun n=>if n=0 then none else restR { e with iff:=(n:Int) } (w.drop 2) else restR e w:=by
  unfold tailR
  rw [if_neg (by omega),if_neg (by omega),if_neg (by omega)]
  by_cases hc:w[0]? = some [105,102]
  ·rw [if_pos ⟨h3,h5,hc⟩,if_pos hc]
  ·rw [if_neg (fun q=>hc q.2.2),if_neg hc]
 rw [part_if _ _ _ hw,ht]
 by_cases hc:w[0]? = some [105,102]
 ·rw [if_pos hc,if_pos hc]
  cases hn:smallR w[1]? with
  | none=>rfl
  | some n =>
   simp only [Option.bind_some]
   by_cases hz:n=0
   ·rw [if_pos hz,if_pos hz];rfl
   ·rw [if_neg hz,if_neg hz]
    have hle:n≤999999999:=by
     unfold smallR at hn
     cases hx:w[1]? with
     | none=>rw [hx] at hn;cases hn
     | some x=>rw [hx] at hn;exact numL_le hn
    exact h n _ hle (hw.drop 2)
 ·rw [if_neg hc,if_neg hc]
  have:=h 0 w (by omega) hw
  have e0:{ e with iff:=((0:Nat):Int) }=e:=by cases e;simp at h0;subst h0;rfl
  rw [e0] at this
  have e1:{ e with iff:=(0:Int) }=e:=by cases e;simp at h0;subst h0;rfl
  rw [e1];exact this
theorem e5 (w:List (List UInt8)) (hw:Good w):finO (partsR [2,4] (zeroEn 5) w)=fil (tempT (zeroEn 5) w):=by
 rw [temp_hi 5 (by decide),stamp_lo _ (by decide)]
 refine key_side _ (by rfl) [4] w (fun a b w hw hk=>if_side _ (by show (3:Int)≤5;decide) (by show (5:Int)≤5;decide) rfl [] w hw fun n w hn hw=>?_) hw
 rw [part_end]
 simp [restR,zeroEn]
 split
 ·rw [fil_yes]
  apply mayEn_of
  constructor<;>simp_all [keyEn,typedK,m0B,m0E,m0M,s0M]<;>omega
 ·rfl
theorem e4 (w:List (List UInt8)) (hw:Good w):finO (partsR [2,4,8] (zeroEn 4) w)=fil (tempT (zeroEn 4) w):=by
 rw [temp_hi 4 (by decide),stamp_lo _ (by decide)]
 refine key_side _ (by rfl) [4,8] w (fun a b w hw hk=>if_side _ (by show (3:Int)≤4;decide) (by show (4:Int)≤5;decide) rfl [8] w hw fun n w hn hw=>?_) hw
 rw [part_eds _ _ _ hw]
 cases hp:edsR w with
 | none=>simp [restR,zeroEn,hp,fil,finO]
 | some p =>
  have h1:=eds_may hp
  simp [restR,zeroEn,hp]
  by_cases hz:p=[]
  ·rw [if_pos hz,fil_no]
   ·rfl
   ·intro h
    have:=h.eds
    simp_all
  ·rw [if_neg hz,part_end,if_pos rfl,fil_yes]
   apply mayEn_of
   constructor<;>simp_all [keyEn,typedK,m0B,m0M,s0M]<;>omega
theorem val_side (w:List (List UInt8)) (hw:Good w) (e:En) (hk:e.kind=1∨e.kind=3)
  (h:∀v,mayB v=true→mayEn { e with val:=v }=true):finO (partsR [5] e w)=fil (restR e w):=by
 rw [part_val _ _ _ hw]
 have hr:restR e w=(valR w).map fun v=>{ e with val:=v }:=by unfold restR;rw [if_pos hk]
 rw [hr]
 by_cases hm:[63]∈w
 ·rw [valR_no hm]
  obtain ⟨r,hd⟩:=drop_while_at hm
  rw [hd]
  cases valR (w.takeWhile fun x=>decide (x≠[63]))<;>rfl
 ·rw [while_all hm,drop_while_no hm]
  cases hv:valR w with
  | none=>rfl
  | some v =>
   rw [Option.bind_some,part_end,if_pos rfl,Option.map_some,fil_yes (h v (val_may hv))]
theorem e3 (w:List (List UInt8)) (hw:Good w):finO (partsR [2,4,5] (zeroEn 3) w)=fil (tempT (zeroEn 3) w):=by
 rw [temp_hi 3 (by decide),stamp_lo _ (by decide)]
 refine key_side _ (by rfl) [4,5] w (fun a b w hw hk=>if_side _ (by show (3:Int)≤3;decide) (by show (3:Int)≤5;decide) rfl [5] w hw fun n w hn hw=>val_side w hw _ (Or.inr rfl) fun v hv=>?_) hw
 apply mayEn_of
 constructor<;>simp_all [zeroEn,keyEn,typedK,m0E,m0M,s0M]<;>omega
theorem tmp_side (k:Int) (h2:k≤2) (ps:List Nat) (w:List (List UInt8)) (hw:Good w)
  (h:∀(t:ByteArray) (w:List (List UInt8)),Good w→(if t=⟨#[]⟩∨tempB t.data.toList=true then finO (partsR (2::ps) { zeroEn k with temp:=t } w) else none)=fil (keyT { zeroEn k with temp:=t } w)) :
  finO (partsR (1::ps.cons 2) (zeroEn k) w)=fil (tempT (zeroEn k) w):=by
 have hlo:∀e:En,e.kind=k→∀w,stampT e w=keyT e w:=fun e he w=>stamp_lo e (by rw [he];omega) w
 rw [part_tmp]
 have h0:=h ⟨#[]⟩ w hw
 rw [if_pos (Or.inl rfl)] at h0
 match w,hw,h0 with
 | [],hw,h0=>rw [tempT_no _ _ (fun _ t w' q=>by cases q),hlo _ rfl];exact h0
 | []::w',hw,h0=>rw [tempT_no _ _ (fun _ t w'' q=>by cases q),hlo _ rfl];exact h0
 | (c::t)::w',hw,h0 =>
  by_cases hc:c=64
  ·subst hc
   have ht:tempT (zeroEn k) ((64::t)::w')=if t=[] then none else keyT { zeroEn k with temp:=⟨t.toArray⟩ } w':=by
    show (if (zeroEn k).kind≤2 then if t=[] then none else stampT { zeroEn k with temp:=⟨t.toArray⟩ } w' else stampT (zeroEn k) ((64::t)::w'))=_
    rw [if_pos (show (zeroEn k).kind≤2 from h2),hlo _ rfl]
   rw [ht]
   by_cases hz:t=[]
   ·subst hz;rfl
   ·rw [if_neg hz]
    have h1:=h ⟨t.toArray⟩ w' hw.tail
    rw [←h1]
    have hne:¬ (⟨t.toArray⟩:ByteArray)=⟨#[]⟩:=fun q=>hz (by have:=congrArg (fun b:ByteArray=>b.data.toList) q;simpa using this)
    by_cases hb:tempB t=true
    ·simp [hb]
    ·simp [hb,hne];rfl
  ·rw [tempT_no _ _ (fun _ t' w'' q=>by injection q with q1;injection q1 with q1;exact hc q1),hlo _ rfl]
   split
   ·rename_i heq;injection heq with q1;injection q1 with q1;exact absurd q1 hc
   ·exact h0
theorem e1 (w:List (List UInt8)) (hw:Good w):finO (partsR [1,2,5] (zeroEn 1) w)=fil (tempT (zeroEn 1) w):=by
 refine tmp_side 1 (by decide) [5] w hw fun t w hw=>?_
 by_cases ht:t=⟨#[]⟩∨tempB t.data.toList=true
 ·rw [if_pos ht]
  refine key_side _ (by rfl) [5] w (fun a b w hw hk=>?_) hw
  have htl:∀e:En,e.kind=1→tailR e w=restR e w:=fun e he=>by unfold tailR;simp [he]
  rw [htl _ rfl]
  refine val_side w hw _ (Or.inl rfl) fun v hv=>?_
  apply mayEn_of
  constructor<;>simp_all [zeroEn,keyEn,typedK,m0E,m0M,s0M]
 ·rw [if_neg ht]
  cases w with
  | nil=>rfl
  | cons x w =>
   rw [keyT_cons]
   cases hx:keyR x with
   | none=>rfl
   | some k =>
    have htl:∀e:En,e.kind=1→tailR e w=restR e w:=fun e he=>by unfold tailR;simp [he]
    show none=fil (tailR { zeroEn 1 with temp:=t,ka:=k.1,kb:=k.2 } w)
    rw [htl _ rfl]
    have hrs:∀e:En,e.kind=1→restR e w=(valR w).map fun v=>{ e with val:=v }:=fun e he=>by unfold restR;rw [if_pos (Or.inl he)]
    rw [hrs _ rfl]
    cases hv:valR w with
    | none=>rfl
    | some v =>
     rw [Option.map_some,fil_no]
     intro h
     have:=h.tmp
     simp_all
theorem e2 (w:List (List UInt8)) (hw:Good w):finO (partsR [1,2,5,6,7] (zeroEn 2) w)=fil (tempT (zeroEn 2) w):=by
 refine tmp_side 2 (by decide) [5,6,7] w hw fun t w hw=>?_
 have hrest:∀(e:En) (w:List (List UInt8)),e.kind=2→tailR e w=if [63]∈w then (valR (w.takeWhile fun x=>decide (x≠[63]))).bind fun v=>(prdR ((w.dropWhile fun x=>decide (x≠[63])).drop 1)).map fun p=>{ e with val:=v,pred:=p } else none:=fun e w he=>by
  unfold tailR restR;simp [he]
 by_cases ht:t=⟨#[]⟩∨tempB t.data.toList=true
 ·rw [if_pos ht]
  refine key_side _ (by rfl) [5,6,7] w (fun a b w hw hk=>?_) hw
  rw [hrest _ w rfl,part_val _ _ _ hw]
  by_cases hm:[63]∈w
  ·rw [if_pos hm]
   obtain ⟨r,hd⟩:=drop_while_at hm
   have hgr:Good r:=fun y hy=>hw y ((List.dropWhile_sublist (fun x=>decide (x≠[63]))).mem (by rw [hd];exact List.mem_cons_of_mem _ hy))
   rw [hd]
   cases hv:valR (w.takeWhile fun x=>decide (x≠[63])) with
   | none=>rfl
   | some v =>
    have h1:=val_may hv
    simp only [Option.bind_some,List.drop_succ_cons,List.drop_zero]
    rw [pa_cons,if_pos rfl,part_prd _ _ _ hgr]
    cases hp:prdR r with
    | none=>rfl
    | some p =>
     obtain ⟨h2,h3⟩:=prd_may hp
     rw [Option.bind_some,part_end,if_pos rfl,Option.map_some,fil_yes]
     apply mayEn_of
     constructor<;>simp_all [zeroEn,keyEn,typedK,m0E]
  ·rw [if_neg hm,drop_while_no hm]
   cases valR (w.takeWhile fun x=>decide (x≠[63])) with
   | none=>rfl
   | some v=>simp only [Option.bind_some];rw [pa_nil];rfl
 ·rw [if_neg ht]
  cases w with
  | nil=>rfl
  | cons x w =>
   rw [keyT_cons]
   cases hx:keyR x with
   | none=>rfl
   | some k =>
    show none=fil (tailR { zeroEn 2 with temp:=t,ka:=k.1,kb:=k.2 } w)
    rw [hrest _ w rfl]
    split
    ·cases hv:valR (w.takeWhile fun x=>decide (x≠[63])) with
     | none=>rfl
     | some v =>
      rw [Option.bind_some]
      cases hp:prdR ((w.dropWhile fun x=>decide (x≠[63])).drop 1) with
      | none=>rfl
      | some p =>
       rw [Option.map_some,fil_no]
       intro h
       have:=h.tmp
       simp_all
    ·rfl
theorem entryO_is (w:List (List UInt8)) (hw:Good w):entryO w=fil (entryR w):=by
 cases w with
 | nil=>rfl
 | cons x w =>
  rw [entryR_cons]
  show (if kindW x=0 then none else finO (partsR (shapeN (kindW x)) (zeroEn (kindW x)) w))=_
  by_cases h0:kindW x=0
  ·rw [if_pos h0,if_pos h0];rfl
  ·rw [if_neg h0,if_neg h0]
   have h12:=kindW_le x
   have hg:=hw.tail
   generalize kindW x=k at *
   have hk:k=1∨k=2∨k=3∨k=4∨k=5∨k=6∨k=7∨k=8∨k=9∨k=10∨k=11∨k=12:=by omega
   rcases hk with rfl|rfl|rfl|rfl|rfl|rfl|rfl|rfl|rfl|rfl|rfl|rfl
   ·exact e1 w hg
   ·exact e2 w hg
   ·exact e3 w hg
   ·exact e4 w hg
   ·exact e5 w hg
   ·exact e6 w hg
   ·exact e7 w hg
   ·exact e8 w hg
   ·exact e9 w hg
   ·exact e10 w hg
   ·exact e11 w hg
   ·exact e12 w hg
end
section
open Go.RowKit Go.Lib
def okw (x:List UInt8):Prop:=x≠[]∧x≠[59]
theorem num_ok {most n:Nat} {x:List UInt8} (h:numL most x=some n):okw x:=by
 have e:=num_back h
 constructor
 ·rintro rfl;exact decL_ne n e
 ·rintro rfl
  have:=decL_digit n 59 (by rw [e];simp)
  revert this;decide
theorem key_ok {x:List UInt8} {k:ByteArray × ByteArray} (h:keyR x=some k):okw x:=by
 constructor
 ·rintro rfl
  have hz:keyR []=none:=by kernel_rfl
  rw [hz] at h;cases h
 ·rintro rfl
  have hz:keyR [59]=none:=by kernel_rfl
  rw [hz] at h;cases h
theorem type_ok {x:List UInt8} (h:typeB x=true):okw x:=by
 constructor
 ·rintro rfl;cases h
 ·rintro rfl;revert h;decide
theorem kind_ok {x:List UInt8} (h:kindW x≠0):okw x:=by
 constructor
 ·rintro rfl;exact h rfl
 ·rintro rfl;exact h (by decide)
theorem fields_ok:∀{w:List (List UInt8)} {fs:List Fld},fieldsW w=some fs→∀x∈w,okw x
 | [],_,_=>fun x hx=>by cases hx
 | l::r,fs,h=>fun x hx=>by
  rw [fieldsW] at h
  cases ho:wordO l with
  | none=>rw [ho] at h;cases h
  | some nt =>
   obtain ⟨n,t⟩:=nt
   rw [ho] at h
   cases hr:fieldsW r with
   | none=>rw [hr] at h;cases h
   | some gs =>
    rcases List.mem_cons.1 hx with rfl|hx
    ·constructor
     ·rintro rfl
      have hz:wordO []=none:=by kernel_rfl
      rw [hz] at ho;cases ho
     ·rintro rfl
      have hz:wordO [59]=none:=by kernel_rfl
      rw [hz] at ho;cases ho
    ·exact fields_ok hr x hx
theorem terms_ok:∀{w:List (List UInt8)} {fs:List Tm},termsW w=some fs→∀x∈w,okw x
 | [],_,_=>fun x hx=>by cases hx
 | l::r,fs,h=>fun x hx=>by
  rw [termsW] at h
  cases ho:termO l with
  | none=>rw [ho] at h;cases h
  | some nt =>
   rw [ho] at h
   cases hr:termsW r with
   | none=>rw [hr] at h;cases h
   | some gs =>
    rcases List.mem_cons.1 hx with rfl|hx
    ·constructor
     ·rintro rfl
      have hz:termO []=none:=by kernel_rfl
      rw [hz] at ho;cases ho
     ·rintro rfl
      have hz:termO [59]=none:=by kernel_rfl
      rw [hz] at ho;cases ho
    ·exact terms_ok hr x hx
theorem edits_ok:∀{w:List (List UInt8)} {fs:List Ed},editsW w=some fs→∀x∈w,okw x
 | [],_,_=>fun x hx=>by cases hx
 | l::r,fs,h=>fun x hx=>by
  rw [editsW] at h
  cases ho:editO l with
  | none=>rw [ho] at h;cases h
  | some nt =>
   rw [ho] at h
   cases hr:editsW r with
   | none=>rw [hr] at h;cases h
   | some gs =>
    rcases List.mem_cons.1 hx with rfl|hx
    ·constructor
     ·rintro rfl
      have hz:editO []=none:=by kernel_rfl
      rw [hz] at ho;cases ho
     ·rintro rfl
      have hz:editO [59]=none:=by kernel_rfl
      rw [hz] at ho;cases ho
    ·exact edits_ok hr x hx
theorem val_ok {w:List (List UInt8)} {v:List Fld} (h:valR w=some v):∀x∈w,okw x:=by
 unfold valR at h
 cases hf:fieldsW w with
 | none=>rw [hf] at h;cases h
 | some fs=>exact fields_ok hf
theorem prd_ok {w:List (List UInt8)} {v:List Tm} (h:prdR w=some v):∀x∈w,okw x:=by
 unfold prdR at h
 cases hf:termsW w with
 | none=>rw [hf] at h;exact absurd h (by simp [codeW])
 | some fs=>exact terms_ok hf
theorem eds_ok {w:List (List UInt8)} {v:List Ed} (h:edsR w=some v):∀x∈w,okw x:=by
 unfold edsR at h
 cases hf:editsW w with
 | none=>rw [hf] at h;exact absurd h (by simp [codeL])
 | some fs=>exact edits_ok hf
structure KeepE (e f:En):Prop where
 kind:f.kind=e.kind
 ka:f.ka=e.ka
 kb:f.kb=e.kb
theorem rest_ok {e f:En} {w:List (List UInt8)} (h:restR e w=some f):(∀x∈w,okw x)∧KeepE e f:=by
 unfold restR at h
 split at h
 ·cases hv:valR w with
  | none=>rw [hv] at h;cases h
  | some v=>rw [hv] at h;cases h;exact ⟨val_ok hv,rfl,rfl,rfl⟩
 ·split at h
  ·split at h
   ·rename_i hm
    cases hv:valR (w.takeWhile fun x=>decide (x≠[63])) with
    | none=>rw [hv] at h;cases h
    | some v =>
     rw [hv,Option.bind_some] at h
     cases hp:prdR ((w.dropWhile fun x=>decide (x≠[63])).drop 1) with
     | none=>rw [hp] at h;cases h
     | some p =>
      rw [hp] at h
      cases h
      refine ⟨fun x hx=>?_,rfl,rfl,rfl⟩
      rw [←List.takeWhile_append_dropWhile (p:=fun x=>decide (x≠[63])) (l:=w)] at hx
      rcases List.mem_append.1 hx with hx|hx
      ·exact val_ok hv x hx
      ·obtain ⟨r,hd⟩:=drop_while_at hm
       rw [hd] at hx hp
       rcases List.mem_cons.1 hx with rfl|hx
       ·exact ⟨by decide,by decide⟩
       ·exact prd_ok hp x hx
   ·cases h
  ·split at h
   ·cases hv:edsR w with
    | none=>rw [hv] at h;cases h
    | some v=>rw [hv] at h;cases h;exact ⟨eds_ok hv,rfl,rfl,rfl⟩
   ·split at h
    ·split at h
     ·rename_i h0
      cases h
      subst h0
      exact ⟨fun x hx=>(by cases hx),rfl,rfl,rfl⟩
     ·cases h
    ·cases hv:prdR w with
     | none=>rw [hv] at h;cases h
     | some v=>rw [hv] at h;cases h;exact ⟨prd_ok hv,rfl,rfl,rfl⟩
theorem small_ok {x:Option (List UInt8)} {n:Nat} (h:smallR x=some n):∃y,x=some y∧okw y:=by
 unfold smallR at h
 cases x with
 | none=>cases h
 | some y=>exact ⟨y,rfl,num_ok h⟩
theorem stampR_ok {x:Option (List UInt8)} {n:Nat} (h:stampR x=some n):∃y,x=some y∧okw y:=by
 unfold stampR at h
 cases x with
 | none=>cases h
 | some y=>exact ⟨y,rfl,num_ok h⟩
theorem tail_ok {e f:En} {w:List (List UInt8)} (h:tailR e w=some f):(∀x∈w,okw x)∧KeepE e f:=by
 unfold tailR at h
 split at h
 ·split at h
  ·rename_i hl
   match w,hl with
   | [y],_ =>
    cases hn:smallR ([y]:List (List UInt8))[0]? with
    | none=>rw [hn] at h;cases h
    | some n =>
     rw [hn] at h
     cases h
     obtain ⟨z,hz,ho⟩:=small_ok hn
     have:y=z:=by simpa using hz
     subst this
     exact ⟨fun x hx=>by rw [List.mem_singleton] at hx;subst hx;exact ho,rfl,rfl,rfl⟩
  ·cases h
 ·split at h
  ·split at h
   ·rename_i hl
    match w,hl with
    | [y],_ =>
     cases hn:stampR ([y]:List (List UInt8))[0]? with
     | none=>rw [hn] at h;cases h
     | some n =>
      rw [hn] at h
      cases h
      obtain ⟨z,hz,ho⟩:=stampR_ok hn
      have:y=z:=by simpa using hz
      subst this
      exact ⟨fun x hx=>by rw [List.mem_singleton] at hx;subst hx;exact ho,rfl,rfl,rfl⟩
   ·cases h
  ·split at h
   ·split at h
    ·rename_i h0
     cases h
     subst h0
     exact ⟨fun x hx=>(by cases hx),rfl,rfl,rfl⟩
    ·cases h
   ·split at h
    ·rename_i hc
     cases hn:smallR w[1]? with
     | none=>rw [hn] at h;cases h
     | some n =>
      rw [hn,Option.bind_some] at h
      split at h
      ·cases h
      ·obtain ⟨ho,hk⟩:=rest_ok h
       obtain ⟨y,hy,hyo⟩:=small_ok hn
       refine ⟨fun x hx=>?_,hk.1,hk.2,hk.3⟩
       match w,hc,hy with
       | a::b::r,hc,hy =>
        have ha:a=[105,102]:=by simpa using hc.2.2
        have hb:b=y:=by simpa using hy
        subst ha hb
        rcases List.mem_cons.1 hx with rfl|hx
        ·exact ⟨by decide,by decide⟩
        ·rcases List.mem_cons.1 hx with rfl|hx
         ·exact hyo
         ·exact ho x hx
    ·exact rest_ok h
theorem keyT_ok {e f:En} {w:List (List UInt8)} (h:keyT e w=some f) (hm:MayP f):∀x∈w,okw x:=by
 cases w with
 | nil=>cases h
 | cons x w =>
  rw [keyT_cons] at h
  split at h
  ·rename_i ht
   obtain ⟨h1,h2⟩:=tail_ok h
   intro y hy
   rcases List.mem_cons.1 hy with rfl|hy
   ·have hk:=hm.key
    unfold keyEn at hk
    rw [h2.kind] at hk
    have ht':typedK e.kind=true:=ht
    rw [if_pos ht',h2.ka] at hk
    simp only [Bool.and_eq_true] at hk
    exact type_ok hk.2
   ·exact h1 y hy
  ·cases hk:keyR x with
   | none=>rw [hk] at h;cases h
   | some k =>
    rw [hk,Option.bind_some] at h
    obtain ⟨h1,_⟩:=tail_ok h
    intro y hy
    rcases List.mem_cons.1 hy with rfl|hy
    ·exact key_ok hk
    ·exact h1 y hy
theorem stampT_ok {e f:En} {w:List (List UInt8)} (h:stampT e w=some f) (hm:MayP f):∀x∈w,okw x:=by
 unfold stampT at h
 split at h
 ·cases hn:stampR w[0]? with
  | none=>rw [hn] at h;cases h
  | some n =>
   rw [hn,Option.bind_some] at h
   obtain ⟨y,hy,ho⟩:=stampR_ok hn
   cases w with
   | nil=>cases hy
   | cons a w =>
    have ha:a=y:=by simpa using hy
    subst ha
    intro x hx
    rcases List.mem_cons.1 hx with rfl|hx
    ·exact ho
    ·exact keyT_ok h hm x hx
 ·exact keyT_ok h hm
theorem entry_ok {w:List (List UInt8)} {f:En} (h:fil (entryR w)=some f):∀x∈w,okw x:=by
 cases w with
 | nil=>intro x hx;cases hx
 | cons a w =>
  cases hr:entryR (a::w) with
  | none=>rw [hr] at h;cases h
  | some g =>
   have hm:MayP g:=by
    rw [hr] at h
    unfold fil at h
    rw [Option.bind_some] at h
    split at h
    ·rename_i hq;exact mayEn_parts hq
    ·cases h
   rw [entryR_cons] at hr
   split at hr
   ·cases hr
   ·rename_i hk
    intro x hx
    rcases List.mem_cons.1 hx with rfl|hx
    ·exact kind_ok hk
    ·match w,hr,hx with
     | (64::t)::w',hr,hx =>
      by_cases h2:(zeroEn (kindW a)).kind≤2
      ·have he:tempT (zeroEn (kindW a)) ((64::t)::w')=if t=[] then none else stampT { zeroEn (kindW a) with temp:=⟨t.toArray⟩ } w':=by
        show (if (zeroEn (kindW a)).kind≤2 then if t=[] then none else stampT { zeroEn (kindW a) with temp:=⟨t.toArray⟩ } w' else _)=_
        rw [if_pos h2]
       rw [he] at hr
       split at hr
       ·cases hr
       ·rcases List.mem_cons.1 hx with rfl|hx
        ·exact ⟨by simp,by simp⟩
        ·exact stampT_ok hr hm x hx
      ·rw [tempT_no _ _ (fun q=>absurd q h2)] at hr
       exact stampT_ok hr hm x hx
     | [],hr,hx=>cases hx
     | []::w',hr,hx =>
      rw [tempT_no _ _ (fun _ t w'' q=>by cases q)] at hr
      exact stampT_ok hr hm x hx
     | (c::t)::w',hr,hx =>
      by_cases hc:c=64
      ·subst hc
       by_cases h2:(zeroEn (kindW a)).kind≤2
       ·have he:tempT (zeroEn (kindW a)) ((64::t)::w')=if t=[] then none else stampT { zeroEn (kindW a) with temp:=⟨t.toArray⟩ } w':=by
         show (if (zeroEn (kindW a)).kind≤2 then if t=[] then none else stampT { zeroEn (kindW a) with temp:=⟨t.toArray⟩ } w' else _)=_
         rw [if_pos h2]
        rw [he] at hr
        split at hr
        ·cases hr
        ·rcases List.mem_cons.1 hx with rfl|hx
         ·exact ⟨by simp,by simp⟩
         ·exact stampT_ok hr hm x hx
       ·rw [tempT_no _ _ (fun q=>absurd q h2)] at hr
        exact stampT_ok hr hm x hx
      ·rw [tempT_no _ _ (fun _ t' w'' q=>by injection q with q1;injection q1 with q1;exact hc q1)] at hr
       exact stampT_ok hr hm x hx
end
end Go.Proofs.YtpdccbeeoapplaaGreatDoor
