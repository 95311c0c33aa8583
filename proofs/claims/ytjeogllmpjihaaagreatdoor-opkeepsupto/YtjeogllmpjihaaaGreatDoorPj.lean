import Derived.Test.YtjeogllmpjihaaaGreatDoorPi
namespace Go.Proofs.YtjeogllmpjihaaaGreatDoor
section
open Go.RowKit Go.Lib
structure Bare (y:Ex) (kn:Nat):Prop where
 kind:y.kind=(kn:Int)
 bare:∃k tp ka kb fi st nm,y=bareX k tp ka kb fi st nm
 rng:RangeE y
theorem bare_zero (kn:Nat) (h:kn≤12):Bare (zeroEx (kn:Int)) kn :=
 ⟨rfl,⟨_,_,_,_,_,_,_,rfl⟩,⟨Nat.zero_le _,Nat.zero_le _,Nat.zero_le _,by show _≤(kn:Int);omega,by show (kn:Int)≤_;omega,by show (-9223372036854775808:Int)≤0;decide,by show (0:Int)≤9223372036854775807;decide,by show (0:Int)≤0;decide,by show (0:Int)≤18446744073709551615;decide,by show (-9223372036854775808:Int)≤0;decide,by show (0:Int)≤9223372036854775807;decide⟩⟩
theorem Bare.own {y:Ex} {kn:Nat} (h:Bare y kn) (n:Nat) (w:World):OwnQ n y w:=by
 obtain ⟨k,tp,ka,kb,fi,st,nm,rfl⟩:=h.bare
 exact ⟨(own_noneX _ _).1,⟨Nat.zero_le _,fun x hx=>by cases hx⟩,Kind.own_nil _ _ _,(show FitE [] from fitE_may (by decide)),Kind.own_nil _ _ _,(show FitM [] from fitM_may (by decide)),h.rng⟩
theorem Bare.temp {y:Ex} {kn:Nat} (h:Bare y kn) (t:ByteArray) (ht:t.size≤maxLen):Bare { y with temp:=t } kn:=by
 obtain ⟨k,tp,ka,kb,fi,st,nm,rfl⟩:=h.bare
 exact ⟨h.kind,⟨_,_,_,_,_,_,_,rfl⟩,{ h.rng with temp:=ht }⟩
theorem Bare.stamp {y:Ex} {kn:Nat} (h:Bare y kn) (t:Int) (h0:0≤t) (h1:t≤18446744073709551615):Bare { y with stamp:=t } kn:=by
 obtain ⟨k,tp,ka,kb,fi,st,nm,rfl⟩:=h.bare
 exact ⟨h.kind,⟨_,_,_,_,_,_,_,rfl⟩,{ h.rng with t0:=h0,t1:=h1 }⟩
theorem Bare.num {y:Ex} {kn:Nat} (h:Bare y kn) (t:Int) (h0:0≤t) (h1:t≤999999999):Bare { y with num:=t } kn:=by
 obtain ⟨k,tp,ka,kb,fi,st,nm,rfl⟩:=h.bare
 exact ⟨h.kind,⟨_,_,_,_,_,_,_,rfl⟩,{ h.rng with n0:=by show _≤t;omega,n1:=by show t≤_;omega }⟩
theorem Bare.iff {y:Ex} {kn:Nat} (h:Bare y kn) (t:Int) (h0:0≤t) (h1:t≤999999999):Bare { y with iff:=t } kn:=by
 obtain ⟨k,tp,ka,kb,fi,st,nm,rfl⟩:=h.bare
 exact ⟨h.kind,⟨_,_,_,_,_,_,_,rfl⟩,{ h.rng with i0:=by show _≤t;omega,i1:=by show t≤_;omega }⟩
theorem Bare.keys {y:Ex} {kn:Nat} (h:Bare y kn) (a b:ByteArray) (ha:a.size≤maxLen) (hb:b.size≤maxLen):Bare { y with ka:=a,kb:=b } kn:=by
 obtain ⟨k,tp,ka,kb,fi,st,nm,rfl⟩:=h.bare
 exact ⟨h.kind,⟨_,_,_,_,_,_,_,rfl⟩,{ h.rng with ka:=ha,kb:=hb }⟩
structure Upto (w V:World) (kn:Nat) (y:Ex) (o:Option En) (f:En→Option En) (ok:Bool):Prop where
 rs:RsSt w (w.heap.size+1) w.heap.size V y
 bare:Bare y kn
 is:o=if ok=true then f y.en else none
theorem rs_start2 (w:World):RsSt w (w.heap.size+1) w.heap.size ((w.alloc (.cells #[.int .i64 0,.string ⟨#[]⟩,.string ⟨#[]⟩,.string ⟨#[]⟩,.int .i64 0,.slice none 0 0,.slice none 0 0,.slice none 0 0,.int .u64 0,.int .i64 0] 42)).alloc (.cells #[.int .i64 0,.string ⟨#[]⟩,.string ⟨#[]⟩,.string ⟨#[]⟩,.int .i64 0,.slice none 0 0,.slice none 0 0,.slice none 0 0,.int .u64 0,.int .i64 0] 42)) (zeroEx 0):=by
 have hb:Below w.heap.size w ((w.alloc (.cells #[.int .i64 0,.string ⟨#[]⟩,.string ⟨#[]⟩,.string ⟨#[]⟩,.int .i64 0,.slice none 0 0,.slice none 0 0,.slice none 0 0,.int .u64 0,.int .i64 0] 42)).alloc (.cells #[.int .i64 0,.string ⟨#[]⟩,.string ⟨#[]⟩,.string ⟨#[]⟩,.int .i64 0,.slice none 0 0,.slice none 0 0,.slice none 0 0,.int .u64 0,.int .i64 0] 42)):=((Below.refl _ _).alloc (Nat.le_refl _) _).alloc (by simp) _
 have h1:((w.alloc (.cells #[.int .i64 0,.string ⟨#[]⟩,.string ⟨#[]⟩,.string ⟨#[]⟩,.int .i64 0,.slice none 0 0,.slice none 0 0,.slice none 0 0,.int .u64 0,.int .i64 0] 42)).alloc (.cells #[.int .i64 0,.string ⟨#[]⟩,.string ⟨#[]⟩,.string ⟨#[]⟩,.int .i64 0,.slice none 0 0,.slice none 0 0,.slice none 0 0,.int .u64 0,.int .i64 0] 42)).heap[w.heap.size+1]? = some (.cells #[.int .i64 0,.string ⟨#[]⟩,.string ⟨#[]⟩,.string ⟨#[]⟩,.int .i64 0,.slice none 0 0,.slice none 0 0,.slice none 0 0,.int .u64 0,.int .i64 0] 42 (0,0)):=by
  have:=heap_alloc_new (w.alloc (.cells #[.int .i64 0,.string ⟨#[]⟩,.string ⟨#[]⟩,.string ⟨#[]⟩,.int .i64 0,.slice none 0 0,.slice none 0 0,.slice none 0 0,.int .u64 0,.int .i64 0] 42)) (.cells #[.int .i64 0,.string ⟨#[]⟩,.string ⟨#[]⟩,.string ⟨#[]⟩,.int .i64 0,.slice none 0 0,.slice none 0 0,.slice none 0 0,.int .u64 0,.int .i64 0] 42)
  simpa using this
 exact ⟨h1,(Below.heap_alloc _ _ _ (by simp)).trans (heap_alloc_new w _),zero_own _ _ 0 (by decide) (by decide),hb,by omega,Nat.le_refl _,by omega⟩
set_option maxHeartbeats 20000000 in
set_option maxRecDepth 100000 in
theorem rentry16_any (p : Option Addr) (cap : Nat) (ws : List ByteArray) (w : World) (ht : TxtAt w p ws) (h0 : 0 < ws.length) (hl : ws.length ≤ 1000000000) (hcap : ws.length ≤ cap) (hs : ∀ x ∈ ws, x.size ≤ 1000000000000) :
    Calls Tryz.prog 19 #[.slice p ws.length cap] w fun e w' => EnR w (entryR (bytesL ws)) e w' := by
  have HS := hid hs
  have HT := hid ht
  obtain ⟨b, off, hp, hcc⟩ : ∃ b off, p = some ⟨b, off, none⟩ ∧ ∀ i, (h : i < ws.length) → w.cell? ⟨b, off + i, none⟩ = some (.string ws[i]) := by
    rcases ht with h | ⟨b, off, h1, h2⟩
    · rw [h] at h0; simp at h0
    · exact ⟨b, off, h1, h2⟩
  subst hp
  have HTX : Hid (∀ V i x, ws[i]? = some x → Below w.heap.size w V → V.cell? ⟨b, off + i, none⟩ = some (.string x)) := hid fun V i x hx hV => by
    obtain ⟨hi, rfl⟩ := List.getElem?_eq_some_iff.1 hx
    exact kept hV (hcc i hi)
  have HTV : Hid (∀ V, Below w.heap.size w V → TxtAt V (some ⟨b, off, none⟩) ws) := hid fun V hV => txt_on HT.out hV
  obtain ⟨x, hx⟩ : ∃ x, ws[0]? = some x := ⟨_, List.getElem?_eq_getElem h0⟩
  have HX0 : Hid (bytesL ws = x.data.toList :: bytesL (ws.drop 1)) := hid (by have := bytes_drop hx; simpa using this)
  have HXA : Hid (∀ V, Below w.heap.size w V → V.cell? ⟨b, off, none⟩ = some (.string x)) := hid fun V hV => by have := HTX.out V 0 x hx hV; simpa using this
  obtain ⟨O, hO⟩ : ∃ o, entryR (bytesL ws) = o := ⟨_, rfl⟩
  rw [hO]
  have HO := hid hO
  have R0 := hid (rs_start2 w)
  obtain ⟨W0, hW0⟩ : ∃ W0, ((w.alloc (.cells #[.int .i64 0, .string ⟨#[]⟩, .string ⟨#[]⟩, .string ⟨#[]⟩, .int .i64 0, .slice none 0 0, .slice none 0 0, .slice none 0 0, .int .u64 0, .int .i64 0] 42)).alloc (.cells #[.int .i64 0, .string ⟨#[]⟩, .string ⟨#[]⟩, .string ⟨#[]⟩, .int .i64 0, .slice none 0 0, .slice none 0 0, .slice none 0 0, .int .u64 0, .int .i64 0] 42)) = W0 := ⟨_, rfl⟩
  rw [hW0] at R0
  have h0z : (0 : Int) < (ws.length : Int) := by omega
  clear ht hcc hx hs hO
  go_enter Tryz.func19, Tryz.ntmps19
  go_wp2_with fail
  try rw [hW0]
  clear hW0
  go_loopg [5] 13 (fun g v5 wx => ∃ (k : Nat) (y : Ex), v5 = .int .i64 k ∧ 1 ≤ k ∧ k ≤ 13 ∧ 13 - k ≤ g ∧ Hid (y = zeroEx ((upK x.data.toList k : Nat) : Int)) ∧ Hid (RsSt w (w.heap.size + 1) w.heap.size wx y))
  case atStart => exact ⟨1, zeroEx 0, rfl, by omega, by omega, by omega, hid (by rw [upK_one]; rfl), R0⟩
  case round =>
    clear R0
    obtain ⟨k, y, rfl, hk1, hk13, hkg, HY, R⟩ := hrel
    by_cases hk : k ≤ 12
    · as_aux_lemma =>
      have hkz : (k : Int) ≤ 12 := by omega
      have HNM := hid fun W => rname16_yes (k : Int) W (by omega) (by omega)
      obtain ⟨nb, hnb⟩ : ∃ nb, nameS (k : Int) = nb := ⟨_, rfl⟩
      have hnd : nb.data.toList = nameN k := by rw [← hnb]; rfl
      rw [hnb] at HNM
      have HND := hid hnd
      clear hnb hnd
      have HSX : Hid (∀ w', Below wr.heap.size wr w' → w'.cell? ⟨b, off, none⟩ = some (.string x)) := hid fun w' h => HXA.out w' (R.out.bel.trans (h.mono R.out.bel.size))
      have hsx := HSX.out wr.drew (bel_drewN (Below.refl _ _) 1)
      by_cases hq : x = nb
      · have hq2 : (x.toList == nb.toList) = true := seq_true hq
        have HUP := hid (upK_yes (l := x.data.toList) hk1 hk (by rw [hq, HND.out]))
        clear hq
        go_upto_region 5 with fail
        refine wp_region_held_drew (S := fun w' => w'.cell? ⟨b, off, none⟩ = some (.string x)) (by kernel_rfl) hsx (fun hHeld => ?_)
        refine tkv 0 (.slice (some ⟨b, off, none⟩) ws.length cap) hHeld ?_
        simp only [Act.put, sz]
        refine tkv 1 (.pointer (some ⟨b, off, none⟩)) hHeld ?_
        simp only [Act.put, sz]
        refine tkv 2 (.string x) hHeld ?_
        simp only [Act.put, sz]
        refine tkv 3 (.int .i64 k) hHeld ?_
        simp only [Act.put, sz]
        refine wpAnyH_ready (rs := [4]) (by kernel_rfl) (by simp) ?_
        refine AllReadyH.cons (at_drop0 rfl) (fun K hK => ?_) AllReadyH.nil
        rw [if_pos (by rfl)]
        go_simp
        refine (HNM.out _).mono ?_
        rintro e w3 ⟨rfl, hb3⟩
        have hb3' : Below wr.heap.size wr w3 := (bel_drewN (Below.refl wr.heap.size wr) 1).trans hb3
        have q3 := HSX.out w3 hb3'
        have HB3 := hid hb3'
        clear hb3 hb3'
        go_wp2_with fail
        refine hK.out _ _ q3 (fun hHeld => ?_)
        clear hK K
        try simp only [Act.put, sz]
        refine tkv 5 (.bool true) hHeld ?_
        simp only [Act.put, sz]
        refine wpAnyH_done (by kernel_rfl) ?_ _
        clear hHeld
        have R3 := hid (R.out.on HB3.out)
        have f0 := R3.out.open 0
        have z0 : w3.cell? ⟨w.heap.size + 1, 0, none⟩ = some (.int .i64 y.kind) := R3.out.cells.1
        obtain ⟨W5, hW5⟩ : ∃ W5, w3.setCell ⟨w.heap.size + 1, 0, none⟩ (.int .i64 (k : Int)) = W5 := ⟨_, rfl⟩
        have R5 : Hid (RsSt w (w.heap.size + 1) w.heap.size W5 (zeroEx (k : Int))) := hid (by
          rw [← hW5]
          refine R3.out.turn 0 _ (zero_own _ _ _ (by omega) (by omega)) ?_
          rw [HY.out]; rfl)
        go_wp2_with fail
        try rw [hW5]
        clear hW5
        go_roundg (13 - (k + 1))
        case measure => omega
        exact ⟨k + 1, zeroEx (k : Int), by go_num, by omega, by omega, by omega, hid (by rw [HUP.out]), R5⟩
      · have hq2 : (x.toList == nb.toList) = false := seq_false hq
        have HUP := hid (upK_no (l := x.data.toList) hk1 (fun q => hq (ba_ext (by rw [q, HND.out]))))
        clear hq
        go_upto_region 5 with fail
        refine wp_region_held_drew (S := fun w' => w'.cell? ⟨b, off, none⟩ = some (.string x)) (by kernel_rfl) hsx (fun hHeld => ?_)
        refine tkv 0 (.slice (some ⟨b, off, none⟩) ws.length cap) hHeld ?_
        simp only [Act.put, sz]
        refine tkv 1 (.pointer (some ⟨b, off, none⟩)) hHeld ?_
        simp only [Act.put, sz]
        refine tkv 2 (.string x) hHeld ?_
        simp only [Act.put, sz]
        refine tkv 3 (.int .i64 k) hHeld ?_
        simp only [Act.put, sz]
        refine wpAnyH_ready (rs := [4]) (by kernel_rfl) (by simp) ?_
        refine AllReadyH.cons (at_drop0 rfl) (fun K hK => ?_) AllReadyH.nil
        rw [if_pos (by rfl)]
        go_simp
        refine (HNM.out _).mono ?_
        rintro e w3 ⟨rfl, hb3⟩
        have hb3' : Below wr.heap.size wr w3 := (bel_drewN (Below.refl wr.heap.size wr) 1).trans hb3
        have q3 := HSX.out w3 hb3'
        have HB3 := hid hb3'
        clear hb3 hb3'
        go_wp2_with fail
        refine hK.out _ _ q3 (fun hHeld => ?_)
        clear hK K
        try simp only [Act.put, sz]
        refine tkv 5 (.bool false) hHeld ?_
        simp only [Act.put, sz]
        refine wpAnyH_done (by kernel_rfl) ?_ _
        clear hHeld
        have R3 := hid (R.out.on HB3.out)
        go_wp2_with fail
        go_roundg (13 - (k + 1))
        case measure => omega
        exact ⟨k + 1, y, by go_num, by omega, by omega, by omega, hid (by rw [HUP.out]; exact HY.out), R3⟩
    · have HK13 : Hid (k = 13) := hid (by omega)
      have hkz : ¬ (k : Int) ≤ 12 := by omega
      obtain ⟨kn, hkn⟩ : ∃ kn, kindW x.data.toList = kn := ⟨_, rfl⟩
      have hkn12 : kn ≤ 12 := by rw [← hkn]; exact kindW_le _
      have HKN := hid hkn
      have HB0 : Hid (Bare y kn) := hid (by rw [HY.out, HK13.out, upK_all, hkn]; exact bare_zero kn hkn12)
      have HYZ : Hid (y.en = zeroEn (kn : Int)) := hid (by rw [HY.out, HK13.out, upK_all, hkn]; rfl)
      have HE0 : Hid (O = if kn = 0 then none else tempT (zeroEn (kn : Int)) (bytesL (ws.drop 1))) := hid (by rw [← HO.out, HX0.out, entryR_cons, hkn])
      clear hkn HY hk1 hk13 hkg hk
      have c0 : wr.cell? ⟨w.heap.size + 1, 0, none⟩ = some (.int .i64 (kn : Int)) := by rw [R.out.cells.1, HB0.out.kind]
      by_cases k0 : kn = 0
      · as_aux_lemma =>
        subst k0
        have HNO : Hid (O = none) := hid (by rw [HE0.out]; rfl)
        go_upto_region 17 with fail
        clear c0
        have HRG := hid R.out.range
        have HTH := hid R.out.there
        obtain ⟨W4, hW4⟩ : ∃ W4, wr.setCells w.heap.size 0 [.int .i64 y.kind, .string y.temp, .string y.ka, .string y.kb, .int .i64 y.iff, .slice y.vp y.vo.length y.vc, .slice y.ep y.eo.length y.ec, .slice y.pp y.po.length y.pc, .int .u64 y.stamp, .int .i64 y.num] = W4 := ⟨_, rfl⟩
        obtain ⟨⟨g0, g1, g2, g3, g4, g5, g6, g7, g8, g9⟩, hown4, hbel4⟩ := R.out.fin W4 hW4
        have HW4 : Hid (wr.setCells w.heap.size 0 (#[.int .i64 y.kind, .string y.temp, .string y.ka, .string y.kb, .int .i64 y.iff, .slice y.vp y.vo.length y.vc, .slice y.ep y.eo.length y.ec, .slice y.pp y.po.length y.pc, .int .u64 y.stamp, .int .i64 y.num] : Array Value).toList = W4) := hid hW4
        have HOW := hid hown4
        have HBE := hid hbel4
        clear hown4 hbel4 hW4
        go_wp2_with (first | (refine wpList_load_as rfl 42 _ rfl (w.heap.size + 1) 0 rfl [.int .i64 y.kind, .string y.temp, .string y.ka, .string y.kb, .int .i64 y.iff, .slice y.vp y.vo.length y.vc, .slice y.ep y.eo.length y.ec, .slice y.pp y.po.length y.pc, .int .u64 y.stamp, .int .i64 y.num] _ HRG.out Tryz.underlying42 rfl Tryz.entSize (.agg #[.int .i64 y.kind, .string y.temp, .string y.ka, .string y.kb, .int .i64 y.iff, .slice y.vp y.vo.length y.vc, .slice y.ep y.eo.length y.ec, .slice y.pp y.po.length y.pc, .int .u64 y.stamp, .int .i64 y.num]) rfl ?_) | (refine wpList_store_as rfl 42 _ _ rfl w.heap.size 0 #[.int .i64 y.kind, .string y.temp, .string y.ka, .string y.kb, .int .i64 y.iff, .slice y.vp y.vo.length y.vc, .slice y.ep y.eo.length y.ec, .slice y.pp y.po.length y.pc, .int .u64 y.stamp, .int .i64 y.num] rfl rfl HTH.out Tryz.entSize (one_ex y) W4 HW4.out ?_))
        exact bodyPost_ret (v := .tuple #[.agg #[.int .i64 y.kind, .string y.temp, .string y.ka, .string y.kb, .int .i64 y.iff, .slice y.vp y.vo.length y.vc, .slice y.ep y.eo.length y.ec, .slice y.pp y.po.length y.pc, .int .u64 y.stamp, .int .i64 y.num], .bool false]) (by simp [results, Tryz.results19, go_sem, g0, g1, g2, g3, g4, g5, g6, g7, g8, g9]) rfl ⟨⟨y, false, rfl, fun _ => HOW.out, by rw [HNO.out]; rfl⟩, HBE.out⟩
      have k0z : (0 : Int) < (kn : Int) := by omega
      have HE1 : Hid (O = tempT (zeroEn (kn : Int)) (bytesL (ws.drop 1))) := hid (by rw [HE0.out, if_neg k0])
      clear HE0
      obtain ⟨T, hT⟩ : ∃ T : Bool, (decide (kn ≤ 2) && (match ws[1]? with | some x1 => decide (x1.data.toList.head? = some 64) | none => false)) = T := ⟨_, rfl⟩
      have HTT := hid hT
      clear hT
      go_upto_region 9 with fail
      try rw [show decide (0 < kn) = true from decide_eq_true (by omega)]
      go_cut [56] from 14 (fun v56 wx => v56 = .bool T ∧ Hid (RsSt w (w.heap.size + 1) w.heap.size wx y))
      case first =>
        as_aux_lemma =>
        by_cases h2 : kn ≤ 2
        case neg =>
          have h2z : ¬ (kn : Int) ≤ 2 := by omega
          have ET : Hid (T = false) := hid (by rw [← HTT.out, decide_eq_false h2]; rfl)
          go_wp2_with fail
          go_meet
          case rel => exact ⟨by rw [ET.out], R⟩
        have h2z : (kn : Int) ≤ 2 := by omega
        by_cases h1 : 1 < ws.length
        case neg =>
          have h1z : ¬ (1 : Int) < (ws.length : Int) := by omega
          have ET : Hid (T = false) := hid (by rw [← HTT.out, List.getElem?_eq_none (by omega)]; simp)
          go_wp2_with fail
          go_meet
          case rel => exact ⟨by rw [ET.out], R⟩
        have h1z : (1 : Int) < (ws.length : Int) := by omega
        obtain ⟨x1, hx1⟩ : ∃ x1, ws[1]? = some x1 := ⟨_, List.getElem?_eq_getElem h1⟩
        have cx := HTX.out wr 1 x1 hx1 R.out.bel
        have HT1 : Hid (T = decide (x1.data.toList.head? = some 64)) := hid (by rw [← HTT.out, hx1, decide_eq_true h2]; rfl)
        have hsz := HS.out x1 (List.mem_of_getElem? hx1)
        clear hx1
        by_cases hz : 0 < x1.size
        case neg =>
          have hzz : ¬ (0 : Int) < (x1.size : Int) := by omega
          have ET : Hid (T = false) := hid (by
            rw [HT1.out]
            have : x1.data.toList = [] := List.length_eq_zero_iff.1 (by have : x1.data.toList.length = x1.size := rfl; omega)
            rw [this]; rfl)
          go_wp2_with fail
          go_meet
          case rel => exact ⟨by rw [ET.out], R⟩
        have hzz : (0 : Int) < (x1.size : Int) := by omega
        obtain ⟨c, hc⟩ : ∃ c, x1[0] = c := ⟨_, rfl⟩
        have HC : Hid (T = decide (c = 64)) := hid (by
          rw [HT1.out, List.head?_eq_getElem?, List.getElem?_eq_getElem (by simpa using hz), byte_list x1 0 hz, hc]
          simp)
        by_cases h64 : c = 64
        · have b64 : (((c.toNat : Nat) : Int) == 64) = true := by rw [h64]; rfl
          have ET : Hid (T = true) := hid (by rw [HC.out, decide_eq_true h64])
          clear h64
          go_wp2_with fail
          go_meet
          case rel => exact ⟨by rw [ET.out], R⟩
        · have b64 : (((c.toNat : Nat) : Int) == 64) = false := by
            rw [beq_eq_false_iff_ne]
            intro q
            exact h64 (UInt8.toNat_inj.1 (by have : c.toNat = 64 := by omega
                                             rw [this]; rfl))
          have ET : Hid (T = false) := hid (by rw [HC.out, decide_eq_false h64])
          clear h64
          go_wp2_with fail
          go_meet
          case rel => exact ⟨by rw [ET.out], R⟩
      case rest =>
      obtain ⟨rfl, R1⟩ := hcut
      clear c0 R
      go_upto_if 56 with fail
      go_cut [6, 7] from 14 (fun v6 v7 wx => ∃ (m : Nat) (ok : Bool) (y1 : Ex), v6 = .int .i64 m ∧ v7 = .bool ok ∧ m ≤ 2 ∧ Hid (Upto w wx kn y1 O (fun e => stampT e (bytesL (ws.drop m))) ok))
      case first =>
        as_aux_lemma =>
        cases T with
        | false =>
          have HU : Hid (Upto w wc kn y O (fun e => stampT e (bytesL (ws.drop 1))) true) := hid ⟨R1.out, HB0.out, by
            rw [HE1.out, if_pos rfl, HYZ.out]
            have hq := HTT.out
            cases hw : bytesL (ws.drop 1) with
            | nil => rfl
            | cons z r =>
              cases z with
              | nil => rfl
              | cons c t =>
                by_cases hc : c = 64
                · subst hc
                  by_cases h2 : kn ≤ 2
                  · exfalso
                    rw [decide_eq_true h2, Bool.true_and] at hq
                    cases h1 : ws[1]? with
                    | none =>
                      rw [bytes_none (by rw [List.getElem?_eq_none_iff] at h1; exact h1)] at hw
                      cases hw
                    | some x1 =>
                      rw [bytes_drop h1] at hw
                      injection hw with hw1 _
                      rw [h1] at hq
                      simp [hw1] at hq
                  · show (if (zeroEn (kn : Int)).kind ≤ 2 then _ else stampT (zeroEn (kn : Int)) ((64 :: t) :: r)) = _
                    rw [if_neg (by show ¬ (kn : Int) ≤ 2; omega)]
                · unfold tempT
                  split
                  · rename_i heq
                    injection heq with h1 _
                    injection h1 with h2 _
                    exact absurd h2 hc
                  · rfl⟩
          go_wp2_with fail
          go_meet
          case rel => exact ⟨1, true, y, rfl, rfl, by omega, HU⟩
        | true =>
          obtain ⟨h2, x1, hx1, hh⟩ : kn ≤ 2 ∧ ∃ x1, ws[1]? = some x1 ∧ x1.data.toList.head? = some 64 := by
            have hq := HTT.out
            rw [Bool.and_eq_true, decide_eq_true_eq] at hq
            cases h1 : ws[1]? with
            | none => rw [h1] at hq; simp at hq
            | some x1 => rw [h1] at hq; exact ⟨hq.1, x1, rfl, by simpa using hq.2⟩
          have h1 : 1 < ws.length := (List.getElem?_eq_some_iff.1 hx1).1
          have h1z : (1 : Int) < (ws.length : Int) := by omega
          have cx := HTX.out wc 1 x1 hx1 R1.out.bel
          have hsz := HS.out x1 (List.mem_of_getElem? hx1)
          obtain ⟨t, htl⟩ : ∃ t, x1.data.toList = 64 :: t := by
            cases hl : x1.data.toList with
            | nil => rw [hl] at hh; cases hh
            | cons c t => rw [hl] at hh; cases hh; exact ⟨t, rfl⟩
          have hzz : (1 : Int) ≤ (x1.size : Int) := by
            have : x1.data.toList.length = x1.size := rfl
            rw [htl] at this; simp at this; omega
          obtain ⟨tb, htb⟩ : ∃ tb, x1.extract 1 x1.size = tb := ⟨_, rfl⟩
          have htd : tb.data.toList = t := by rw [← htb, ext_tail, htl]; rfl
          have hts : tb.size ≤ 1000000000000 := by
            have e1 : tb.data.toList.length = tb.size := rfl
            have e2 : x1.data.toList.length = x1.size := rfl
            rw [htd] at e1; rw [htl] at e2; simp at e2; omega
          have f1 := R1.out.open 1
          have z1 : wc.cell? ⟨w.heap.size + 1, 1, none⟩ = some (.string y.temp) := R1.out.cells.2.1
          obtain ⟨y1, hy1⟩ : ∃ q : Ex, q = { y with temp := tb } := ⟨_, rfl⟩
          have hbr : Bare y1 kn := by rw [hy1]; exact HB0.out.temp tb (by unfold maxLen; omega)
          obtain ⟨W5, hW5⟩ : ∃ W5, wc.setCell ⟨w.heap.size + 1, 1, none⟩ (.string tb) = W5 := ⟨_, rfl⟩
          have R5 : Hid (RsSt w (w.heap.size + 1) w.heap.size W5 y1) := hid (by
            rw [← hW5]
            exact R1.out.turn 1 _ (hbr.own _ _) (by rw [hy1]; rfl))
          have z2 : W5.cell? ⟨w.heap.size + 1, 1, none⟩ = some (.string tb) := by rw [R5.out.cells.2.1, hy1]
          have HBR := hid hbr
          have HLS : Hid (bytesL (ws.drop 1) = (64 :: t) :: bytesL (ws.drop 2)) := hid (by rw [bytes_drop hx1, htl])
          have HTD := hid htd
          have HTB := hid htb
          have HY1 := hid hy1
          clear hbr htl hh hx1 htd hy1
          by_cases hte : t = []
          · have hie : tb.toList.isEmpty = true := by rw [Lib.toList_data, HTD.out, hte]; rfl
            have HU : Hid (Upto w W5 kn y1 O (fun e => stampT e (bytesL (ws.drop 2))) false) := hid ⟨R5.out, HBR.out, by
              rw [HE1.out, HLS.out, hte]
              show (if (zeroEn (kn : Int)).kind ≤ 2 then if ([] : List UInt8) = [] then none else _ else _) = _
              rw [if_pos (by show (kn : Int) ≤ 2; omega), if_pos rfl]
              rfl⟩
            clear hte
            go_wp2_with fail
            try rw [hW5]
            go_meet
            case rel => exact ⟨2, false, y1, rfl, rfl, by omega, HU⟩
          · have hie : tb.toList.isEmpty = false := isEmpty_no16 (fun q => hte (by first | (rw [← HTD.out, q]; done) | (rw [← HTD.out, q]; rfl)))
            have HU : Hid (Upto w W5 kn y1 O (fun e => stampT e (bytesL (ws.drop 2))) true) := hid ⟨R5.out, HBR.out, by
              rw [HE1.out, HLS.out, if_pos rfl]
              show (if (zeroEn (kn : Int)).kind ≤ 2 then if t = [] then none else stampT { zeroEn (kn : Int) with temp := ⟨t.toArray⟩ } _ else _) = _
              rw [if_pos (by show (kn : Int) ≤ 2; omega), if_neg hte]
              have : y1.en = { zeroEn (kn : Int) with temp := ⟨t.toArray⟩ } := by
                rw [HY1.out, ← HYZ.out]
                have : tb = ⟨t.toArray⟩ := ba_ext HTD.out
                rw [this]; rfl
              rw [this]⟩
            clear hte
            go_wp2_with fail
            try rw [hW5]
            go_meet
            case rel => exact ⟨2, true, y1, rfl, rfl, by omega, HU⟩
      case rest =>
      obtain ⟨m, ok, y1, rfl, rfl, hm, U1⟩ := hcut
      clear R1 HB0 HYZ HE1 HTT
      have c0 : wc.cell? ⟨w.heap.size + 1, 0, none⟩ = some (.int .i64 (kn : Int)) := by rw [U1.out.rs.cells.1, U1.out.bare.kind]
      go_upto_region 13 with fail
      go_cut [73] from 14 (fun v73 wx => v73 = .bool (ok && decide (10 < kn)) ∧ Hid (Upto w wx kn y1 O (fun e => stampT e (bytesL (ws.drop m))) ok))
      case first =>
        as_aux_lemma =>
        cases ok with
        | false =>
          go_wp2_with fail
          go_meet
          case rel => exact ⟨rfl, U1⟩
        | true =>
          by_cases h10 : 10 < kn
          · have hz : (10 : Int) < (kn : Int) := by omega
            have E : Hid ((true && decide (10 < kn)) = true) := hid (by rw [decide_eq_true h10]; rfl)
            go_wp2_with fail
            go_meet
            case rel => exact ⟨by rw [E.out], U1⟩
          · have hz : ¬ (10 : Int) < (kn : Int) := by omega
            have E : Hid ((true && decide (10 < kn)) = false) := hid (by rw [decide_eq_false h10]; rfl)
            go_wp2_with fail
            go_meet
            case rel => exact ⟨by rw [E.out], U1⟩
      case rest =>
      obtain ⟨rfl, U2⟩ := hcut
      clear c0 U1
      go_upto_if 73 with fail
      go_cut [6, 7] from 14 (fun v6 v7 wx => ∃ (m : Nat) (ok : Bool) (y1 : Ex), v6 = .int .i64 m ∧ v7 = .bool ok ∧ m ≤ 3 ∧ Hid (Upto w wx kn y1 O (fun e => keyT e (bytesL (ws.drop m))) ok))
      case first =>
        as_aux_lemma =>
        by_cases hg : ok = true ∧ 10 < kn
        · obtain ⟨rfl, h10⟩ := hg
          have e1 : (true && decide (10 < kn)) = true := by rw [decide_eq_true h10]; rfl
          rw [e1]
          have HST := hid (rstamp16_any (some ⟨b, off, none⟩) cap ws m wc (HTV.out _ U2.out.rs.bel) HS.out (by omega))
          obtain ⟨so, hso⟩ : ∃ so, stampR ((ws.map (·.data.toList))[m]?) = so := ⟨_, rfl⟩
          have hsl : ((so.getD 0 : Nat) : Int) ≤ 18446744073709551615 := by
            cases so with
            | none => show (0 : Int) ≤ _; decide
            | some n => have := stampR_le hso; show (n : Int) ≤ _; omega
          have HIS : Hid (O = so.bind fun n => keyT { y1.en with stamp := (n : Int) } (bytesL (ws.drop (m + 1)))) := hid (by
            rw [U2.out.is, if_pos rfl]
            show stampT y1.en _ = _
            unfold stampT
            rw [if_pos (by show 10 < y1.kind; rw [U2.out.bare.kind]; omega), bytes_at, hso]
            congr 1
            funext n
            unfold bytesL; rw [← List.map_drop, List.drop_drop, List.map_drop])
          rw [hso] at HST
          unfold numV at HST
          obtain ⟨sn, hsn⟩ : ∃ sn : Nat, so.getD 0 = sn := ⟨_, rfl⟩
          rw [hsn] at HST hsl
          have f8 := U2.out.rs.open 8
          have z8 : wc.cell? ⟨w.heap.size + 1, 8, none⟩ = some (.int .u64 y1.stamp) := U2.out.rs.cells.2.2.2.2.2.2.2.2.1
          obtain ⟨y2, hy2⟩ : ∃ q : Ex, q = { y1 with stamp := (sn : Int) } := ⟨_, rfl⟩
          have hbr : Bare y2 kn := by rw [hy2]; exact U2.out.bare.stamp _ (by omega) hsl
          obtain ⟨W5, hW5⟩ : ∃ W5, wc.setCell ⟨w.heap.size + 1, 8, none⟩ (.int .u64 (sn : Int)) = W5 := ⟨_, rfl⟩
          have R5 : Hid (RsSt w (w.heap.size + 1) w.heap.size W5 y2) := hid (by
            rw [← hW5]
            exact U2.out.rs.turn 8 _ (hbr.own _ _) (by rw [hy2]; rfl))
          have HBR := hid hbr
          have HY2 := hid hy2
          have HSN := hid hsn
          clear hbr hy2 hso e1 hsn
          cases so with
          | none =>
            have HU : Hid (Upto w W5 kn y2 O (fun e => keyT e (bytesL (ws.drop (m + 1)))) false) := hid ⟨R5.out, HBR.out, by rw [HIS.out]; rfl⟩
            go_wp2_with fail
            refine HST.out.mono ?_
            rintro e w7 ⟨rfl, rfl⟩
            go_wp2_with fail
            try rw [hW5]
            go_meet
            case rel => exact ⟨m + 1, false, y2, by go_num, rfl, by omega, HU⟩
          | some n =>
            have HU : Hid (Upto w W5 kn y2 O (fun e => keyT e (bytesL (ws.drop (m + 1)))) true) := hid ⟨R5.out, HBR.out, by
              rw [HIS.out, if_pos rfl, HY2.out]
              have : n = sn := HSN.out
              rw [← this]; rfl⟩
            go_wp2_with fail
            refine HST.out.mono ?_
            rintro e w7 ⟨rfl, rfl⟩
            go_wp2_with fail
            try rw [hW5]
            go_meet
            case rel => exact ⟨m + 1, true, y2, by go_num, rfl, by omega, HU⟩
        · have e1 : (ok && decide (10 < kn)) = false := by
            cases ok with
            | false => rfl
            | true =>
              have : ¬ 10 < kn := fun q => hg ⟨rfl, q⟩
              rw [decide_eq_false this]; rfl
          rw [e1]
          have HU : Hid (Upto w wc kn y1 O (fun e => keyT e (bytesL (ws.drop m))) ok) := hid ⟨U2.out.rs, U2.out.bare, by
            rw [U2.out.is]
            cases ok with
            | false => rfl
            | true =>
              have : ¬ 10 < kn := fun q => hg ⟨rfl, q⟩
              rw [if_pos rfl, if_pos rfl]
              show stampT y1.en _ = keyT y1.en _
              unfold stampT
              rw [if_neg (by show ¬ 10 < y1.kind; rw [U2.out.bare.kind]; omega)]⟩
          clear e1 hg
          go_wp2_with fail
          go_meet
          case rel => exact ⟨m, ok, y1, rfl, rfl, by omega, HU⟩
      case rest =>
      obtain ⟨m2, ok2, y2, rfl, rfl, hm2, U3⟩ := hcut
      clear U2 hm
      cases ok2 with
      | false =>
        as_aux_lemma =>
        have R := hid U3.out.rs
        have HNO : Hid (O = none) := hid U3.out.is
        go_upto_region 17 with fail
        have HRG := hid R.out.range
        have HTH := hid R.out.there
        obtain ⟨W4, hW4⟩ : ∃ W4, wc.setCells w.heap.size 0 [.int .i64 y2.kind, .string y2.temp, .string y2.ka, .string y2.kb, .int .i64 y2.iff, .slice y2.vp y2.vo.length y2.vc, .slice y2.ep y2.eo.length y2.ec, .slice y2.pp y2.po.length y2.pc, .int .u64 y2.stamp, .int .i64 y2.num] = W4 := ⟨_, rfl⟩
        obtain ⟨⟨g0, g1, g2, g3, g4, g5, g6, g7, g8, g9⟩, hown4, hbel4⟩ := R.out.fin W4 hW4
        have HW4 : Hid (wc.setCells w.heap.size 0 (#[.int .i64 y2.kind, .string y2.temp, .string y2.ka, .string y2.kb, .int .i64 y2.iff, .slice y2.vp y2.vo.length y2.vc, .slice y2.ep y2.eo.length y2.ec, .slice y2.pp y2.po.length y2.pc, .int .u64 y2.stamp, .int .i64 y2.num] : Array Value).toList = W4) := hid hW4
        have HOW := hid hown4
        have HBE := hid hbel4
        clear hown4 hbel4 hW4
        go_wp2_with (first | (refine wpList_load_as rfl 42 _ rfl (w.heap.size + 1) 0 rfl [.int .i64 y2.kind, .string y2.temp, .string y2.ka, .string y2.kb, .int .i64 y2.iff, .slice y2.vp y2.vo.length y2.vc, .slice y2.ep y2.eo.length y2.ec, .slice y2.pp y2.po.length y2.pc, .int .u64 y2.stamp, .int .i64 y2.num] _ HRG.out Tryz.underlying42 rfl Tryz.entSize (.agg #[.int .i64 y2.kind, .string y2.temp, .string y2.ka, .string y2.kb, .int .i64 y2.iff, .slice y2.vp y2.vo.length y2.vc, .slice y2.ep y2.eo.length y2.ec, .slice y2.pp y2.po.length y2.pc, .int .u64 y2.stamp, .int .i64 y2.num]) rfl ?_) | (refine wpList_store_as rfl 42 _ _ rfl w.heap.size 0 #[.int .i64 y2.kind, .string y2.temp, .string y2.ka, .string y2.kb, .int .i64 y2.iff, .slice y2.vp y2.vo.length y2.vc, .slice y2.ep y2.eo.length y2.ec, .slice y2.pp y2.po.length y2.pc, .int .u64 y2.stamp, .int .i64 y2.num] rfl rfl HTH.out Tryz.entSize (one_ex y2) W4 HW4.out ?_))
        exact bodyPost_ret (v := .tuple #[.agg #[.int .i64 y2.kind, .string y2.temp, .string y2.ka, .string y2.kb, .int .i64 y2.iff, .slice y2.vp y2.vo.length y2.vc, .slice y2.ep y2.eo.length y2.ec, .slice y2.pp y2.po.length y2.pc, .int .u64 y2.stamp, .int .i64 y2.num], .bool false]) (by simp [results, Tryz.results19, go_sem, g0, g1, g2, g3, g4, g5, g6, g7, g8, g9]) rfl ⟨⟨y2, false, rfl, fun _ => HOW.out, by rw [HNO.out]; rfl⟩, HBE.out⟩
      | true =>
      by_cases hlt : m2 < ws.length
      case neg =>
        as_aux_lemma =>
        have hltz : (ws.length : Int) ≤ (m2 : Int) := by omega
        have R := hid U3.out.rs
        have HNO : Hid (O = none) := hid (by rw [U3.out.is, if_pos rfl]; show keyT y2.en _ = none; rw [bytes_none (by omega)]; rfl)
        go_upto_region 17 with fail
        have HRG := hid R.out.range
        have HTH := hid R.out.there
        obtain ⟨W4, hW4⟩ : ∃ W4, wc.setCells w.heap.size 0 [.int .i64 y2.kind, .string y2.temp, .string y2.ka, .string y2.kb, .int .i64 y2.iff, .slice y2.vp y2.vo.length y2.vc, .slice y2.ep y2.eo.length y2.ec, .slice y2.pp y2.po.length y2.pc, .int .u64 y2.stamp, .int .i64 y2.num] = W4 := ⟨_, rfl⟩
        obtain ⟨⟨g0, g1, g2, g3, g4, g5, g6, g7, g8, g9⟩, hown4, hbel4⟩ := R.out.fin W4 hW4
        have HW4 : Hid (wc.setCells w.heap.size 0 (#[.int .i64 y2.kind, .string y2.temp, .string y2.ka, .string y2.kb, .int .i64 y2.iff, .slice y2.vp y2.vo.length y2.vc, .slice y2.ep y2.eo.length y2.ec, .slice y2.pp y2.po.length y2.pc, .int .u64 y2.stamp, .int .i64 y2.num] : Array Value).toList = W4) := hid hW4
        have HOW := hid hown4
        have HBE := hid hbel4
        clear hown4 hbel4 hW4
        go_wp2_with (first | (refine wpList_load_as rfl 42 _ rfl (w.heap.size + 1) 0 rfl [.int .i64 y2.kind, .string y2.temp, .string y2.ka, .string y2.kb, .int .i64 y2.iff, .slice y2.vp y2.vo.length y2.vc, .slice y2.ep y2.eo.length y2.ec, .slice y2.pp y2.po.length y2.pc, .int .u64 y2.stamp, .int .i64 y2.num] _ HRG.out Tryz.underlying42 rfl Tryz.entSize (.agg #[.int .i64 y2.kind, .string y2.temp, .string y2.ka, .string y2.kb, .int .i64 y2.iff, .slice y2.vp y2.vo.length y2.vc, .slice y2.ep y2.eo.length y2.ec, .slice y2.pp y2.po.length y2.pc, .int .u64 y2.stamp, .int .i64 y2.num]) rfl ?_) | (refine wpList_store_as rfl 42 _ _ rfl w.heap.size 0 #[.int .i64 y2.kind, .string y2.temp, .string y2.ka, .string y2.kb, .int .i64 y2.iff, .slice y2.vp y2.vo.length y2.vc, .slice y2.ep y2.eo.length y2.ec, .slice y2.pp y2.po.length y2.pc, .int .u64 y2.stamp, .int .i64 y2.num] rfl rfl HTH.out Tryz.entSize (one_ex y2) W4 HW4.out ?_))
        exact bodyPost_ret (v := .tuple #[.agg #[.int .i64 y2.kind, .string y2.temp, .string y2.ka, .string y2.kb, .int .i64 y2.iff, .slice y2.vp y2.vo.length y2.vc, .slice y2.ep y2.eo.length y2.ec, .slice y2.pp y2.po.length y2.pc, .int .u64 y2.stamp, .int .i64 y2.num], .bool false]) (by simp [results, Tryz.results19, go_sem, g0, g1, g2, g3, g4, g5, g6, g7, g8, g9]) rfl ⟨⟨y2, false, rfl, fun _ => HOW.out, by rw [HNO.out]; rfl⟩, HBE.out⟩
      have hltz : ¬ (ws.length : Int) ≤ (m2 : Int) := by omega
      have hltz2 : (m2 : Int) < (ws.length : Int) := by omega
      have hmz : (0 : Int) ≤ (m2 : Int) := by omega
      obtain ⟨x2, hx2⟩ : ∃ x2, ws[m2]? = some x2 := ⟨_, List.getElem?_eq_getElem hlt⟩
      have HSZ2 := hid (HS.out x2 (List.mem_of_getElem? hx2))
      have HK3 : Hid (O = keyT y2.en (x2.data.toList :: bytesL (ws.drop (m2 + 1)))) := hid (by rw [U3.out.is, if_pos rfl]; show keyT y2.en _ = _; rw [bytes_drop hx2])
      have cx2 := HTX.out wc m2 x2 hx2 U3.out.rs.bel
      have c0 : wc.cell? ⟨w.heap.size + 1, 0, none⟩ = some (.int .i64 (kn : Int)) := by rw [U3.out.rs.cells.1, U3.out.bare.kind]
      clear hx2
      by_cases k8 : kn = 8
      case pos =>
        as_aux_lemma =>
        subst k8
        have HKT : Hid (O = tailR { y2.en with ka := ⟨x2.data.toList.toArray⟩ } (bytesL (ws.drop (m2 + 1)))) := hid (by
          have hk : y2.en.kind = 8 := U3.out.bare.kind
          rw [HK3.out, kyt_typed (by rw [hk]; rfl)])
        have R := hid U3.out.rs
        have HB := hid U3.out.bare
        have f1 := R.out.open 2
        have z1 : wc.cell? ⟨w.heap.size + 1, 2, none⟩ = some (.string y2.ka) := by rw [Lib.cell_of_heap R.out.box]; rfl
        obtain ⟨y3, hzz⟩ : ∃ q : Ex, q = { y2 with ka := x2 } := ⟨_, rfl⟩
        have hbr : Bare y3 8 := by rw [hzz]; exact (by
            have h := HB.out.keys x2 y2.kb (by have := HSZ2.out; unfold maxLen; omega) HB.out.rng.kb
            exact h)
        obtain ⟨W5, hW5⟩ : ∃ W', wc.setCell ⟨w.heap.size + 1, 2, none⟩ (.string x2) = W' := ⟨_, rfl⟩
        have R5 : Hid (RsSt w (w.heap.size + 1) w.heap.size W5 y3) := hid (by
          rw [← hW5]
          exact R.out.turn 2 _ (hbr.own _ _) (by rw [hzz]; rfl))
        have HB5 := hid hbr
        have HZZ := hid hzz
        clear hbr hzz
        have HT5 : Hid (O = tailR y3.en (bytesL (ws.drop (m2 + 1)))) := hid (by
          rw [HKT.out, HZZ.out]
          have : (⟨x2.data.toList.toArray⟩ : ByteArray) = x2 := ba_of x2
          rw [this]; rfl)
        have c0' := c0
        go_upto_region 25 with fail
        try rw [hW5]
        clear hW5 f1 z1 c0 c0' cx2 U3 HKT HK3
        have c0 : W5.cell? ⟨w.heap.size + 1, 0, none⟩ = some (.int .i64 8) := by rw [R5.out.cells.1, HB5.out.kind]; rfl
        have HRS : Hid (O = restR y3.en (bytesL (ws.drop (m2 + 1)))) := hid (by
          have hk : y3.en.kind = 8 := HB5.out.kind
          rw [HT5.out, tlr_rest (by omega) (by omega) (by omega) (by omega) (by omega) (by omega)])
        have hcz : (m2 : Int) + 1 ≤ (ws.length : Int) := by omega
        have hcz2 : (ws.length : Int) ≤ (cap : Int) := by omega
        have hcz3 : (0 : Int) ≤ (m2 : Int) + 1 := by omega
        have htn : ((m2 : Int) + 1).toNat = m2 + 1 := by omega
        obtain ⟨q, hq⟩ : ∃ q : Option Addr, (if cap = m2 + 1 then some ⟨b, off, none⟩ else some ⟨b, off + (m2 + 1), none⟩) = q := ⟨_, rfl⟩
        have HQ := hid hq
        have HRT : Hid (∀ V, Below W5.heap.size W5 V → Calls Tryz.prog 43 #[.agg #[.int .i64 y3.kind, .string y3.temp, .string y3.ka, .string y3.kb, .int .i64 y3.iff, .slice y3.vp y3.vo.length y3.vc, .slice y3.ep y3.eo.length y3.ec, .slice y3.pp y3.po.length y3.pc, .int .u64 y3.stamp, .int .i64 y3.num], .slice q (ws.length - (m2 + 1) : Nat) (cap - (m2 + 1))] V fun e w' => ∃ (z : Ex) (ok : Bool), e = .returned (.tuple #[.agg #[.int .i64 z.kind, .string z.temp, .string z.ka, .string z.kb, .int .i64 z.iff, .slice z.vp z.vo.length z.vc, .slice z.ep z.eo.length z.ec, .slice z.pp z.po.length z.pc, .int .u64 z.stamp, .int .i64 z.num], .bool ok]) ∧ (ok = true → OwnQ w.heap.size z w') ∧ O = (if ok = true then some z.en else none) ∧ Below V.heap.size V w') := hid fun V hV => by
          have htx : TxtAt V q (ws.drop (m2 + 1)) := by
            rw [← HQ.out]
            split
            · exact Or.inl (List.drop_eq_nil_of_le (by omega))
            · exact txt_drop (HTV.out V (R5.out.bel.trans (hV.mono R5.out.bel.size))) rfl _
          have h := rrest16_any y3 HB5.out.bare q (cap - (m2 + 1)) (ws.drop (m2 + 1)) V HB5.out.rng htx (by rw [List.length_drop]; omega) (by rw [List.length_drop]; omega) fun x hx => HS.out x (List.mem_of_mem_drop hx)
          rw [List.length_drop] at h
          refine h.mono ?_
          rintro e w' ⟨⟨z, ok, rfl, ho, hz⟩, hb⟩
          have hsz := hV.size
          have hbs := R5.out.bel.size
          exact ⟨z, ok, rfl, fun h => (ho h).weak (by omega), by rw [HRS.out]; exact hz, hb⟩
        have HSC : Hid (∀ w', Below W5.heap.size W5 w' → w'.cell? ⟨w.heap.size + 1, 0, none⟩ = some (.int .i64 y3.kind) ∧ w'.cell? ⟨w.heap.size + 1, 1, none⟩ = some (.string y3.temp) ∧ w'.cell? ⟨w.heap.size + 1, 2, none⟩ = some (.string y3.ka) ∧ w'.cell? ⟨w.heap.size + 1, 3, none⟩ = some (.string y3.kb) ∧ w'.cell? ⟨w.heap.size + 1, 4, none⟩ = some (.int .i64 y3.iff) ∧ w'.cell? ⟨w.heap.size + 1, 5, none⟩ = some (.slice y3.vp y3.vo.length y3.vc) ∧ w'.cell? ⟨w.heap.size + 1, 6, none⟩ = some (.slice y3.ep y3.eo.length y3.ec) ∧ w'.cell? ⟨w.heap.size + 1, 7, none⟩ = some (.slice y3.pp y3.po.length y3.pc) ∧ w'.cell? ⟨w.heap.size + 1, 8, none⟩ = some (.int .u64 y3.stamp) ∧ w'.cell? ⟨w.heap.size + 1, 9, none⟩ = some (.int .i64 y3.num)) := hid fun w' h => (R5.out.on h).cells
        have hsc := HSC.out W5.drew (bel_drewN (Below.refl _ _) 1)
        clear hq
        go_upto_region 43 with fail
        refine wp_region_held_drew (S := fun w' => w'.cell? ⟨w.heap.size + 1, 0, none⟩ = some (.int .i64 y3.kind) ∧ w'.cell? ⟨w.heap.size + 1, 1, none⟩ = some (.string y3.temp) ∧ w'.cell? ⟨w.heap.size + 1, 2, none⟩ = some (.string y3.ka) ∧ w'.cell? ⟨w.heap.size + 1, 3, none⟩ = some (.string y3.kb) ∧ w'.cell? ⟨w.heap.size + 1, 4, none⟩ = some (.int .i64 y3.iff) ∧ w'.cell? ⟨w.heap.size + 1, 5, none⟩ = some (.slice y3.vp y3.vo.length y3.vc) ∧ w'.cell? ⟨w.heap.size + 1, 6, none⟩ = some (.slice y3.ep y3.eo.length y3.ec) ∧ w'.cell? ⟨w.heap.size + 1, 7, none⟩ = some (.slice y3.pp y3.po.length y3.pc) ∧ w'.cell? ⟨w.heap.size + 1, 8, none⟩ = some (.int .u64 y3.stamp) ∧ w'.cell? ⟨w.heap.size + 1, 9, none⟩ = some (.int .i64 y3.num)) (by kernel_rfl) hsc (fun hHeld => ?_)
        refine tkv 0 (.agg #[.int .i64 y3.kind, .string y3.temp, .string y3.ka, .string y3.kb, .int .i64 y3.iff, .slice y3.vp y3.vo.length y3.vc, .slice y3.ep y3.eo.length y3.ec, .slice y3.pp y3.po.length y3.pc, .int .u64 y3.stamp, .int .i64 y3.num]) hHeld ?_
        simp only [Act.put, sz]
        refine tkv 1 (.slice (some ⟨b, off, none⟩) ws.length cap) hHeld ?_
        simp only [Act.put, sz]
        refine tkv 2 (.int .i64 ((m2 : Int) + 1)) hHeld ?_
        simp only [Act.put, sz]
        refine take_val (i := 3) (.slice q (ws.length - (m2 + 1) : Nat) (cap - (m2 + 1))) rfl (by kernel_rfl) (by kernel_rfl) (by kernel_rfl) (fun _ _ _ h => h) (by rfl) (fun w hSw => by
          rw [← HQ.out]
          by_cases hcp : cap = m2 + 1
          · rw [if_pos hcp]
            go_simp
            all_goals simp [htn]
          · rw [if_neg hcp]
            go_simp
            all_goals simp [htn, hcp]) hHeld ?_
        simp only [Act.put, sz]
        refine wpAnyH_ready (rs := [4]) (by kernel_rfl) (by simp) ?_
        refine AllReadyH.cons (at_drop0 rfl) (fun K hK => ?_) AllReadyH.nil
        rw [if_pos (by rfl)]
        go_simp
        refine (HRT.out _ (bel_drewN (Below.refl _ _) 1)).mono ?_
        rintro e w7 ⟨z, ok, rfl, hoz, hzO, hb7⟩
        have hb7' : Below W5.heap.size W5 w7 := (bel_drewN (Below.refl W5.heap.size W5) 1).trans hb7
        have R7 := hid (R5.out.on hb7')
        have q7 := HSC.out w7 hb7'
        have HOZ := hid hoz
        have HZO := hid hzO
        obtain ⟨W4, hW4⟩ : ∃ W4, w7.setCells w.heap.size 0 [.int .i64 z.kind, .string z.temp, .string z.ka, .string z.kb, .int .i64 z.iff, .slice z.vp z.vo.length z.vc, .slice z.ep z.eo.length z.ec, .slice z.pp z.po.length z.pc, .int .u64 z.stamp, .int .i64 z.num] = W4 := ⟨_, rfl⟩
        obtain ⟨⟨g0, g1, g2, g3, g4, g5, g6, g7, g8, g9⟩, hown4, hbel4, q8⟩ := R7.out.leave W4 hW4
        have HW4 : Hid (w7.setCells w.heap.size 0 (#[.int .i64 z.kind, .string z.temp, .string z.ka, .string z.kb, .int .i64 z.iff, .slice z.vp z.vo.length z.vc, .slice z.ep z.eo.length z.ec, .slice z.pp z.po.length z.pc, .int .u64 z.stamp, .int .i64 z.num] : Array Value).toList = W4) := hid hW4
        have HOW := hid hown4
        have HBE := hid hbel4
        have HTH := hid R7.out.there
        clear hoz hzO hb7 hb7' hown4 hbel4 hW4
        go_wp2_with fail
        refine hK.out _ _ q7 (fun hHeld => ?_)
        clear hK K
        try simp only [Act.put, sz]
        refine tkv 5 (.agg #[.int .i64 z.kind, .string z.temp, .string z.ka, .string z.kb, .int .i64 z.iff, .slice z.vp z.vo.length z.vc, .slice z.ep z.eo.length z.ec, .slice z.pp z.po.length z.pc, .int .u64 z.stamp, .int .i64 z.num]) hHeld ?_
        simp only [Act.put, sz]
        refine tkv 6 (.bool ok) hHeld ?_
        simp only [Act.put, sz]
        refine wpAnyH_ready (rs := [7]) (by kernel_rfl) (by simp) ?_
        refine AllReadyH.cons (at_drop0 rfl) (fun K hK => ?_) AllReadyH.nil
        rw [if_pos (by rfl)]
        refine wp_store_mid 42 _ _ rfl w.heap.size 0 #[.int .i64 z.kind, .string z.temp, .string z.ka, .string z.kb, .int .i64 z.iff, .slice z.vp z.vo.length z.vc, .slice z.ep z.eo.length z.ec, .slice z.pp z.po.length z.pc, .int .u64 z.stamp, .int .i64 z.num] rfl rfl HTH.out Tryz.entSize (one_ex z) ?_
        rw [HW4.out]
        refine hK.out _ _ q8 (fun hHeld => ?_)
        clear hK K
        try simp only [Act.put]
        refine tkv 8 (.bool ok) hHeld ?_
        simp only [Act.put, sz]
        refine wpAnyH_done (by kernel_rfl) ?_ _
        clear hHeld
        go_wp2_with fail
        exact bodyPost_ret (v := .tuple #[.agg #[.int .i64 z.kind, .string z.temp, .string z.ka, .string z.kb, .int .i64 z.iff, .slice z.vp z.vo.length z.vc, .slice z.ep z.eo.length z.ec, .slice z.pp z.po.length z.pc, .int .u64 z.stamp, .int .i64 z.num], .bool ok]) (by simp [results, Tryz.results19, go_sem, g0, g1, g2, g3, g4, g5, g6, g7, g8, g9]) rfl ⟨⟨z, ok, rfl, fun h => HOW.out (HOZ.out h), HZO.out⟩, HBE.out⟩
      by_cases k10 : kn = 10
      case pos =>
        as_aux_lemma =>
        subst k10
        have HKT : Hid (O = tailR { y2.en with ka := ⟨x2.data.toList.toArray⟩ } (bytesL (ws.drop (m2 + 1)))) := hid (by
          have hk : y2.en.kind = 10 := U3.out.bare.kind
          rw [HK3.out, kyt_typed (by rw [hk]; rfl)])
        have R := hid U3.out.rs
        have HB := hid U3.out.bare
        have f1 := R.out.open 2
        have z1 : wc.cell? ⟨w.heap.size + 1, 2, none⟩ = some (.string y2.ka) := by rw [Lib.cell_of_heap R.out.box]; rfl
        obtain ⟨y3, hzz⟩ : ∃ q : Ex, q = { y2 with ka := x2 } := ⟨_, rfl⟩
        have hbr : Bare y3 10 := by rw [hzz]; exact (by
            have h := HB.out.keys x2 y2.kb (by have := HSZ2.out; unfold maxLen; omega) HB.out.rng.kb
            exact h)
        obtain ⟨W5, hW5⟩ : ∃ W', wc.setCell ⟨w.heap.size + 1, 2, none⟩ (.string x2) = W' := ⟨_, rfl⟩
        have R5 : Hid (RsSt w (w.heap.size + 1) w.heap.size W5 y3) := hid (by
          rw [← hW5]
          exact R.out.turn 2 _ (hbr.own _ _) (by rw [hzz]; rfl))
        have HB5 := hid hbr
        have HZZ := hid hzz
        clear hbr hzz
        have HT5 : Hid (O = tailR y3.en (bytesL (ws.drop (m2 + 1)))) := hid (by
          rw [HKT.out, HZZ.out]
          have : (⟨x2.data.toList.toArray⟩ : ByteArray) = x2 := ba_of x2
          rw [this]; rfl)
        have c0' := c0
        go_upto_region 25 with fail
        try rw [hW5]
        clear hW5 f1 z1 c0 c0' cx2 U3 HKT HK3
        have c0 : W5.cell? ⟨w.heap.size + 1, 0, none⟩ = some (.int .i64 10) := by rw [R5.out.cells.1, HB5.out.kind]; rfl
        have HTL : Hid (O = if (bytesL (ws.drop (m2 + 1))).length = 1 then (stampR (bytesL (ws.drop (m2 + 1)))[0]?).bind fun n => some { y3.en with stamp := (n : Int) } else none) := hid (by
          have hk : y3.en.kind = 10 := HB5.out.kind
          rw [HT5.out, tlr_stamp (Or.inr hk)])
        have HSM : Hid (Calls Tryz.prog 40 #[.slice (some ⟨b, off, none⟩) ws.length cap, .int .i64 ((m2 : Int) + 1)] W5 fun e w' => e = .returned (numV (stampR ((ws.map (·.data.toList))[m2 + 1]?))) ∧ w' = W5) := hid (rstamp16_any (some ⟨b, off, none⟩) cap ws (m2 + 1) W5 (HTV.out _ R5.out.bel) HS.out (by omega))
        obtain ⟨so, hso⟩ : ∃ so, stampR ((ws.map (·.data.toList))[m2 + 1]?) = so := ⟨_, rfl⟩
        have hsl : ((so.getD 0 : Nat) : Int) ≤ 18446744073709551615 := by
          cases so with
          | none => show (0 : Int) ≤ _; decide
          | some n => have := stampR_le hso; show (n : Int) ≤ _; omega
        rw [bytes_at, bytes_len, hso] at HTL
        rw [hso] at HSM
        unfold numV at HSM
        obtain ⟨sn, hsn⟩ : ∃ sn : Nat, so.getD 0 = sn := ⟨_, rfl⟩
        rw [hsn] at HSM hsl
        have HSN := hid hsn
        clear hsn hso
        have f1 := R5.out.open 8
        have z1 : W5.cell? ⟨w.heap.size + 1, 8, none⟩ = some (.int .u64 y3.stamp) := by rw [Lib.cell_of_heap R5.out.box]; rfl
        obtain ⟨y4, hzz⟩ : ∃ q : Ex, q = { y3 with stamp := (sn : Int) } := ⟨_, rfl⟩
        have hbr : Bare y4 10 := by rw [hzz]; exact HB5.out.stamp _ (by omega) hsl
        obtain ⟨W6, hW6⟩ : ∃ W', W5.setCell ⟨w.heap.size + 1, 8, none⟩ (.int .u64 (sn : Int)) = W' := ⟨_, rfl⟩
        have R6 : Hid (RsSt w (w.heap.size + 1) w.heap.size W6 y4) := hid (by
          rw [← hW6]
          exact R5.out.turn 8 _ (hbr.own _ _) (by rw [hzz]; rfl))
        have HB6 := hid hbr
        have HZZ := hid hzz
        clear hbr hzz
        go_wp2_with fail
        refine HSM.out.mono ?_
        rintro e w7 ⟨rfl, rfl⟩
        clear c0
        cases so with
        | none =>
          have HNO : Hid (O = none) := hid (by rw [HTL.out]; split <;> rfl)
          go_upto_region 33 with fail
          try rw [hW6]
          clear hW6 f1 z1
          have HRG := hid R6.out.range
          have HTH := hid R6.out.there
          obtain ⟨W4, hW4⟩ : ∃ W4, W6.setCells w.heap.size 0 [.int .i64 y4.kind, .string y4.temp, .string y4.ka, .string y4.kb, .int .i64 y4.iff, .slice y4.vp y4.vo.length y4.vc, .slice y4.ep y4.eo.length y4.ec, .slice y4.pp y4.po.length y4.pc, .int .u64 y4.stamp, .int .i64 y4.num] = W4 := ⟨_, rfl⟩
          obtain ⟨⟨g0, g1, g2, g3, g4, g5, g6, g7, g8, g9⟩, hown4, hbel4⟩ := R6.out.fin W4 hW4
          have HW4 : Hid (W6.setCells w.heap.size 0 (#[.int .i64 y4.kind, .string y4.temp, .string y4.ka, .string y4.kb, .int .i64 y4.iff, .slice y4.vp y4.vo.length y4.vc, .slice y4.ep y4.eo.length y4.ec, .slice y4.pp y4.po.length y4.pc, .int .u64 y4.stamp, .int .i64 y4.num] : Array Value).toList = W4) := hid hW4
          have HOW := hid hown4
          have HBE := hid hbel4
          clear hown4 hbel4 hW4
          go_wp2_with (first | (refine wpList_load_as rfl 42 _ rfl (w.heap.size + 1) 0 rfl [.int .i64 y4.kind, .string y4.temp, .string y4.ka, .string y4.kb, .int .i64 y4.iff, .slice y4.vp y4.vo.length y4.vc, .slice y4.ep y4.eo.length y4.ec, .slice y4.pp y4.po.length y4.pc, .int .u64 y4.stamp, .int .i64 y4.num] _ HRG.out Tryz.underlying42 rfl Tryz.entSize (.agg #[.int .i64 y4.kind, .string y4.temp, .string y4.ka, .string y4.kb, .int .i64 y4.iff, .slice y4.vp y4.vo.length y4.vc, .slice y4.ep y4.eo.length y4.ec, .slice y4.pp y4.po.length y4.pc, .int .u64 y4.stamp, .int .i64 y4.num]) rfl ?_) | (refine wpList_store_as rfl 42 _ _ rfl w.heap.size 0 #[.int .i64 y4.kind, .string y4.temp, .string y4.ka, .string y4.kb, .int .i64 y4.iff, .slice y4.vp y4.vo.length y4.vc, .slice y4.ep y4.eo.length y4.ec, .slice y4.pp y4.po.length y4.pc, .int .u64 y4.stamp, .int .i64 y4.num] rfl rfl HTH.out Tryz.entSize (one_ex y4) W4 HW4.out ?_))
          exact bodyPost_ret (v := .tuple #[.agg #[.int .i64 y4.kind, .string y4.temp, .string y4.ka, .string y4.kb, .int .i64 y4.iff, .slice y4.vp y4.vo.length y4.vc, .slice y4.ep y4.eo.length y4.ec, .slice y4.pp y4.po.length y4.pc, .int .u64 y4.stamp, .int .i64 y4.num], .bool false]) (by simp [results, Tryz.results19, go_sem, g0, g1, g2, g3, g4, g5, g6, g7, g8, g9]) rfl ⟨⟨y4, false, rfl, fun _ => HOW.out, by rw [HNO.out]; rfl⟩, HBE.out⟩
        | some n =>
          have HN : Hid (n = sn) := hid HSN.out
          by_cases hq : m2 + 1 = ws.length - 1
          · have hqz : ((m2 : Int) + 1 == (ws.length : Int) - 1) = true := by rw [beq_iff_eq]; omega
            have HYES : Hid (O = some y4.en) := hid (by
              rw [HTL.out, if_pos (by omega), HZZ.out, HN.out]; rfl)
            clear hq
            go_upto_region 33 with fail
            try rw [hW6]
            clear hW6 f1 z1
            have HRG := hid R6.out.range
            have HTH := hid R6.out.there
            obtain ⟨W4, hW4⟩ : ∃ W4, W6.setCells w.heap.size 0 [.int .i64 y4.kind, .string y4.temp, .string y4.ka, .string y4.kb, .int .i64 y4.iff, .slice y4.vp y4.vo.length y4.vc, .slice y4.ep y4.eo.length y4.ec, .slice y4.pp y4.po.length y4.pc, .int .u64 y4.stamp, .int .i64 y4.num] = W4 := ⟨_, rfl⟩
            obtain ⟨⟨g0, g1, g2, g3, g4, g5, g6, g7, g8, g9⟩, hown4, hbel4⟩ := R6.out.fin W4 hW4
            have HW4 : Hid (W6.setCells w.heap.size 0 (#[.int .i64 y4.kind, .string y4.temp, .string y4.ka, .string y4.kb, .int .i64 y4.iff, .slice y4.vp y4.vo.length y4.vc, .slice y4.ep y4.eo.length y4.ec, .slice y4.pp y4.po.length y4.pc, .int .u64 y4.stamp, .int .i64 y4.num] : Array Value).toList = W4) := hid hW4
            have HOW := hid hown4
            have HBE := hid hbel4
            clear hown4 hbel4 hW4
            go_wp2_with (first | (refine wpList_load_as rfl 42 _ rfl (w.heap.size + 1) 0 rfl [.int .i64 y4.kind, .string y4.temp, .string y4.ka, .string y4.kb, .int .i64 y4.iff, .slice y4.vp y4.vo.length y4.vc, .slice y4.ep y4.eo.length y4.ec, .slice y4.pp y4.po.length y4.pc, .int .u64 y4.stamp, .int .i64 y4.num] _ HRG.out Tryz.underlying42 rfl Tryz.entSize (.agg #[.int .i64 y4.kind, .string y4.temp, .string y4.ka, .string y4.kb, .int .i64 y4.iff, .slice y4.vp y4.vo.length y4.vc, .slice y4.ep y4.eo.length y4.ec, .slice y4.pp y4.po.length y4.pc, .int .u64 y4.stamp, .int .i64 y4.num]) rfl ?_) | (refine wpList_store_as rfl 42 _ _ rfl w.heap.size 0 #[.int .i64 y4.kind, .string y4.temp, .string y4.ka, .string y4.kb, .int .i64 y4.iff, .slice y4.vp y4.vo.length y4.vc, .slice y4.ep y4.eo.length y4.ec, .slice y4.pp y4.po.length y4.pc, .int .u64 y4.stamp, .int .i64 y4.num] rfl rfl HTH.out Tryz.entSize (one_ex y4) W4 HW4.out ?_))
            exact bodyPost_ret (v := .tuple #[.agg #[.int .i64 y4.kind, .string y4.temp, .string y4.ka, .string y4.kb, .int .i64 y4.iff, .slice y4.vp y4.vo.length y4.vc, .slice y4.ep y4.eo.length y4.ec, .slice y4.pp y4.po.length y4.pc, .int .u64 y4.stamp, .int .i64 y4.num], .bool true]) (by simp [results, Tryz.results19, go_sem, g0, g1, g2, g3, g4, g5, g6, g7, g8, g9]) rfl ⟨⟨y4, true, rfl, fun _ => HOW.out, by rw [HYES.out]; rfl⟩, HBE.out⟩
          · have hqz : ((m2 : Int) + 1 == (ws.length : Int) - 1) = false := by rw [beq_eq_false_iff_ne]; omega
            have HNO : Hid (O = none) := hid (by rw [HTL.out, if_neg (by omega)])
            clear hq
            go_upto_region 33 with fail
            try rw [hW6]
            clear hW6 f1 z1
            have HRG := hid R6.out.range
            have HTH := hid R6.out.there
            obtain ⟨W4, hW4⟩ : ∃ W4, W6.setCells w.heap.size 0 [.int .i64 y4.kind, .string y4.temp, .string y4.ka, .string y4.kb, .int .i64 y4.iff, .slice y4.vp y4.vo.length y4.vc, .slice y4.ep y4.eo.length y4.ec, .slice y4.pp y4.po.length y4.pc, .int .u64 y4.stamp, .int .i64 y4.num] = W4 := ⟨_, rfl⟩
            obtain ⟨⟨g0, g1, g2, g3, g4, g5, g6, g7, g8, g9⟩, hown4, hbel4⟩ := R6.out.fin W4 hW4
            have HW4 : Hid (W6.setCells w.heap.size 0 (#[.int .i64 y4.kind, .string y4.temp, .string y4.ka, .string y4.kb, .int .i64 y4.iff, .slice y4.vp y4.vo.length y4.vc, .slice y4.ep y4.eo.length y4.ec, .slice y4.pp y4.po.length y4.pc, .int .u64 y4.stamp, .int .i64 y4.num] : Array Value).toList = W4) := hid hW4
            have HOW := hid hown4
            have HBE := hid hbel4
            clear hown4 hbel4 hW4
            go_wp2_with (first | (refine wpList_load_as rfl 42 _ rfl (w.heap.size + 1) 0 rfl [.int .i64 y4.kind, .string y4.temp, .string y4.ka, .string y4.kb, .int .i64 y4.iff, .slice y4.vp y4.vo.length y4.vc, .slice y4.ep y4.eo.length y4.ec, .slice y4.pp y4.po.length y4.pc, .int .u64 y4.stamp, .int .i64 y4.num] _ HRG.out Tryz.underlying42 rfl Tryz.entSize (.agg #[.int .i64 y4.kind, .string y4.temp, .string y4.ka, .string y4.kb, .int .i64 y4.iff, .slice y4.vp y4.vo.length y4.vc, .slice y4.ep y4.eo.length y4.ec, .slice y4.pp y4.po.length y4.pc, .int .u64 y4.stamp, .int .i64 y4.num]) rfl ?_) | (refine wpList_store_as rfl 42 _ _ rfl w.heap.size 0 #[.int .i64 y4.kind, .string y4.temp, .string y4.ka, .string y4.kb, .int .i64 y4.iff, .slice y4.vp y4.vo.length y4.vc, .slice y4.ep y4.eo.length y4.ec, .slice y4.pp y4.po.length y4.pc, .int .u64 y4.stamp, .int .i64 y4.num] rfl rfl HTH.out Tryz.entSize (one_ex y4) W4 HW4.out ?_))
            exact bodyPost_ret (v := .tuple #[.agg #[.int .i64 y4.kind, .string y4.temp, .string y4.ka, .string y4.kb, .int .i64 y4.iff, .slice y4.vp y4.vo.length y4.vc, .slice y4.ep y4.eo.length y4.ec, .slice y4.pp y4.po.length y4.pc, .int .u64 y4.stamp, .int .i64 y4.num], .bool false]) (by simp [results, Tryz.results19, go_sem, g0, g1, g2, g3, g4, g5, g6, g7, g8, g9]) rfl ⟨⟨y4, false, rfl, fun _ => HOW.out, by rw [HNO.out]; rfl⟩, HBE.out⟩
      by_cases k12 : kn = 12
      case pos =>
        as_aux_lemma =>
        subst k12
        have HKT : Hid (O = tailR { y2.en with ka := ⟨x2.data.toList.toArray⟩ } (bytesL (ws.drop (m2 + 1)))) := hid (by
          have hk : y2.en.kind = 12 := U3.out.bare.kind
          rw [HK3.out, kyt_typed (by rw [hk]; rfl)])
        have R := hid U3.out.rs
        have HB := hid U3.out.bare
        have f1 := R.out.open 2
        have z1 : wc.cell? ⟨w.heap.size + 1, 2, none⟩ = some (.string y2.ka) := by rw [Lib.cell_of_heap R.out.box]; rfl
        obtain ⟨y3, hzz⟩ : ∃ q : Ex, q = { y2 with ka := x2 } := ⟨_, rfl⟩
        have hbr : Bare y3 12 := by rw [hzz]; exact (by
            have h := HB.out.keys x2 y2.kb (by have := HSZ2.out; unfold maxLen; omega) HB.out.rng.kb
            exact h)
        obtain ⟨W5, hW5⟩ : ∃ W', wc.setCell ⟨w.heap.size + 1, 2, none⟩ (.string x2) = W' := ⟨_, rfl⟩
        have R5 : Hid (RsSt w (w.heap.size + 1) w.heap.size W5 y3) := hid (by
          rw [← hW5]
          exact R.out.turn 2 _ (hbr.own _ _) (by rw [hzz]; rfl))
        have HB5 := hid hbr
        have HZZ := hid hzz
        clear hbr hzz
        have HT5 : Hid (O = tailR y3.en (bytesL (ws.drop (m2 + 1)))) := hid (by
          rw [HKT.out, HZZ.out]
          have : (⟨x2.data.toList.toArray⟩ : ByteArray) = x2 := ba_of x2
          rw [this]; rfl)
        have c0' := c0
        go_upto_region 25 with fail
        try rw [hW5]
        clear hW5 f1 z1 c0 c0' cx2 U3 HKT HK3
        have c0 : W5.cell? ⟨w.heap.size + 1, 0, none⟩ = some (.int .i64 12) := by rw [R5.out.cells.1, HB5.out.kind]; rfl
        have HRS : Hid (O = restR y3.en (bytesL (ws.drop (m2 + 1)))) := hid (by
          have hk : y3.en.kind = 12 := HB5.out.kind
          rw [HT5.out, tlr_rest (by omega) (by omega) (by omega) (by omega) (by omega) (by omega)])
        have hcz : (m2 : Int) + 1 ≤ (ws.length : Int) := by omega
        have hcz2 : (ws.length : Int) ≤ (cap : Int) := by omega
        have hcz3 : (0 : Int) ≤ (m2 : Int) + 1 := by omega
        have htn : ((m2 : Int) + 1).toNat = m2 + 1 := by omega
        obtain ⟨q, hq⟩ : ∃ q : Option Addr, (if cap = m2 + 1 then some ⟨b, off, none⟩ else some ⟨b, off + (m2 + 1), none⟩) = q := ⟨_, rfl⟩
        have HQ := hid hq
        have HRT : Hid (∀ V, Below W5.heap.size W5 V → Calls Tryz.prog 43 #[.agg #[.int .i64 y3.kind, .string y3.temp, .string y3.ka, .string y3.kb, .int .i64 y3.iff, .slice y3.vp y3.vo.length y3.vc, .slice y3.ep y3.eo.length y3.ec, .slice y3.pp y3.po.length y3.pc, .int .u64 y3.stamp, .int .i64 y3.num], .slice q (ws.length - (m2 + 1) : Nat) (cap - (m2 + 1))] V fun e w' => ∃ (z : Ex) (ok : Bool), e = .returned (.tuple #[.agg #[.int .i64 z.kind, .string z.temp, .string z.ka, .string z.kb, .int .i64 z.iff, .slice z.vp z.vo.length z.vc, .slice z.ep z.eo.length z.ec, .slice z.pp z.po.length z.pc, .int .u64 z.stamp, .int .i64 z.num], .bool ok]) ∧ (ok = true → OwnQ w.heap.size z w') ∧ O = (if ok = true then some z.en else none) ∧ Below V.heap.size V w') := hid fun V hV => by
          have htx : TxtAt V q (ws.drop (m2 + 1)) := by
            rw [← HQ.out]
            split
            · exact Or.inl (List.drop_eq_nil_of_le (by omega))
            · exact txt_drop (HTV.out V (R5.out.bel.trans (hV.mono R5.out.bel.size))) rfl _
          have h := rrest16_any y3 HB5.out.bare q (cap - (m2 + 1)) (ws.drop (m2 + 1)) V HB5.out.rng htx (by rw [List.length_drop]; omega) (by rw [List.length_drop]; omega) fun x hx => HS.out x (List.mem_of_mem_drop hx)
          rw [List.length_drop] at h
          refine h.mono ?_
          rintro e w' ⟨⟨z, ok, rfl, ho, hz⟩, hb⟩
          have hsz := hV.size
          have hbs := R5.out.bel.size
          exact ⟨z, ok, rfl, fun h => (ho h).weak (by omega), by rw [HRS.out]; exact hz, hb⟩
        have HSC : Hid (∀ w', Below W5.heap.size W5 w' → w'.cell? ⟨w.heap.size + 1, 0, none⟩ = some (.int .i64 y3.kind) ∧ w'.cell? ⟨w.heap.size + 1, 1, none⟩ = some (.string y3.temp) ∧ w'.cell? ⟨w.heap.size + 1, 2, none⟩ = some (.string y3.ka) ∧ w'.cell? ⟨w.heap.size + 1, 3, none⟩ = some (.string y3.kb) ∧ w'.cell? ⟨w.heap.size + 1, 4, none⟩ = some (.int .i64 y3.iff) ∧ w'.cell? ⟨w.heap.size + 1, 5, none⟩ = some (.slice y3.vp y3.vo.length y3.vc) ∧ w'.cell? ⟨w.heap.size + 1, 6, none⟩ = some (.slice y3.ep y3.eo.length y3.ec) ∧ w'.cell? ⟨w.heap.size + 1, 7, none⟩ = some (.slice y3.pp y3.po.length y3.pc) ∧ w'.cell? ⟨w.heap.size + 1, 8, none⟩ = some (.int .u64 y3.stamp) ∧ w'.cell? ⟨w.heap.size + 1, 9, none⟩ = some (.int .i64 y3.num)) := hid fun w' h => (R5.out.on h).cells
        have hsc := HSC.out W5.drew (bel_drewN (Below.refl _ _) 1)
        clear hq
        go_upto_region 43 with fail
        refine wp_region_held_drew (S := fun w' => w'.cell? ⟨w.heap.size + 1, 0, none⟩ = some (.int .i64 y3.kind) ∧ w'.cell? ⟨w.heap.size + 1, 1, none⟩ = some (.string y3.temp) ∧ w'.cell? ⟨w.heap.size + 1, 2, none⟩ = some (.string y3.ka) ∧ w'.cell? ⟨w.heap.size + 1, 3, none⟩ = some (.string y3.kb) ∧ w'.cell? ⟨w.heap.size + 1, 4, none⟩ = some (.int .i64 y3.iff) ∧ w'.cell? ⟨w.heap.size + 1, 5, none⟩ = some (.slice y3.vp y3.vo.length y3.vc) ∧ w'.cell? ⟨w.heap.size + 1, 6, none⟩ = some (.slice y3.ep y3.eo.length y3.ec) ∧ w'.cell? ⟨w.heap.size + 1, 7, none⟩ = some (.slice y3.pp y3.po.length y3.pc) ∧ w'.cell? ⟨w.heap.size + 1, 8, none⟩ = some (.int .u64 y3.stamp) ∧ w'.cell? ⟨w.heap.size + 1, 9, none⟩ = some (.int .i64 y3.num)) (by kernel_rfl) hsc (fun hHeld => ?_)
        refine tkv 0 (.agg #[.int .i64 y3.kind, .string y3.temp, .string y3.ka, .string y3.kb, .int .i64 y3.iff, .slice y3.vp y3.vo.length y3.vc, .slice y3.ep y3.eo.length y3.ec, .slice y3.pp y3.po.length y3.pc, .int .u64 y3.stamp, .int .i64 y3.num]) hHeld ?_
        simp only [Act.put, sz]
        refine tkv 1 (.slice (some ⟨b, off, none⟩) ws.length cap) hHeld ?_
        simp only [Act.put, sz]
        refine tkv 2 (.int .i64 ((m2 : Int) + 1)) hHeld ?_
        simp only [Act.put, sz]
        refine take_val (i := 3) (.slice q (ws.length - (m2 + 1) : Nat) (cap - (m2 + 1))) rfl (by kernel_rfl) (by kernel_rfl) (by kernel_rfl) (fun _ _ _ h => h) (by rfl) (fun w hSw => by
          rw [← HQ.out]
          by_cases hcp : cap = m2 + 1
          · rw [if_pos hcp]
            go_simp
            all_goals simp [htn]
          · rw [if_neg hcp]
            go_simp
            all_goals simp [htn, hcp]) hHeld ?_
        simp only [Act.put, sz]
        refine wpAnyH_ready (rs := [4]) (by kernel_rfl) (by simp) ?_
        refine AllReadyH.cons (at_drop0 rfl) (fun K hK => ?_) AllReadyH.nil
        rw [if_pos (by rfl)]
        go_simp
        refine (HRT.out _ (bel_drewN (Below.refl _ _) 1)).mono ?_
        rintro e w7 ⟨z, ok, rfl, hoz, hzO, hb7⟩
        have hb7' : Below W5.heap.size W5 w7 := (bel_drewN (Below.refl W5.heap.size W5) 1).trans hb7
        have R7 := hid (R5.out.on hb7')
        have q7 := HSC.out w7 hb7'
        have HOZ := hid hoz
        have HZO := hid hzO
        obtain ⟨W4, hW4⟩ : ∃ W4, w7.setCells w.heap.size 0 [.int .i64 z.kind, .string z.temp, .string z.ka, .string z.kb, .int .i64 z.iff, .slice z.vp z.vo.length z.vc, .slice z.ep z.eo.length z.ec, .slice z.pp z.po.length z.pc, .int .u64 z.stamp, .int .i64 z.num] = W4 := ⟨_, rfl⟩
        obtain ⟨⟨g0, g1, g2, g3, g4, g5, g6, g7, g8, g9⟩, hown4, hbel4, q8⟩ := R7.out.leave W4 hW4
        have HW4 : Hid (w7.setCells w.heap.size 0 (#[.int .i64 z.kind, .string z.temp, .string z.ka, .string z.kb, .int .i64 z.iff, .slice z.vp z.vo.length z.vc, .slice z.ep z.eo.length z.ec, .slice z.pp z.po.length z.pc, .int .u64 z.stamp, .int .i64 z.num] : Array Value).toList = W4) := hid hW4
        have HOW := hid hown4
        have HBE := hid hbel4
        have HTH := hid R7.out.there
        clear hoz hzO hb7 hb7' hown4 hbel4 hW4
        go_wp2_with fail
        refine hK.out _ _ q7 (fun hHeld => ?_)
        clear hK K
        try simp only [Act.put, sz]
        refine tkv 5 (.agg #[.int .i64 z.kind, .string z.temp, .string z.ka, .string z.kb, .int .i64 z.iff, .slice z.vp z.vo.length z.vc, .slice z.ep z.eo.length z.ec, .slice z.pp z.po.length z.pc, .int .u64 z.stamp, .int .i64 z.num]) hHeld ?_
        simp only [Act.put, sz]
        refine tkv 6 (.bool ok) hHeld ?_
        simp only [Act.put, sz]
        refine wpAnyH_ready (rs := [7]) (by kernel_rfl) (by simp) ?_
        refine AllReadyH.cons (at_drop0 rfl) (fun K hK => ?_) AllReadyH.nil
        rw [if_pos (by rfl)]
        refine wp_store_mid 42 _ _ rfl w.heap.size 0 #[.int .i64 z.kind, .string z.temp, .string z.ka, .string z.kb, .int .i64 z.iff, .slice z.vp z.vo.length z.vc, .slice z.ep z.eo.length z.ec, .slice z.pp z.po.length z.pc, .int .u64 z.stamp, .int .i64 z.num] rfl rfl HTH.out Tryz.entSize (one_ex z) ?_
        rw [HW4.out]
        refine hK.out _ _ q8 (fun hHeld => ?_)
        clear hK K
        try simp only [Act.put]
        refine tkv 8 (.bool ok) hHeld ?_
        simp only [Act.put, sz]
        refine wpAnyH_done (by kernel_rfl) ?_ _
        clear hHeld
        go_wp2_with fail
        exact bodyPost_ret (v := .tuple #[.agg #[.int .i64 z.kind, .string z.temp, .string z.ka, .string z.kb, .int .i64 z.iff, .slice z.vp z.vo.length z.vc, .slice z.ep z.eo.length z.ec, .slice z.pp z.po.length z.pc, .int .u64 z.stamp, .int .i64 z.num], .bool ok]) (by simp [results, Tryz.results19, go_sem, g0, g1, g2, g3, g4, g5, g6, g7, g8, g9]) rfl ⟨⟨z, ok, rfl, fun h => HOW.out (HOZ.out h), HZO.out⟩, HBE.out⟩
      have b8 : ((kn : Int) == 8) = false := by rw [beq_eq_false_iff_ne]; omega
      have b10 : ((kn : Int) == 10) = false := by rw [beq_eq_false_iff_ne]; omega
      have b12 : ((kn : Int) == 12) = false := by rw [beq_eq_false_iff_ne]; omega
      have HTY : Hid (typedK ((kn : Nat) : Int) = false) := hid (by unfold typedK; rw [decide_eq_false (by omega), decide_eq_false (by omega), decide_eq_false (by omega)]; rfl)
      have HKT : Hid (O = (keyR x2.data.toList).bind fun k => tailR { y2.en with ka := k.1, kb := k.2 } (bytesL (ws.drop (m2 + 1)))) := hid (by
        have hk : y2.en.kind = (kn : Int) := U3.out.bare.kind
        rw [HK3.out, kyt_plain (by rw [hk, HTY.out])])
      have HPK := hid (rkeyp16_any x2 wc (by have := HSZ2.out; unfold maxLen; omega))
      go_upto_region 20 with fail
      go_wp2_with fail
      refine HPK.out.mono ?_
      rintro e w7 ⟨⟨ka, kb, kc, rfl, hkc⟩, hb7⟩
      have hb8 : Below wc.heap.size wc (w7.alloc (.cells #[.string ka, .string kb] 36)) := hb7.alloc hb7.size _
      have R8 := hid (U3.out.rs.on hb8)
      have HB := hid U3.out.bare
      obtain ⟨G, hG⟩ : ∃ G, w7.heap.size = G := ⟨_, rfl⟩
      obtain ⟨W8, hW8⟩ : ∃ W8, w7.alloc (.cells #[.string ka, .string kb] 36) = W8 := ⟨_, rfl⟩
      rw [hW8] at R8
      have hk8 : W8.heap[G]? = some (.cells #[.string ka, .string kb] 36 (0, 0)) := by rw [← hW8, ← hG]; exact heap_alloc_new w7 _
      obtain ⟨ky0, ky1, _, _⟩ := two_facts hk8
      clear hb7 hb8 hk8 HPK c0 cx2 U3 HK3
      rcases hkc with ⟨rfl, hkr⟩ | ⟨rfl, hkr⟩
      case inr =>
        as_aux_lemma =>
        have HNO : Hid (O = none) := hid (by rw [HKT.out, hkr]; rfl)
        clear hkr
        go_upto_region 22 with fail
        try rw [hW8]
        clear hW8
        have HRG := hid R8.out.range
        have HTH := hid R8.out.there
        obtain ⟨W4, hW4⟩ : ∃ W4, W8.setCells w.heap.size 0 [.int .i64 y2.kind, .string y2.temp, .string y2.ka, .string y2.kb, .int .i64 y2.iff, .slice y2.vp y2.vo.length y2.vc, .slice y2.ep y2.eo.length y2.ec, .slice y2.pp y2.po.length y2.pc, .int .u64 y2.stamp, .int .i64 y2.num] = W4 := ⟨_, rfl⟩
        obtain ⟨⟨g0, g1, g2, g3, g4, g5, g6, g7, g8, g9⟩, hown4, hbel4⟩ := R8.out.fin W4 hW4
        have HW4 : Hid (W8.setCells w.heap.size 0 (#[.int .i64 y2.kind, .string y2.temp, .string y2.ka, .string y2.kb, .int .i64 y2.iff, .slice y2.vp y2.vo.length y2.vc, .slice y2.ep y2.eo.length y2.ec, .slice y2.pp y2.po.length y2.pc, .int .u64 y2.stamp, .int .i64 y2.num] : Array Value).toList = W4) := hid hW4
        have HOW := hid hown4
        have HBE := hid hbel4
        clear hown4 hbel4 hW4
        go_wp2_with (first | (refine wpList_load_as rfl 42 _ rfl (w.heap.size + 1) 0 rfl [.int .i64 y2.kind, .string y2.temp, .string y2.ka, .string y2.kb, .int .i64 y2.iff, .slice y2.vp y2.vo.length y2.vc, .slice y2.ep y2.eo.length y2.ec, .slice y2.pp y2.po.length y2.pc, .int .u64 y2.stamp, .int .i64 y2.num] _ HRG.out Tryz.underlying42 rfl Tryz.entSize (.agg #[.int .i64 y2.kind, .string y2.temp, .string y2.ka, .string y2.kb, .int .i64 y2.iff, .slice y2.vp y2.vo.length y2.vc, .slice y2.ep y2.eo.length y2.ec, .slice y2.pp y2.po.length y2.pc, .int .u64 y2.stamp, .int .i64 y2.num]) rfl ?_) | (refine wpList_store_as rfl 42 _ _ rfl w.heap.size 0 #[.int .i64 y2.kind, .string y2.temp, .string y2.ka, .string y2.kb, .int .i64 y2.iff, .slice y2.vp y2.vo.length y2.vc, .slice y2.ep y2.eo.length y2.ec, .slice y2.pp y2.po.length y2.pc, .int .u64 y2.stamp, .int .i64 y2.num] rfl rfl HTH.out Tryz.entSize (one_ex y2) W4 HW4.out ?_))
        exact bodyPost_ret (v := .tuple #[.agg #[.int .i64 y2.kind, .string y2.temp, .string y2.ka, .string y2.kb, .int .i64 y2.iff, .slice y2.vp y2.vo.length y2.vc, .slice y2.ep y2.eo.length y2.ec, .slice y2.pp y2.po.length y2.pc, .int .u64 y2.stamp, .int .i64 y2.num], .bool false]) (by simp [results, Tryz.results19, go_sem, g0, g1, g2, g3, g4, g5, g6, g7, g8, g9]) rfl ⟨⟨y2, false, rfl, fun _ => HOW.out, by rw [HNO.out]; rfl⟩, HBE.out⟩
      have HT8 : Hid (O = tailR { y2.en with ka := ka, kb := kb } (bytesL (ws.drop (m2 + 1)))) := hid (by rw [HKT.out, hkr]; rfl)
      have hks : ka.size ≤ 32 ∧ kb.size ≤ 32 := keyB_sizes (keyR_key hkr)
      have f1 := R8.out.open 2
      have f2 := R8.out.open 3
      have z1 : W8.cell? ⟨w.heap.size + 1, 2, none⟩ = some (.string y2.ka) := by rw [Lib.cell_of_heap R8.out.box]; rfl
      have z2 : W8.cell? ⟨w.heap.size + 1, 3, none⟩ = some (.string y2.kb) := by rw [Lib.cell_of_heap R8.out.box]; rfl
      obtain ⟨y3, hzz⟩ : ∃ q : Ex, q = { y2 with ka := ka, kb := kb } := ⟨_, rfl⟩
      have hbr : Bare y3 kn := by rw [hzz]; exact HB.out.keys ka kb (by unfold maxLen; omega) (by unfold maxLen; omega)
      obtain ⟨W5, hW5⟩ : ∃ W', (W8.setCell ⟨w.heap.size + 1, 2, none⟩ (.string ka)).setCell ⟨w.heap.size + 1, 3, none⟩ (.string kb) = W' := ⟨_, rfl⟩
      have R5 : Hid (RsSt w (w.heap.size + 1) w.heap.size W5 y3) := hid (by
        rw [← hW5]
        have hb1 : Bare { y2 with ka := ka } kn := HB.out.keys ka y2.kb (by unfold maxLen; omega) HB.out.rng.kb
        have h1 := R8.out.turn (z := { y2 with ka := ka }) 2 (.string ka) (hb1.own _ _) rfl
        exact h1.turn (z := y3) 3 (.string kb) (hbr.own _ _) (by rw [hzz]; rfl))
      have HB5 := hid hbr
      have HT5 : Hid (O = tailR y3.en (bytesL (ws.drop (m2 + 1)))) := hid (by rw [HT8.out, hzz]; rfl)
      clear hbr hzz hkr HKT HT8 hks HB R8
      go_upto_region 25 with fail
      try rw [hW8]
      try rw [hW5]
      clear hW8 hW5 f1 f2 z1 z2 ky0 ky1 b8 b10 b12
      have hkn : kn = 1 ∨ kn = 2 ∨ kn = 3 ∨ kn = 4 ∨ kn = 5 ∨ kn = 6 ∨ kn = 7 ∨ kn = 9 ∨ kn = 11 := by omega
      rcases hkn with rfl | rfl | rfl | rfl | rfl | rfl | rfl | rfl | rfl
      · as_aux_lemma =>
        have c0 : W5.cell? ⟨w.heap.size + 1, 0, none⟩ = some (.int .i64 1) := by rw [R5.out.cells.1, HB5.out.kind]; rfl
        have HRS : Hid (O = restR y3.en (bytesL (ws.drop (m2 + 1)))) := hid (by
          have hk : y3.en.kind = 1 := HB5.out.kind
          rw [HT5.out, tlr_rest (by omega) (by omega) (by omega) (by omega) (by omega) (by omega)])
        have hcz : (m2 : Int) + 1 ≤ (ws.length : Int) := by omega
        have hcz2 : (ws.length : Int) ≤ (cap : Int) := by omega
        have hcz3 : (0 : Int) ≤ (m2 : Int) + 1 := by omega
        have htn : ((m2 : Int) + 1).toNat = m2 + 1 := by omega
        obtain ⟨q, hq⟩ : ∃ q : Option Addr, (if cap = m2 + 1 then some ⟨b, off, none⟩ else some ⟨b, off + (m2 + 1), none⟩) = q := ⟨_, rfl⟩
        have HQ := hid hq
        have HRT : Hid (∀ V, Below W5.heap.size W5 V → Calls Tryz.prog 43 #[.agg #[.int .i64 y3.kind, .string y3.temp, .string y3.ka, .string y3.kb, .int .i64 y3.iff, .slice y3.vp y3.vo.length y3.vc, .slice y3.ep y3.eo.length y3.ec, .slice y3.pp y3.po.length y3.pc, .int .u64 y3.stamp, .int .i64 y3.num], .slice q (ws.length - (m2 + 1) : Nat) (cap - (m2 + 1))] V fun e w' => ∃ (z : Ex) (ok : Bool), e = .returned (.tuple #[.agg #[.int .i64 z.kind, .string z.temp, .string z.ka, .string z.kb, .int .i64 z.iff, .slice z.vp z.vo.length z.vc, .slice z.ep z.eo.length z.ec, .slice z.pp z.po.length z.pc, .int .u64 z.stamp, .int .i64 z.num], .bool ok]) ∧ (ok = true → OwnQ w.heap.size z w') ∧ O = (if ok = true then some z.en else none) ∧ Below V.heap.size V w') := hid fun V hV => by
          have htx : TxtAt V q (ws.drop (m2 + 1)) := by
            rw [← HQ.out]
            split
            · exact Or.inl (List.drop_eq_nil_of_le (by omega))
            · exact txt_drop (HTV.out V (R5.out.bel.trans (hV.mono R5.out.bel.size))) rfl _
          have h := rrest16_any y3 HB5.out.bare q (cap - (m2 + 1)) (ws.drop (m2 + 1)) V HB5.out.rng htx (by rw [List.length_drop]; omega) (by rw [List.length_drop]; omega) fun x hx => HS.out x (List.mem_of_mem_drop hx)
          rw [List.length_drop] at h
          refine h.mono ?_
          rintro e w' ⟨⟨z, ok, rfl, ho, hz⟩, hb⟩
          have hsz := hV.size
          have hbs := R5.out.bel.size
          exact ⟨z, ok, rfl, fun h => (ho h).weak (by omega), by rw [HRS.out]; exact hz, hb⟩
        have HSC : Hid (∀ w', Below W5.heap.size W5 w' → w'.cell? ⟨w.heap.size + 1, 0, none⟩ = some (.int .i64 y3.kind) ∧ w'.cell? ⟨w.heap.size + 1, 1, none⟩ = some (.string y3.temp) ∧ w'.cell? ⟨w.heap.size + 1, 2, none⟩ = some (.string y3.ka) ∧ w'.cell? ⟨w.heap.size + 1, 3, none⟩ = some (.string y3.kb) ∧ w'.cell? ⟨w.heap.size + 1, 4, none⟩ = some (.int .i64 y3.iff) ∧ w'.cell? ⟨w.heap.size + 1, 5, none⟩ = some (.slice y3.vp y3.vo.length y3.vc) ∧ w'.cell? ⟨w.heap.size + 1, 6, none⟩ = some (.slice y3.ep y3.eo.length y3.ec) ∧ w'.cell? ⟨w.heap.size + 1, 7, none⟩ = some (.slice y3.pp y3.po.length y3.pc) ∧ w'.cell? ⟨w.heap.size + 1, 8, none⟩ = some (.int .u64 y3.stamp) ∧ w'.cell? ⟨w.heap.size + 1, 9, none⟩ = some (.int .i64 y3.num)) := hid fun w' h => (R5.out.on h).cells
        have hsc := HSC.out W5.drew (bel_drewN (Below.refl _ _) 1)
        clear hq
        go_upto_region 43 with fail
        refine wp_region_held_drew (S := fun w' => w'.cell? ⟨w.heap.size + 1, 0, none⟩ = some (.int .i64 y3.kind) ∧ w'.cell? ⟨w.heap.size + 1, 1, none⟩ = some (.string y3.temp) ∧ w'.cell? ⟨w.heap.size + 1, 2, none⟩ = some (.string y3.ka) ∧ w'.cell? ⟨w.heap.size + 1, 3, none⟩ = some (.string y3.kb) ∧ w'.cell? ⟨w.heap.size + 1, 4, none⟩ = some (.int .i64 y3.iff) ∧ w'.cell? ⟨w.heap.size + 1, 5, none⟩ = some (.slice y3.vp y3.vo.length y3.vc) ∧ w'.cell? ⟨w.heap.size + 1, 6, none⟩ = some (.slice y3.ep y3.eo.length y3.ec) ∧ w'.cell? ⟨w.heap.size + 1, 7, none⟩ = some (.slice y3.pp y3.po.length y3.pc) ∧ w'.cell? ⟨w.heap.size + 1, 8, none⟩ = some (.int .u64 y3.stamp) ∧ w'.cell? ⟨w.heap.size + 1, 9, none⟩ = some (.int .i64 y3.num)) (by kernel_rfl) hsc (fun hHeld => ?_)
        refine tkv 0 (.agg #[.int .i64 y3.kind, .string y3.temp, .string y3.ka, .string y3.kb, .int .i64 y3.iff, .slice y3.vp y3.vo.length y3.vc, .slice y3.ep y3.eo.length y3.ec, .slice y3.pp y3.po.length y3.pc, .int .u64 y3.stamp, .int .i64 y3.num]) hHeld ?_
        simp only [Act.put, sz]
        refine tkv 1 (.slice (some ⟨b, off, none⟩) ws.length cap) hHeld ?_
        simp only [Act.put, sz]
        refine tkv 2 (.int .i64 ((m2 : Int) + 1)) hHeld ?_
        simp only [Act.put, sz]
        refine take_val (i := 3) (.slice q (ws.length - (m2 + 1) : Nat) (cap - (m2 + 1))) rfl (by kernel_rfl) (by kernel_rfl) (by kernel_rfl) (fun _ _ _ h => h) (by rfl) (fun w hSw => by
          rw [← HQ.out]
          by_cases hcp : cap = m2 + 1
          · rw [if_pos hcp]
            go_simp
            all_goals simp [htn]
          · rw [if_neg hcp]
            go_simp
            all_goals simp [htn, hcp]) hHeld ?_
        simp only [Act.put, sz]
        refine wpAnyH_ready (rs := [4]) (by kernel_rfl) (by simp) ?_
        refine AllReadyH.cons (at_drop0 rfl) (fun K hK => ?_) AllReadyH.nil
        rw [if_pos (by rfl)]
        go_simp
        refine (HRT.out _ (bel_drewN (Below.refl _ _) 1)).mono ?_
        rintro e w7 ⟨z, ok, rfl, hoz, hzO, hb7⟩
        have hb7' : Below W5.heap.size W5 w7 := (bel_drewN (Below.refl W5.heap.size W5) 1).trans hb7
        have R7 := hid (R5.out.on hb7')
        have q7 := HSC.out w7 hb7'
        have HOZ := hid hoz
        have HZO := hid hzO
        obtain ⟨W4, hW4⟩ : ∃ W4, w7.setCells w.heap.size 0 [.int .i64 z.kind, .string z.temp, .string z.ka, .string z.kb, .int .i64 z.iff, .slice z.vp z.vo.length z.vc, .slice z.ep z.eo.length z.ec, .slice z.pp z.po.length z.pc, .int .u64 z.stamp, .int .i64 z.num] = W4 := ⟨_, rfl⟩
        obtain ⟨⟨g0, g1, g2, g3, g4, g5, g6, g7, g8, g9⟩, hown4, hbel4, q8⟩ := R7.out.leave W4 hW4
        have HW4 : Hid (w7.setCells w.heap.size 0 (#[.int .i64 z.kind, .string z.temp, .string z.ka, .string z.kb, .int .i64 z.iff, .slice z.vp z.vo.length z.vc, .slice z.ep z.eo.length z.ec, .slice z.pp z.po.length z.pc, .int .u64 z.stamp, .int .i64 z.num] : Array Value).toList = W4) := hid hW4
        have HOW := hid hown4
        have HBE := hid hbel4
        have HTH := hid R7.out.there
        clear hoz hzO hb7 hb7' hown4 hbel4 hW4
        go_wp2_with fail
        refine hK.out _ _ q7 (fun hHeld => ?_)
        clear hK K
        try simp only [Act.put, sz]
        refine tkv 5 (.agg #[.int .i64 z.kind, .string z.temp, .string z.ka, .string z.kb, .int .i64 z.iff, .slice z.vp z.vo.length z.vc, .slice z.ep z.eo.length z.ec, .slice z.pp z.po.length z.pc, .int .u64 z.stamp, .int .i64 z.num]) hHeld ?_
        simp only [Act.put, sz]
        refine tkv 6 (.bool ok) hHeld ?_
        simp only [Act.put, sz]
        refine wpAnyH_ready (rs := [7]) (by kernel_rfl) (by simp) ?_
        refine AllReadyH.cons (at_drop0 rfl) (fun K hK => ?_) AllReadyH.nil
        rw [if_pos (by rfl)]
        refine wp_store_mid 42 _ _ rfl w.heap.size 0 #[.int .i64 z.kind, .string z.temp, .string z.ka, .string z.kb, .int .i64 z.iff, .slice z.vp z.vo.length z.vc, .slice z.ep z.eo.length z.ec, .slice z.pp z.po.length z.pc, .int .u64 z.stamp, .int .i64 z.num] rfl rfl HTH.out Tryz.entSize (one_ex z) ?_
        rw [HW4.out]
        refine hK.out _ _ q8 (fun hHeld => ?_)
        clear hK K
        try simp only [Act.put]
        refine tkv 8 (.bool ok) hHeld ?_
        simp only [Act.put, sz]
        refine wpAnyH_done (by kernel_rfl) ?_ _
        clear hHeld
        go_wp2_with fail
        exact bodyPost_ret (v := .tuple #[.agg #[.int .i64 z.kind, .string z.temp, .string z.ka, .string z.kb, .int .i64 z.iff, .slice z.vp z.vo.length z.vc, .slice z.ep z.eo.length z.ec, .slice z.pp z.po.length z.pc, .int .u64 z.stamp, .int .i64 z.num], .bool ok]) (by simp [results, Tryz.results19, go_sem, g0, g1, g2, g3, g4, g5, g6, g7, g8, g9]) rfl ⟨⟨z, ok, rfl, fun h => HOW.out (HOZ.out h), HZO.out⟩, HBE.out⟩
      · as_aux_lemma =>
        have c0 : W5.cell? ⟨w.heap.size + 1, 0, none⟩ = some (.int .i64 2) := by rw [R5.out.cells.1, HB5.out.kind]; rfl
        have HRS : Hid (O = restR y3.en (bytesL (ws.drop (m2 + 1)))) := hid (by
          have hk : y3.en.kind = 2 := HB5.out.kind
          rw [HT5.out, tlr_rest (by omega) (by omega) (by omega) (by omega) (by omega) (by omega)])
        have hcz : (m2 : Int) + 1 ≤ (ws.length : Int) := by omega
        have hcz2 : (ws.length : Int) ≤ (cap : Int) := by omega
        have hcz3 : (0 : Int) ≤ (m2 : Int) + 1 := by omega
        have htn : ((m2 : Int) + 1).toNat = m2 + 1 := by omega
        obtain ⟨q, hq⟩ : ∃ q : Option Addr, (if cap = m2 + 1 then some ⟨b, off, none⟩ else some ⟨b, off + (m2 + 1), none⟩) = q := ⟨_, rfl⟩
        have HQ := hid hq
        have HRT : Hid (∀ V, Below W5.heap.size W5 V → Calls Tryz.prog 43 #[.agg #[.int .i64 y3.kind, .string y3.temp, .string y3.ka, .string y3.kb, .int .i64 y3.iff, .slice y3.vp y3.vo.length y3.vc, .slice y3.ep y3.eo.length y3.ec, .slice y3.pp y3.po.length y3.pc, .int .u64 y3.stamp, .int .i64 y3.num], .slice q (ws.length - (m2 + 1) : Nat) (cap - (m2 + 1))] V fun e w' => ∃ (z : Ex) (ok : Bool), e = .returned (.tuple #[.agg #[.int .i64 z.kind, .string z.temp, .string z.ka, .string z.kb, .int .i64 z.iff, .slice z.vp z.vo.length z.vc, .slice z.ep z.eo.length z.ec, .slice z.pp z.po.length z.pc, .int .u64 z.stamp, .int .i64 z.num], .bool ok]) ∧ (ok = true → OwnQ w.heap.size z w') ∧ O = (if ok = true then some z.en else none) ∧ Below V.heap.size V w') := hid fun V hV => by
          have htx : TxtAt V q (ws.drop (m2 + 1)) := by
            rw [← HQ.out]
            split
            · exact Or.inl (List.drop_eq_nil_of_le (by omega))
            · exact txt_drop (HTV.out V (R5.out.bel.trans (hV.mono R5.out.bel.size))) rfl _
          have h := rrest16_any y3 HB5.out.bare q (cap - (m2 + 1)) (ws.drop (m2 + 1)) V HB5.out.rng htx (by rw [List.length_drop]; omega) (by rw [List.length_drop]; omega) fun x hx => HS.out x (List.mem_of_mem_drop hx)
          rw [List.length_drop] at h
          refine h.mono ?_
          rintro e w' ⟨⟨z, ok, rfl, ho, hz⟩, hb⟩
          have hsz := hV.size
          have hbs := R5.out.bel.size
          exact ⟨z, ok, rfl, fun h => (ho h).weak (by omega), by rw [HRS.out]; exact hz, hb⟩
        have HSC : Hid (∀ w', Below W5.heap.size W5 w' → w'.cell? ⟨w.heap.size + 1, 0, none⟩ = some (.int .i64 y3.kind) ∧ w'.cell? ⟨w.heap.size + 1, 1, none⟩ = some (.string y3.temp) ∧ w'.cell? ⟨w.heap.size + 1, 2, none⟩ = some (.string y3.ka) ∧ w'.cell? ⟨w.heap.size + 1, 3, none⟩ = some (.string y3.kb) ∧ w'.cell? ⟨w.heap.size + 1, 4, none⟩ = some (.int .i64 y3.iff) ∧ w'.cell? ⟨w.heap.size + 1, 5, none⟩ = some (.slice y3.vp y3.vo.length y3.vc) ∧ w'.cell? ⟨w.heap.size + 1, 6, none⟩ = some (.slice y3.ep y3.eo.length y3.ec) ∧ w'.cell? ⟨w.heap.size + 1, 7, none⟩ = some (.slice y3.pp y3.po.length y3.pc) ∧ w'.cell? ⟨w.heap.size + 1, 8, none⟩ = some (.int .u64 y3.stamp) ∧ w'.cell? ⟨w.heap.size + 1, 9, none⟩ = some (.int .i64 y3.num)) := hid fun w' h => (R5.out.on h).cells
        have hsc := HSC.out W5.drew (bel_drewN (Below.refl _ _) 1)
        clear hq
        go_upto_region 43 with fail
        refine wp_region_held_drew (S := fun w' => w'.cell? ⟨w.heap.size + 1, 0, none⟩ = some (.int .i64 y3.kind) ∧ w'.cell? ⟨w.heap.size + 1, 1, none⟩ = some (.string y3.temp) ∧ w'.cell? ⟨w.heap.size + 1, 2, none⟩ = some (.string y3.ka) ∧ w'.cell? ⟨w.heap.size + 1, 3, none⟩ = some (.string y3.kb) ∧ w'.cell? ⟨w.heap.size + 1, 4, none⟩ = some (.int .i64 y3.iff) ∧ w'.cell? ⟨w.heap.size + 1, 5, none⟩ = some (.slice y3.vp y3.vo.length y3.vc) ∧ w'.cell? ⟨w.heap.size + 1, 6, none⟩ = some (.slice y3.ep y3.eo.length y3.ec) ∧ w'.cell? ⟨w.heap.size + 1, 7, none⟩ = some (.slice y3.pp y3.po.length y3.pc) ∧ w'.cell? ⟨w.heap.size + 1, 8, none⟩ = some (.int .u64 y3.stamp) ∧ w'.cell? ⟨w.heap.size + 1, 9, none⟩ = some (.int .i64 y3.num)) (by kernel_rfl) hsc (fun hHeld => ?_)
        refine tkv 0 (.agg #[.int .i64 y3.kind, .string y3.temp, .string y3.ka, .string y3.kb, .int .i64 y3.iff, .slice y3.vp y3.vo.length y3.vc, .slice y3.ep y3.eo.length y3.ec, .slice y3.pp y3.po.length y3.pc, .int .u64 y3.stamp, .int .i64 y3.num]) hHeld ?_
        simp only [Act.put, sz]
        refine tkv 1 (.slice (some ⟨b, off, none⟩) ws.length cap) hHeld ?_
        simp only [Act.put, sz]
        refine tkv 2 (.int .i64 ((m2 : Int) + 1)) hHeld ?_
        simp only [Act.put, sz]
        refine take_val (i := 3) (.slice q (ws.length - (m2 + 1) : Nat) (cap - (m2 + 1))) rfl (by kernel_rfl) (by kernel_rfl) (by kernel_rfl) (fun _ _ _ h => h) (by rfl) (fun w hSw => by
          rw [← HQ.out]
          by_cases hcp : cap = m2 + 1
          · rw [if_pos hcp]
            go_simp
            all_goals simp [htn]
          · rw [if_neg hcp]
            go_simp
            all_goals simp [htn, hcp]) hHeld ?_
        simp only [Act.put, sz]
        refine wpAnyH_ready (rs := [4]) (by kernel_rfl) (by simp) ?_
        refine AllReadyH.cons (at_drop0 rfl) (fun K hK => ?_) AllReadyH.nil
        rw [if_pos (by rfl)]
        go_simp
        refine (HRT.out _ (bel_drewN (Below.refl _ _) 1)).mono ?_
        rintro e w7 ⟨z, ok, rfl, hoz, hzO, hb7⟩
        have hb7' : Below W5.heap.size W5 w7 := (bel_drewN (Below.refl W5.heap.size W5) 1).trans hb7
        have R7 := hid (R5.out.on hb7')
        have q7 := HSC.out w7 hb7'
        have HOZ := hid hoz
        have HZO := hid hzO
        obtain ⟨W4, hW4⟩ : ∃ W4, w7.setCells w.heap.size 0 [.int .i64 z.kind, .string z.temp, .string z.ka, .string z.kb, .int .i64 z.iff, .slice z.vp z.vo.length z.vc, .slice z.ep z.eo.length z.ec, .slice z.pp z.po.length z.pc, .int .u64 z.stamp, .int .i64 z.num] = W4 := ⟨_, rfl⟩
        obtain ⟨⟨g0, g1, g2, g3, g4, g5, g6, g7, g8, g9⟩, hown4, hbel4, q8⟩ := R7.out.leave W4 hW4
        have HW4 : Hid (w7.setCells w.heap.size 0 (#[.int .i64 z.kind, .string z.temp, .string z.ka, .string z.kb, .int .i64 z.iff, .slice z.vp z.vo.length z.vc, .slice z.ep z.eo.length z.ec, .slice z.pp z.po.length z.pc, .int .u64 z.stamp, .int .i64 z.num] : Array Value).toList = W4) := hid hW4
        have HOW := hid hown4
        have HBE := hid hbel4
        have HTH := hid R7.out.there
        clear hoz hzO hb7 hb7' hown4 hbel4 hW4
        go_wp2_with fail
        refine hK.out _ _ q7 (fun hHeld => ?_)
        clear hK K
        try simp only [Act.put, sz]
        refine tkv 5 (.agg #[.int .i64 z.kind, .string z.temp, .string z.ka, .string z.kb, .int .i64 z.iff, .slice z.vp z.vo.length z.vc, .slice z.ep z.eo.length z.ec, .slice z.pp z.po.length z.pc, .int .u64 z.stamp, .int .i64 z.num]) hHeld ?_
        simp only [Act.put, sz]
        refine tkv 6 (.bool ok) hHeld ?_
        simp only [Act.put, sz]
        refine wpAnyH_ready (rs := [7]) (by kernel_rfl) (by simp) ?_
        refine AllReadyH.cons (at_drop0 rfl) (fun K hK => ?_) AllReadyH.nil
        rw [if_pos (by rfl)]
        refine wp_store_mid 42 _ _ rfl w.heap.size 0 #[.int .i64 z.kind, .string z.temp, .string z.ka, .string z.kb, .int .i64 z.iff, .slice z.vp z.vo.length z.vc, .slice z.ep z.eo.length z.ec, .slice z.pp z.po.length z.pc, .int .u64 z.stamp, .int .i64 z.num] rfl rfl HTH.out Tryz.entSize (one_ex z) ?_
        rw [HW4.out]
        refine hK.out _ _ q8 (fun hHeld => ?_)
        clear hK K
        try simp only [Act.put]
        refine tkv 8 (.bool ok) hHeld ?_
        simp only [Act.put, sz]
        refine wpAnyH_done (by kernel_rfl) ?_ _
        clear hHeld
        go_wp2_with fail
        exact bodyPost_ret (v := .tuple #[.agg #[.int .i64 z.kind, .string z.temp, .string z.ka, .string z.kb, .int .i64 z.iff, .slice z.vp z.vo.length z.vc, .slice z.ep z.eo.length z.ec, .slice z.pp z.po.length z.pc, .int .u64 z.stamp, .int .i64 z.num], .bool ok]) (by simp [results, Tryz.results19, go_sem, g0, g1, g2, g3, g4, g5, g6, g7, g8, g9]) rfl ⟨⟨z, ok, rfl, fun h => HOW.out (HOZ.out h), HZO.out⟩, HBE.out⟩
      · as_aux_lemma =>
        have c0 : W5.cell? ⟨w.heap.size + 1, 0, none⟩ = some (.int .i64 3) := by rw [R5.out.cells.1, HB5.out.kind]; rfl
        have hcz : (m2 : Int) + 1 ≤ (ws.length : Int) := by omega
        have hcz2 : (ws.length : Int) ≤ (cap : Int) := by omega
        have hcz3 : (0 : Int) ≤ (m2 : Int) + 1 := by omega
        have hk : y3.en.kind = 3 := HB5.out.kind
        by_cases hn : m2 + 1 < ws.length
        case neg =>
          have hnz : ¬ (m2 : Int) + 1 < (ws.length : Int) := by omega
          have HRS : Hid (O = restR y3.en (bytesL (ws.drop (m2 + 1)))) := hid (by
            rw [HT5.out, tlr_rest (by omega) (by omega) (by omega) (by omega) (by omega) (fun q => by
              have := q.2.2
              rw [bytes_none (by omega)] at this
              cases this)])
          clear hk
          have htn : ((m2 : Int) + 1).toNat = m2 + 1 := by omega
          obtain ⟨q, hq⟩ : ∃ q : Option Addr, (if cap = m2 + 1 then some ⟨b, off, none⟩ else some ⟨b, off + (m2 + 1), none⟩) = q := ⟨_, rfl⟩
          have HQ := hid hq
          have HRT : Hid (∀ V, Below W5.heap.size W5 V → Calls Tryz.prog 43 #[.agg #[.int .i64 y3.kind, .string y3.temp, .string y3.ka, .string y3.kb, .int .i64 y3.iff, .slice y3.vp y3.vo.length y3.vc, .slice y3.ep y3.eo.length y3.ec, .slice y3.pp y3.po.length y3.pc, .int .u64 y3.stamp, .int .i64 y3.num], .slice q (ws.length - (m2 + 1) : Nat) (cap - (m2 + 1))] V fun e w' => ∃ (z : Ex) (ok : Bool), e = .returned (.tuple #[.agg #[.int .i64 z.kind, .string z.temp, .string z.ka, .string z.kb, .int .i64 z.iff, .slice z.vp z.vo.length z.vc, .slice z.ep z.eo.length z.ec, .slice z.pp z.po.length z.pc, .int .u64 z.stamp, .int .i64 z.num], .bool ok]) ∧ (ok = true → OwnQ w.heap.size z w') ∧ O = (if ok = true then some z.en else none) ∧ Below V.heap.size V w') := hid fun V hV => by
            have htx : TxtAt V q (ws.drop (m2 + 1)) := by
              rw [← HQ.out]
              split
              · exact Or.inl (List.drop_eq_nil_of_le (by omega))
              · exact txt_drop (HTV.out V (R5.out.bel.trans (hV.mono R5.out.bel.size))) rfl _
            have h := rrest16_any y3 HB5.out.bare q (cap - (m2 + 1)) (ws.drop (m2 + 1)) V HB5.out.rng htx (by rw [List.length_drop]; omega) (by rw [List.length_drop]; omega) fun x hx => HS.out x (List.mem_of_mem_drop hx)
            rw [List.length_drop] at h
            refine h.mono ?_
            rintro e w' ⟨⟨z, ok, rfl, ho, hz⟩, hb⟩
            have hsz := hV.size
            have hbs := R5.out.bel.size
            exact ⟨z, ok, rfl, fun h => (ho h).weak (by omega), by rw [HRS.out]; exact hz, hb⟩
          have HSC : Hid (∀ w', Below W5.heap.size W5 w' → w'.cell? ⟨w.heap.size + 1, 0, none⟩ = some (.int .i64 y3.kind) ∧ w'.cell? ⟨w.heap.size + 1, 1, none⟩ = some (.string y3.temp) ∧ w'.cell? ⟨w.heap.size + 1, 2, none⟩ = some (.string y3.ka) ∧ w'.cell? ⟨w.heap.size + 1, 3, none⟩ = some (.string y3.kb) ∧ w'.cell? ⟨w.heap.size + 1, 4, none⟩ = some (.int .i64 y3.iff) ∧ w'.cell? ⟨w.heap.size + 1, 5, none⟩ = some (.slice y3.vp y3.vo.length y3.vc) ∧ w'.cell? ⟨w.heap.size + 1, 6, none⟩ = some (.slice y3.ep y3.eo.length y3.ec) ∧ w'.cell? ⟨w.heap.size + 1, 7, none⟩ = some (.slice y3.pp y3.po.length y3.pc) ∧ w'.cell? ⟨w.heap.size + 1, 8, none⟩ = some (.int .u64 y3.stamp) ∧ w'.cell? ⟨w.heap.size + 1, 9, none⟩ = some (.int .i64 y3.num)) := hid fun w' h => (R5.out.on h).cells
          have hsc := HSC.out W5.drew (bel_drewN (Below.refl _ _) 1)
          clear hq
          go_upto_region 43 with fail
          refine wp_region_held_drew (S := fun w' => w'.cell? ⟨w.heap.size + 1, 0, none⟩ = some (.int .i64 y3.kind) ∧ w'.cell? ⟨w.heap.size + 1, 1, none⟩ = some (.string y3.temp) ∧ w'.cell? ⟨w.heap.size + 1, 2, none⟩ = some (.string y3.ka) ∧ w'.cell? ⟨w.heap.size + 1, 3, none⟩ = some (.string y3.kb) ∧ w'.cell? ⟨w.heap.size + 1, 4, none⟩ = some (.int .i64 y3.iff) ∧ w'.cell? ⟨w.heap.size + 1, 5, none⟩ = some (.slice y3.vp y3.vo.length y3.vc) ∧ w'.cell? ⟨w.heap.size + 1, 6, none⟩ = some (.slice y3.ep y3.eo.length y3.ec) ∧ w'.cell? ⟨w.heap.size + 1, 7, none⟩ = some (.slice y3.pp y3.po.length y3.pc) ∧ w'.cell? ⟨w.heap.size + 1, 8, none⟩ = some (.int .u64 y3.stamp) ∧ w'.cell? ⟨w.heap.size + 1, 9, none⟩ = some (.int .i64 y3.num)) (by kernel_rfl) hsc (fun hHeld => ?_)
          refine tkv 0 (.agg #[.int .i64 y3.kind, .string y3.temp, .string y3.ka, .string y3.kb, .int .i64 y3.iff, .slice y3.vp y3.vo.length y3.vc, .slice y3.ep y3.eo.length y3.ec, .slice y3.pp y3.po.length y3.pc, .int .u64 y3.stamp, .int .i64 y3.num]) hHeld ?_
          simp only [Act.put, sz]
          refine tkv 1 (.slice (some ⟨b, off, none⟩) ws.length cap) hHeld ?_
          simp only [Act.put, sz]
          refine tkv 2 (.int .i64 ((m2 : Int) + 1)) hHeld ?_
          simp only [Act.put, sz]
          refine take_val (i := 3) (.slice q (ws.length - (m2 + 1) : Nat) (cap - (m2 + 1))) rfl (by kernel_rfl) (by kernel_rfl) (by kernel_rfl) (fun _ _ _ h => h) (by rfl) (fun w hSw => by
            rw [← HQ.out]
            by_cases hcp : cap = m2 + 1
            · rw [if_pos hcp]
              go_simp
              all_goals simp [htn]
            · rw [if_neg hcp]
              go_simp
              all_goals simp [htn, hcp]) hHeld ?_
          simp only [Act.put, sz]
          refine wpAnyH_ready (rs := [4]) (by kernel_rfl) (by simp) ?_
          refine AllReadyH.cons (at_drop0 rfl) (fun K hK => ?_) AllReadyH.nil
          rw [if_pos (by rfl)]
          go_simp
          refine (HRT.out _ (bel_drewN (Below.refl _ _) 1)).mono ?_
          rintro e w7 ⟨z, ok, rfl, hoz, hzO, hb7⟩
          have hb7' : Below W5.heap.size W5 w7 := (bel_drewN (Below.refl W5.heap.size W5) 1).trans hb7
          have R7 := hid (R5.out.on hb7')
          have q7 := HSC.out w7 hb7'
          have HOZ := hid hoz
          have HZO := hid hzO
          obtain ⟨W4, hW4⟩ : ∃ W4, w7.setCells w.heap.size 0 [.int .i64 z.kind, .string z.temp, .string z.ka, .string z.kb, .int .i64 z.iff, .slice z.vp z.vo.length z.vc, .slice z.ep z.eo.length z.ec, .slice z.pp z.po.length z.pc, .int .u64 z.stamp, .int .i64 z.num] = W4 := ⟨_, rfl⟩
          obtain ⟨⟨g0, g1, g2, g3, g4, g5, g6, g7, g8, g9⟩, hown4, hbel4, q8⟩ := R7.out.leave W4 hW4
          have HW4 : Hid (w7.setCells w.heap.size 0 (#[.int .i64 z.kind, .string z.temp, .string z.ka, .string z.kb, .int .i64 z.iff, .slice z.vp z.vo.length z.vc, .slice z.ep z.eo.length z.ec, .slice z.pp z.po.length z.pc, .int .u64 z.stamp, .int .i64 z.num] : Array Value).toList = W4) := hid hW4
          have HOW := hid hown4
          have HBE := hid hbel4
          have HTH := hid R7.out.there
          clear hoz hzO hb7 hb7' hown4 hbel4 hW4
          go_wp2_with fail
          refine hK.out _ _ q7 (fun hHeld => ?_)
          clear hK K
          try simp only [Act.put, sz]
          refine tkv 5 (.agg #[.int .i64 z.kind, .string z.temp, .string z.ka, .string z.kb, .int .i64 z.iff, .slice z.vp z.vo.length z.vc, .slice z.ep z.eo.length z.ec, .slice z.pp z.po.length z.pc, .int .u64 z.stamp, .int .i64 z.num]) hHeld ?_
          simp only [Act.put, sz]
          refine tkv 6 (.bool ok) hHeld ?_
          simp only [Act.put, sz]
          refine wpAnyH_ready (rs := [7]) (by kernel_rfl) (by simp) ?_
          refine AllReadyH.cons (at_drop0 rfl) (fun K hK => ?_) AllReadyH.nil
          rw [if_pos (by rfl)]
          refine wp_store_mid 42 _ _ rfl w.heap.size 0 #[.int .i64 z.kind, .string z.temp, .string z.ka, .string z.kb, .int .i64 z.iff, .slice z.vp z.vo.length z.vc, .slice z.ep z.eo.length z.ec, .slice z.pp z.po.length z.pc, .int .u64 z.stamp, .int .i64 z.num] rfl rfl HTH.out Tryz.entSize (one_ex z) ?_
          rw [HW4.out]
          refine hK.out _ _ q8 (fun hHeld => ?_)
          clear hK K
          try simp only [Act.put]
          refine tkv 8 (.bool ok) hHeld ?_
          simp only [Act.put, sz]
          refine wpAnyH_done (by kernel_rfl) ?_ _
          clear hHeld
          go_wp2_with fail
          exact bodyPost_ret (v := .tuple #[.agg #[.int .i64 z.kind, .string z.temp, .string z.ka, .string z.kb, .int .i64 z.iff, .slice z.vp z.vo.length z.vc, .slice z.ep z.eo.length z.ec, .slice z.pp z.po.length z.pc, .int .u64 z.stamp, .int .i64 z.num], .bool ok]) (by simp [results, Tryz.results19, go_sem, g0, g1, g2, g3, g4, g5, g6, g7, g8, g9]) rfl ⟨⟨z, ok, rfl, fun h => HOW.out (HOZ.out h), HZO.out⟩, HBE.out⟩
        have hnz : (m2 : Int) + 1 < (ws.length : Int) := by omega
        obtain ⟨x3, hx3⟩ : ∃ x3, ws[m2 + 1]? = some x3 := ⟨_, List.getElem?_eq_getElem hn⟩
        have cx3 : W5.cell? ⟨b, off + (m2 + 1), none⟩ = some (.string x3) := HTX.out W5 (m2 + 1) x3 hx3 R5.out.bel
        have HW0 : Hid ((bytesL (ws.drop (m2 + 1)))[0]? = some x3.data.toList) := hid (by rw [bytes_drop hx3]; rfl)
        clear hx3
        by_cases hif : x3.data.toList = [105, 102]
        case neg =>
          have hif2 : (x3.toList == [105, 102]) = false := by rw [toList_data]; exact beq_eq_false_iff_ne.2 hif
          have HRS : Hid (O = restR y3.en (bytesL (ws.drop (m2 + 1)))) := hid (by
            rw [HT5.out, tlr_rest (by omega) (by omega) (by omega) (by omega) (by omega) (fun q => hif (by
              have := q.2.2
              rw [HW0.out] at this
              exact Option.some.inj this))])
          clear hk hif
          have htn : ((m2 : Int) + 1).toNat = m2 + 1 := by omega
          obtain ⟨q, hq⟩ : ∃ q : Option Addr, (if cap = m2 + 1 then some ⟨b, off, none⟩ else some ⟨b, off + (m2 + 1), none⟩) = q := ⟨_, rfl⟩
          have HQ := hid hq
          have HRT : Hid (∀ V, Below W5.heap.size W5 V → Calls Tryz.prog 43 #[.agg #[.int .i64 y3.kind, .string y3.temp, .string y3.ka, .string y3.kb, .int .i64 y3.iff, .slice y3.vp y3.vo.length y3.vc, .slice y3.ep y3.eo.length y3.ec, .slice y3.pp y3.po.length y3.pc, .int .u64 y3.stamp, .int .i64 y3.num], .slice q (ws.length - (m2 + 1) : Nat) (cap - (m2 + 1))] V fun e w' => ∃ (z : Ex) (ok : Bool), e = .returned (.tuple #[.agg #[.int .i64 z.kind, .string z.temp, .string z.ka, .string z.kb, .int .i64 z.iff, .slice z.vp z.vo.length z.vc, .slice z.ep z.eo.length z.ec, .slice z.pp z.po.length z.pc, .int .u64 z.stamp, .int .i64 z.num], .bool ok]) ∧ (ok = true → OwnQ w.heap.size z w') ∧ O = (if ok = true then some z.en else none) ∧ Below V.heap.size V w') := hid fun V hV => by
            have htx : TxtAt V q (ws.drop (m2 + 1)) := by
              rw [← HQ.out]
              split
              · exact Or.inl (List.drop_eq_nil_of_le (by omega))
              · exact txt_drop (HTV.out V (R5.out.bel.trans (hV.mono R5.out.bel.size))) rfl _
            have h := rrest16_any y3 HB5.out.bare q (cap - (m2 + 1)) (ws.drop (m2 + 1)) V HB5.out.rng htx (by rw [List.length_drop]; omega) (by rw [List.length_drop]; omega) fun x hx => HS.out x (List.mem_of_mem_drop hx)
            rw [List.length_drop] at h
            refine h.mono ?_
            rintro e w' ⟨⟨z, ok, rfl, ho, hz⟩, hb⟩
            have hsz := hV.size
            have hbs := R5.out.bel.size
            exact ⟨z, ok, rfl, fun h => (ho h).weak (by omega), by rw [HRS.out]; exact hz, hb⟩
          have HSC : Hid (∀ w', Below W5.heap.size W5 w' → w'.cell? ⟨w.heap.size + 1, 0, none⟩ = some (.int .i64 y3.kind) ∧ w'.cell? ⟨w.heap.size + 1, 1, none⟩ = some (.string y3.temp) ∧ w'.cell? ⟨w.heap.size + 1, 2, none⟩ = some (.string y3.ka) ∧ w'.cell? ⟨w.heap.size + 1, 3, none⟩ = some (.string y3.kb) ∧ w'.cell? ⟨w.heap.size + 1, 4, none⟩ = some (.int .i64 y3.iff) ∧ w'.cell? ⟨w.heap.size + 1, 5, none⟩ = some (.slice y3.vp y3.vo.length y3.vc) ∧ w'.cell? ⟨w.heap.size + 1, 6, none⟩ = some (.slice y3.ep y3.eo.length y3.ec) ∧ w'.cell? ⟨w.heap.size + 1, 7, none⟩ = some (.slice y3.pp y3.po.length y3.pc) ∧ w'.cell? ⟨w.heap.size + 1, 8, none⟩ = some (.int .u64 y3.stamp) ∧ w'.cell? ⟨w.heap.size + 1, 9, none⟩ = some (.int .i64 y3.num)) := hid fun w' h => (R5.out.on h).cells
          have hsc := HSC.out W5.drew (bel_drewN (Below.refl _ _) 1)
          clear hq
          go_upto_region 43 with fail
          refine wp_region_held_drew (S := fun w' => w'.cell? ⟨w.heap.size + 1, 0, none⟩ = some (.int .i64 y3.kind) ∧ w'.cell? ⟨w.heap.size + 1, 1, none⟩ = some (.string y3.temp) ∧ w'.cell? ⟨w.heap.size + 1, 2, none⟩ = some (.string y3.ka) ∧ w'.cell? ⟨w.heap.size + 1, 3, none⟩ = some (.string y3.kb) ∧ w'.cell? ⟨w.heap.size + 1, 4, none⟩ = some (.int .i64 y3.iff) ∧ w'.cell? ⟨w.heap.size + 1, 5, none⟩ = some (.slice y3.vp y3.vo.length y3.vc) ∧ w'.cell? ⟨w.heap.size + 1, 6, none⟩ = some (.slice y3.ep y3.eo.length y3.ec) ∧ w'.cell? ⟨w.heap.size + 1, 7, none⟩ = some (.slice y3.pp y3.po.length y3.pc) ∧ w'.cell? ⟨w.heap.size + 1, 8, none⟩ = some (.int .u64 y3.stamp) ∧ w'.cell? ⟨w.heap.size + 1, 9, none⟩ = some (.int .i64 y3.num)) (by kernel_rfl) hsc (fun hHeld => ?_)
          refine tkv 0 (.agg #[.int .i64 y3.kind, .string y3.temp, .string y3.ka, .string y3.kb, .int .i64 y3.iff, .slice y3.vp y3.vo.length y3.vc, .slice y3.ep y3.eo.length y3.ec, .slice y3.pp y3.po.length y3.pc, .int .u64 y3.stamp, .int .i64 y3.num]) hHeld ?_
          simp only [Act.put, sz]
          refine tkv 1 (.slice (some ⟨b, off, none⟩) ws.length cap) hHeld ?_
          simp only [Act.put, sz]
          refine tkv 2 (.int .i64 ((m2 : Int) + 1)) hHeld ?_
          simp only [Act.put, sz]
          refine take_val (i := 3) (.slice q (ws.length - (m2 + 1) : Nat) (cap - (m2 + 1))) rfl (by kernel_rfl) (by kernel_rfl) (by kernel_rfl) (fun _ _ _ h => h) (by rfl) (fun w hSw => by
            rw [← HQ.out]
            by_cases hcp : cap = m2 + 1
            · rw [if_pos hcp]
              go_simp
              all_goals simp [htn]
            · rw [if_neg hcp]
              go_simp
              all_goals simp [htn, hcp]) hHeld ?_
          simp only [Act.put, sz]
          refine wpAnyH_ready (rs := [4]) (by kernel_rfl) (by simp) ?_
          refine AllReadyH.cons (at_drop0 rfl) (fun K hK => ?_) AllReadyH.nil
          rw [if_pos (by rfl)]
          go_simp
          refine (HRT.out _ (bel_drewN (Below.refl _ _) 1)).mono ?_
          rintro e w7 ⟨z, ok, rfl, hoz, hzO, hb7⟩
          have hb7' : Below W5.heap.size W5 w7 := (bel_drewN (Below.refl W5.heap.size W5) 1).trans hb7
          have R7 := hid (R5.out.on hb7')
          have q7 := HSC.out w7 hb7'
          have HOZ := hid hoz
          have HZO := hid hzO
          obtain ⟨W4, hW4⟩ : ∃ W4, w7.setCells w.heap.size 0 [.int .i64 z.kind, .string z.temp, .string z.ka, .string z.kb, .int .i64 z.iff, .slice z.vp z.vo.length z.vc, .slice z.ep z.eo.length z.ec, .slice z.pp z.po.length z.pc, .int .u64 z.stamp, .int .i64 z.num] = W4 := ⟨_, rfl⟩
          obtain ⟨⟨g0, g1, g2, g3, g4, g5, g6, g7, g8, g9⟩, hown4, hbel4, q8⟩ := R7.out.leave W4 hW4
          have HW4 : Hid (w7.setCells w.heap.size 0 (#[.int .i64 z.kind, .string z.temp, .string z.ka, .string z.kb, .int .i64 z.iff, .slice z.vp z.vo.length z.vc, .slice z.ep z.eo.length z.ec, .slice z.pp z.po.length z.pc, .int .u64 z.stamp, .int .i64 z.num] : Array Value).toList = W4) := hid hW4
          have HOW := hid hown4
          have HBE := hid hbel4
          have HTH := hid R7.out.there
          clear hoz hzO hb7 hb7' hown4 hbel4 hW4
          go_wp2_with fail
          refine hK.out _ _ q7 (fun hHeld => ?_)
          clear hK K
          try simp only [Act.put, sz]
          refine tkv 5 (.agg #[.int .i64 z.kind, .string z.temp, .string z.ka, .string z.kb, .int .i64 z.iff, .slice z.vp z.vo.length z.vc, .slice z.ep z.eo.length z.ec, .slice z.pp z.po.length z.pc, .int .u64 z.stamp, .int .i64 z.num]) hHeld ?_
          simp only [Act.put, sz]
          refine tkv 6 (.bool ok) hHeld ?_
          simp only [Act.put, sz]
          refine wpAnyH_ready (rs := [7]) (by kernel_rfl) (by simp) ?_
          refine AllReadyH.cons (at_drop0 rfl) (fun K hK => ?_) AllReadyH.nil
          rw [if_pos (by rfl)]
          refine wp_store_mid 42 _ _ rfl w.heap.size 0 #[.int .i64 z.kind, .string z.temp, .string z.ka, .string z.kb, .int .i64 z.iff, .slice z.vp z.vo.length z.vc, .slice z.ep z.eo.length z.ec, .slice z.pp z.po.length z.pc, .int .u64 z.stamp, .int .i64 z.num] rfl rfl HTH.out Tryz.entSize (one_ex z) ?_
          rw [HW4.out]
          refine hK.out _ _ q8 (fun hHeld => ?_)
          clear hK K
          try simp only [Act.put]
          refine tkv 8 (.bool ok) hHeld ?_
          simp only [Act.put, sz]
          refine wpAnyH_done (by kernel_rfl) ?_ _
          clear hHeld
          go_wp2_with fail
          exact bodyPost_ret (v := .tuple #[.agg #[.int .i64 z.kind, .string z.temp, .string z.ka, .string z.kb, .int .i64 z.iff, .slice z.vp z.vo.length z.vc, .slice z.ep z.eo.length z.ec, .slice z.pp z.po.length z.pc, .int .u64 z.stamp, .int .i64 z.num], .bool ok]) (by simp [results, Tryz.results19, go_sem, g0, g1, g2, g3, g4, g5, g6, g7, g8, g9]) rfl ⟨⟨z, ok, rfl, fun h => HOW.out (HOZ.out h), HZO.out⟩, HBE.out⟩
        have hif2 : (x3.toList == [105, 102]) = true := by rw [toList_data, hif]; rfl
        have HTL : Hid (O = (smallR (bytesL (ws.drop (m2 + 1)))[1]?).bind fun n => if n = 0 then none else restR { y3.en with iff := (n : Int) } ((bytesL (ws.drop (m2 + 1))).drop 2)) := hid (by
          rw [HT5.out, tlr_if (by omega) (by omega) (by rw [HW0.out, hif])])
        have HSM : Hid (Calls Tryz.prog 42 #[.slice (some ⟨b, off, none⟩) ws.length cap, .int .i64 ((m2 : Int) + 1 + 1)] W5 fun e w' => e = .returned (numV (smallR ((ws.map (·.data.toList))[m2 + 1 + 1]?))) ∧ w' = W5) := hid (rsmall16_any (some ⟨b, off, none⟩) cap ws (m2 + 1 + 1) W5 (HTV.out _ R5.out.bel) HS.out (by omega))
        obtain ⟨so, hso⟩ : ∃ so, smallR ((ws.map (·.data.toList))[m2 + 1 + 1]?) = so := ⟨_, rfl⟩
        have hsl : ((so.getD 0 : Nat) : Int) ≤ 999999999 := by
          cases so with
          | none => show (0 : Int) ≤ _; decide
          | some n => have := smallR_le hso; show (n : Int) ≤ _; omega
        have hlen : ∀ n, so = some n → m2 + 1 + 1 < ws.length := fun n hn => by
          rw [hn] at hso
          rcases Nat.lt_or_ge (m2 + 1 + 1) ws.length with h | h
          · exact h
          · rw [List.getElem?_eq_none (by rw [List.length_map]; exact h)] at hso
            cases hso
        have HLEN := hid hlen
        rw [bytes_at1, hso] at HTL
        rw [hso] at HSM
        unfold numV at HSM
        obtain ⟨sn, hsn⟩ : ∃ sn : Nat, so.getD 0 = sn := ⟨_, rfl⟩
        rw [hsn] at HSM hsl
        have HSN := hid hsn
        clear hsn hso hif hk hlen
        have HRG := hid R5.out.range
        have HTH := hid R5.out.there
        obtain ⟨W4, hW4⟩ : ∃ W4, W5.setCells w.heap.size 0 [.int .i64 y3.kind, .string y3.temp, .string y3.ka, .string y3.kb, .int .i64 y3.iff, .slice y3.vp y3.vo.length y3.vc, .slice y3.ep y3.eo.length y3.ec, .slice y3.pp y3.po.length y3.pc, .int .u64 y3.stamp, .int .i64 y3.num] = W4 := ⟨_, rfl⟩
        obtain ⟨⟨g0, g1, g2, g3, g4, g5, g6, g7, g8, g9⟩, hown4, hbel4⟩ := R5.out.fin W4 hW4
        have HW4 : Hid (W5.setCells w.heap.size 0 (#[.int .i64 y3.kind, .string y3.temp, .string y3.ka, .string y3.kb, .int .i64 y3.iff, .slice y3.vp y3.vo.length y3.vc, .slice y3.ep y3.eo.length y3.ec, .slice y3.pp y3.po.length y3.pc, .int .u64 y3.stamp, .int .i64 y3.num] : Array Value).toList = W4) := hid hW4
        have HOW := hid hown4
        have HBE := hid hbel4
        clear hown4 hbel4 hW4
        have f1 := R5.out.open 4
        have z1 : W5.cell? ⟨w.heap.size + 1, 4, none⟩ = some (.int .i64 y3.iff) := by rw [Lib.cell_of_heap R5.out.box]; rfl
        obtain ⟨y4, hzz⟩ : ∃ q : Ex, q = { y3 with iff := (sn : Int) } := ⟨_, rfl⟩
        have hbr : Bare y4 3 := by rw [hzz]; exact HB5.out.iff _ (by omega) hsl
        obtain ⟨W6, hW6⟩ : ∃ W', W5.setCell ⟨w.heap.size + 1, 4, none⟩ (.int .i64 (sn : Int)) = W' := ⟨_, rfl⟩
        have R6 : Hid (RsSt w (w.heap.size + 1) w.heap.size W6 y4) := hid (by
          rw [← hW6]
          exact R5.out.turn 4 _ (hbr.own _ _) (by rw [hzz]; rfl))
        have HB6 := hid hbr
        have HZZ := hid hzz
        clear hbr hzz
        go_wp2_with fail
        refine HSM.out.mono ?_
        rintro e w7 ⟨rfl, rfl⟩
        clear c0
        cases so with
        | none =>
          have HNO : Hid (O = none) := hid (by rw [HTL.out]; rfl)
          go_upto_region 40 with fail
          clear hW6 f1 z1
          go_wp2_with (first | (refine wpList_load_as rfl 42 _ rfl (w.heap.size + 1) 0 rfl [.int .i64 y3.kind, .string y3.temp, .string y3.ka, .string y3.kb, .int .i64 y3.iff, .slice y3.vp y3.vo.length y3.vc, .slice y3.ep y3.eo.length y3.ec, .slice y3.pp y3.po.length y3.pc, .int .u64 y3.stamp, .int .i64 y3.num] _ HRG.out Tryz.underlying42 rfl Tryz.entSize (.agg #[.int .i64 y3.kind, .string y3.temp, .string y3.ka, .string y3.kb, .int .i64 y3.iff, .slice y3.vp y3.vo.length y3.vc, .slice y3.ep y3.eo.length y3.ec, .slice y3.pp y3.po.length y3.pc, .int .u64 y3.stamp, .int .i64 y3.num]) rfl ?_) | (refine wpList_store_as rfl 42 _ _ rfl w.heap.size 0 #[.int .i64 y3.kind, .string y3.temp, .string y3.ka, .string y3.kb, .int .i64 y3.iff, .slice y3.vp y3.vo.length y3.vc, .slice y3.ep y3.eo.length y3.ec, .slice y3.pp y3.po.length y3.pc, .int .u64 y3.stamp, .int .i64 y3.num] rfl rfl HTH.out Tryz.entSize (one_ex y3) W4 HW4.out ?_))
          exact bodyPost_ret (v := .tuple #[.agg #[.int .i64 y3.kind, .string y3.temp, .string y3.ka, .string y3.kb, .int .i64 y3.iff, .slice y3.vp y3.vo.length y3.vc, .slice y3.ep y3.eo.length y3.ec, .slice y3.pp y3.po.length y3.pc, .int .u64 y3.stamp, .int .i64 y3.num], .bool false]) (by simp [results, Tryz.results19, go_sem, g0, g1, g2, g3, g4, g5, g6, g7, g8, g9]) rfl ⟨⟨y3, false, rfl, fun _ => HOW.out, by rw [HNO.out]; rfl⟩, HBE.out⟩
        | some n =>
          have HN : Hid (n = sn) := hid HSN.out
          by_cases hq : sn = 0
          · subst hq
            have HNO : Hid (O = none) := hid (by rw [HTL.out, HN.out]; rfl)
            go_upto_region 40 with fail
            clear hW6 f1 z1
            go_wp2_with (first | (refine wpList_load_as rfl 42 _ rfl (w.heap.size + 1) 0 rfl [.int .i64 y3.kind, .string y3.temp, .string y3.ka, .string y3.kb, .int .i64 y3.iff, .slice y3.vp y3.vo.length y3.vc, .slice y3.ep y3.eo.length y3.ec, .slice y3.pp y3.po.length y3.pc, .int .u64 y3.stamp, .int .i64 y3.num] _ HRG.out Tryz.underlying42 rfl Tryz.entSize (.agg #[.int .i64 y3.kind, .string y3.temp, .string y3.ka, .string y3.kb, .int .i64 y3.iff, .slice y3.vp y3.vo.length y3.vc, .slice y3.ep y3.eo.length y3.ec, .slice y3.pp y3.po.length y3.pc, .int .u64 y3.stamp, .int .i64 y3.num]) rfl ?_) | (refine wpList_store_as rfl 42 _ _ rfl w.heap.size 0 #[.int .i64 y3.kind, .string y3.temp, .string y3.ka, .string y3.kb, .int .i64 y3.iff, .slice y3.vp y3.vo.length y3.vc, .slice y3.ep y3.eo.length y3.ec, .slice y3.pp y3.po.length y3.pc, .int .u64 y3.stamp, .int .i64 y3.num] rfl rfl HTH.out Tryz.entSize (one_ex y3) W4 HW4.out ?_))
            exact bodyPost_ret (v := .tuple #[.agg #[.int .i64 y3.kind, .string y3.temp, .string y3.ka, .string y3.kb, .int .i64 y3.iff, .slice y3.vp y3.vo.length y3.vc, .slice y3.ep y3.eo.length y3.ec, .slice y3.pp y3.po.length y3.pc, .int .u64 y3.stamp, .int .i64 y3.num], .bool false]) (by simp [results, Tryz.results19, go_sem, g0, g1, g2, g3, g4, g5, g6, g7, g8, g9]) rfl ⟨⟨y3, false, rfl, fun _ => HOW.out, by rw [HNO.out]; rfl⟩, HBE.out⟩
          · have hqz : ((sn : Int) == 0) = false := by rw [beq_eq_false_iff_ne]; omega
            have hm3 := HLEN.out n rfl
            have hcy : (m2 : Int) + 1 + 2 ≤ (ws.length : Int) := by omega
            have hcy3 : (0 : Int) ≤ (m2 : Int) + 1 + 2 := by omega
            have HRS : Hid (O = restR y4.en (bytesL (ws.drop (m2 + 1 + 2)))) := hid (by
              rw [HTL.out, Option.bind_some, HN.out, if_neg hq, HZZ.out]
              have : (bytesL (ws.drop (m2 + 1))).drop 2 = bytesL (ws.drop (m2 + 1 + 2)) := by unfold bytesL; rw [← List.map_drop, List.drop_drop]
              rw [this]; rfl)
            clear hq
            have htn : ((m2 : Int) + 1 + 2).toNat = m2 + 1 + 2 := by omega
            obtain ⟨q, hq⟩ : ∃ q : Option Addr, (if cap = m2 + 1 + 2 then some ⟨b, off, none⟩ else some ⟨b, off + (m2 + 1 + 2), none⟩) = q := ⟨_, rfl⟩
            have HQ := hid hq
            have HRT : Hid (∀ V, Below W6.heap.size W6 V → Calls Tryz.prog 43 #[.agg #[.int .i64 y4.kind, .string y4.temp, .string y4.ka, .string y4.kb, .int .i64 y4.iff, .slice y4.vp y4.vo.length y4.vc, .slice y4.ep y4.eo.length y4.ec, .slice y4.pp y4.po.length y4.pc, .int .u64 y4.stamp, .int .i64 y4.num], .slice q (ws.length - (m2 + 1 + 2) : Nat) (cap - (m2 + 1 + 2))] V fun e w' => ∃ (z : Ex) (ok : Bool), e = .returned (.tuple #[.agg #[.int .i64 z.kind, .string z.temp, .string z.ka, .string z.kb, .int .i64 z.iff, .slice z.vp z.vo.length z.vc, .slice z.ep z.eo.length z.ec, .slice z.pp z.po.length z.pc, .int .u64 z.stamp, .int .i64 z.num], .bool ok]) ∧ (ok = true → OwnQ w.heap.size z w') ∧ O = (if ok = true then some z.en else none) ∧ Below V.heap.size V w') := hid fun V hV => by
              have htx : TxtAt V q (ws.drop (m2 + 1 + 2)) := by
                rw [← HQ.out]
                split
                · exact Or.inl (List.drop_eq_nil_of_le (by omega))
                · exact txt_drop (HTV.out V (R6.out.bel.trans (hV.mono R6.out.bel.size))) rfl _
              have h := rrest16_any y4 HB6.out.bare q (cap - (m2 + 1 + 2)) (ws.drop (m2 + 1 + 2)) V HB6.out.rng htx (by rw [List.length_drop]; omega) (by rw [List.length_drop]; omega) fun x hx => HS.out x (List.mem_of_mem_drop hx)
              rw [List.length_drop] at h
              refine h.mono ?_
              rintro e w' ⟨⟨z, ok, rfl, ho, hz⟩, hb⟩
              have hsz := hV.size
              have hbs := R6.out.bel.size
              exact ⟨z, ok, rfl, fun h => (ho h).weak (by omega), by rw [HRS.out]; exact hz, hb⟩
            have HSC : Hid (∀ w', Below W6.heap.size W6 w' → w'.cell? ⟨w.heap.size + 1, 0, none⟩ = some (.int .i64 y4.kind) ∧ w'.cell? ⟨w.heap.size + 1, 1, none⟩ = some (.string y4.temp) ∧ w'.cell? ⟨w.heap.size + 1, 2, none⟩ = some (.string y4.ka) ∧ w'.cell? ⟨w.heap.size + 1, 3, none⟩ = some (.string y4.kb) ∧ w'.cell? ⟨w.heap.size + 1, 4, none⟩ = some (.int .i64 y4.iff) ∧ w'.cell? ⟨w.heap.size + 1, 5, none⟩ = some (.slice y4.vp y4.vo.length y4.vc) ∧ w'.cell? ⟨w.heap.size + 1, 6, none⟩ = some (.slice y4.ep y4.eo.length y4.ec) ∧ w'.cell? ⟨w.heap.size + 1, 7, none⟩ = some (.slice y4.pp y4.po.length y4.pc) ∧ w'.cell? ⟨w.heap.size + 1, 8, none⟩ = some (.int .u64 y4.stamp) ∧ w'.cell? ⟨w.heap.size + 1, 9, none⟩ = some (.int .i64 y4.num)) := hid fun w' h => (R6.out.on h).cells
            have hsc := HSC.out W6.drew (bel_drewN (Below.refl _ _) 1)
            clear hq
            go_upto_region 43 with fail
            try rw [hW6]
            clear hW6 f1 z1
            refine wp_region_held_drew (S := fun w' => w'.cell? ⟨w.heap.size + 1, 0, none⟩ = some (.int .i64 y4.kind) ∧ w'.cell? ⟨w.heap.size + 1, 1, none⟩ = some (.string y4.temp) ∧ w'.cell? ⟨w.heap.size + 1, 2, none⟩ = some (.string y4.ka) ∧ w'.cell? ⟨w.heap.size + 1, 3, none⟩ = some (.string y4.kb) ∧ w'.cell? ⟨w.heap.size + 1, 4, none⟩ = some (.int .i64 y4.iff) ∧ w'.cell? ⟨w.heap.size + 1, 5, none⟩ = some (.slice y4.vp y4.vo.length y4.vc) ∧ w'.cell? ⟨w.heap.size + 1, 6, none⟩ = some (.slice y4.ep y4.eo.length y4.ec) ∧ w'.cell? ⟨w.heap.size + 1, 7, none⟩ = some (.slice y4.pp y4.po.length y4.pc) ∧ w'.cell? ⟨w.heap.size + 1, 8, none⟩ = some (.int .u64 y4.stamp) ∧ w'.cell? ⟨w.heap.size + 1, 9, none⟩ = some (.int .i64 y4.num)) (by kernel_rfl) hsc (fun hHeld => ?_)
            refine tkv 0 (.agg #[.int .i64 y4.kind, .string y4.temp, .string y4.ka, .string y4.kb, .int .i64 y4.iff, .slice y4.vp y4.vo.length y4.vc, .slice y4.ep y4.eo.length y4.ec, .slice y4.pp y4.po.length y4.pc, .int .u64 y4.stamp, .int .i64 y4.num]) hHeld ?_
            simp only [Act.put, sz]
            refine tkv 1 (.slice (some ⟨b, off, none⟩) ws.length cap) hHeld ?_
            simp only [Act.put, sz]
            refine tkv 2 (.int .i64 ((m2 : Int) + 1 + 2)) hHeld ?_
            simp only [Act.put, sz]
            refine take_val (i := 3) (.slice q (ws.length - (m2 + 1 + 2) : Nat) (cap - (m2 + 1 + 2))) rfl (by kernel_rfl) (by kernel_rfl) (by kernel_rfl) (fun _ _ _ h => h) (by rfl) (fun w hSw => by
              rw [← HQ.out]
              by_cases hcp : cap = m2 + 1 + 2
              · rw [if_pos hcp]
                go_simp
                all_goals simp [htn]
              · rw [if_neg hcp]
                go_simp
                all_goals simp [htn, hcp]) hHeld ?_
            simp only [Act.put, sz]
            refine wpAnyH_ready (rs := [4]) (by kernel_rfl) (by simp) ?_
            refine AllReadyH.cons (at_drop0 rfl) (fun K hK => ?_) AllReadyH.nil
            rw [if_pos (by rfl)]
            go_simp
            refine (HRT.out _ (bel_drewN (Below.refl _ _) 1)).mono ?_
            rintro e w7 ⟨z, ok, rfl, hoz, hzO, hb7⟩
            have hb7' : Below W6.heap.size W6 w7 := (bel_drewN (Below.refl W6.heap.size W6) 1).trans hb7
            have R7 := hid (R6.out.on hb7')
            have q7 := HSC.out w7 hb7'
            have HOZ := hid hoz
            have HZO := hid hzO
            obtain ⟨W4, hW4⟩ : ∃ W4, w7.setCells w.heap.size 0 [.int .i64 z.kind, .string z.temp, .string z.ka, .string z.kb, .int .i64 z.iff, .slice z.vp z.vo.length z.vc, .slice z.ep z.eo.length z.ec, .slice z.pp z.po.length z.pc, .int .u64 z.stamp, .int .i64 z.num] = W4 := ⟨_, rfl⟩
            obtain ⟨⟨g0, g1, g2, g3, g4, g5, g6, g7, g8, g9⟩, hown4, hbel4, q8⟩ := R7.out.leave W4 hW4
            have HW4 : Hid (w7.setCells w.heap.size 0 (#[.int .i64 z.kind, .string z.temp, .string z.ka, .string z.kb, .int .i64 z.iff, .slice z.vp z.vo.length z.vc, .slice z.ep z.eo.length z.ec, .slice z.pp z.po.length z.pc, .int .u64 z.stamp, .int .i64 z.num] : Array Value).toList = W4) := hid hW4
            have HOW := hid hown4
            have HBE := hid hbel4
            have HTH := hid R7.out.there
            clear hoz hzO hb7 hb7' hown4 hbel4 hW4
            go_wp2_with fail
            refine hK.out _ _ q7 (fun hHeld => ?_)
            clear hK K
            try simp only [Act.put, sz]
            refine tkv 5 (.agg #[.int .i64 z.kind, .string z.temp, .string z.ka, .string z.kb, .int .i64 z.iff, .slice z.vp z.vo.length z.vc, .slice z.ep z.eo.length z.ec, .slice z.pp z.po.length z.pc, .int .u64 z.stamp, .int .i64 z.num]) hHeld ?_
            simp only [Act.put, sz]
            refine tkv 6 (.bool ok) hHeld ?_
            simp only [Act.put, sz]
            refine wpAnyH_ready (rs := [7]) (by kernel_rfl) (by simp) ?_
            refine AllReadyH.cons (at_drop0 rfl) (fun K hK => ?_) AllReadyH.nil
            rw [if_pos (by rfl)]
            refine wp_store_mid 42 _ _ rfl w.heap.size 0 #[.int .i64 z.kind, .string z.temp, .string z.ka, .string z.kb, .int .i64 z.iff, .slice z.vp z.vo.length z.vc, .slice z.ep z.eo.length z.ec, .slice z.pp z.po.length z.pc, .int .u64 z.stamp, .int .i64 z.num] rfl rfl HTH.out Tryz.entSize (one_ex z) ?_
            rw [HW4.out]
            refine hK.out _ _ q8 (fun hHeld => ?_)
            clear hK K
            try simp only [Act.put]
            refine tkv 8 (.bool ok) hHeld ?_
            simp only [Act.put, sz]
            refine wpAnyH_done (by kernel_rfl) ?_ _
            clear hHeld
            go_wp2_with fail
            exact bodyPost_ret (v := .tuple #[.agg #[.int .i64 z.kind, .string z.temp, .string z.ka, .string z.kb, .int .i64 z.iff, .slice z.vp z.vo.length z.vc, .slice z.ep z.eo.length z.ec, .slice z.pp z.po.length z.pc, .int .u64 z.stamp, .int .i64 z.num], .bool ok]) (by simp [results, Tryz.results19, go_sem, g0, g1, g2, g3, g4, g5, g6, g7, g8, g9]) rfl ⟨⟨z, ok, rfl, fun h => HOW.out (HOZ.out h), HZO.out⟩, HBE.out⟩
      · as_aux_lemma =>
        have c0 : W5.cell? ⟨w.heap.size + 1, 0, none⟩ = some (.int .i64 4) := by rw [R5.out.cells.1, HB5.out.kind]; rfl
        have hcz : (m2 : Int) + 1 ≤ (ws.length : Int) := by omega
        have hcz2 : (ws.length : Int) ≤ (cap : Int) := by omega
        have hcz3 : (0 : Int) ≤ (m2 : Int) + 1 := by omega
        have hk : y3.en.kind = 4 := HB5.out.kind
        by_cases hn : m2 + 1 < ws.length
        case neg =>
          have hnz : ¬ (m2 : Int) + 1 < (ws.length : Int) := by omega
          have HRS : Hid (O = restR y3.en (bytesL (ws.drop (m2 + 1)))) := hid (by
            rw [HT5.out, tlr_rest (by omega) (by omega) (by omega) (by omega) (by omega) (fun q => by
              have := q.2.2
              rw [bytes_none (by omega)] at this
              cases this)])
          clear hk
          have htn : ((m2 : Int) + 1).toNat = m2 + 1 := by omega
          obtain ⟨q, hq⟩ : ∃ q : Option Addr, (if cap = m2 + 1 then some ⟨b, off, none⟩ else some ⟨b, off + (m2 + 1), none⟩) = q := ⟨_, rfl⟩
          have HQ := hid hq
          have HRT : Hid (∀ V, Below W5.heap.size W5 V → Calls Tryz.prog 43 #[.agg #[.int .i64 y3.kind, .string y3.temp, .string y3.ka, .string y3.kb, .int .i64 y3.iff, .slice y3.vp y3.vo.length y3.vc, .slice y3.ep y3.eo.length y3.ec, .slice y3.pp y3.po.length y3.pc, .int .u64 y3.stamp, .int .i64 y3.num], .slice q (ws.length - (m2 + 1) : Nat) (cap - (m2 + 1))] V fun e w' => ∃ (z : Ex) (ok : Bool), e = .returned (.tuple #[.agg #[.int .i64 z.kind, .string z.temp, .string z.ka, .string z.kb, .int .i64 z.iff, .slice z.vp z.vo.length z.vc, .slice z.ep z.eo.length z.ec, .slice z.pp z.po.length z.pc, .int .u64 z.stamp, .int .i64 z.num], .bool ok]) ∧ (ok = true → OwnQ w.heap.size z w') ∧ O = (if ok = true then some z.en else none) ∧ Below V.heap.size V w') := hid fun V hV => by
            have htx : TxtAt V q (ws.drop (m2 + 1)) := by
              rw [← HQ.out]
              split
              · exact Or.inl (List.drop_eq_nil_of_le (by omega))
              · exact txt_drop (HTV.out V (R5.out.bel.trans (hV.mono R5.out.bel.size))) rfl _
            have h := rrest16_any y3 HB5.out.bare q (cap - (m2 + 1)) (ws.drop (m2 + 1)) V HB5.out.rng htx (by rw [List.length_drop]; omega) (by rw [List.length_drop]; omega) fun x hx => HS.out x (List.mem_of_mem_drop hx)
            rw [List.length_drop] at h
            refine h.mono ?_
            rintro e w' ⟨⟨z, ok, rfl, ho, hz⟩, hb⟩
            have hsz := hV.size
            have hbs := R5.out.bel.size
            exact ⟨z, ok, rfl, fun h => (ho h).weak (by omega), by rw [HRS.out]; exact hz, hb⟩
          have HSC : Hid (∀ w', Below W5.heap.size W5 w' → w'.cell? ⟨w.heap.size + 1, 0, none⟩ = some (.int .i64 y3.kind) ∧ w'.cell? ⟨w.heap.size + 1, 1, none⟩ = some (.string y3.temp) ∧ w'.cell? ⟨w.heap.size + 1, 2, none⟩ = some (.string y3.ka) ∧ w'.cell? ⟨w.heap.size + 1, 3, none⟩ = some (.string y3.kb) ∧ w'.cell? ⟨w.heap.size + 1, 4, none⟩ = some (.int .i64 y3.iff) ∧ w'.cell? ⟨w.heap.size + 1, 5, none⟩ = some (.slice y3.vp y3.vo.length y3.vc) ∧ w'.cell? ⟨w.heap.size + 1, 6, none⟩ = some (.slice y3.ep y3.eo.length y3.ec) ∧ w'.cell? ⟨w.heap.size + 1, 7, none⟩ = some (.slice y3.pp y3.po.length y3.pc) ∧ w'.cell? ⟨w.heap.size + 1, 8, none⟩ = some (.int .u64 y3.stamp) ∧ w'.cell? ⟨w.heap.size + 1, 9, none⟩ = some (.int .i64 y3.num)) := hid fun w' h => (R5.out.on h).cells
          have hsc := HSC.out W5.drew (bel_drewN (Below.refl _ _) 1)
          clear hq
          go_upto_region 43 with fail
          refine wp_region_held_drew (S := fun w' => w'.cell? ⟨w.heap.size + 1, 0, none⟩ = some (.int .i64 y3.kind) ∧ w'.cell? ⟨w.heap.size + 1, 1, none⟩ = some (.string y3.temp) ∧ w'.cell? ⟨w.heap.size + 1, 2, none⟩ = some (.string y3.ka) ∧ w'.cell? ⟨w.heap.size + 1, 3, none⟩ = some (.string y3.kb) ∧ w'.cell? ⟨w.heap.size + 1, 4, none⟩ = some (.int .i64 y3.iff) ∧ w'.cell? ⟨w.heap.size + 1, 5, none⟩ = some (.slice y3.vp y3.vo.length y3.vc) ∧ w'.cell? ⟨w.heap.size + 1, 6, none⟩ = some (.slice y3.ep y3.eo.length y3.ec) ∧ w'.cell? ⟨w.heap.size + 1, 7, none⟩ = some (.slice y3.pp y3.po.length y3.pc) ∧ w'.cell? ⟨w.heap.size + 1, 8, none⟩ = some (.int .u64 y3.stamp) ∧ w'.cell? ⟨w.heap.size + 1, 9, none⟩ = some (.int .i64 y3.num)) (by kernel_rfl) hsc (fun hHeld => ?_)
          refine tkv 0 (.agg #[.int .i64 y3.kind, .string y3.temp, .string y3.ka, .string y3.kb, .int .i64 y3.iff, .slice y3.vp y3.vo.length y3.vc, .slice y3.ep y3.eo.length y3.ec, .slice y3.pp y3.po.length y3.pc, .int .u64 y3.stamp, .int .i64 y3.num]) hHeld ?_
          simp only [Act.put, sz]
          refine tkv 1 (.slice (some ⟨b, off, none⟩) ws.length cap) hHeld ?_
          simp only [Act.put, sz]
          refine tkv 2 (.int .i64 ((m2 : Int) + 1)) hHeld ?_
          simp only [Act.put, sz]
          refine take_val (i := 3) (.slice q (ws.length - (m2 + 1) : Nat) (cap - (m2 + 1))) rfl (by kernel_rfl) (by kernel_rfl) (by kernel_rfl) (fun _ _ _ h => h) (by rfl) (fun w hSw => by
            rw [← HQ.out]
            by_cases hcp : cap = m2 + 1
            · rw [if_pos hcp]
              go_simp
              all_goals simp [htn]
            · rw [if_neg hcp]
              go_simp
              all_goals simp [htn, hcp]) hHeld ?_
          simp only [Act.put, sz]
          refine wpAnyH_ready (rs := [4]) (by kernel_rfl) (by simp) ?_
          refine AllReadyH.cons (at_drop0 rfl) (fun K hK => ?_) AllReadyH.nil
          rw [if_pos (by rfl)]
          go_simp
          refine (HRT.out _ (bel_drewN (Below.refl _ _) 1)).mono ?_
          rintro e w7 ⟨z, ok, rfl, hoz, hzO, hb7⟩
          have hb7' : Below W5.heap.size W5 w7 := (bel_drewN (Below.refl W5.heap.size W5) 1).trans hb7
          have R7 := hid (R5.out.on hb7')
          have q7 := HSC.out w7 hb7'
          have HOZ := hid hoz
          have HZO := hid hzO
          obtain ⟨W4, hW4⟩ : ∃ W4, w7.setCells w.heap.size 0 [.int .i64 z.kind, .string z.temp, .string z.ka, .string z.kb, .int .i64 z.iff, .slice z.vp z.vo.length z.vc, .slice z.ep z.eo.length z.ec, .slice z.pp z.po.length z.pc, .int .u64 z.stamp, .int .i64 z.num] = W4 := ⟨_, rfl⟩
          obtain ⟨⟨g0, g1, g2, g3, g4, g5, g6, g7, g8, g9⟩, hown4, hbel4, q8⟩ := R7.out.leave W4 hW4
          have HW4 : Hid (w7.setCells w.heap.size 0 (#[.int .i64 z.kind, .string z.temp, .string z.ka, .string z.kb, .int .i64 z.iff, .slice z.vp z.vo.length z.vc, .slice z.ep z.eo.length z.ec, .slice z.pp z.po.length z.pc, .int .u64 z.stamp, .int .i64 z.num] : Array Value).toList = W4) := hid hW4
          have HOW := hid hown4
          have HBE := hid hbel4
          have HTH := hid R7.out.there
          clear hoz hzO hb7 hb7' hown4 hbel4 hW4
          go_wp2_with fail
          refine hK.out _ _ q7 (fun hHeld => ?_)
          clear hK K
          try simp only [Act.put, sz]
          refine tkv 5 (.agg #[.int .i64 z.kind, .string z.temp, .string z.ka, .string z.kb, .int .i64 z.iff, .slice z.vp z.vo.length z.vc, .slice z.ep z.eo.length z.ec, .slice z.pp z.po.length z.pc, .int .u64 z.stamp, .int .i64 z.num]) hHeld ?_
          simp only [Act.put, sz]
          refine tkv 6 (.bool ok) hHeld ?_
          simp only [Act.put, sz]
          refine wpAnyH_ready (rs := [7]) (by kernel_rfl) (by simp) ?_
          refine AllReadyH.cons (at_drop0 rfl) (fun K hK => ?_) AllReadyH.nil
          rw [if_pos (by rfl)]
          refine wp_store_mid 42 _ _ rfl w.heap.size 0 #[.int .i64 z.kind, .string z.temp, .string z.ka, .string z.kb, .int .i64 z.iff, .slice z.vp z.vo.length z.vc, .slice z.ep z.eo.length z.ec, .slice z.pp z.po.length z.pc, .int .u64 z.stamp, .int .i64 z.num] rfl rfl HTH.out Tryz.entSize (one_ex z) ?_
          rw [HW4.out]
          refine hK.out _ _ q8 (fun hHeld => ?_)
          clear hK K
          try simp only [Act.put]
          refine tkv 8 (.bool ok) hHeld ?_
          simp only [Act.put, sz]
          refine wpAnyH_done (by kernel_rfl) ?_ _
          clear hHeld
          go_wp2_with fail
          exact bodyPost_ret (v := .tuple #[.agg #[.int .i64 z.kind, .string z.temp, .string z.ka, .string z.kb, .int .i64 z.iff, .slice z.vp z.vo.length z.vc, .slice z.ep z.eo.length z.ec, .slice z.pp z.po.length z.pc, .int .u64 z.stamp, .int .i64 z.num], .bool ok]) (by simp [results, Tryz.results19, go_sem, g0, g1, g2, g3, g4, g5, g6, g7, g8, g9]) rfl ⟨⟨z, ok, rfl, fun h => HOW.out (HOZ.out h), HZO.out⟩, HBE.out⟩
        have hnz : (m2 : Int) + 1 < (ws.length : Int) := by omega
        obtain ⟨x3, hx3⟩ : ∃ x3, ws[m2 + 1]? = some x3 := ⟨_, List.getElem?_eq_getElem hn⟩
        have cx3 : W5.cell? ⟨b, off + (m2 + 1), none⟩ = some (.string x3) := HTX.out W5 (m2 + 1) x3 hx3 R5.out.bel
        have HW0 : Hid ((bytesL (ws.drop (m2 + 1)))[0]? = some x3.data.toList) := hid (by rw [bytes_drop hx3]; rfl)
        clear hx3
        by_cases hif : x3.data.toList = [105, 102]
        case neg =>
          have hif2 : (x3.toList == [105, 102]) = false := by rw [toList_data]; exact beq_eq_false_iff_ne.2 hif
          have HRS : Hid (O = restR y3.en (bytesL (ws.drop (m2 + 1)))) := hid (by
            rw [HT5.out, tlr_rest (by omega) (by omega) (by omega) (by omega) (by omega) (fun q => hif (by
              have := q.2.2
              rw [HW0.out] at this
              exact Option.some.inj this))])
          clear hk hif
          have htn : ((m2 : Int) + 1).toNat = m2 + 1 := by omega
          obtain ⟨q, hq⟩ : ∃ q : Option Addr, (if cap = m2 + 1 then some ⟨b, off, none⟩ else some ⟨b, off + (m2 + 1), none⟩) = q := ⟨_, rfl⟩
          have HQ := hid hq
          have HRT : Hid (∀ V, Below W5.heap.size W5 V → Calls Tryz.prog 43 #[.agg #[.int .i64 y3.kind, .string y3.temp, .string y3.ka, .string y3.kb, .int .i64 y3.iff, .slice y3.vp y3.vo.length y3.vc, .slice y3.ep y3.eo.length y3.ec, .slice y3.pp y3.po.length y3.pc, .int .u64 y3.stamp, .int .i64 y3.num], .slice q (ws.length - (m2 + 1) : Nat) (cap - (m2 + 1))] V fun e w' => ∃ (z : Ex) (ok : Bool), e = .returned (.tuple #[.agg #[.int .i64 z.kind, .string z.temp, .string z.ka, .string z.kb, .int .i64 z.iff, .slice z.vp z.vo.length z.vc, .slice z.ep z.eo.length z.ec, .slice z.pp z.po.length z.pc, .int .u64 z.stamp, .int .i64 z.num], .bool ok]) ∧ (ok = true → OwnQ w.heap.size z w') ∧ O = (if ok = true then some z.en else none) ∧ Below V.heap.size V w') := hid fun V hV => by
            have htx : TxtAt V q (ws.drop (m2 + 1)) := by
              rw [← HQ.out]
              split
              · exact Or.inl (List.drop_eq_nil_of_le (by omega))
              · exact txt_drop (HTV.out V (R5.out.bel.trans (hV.mono R5.out.bel.size))) rfl _
            have h := rrest16_any y3 HB5.out.bare q (cap - (m2 + 1)) (ws.drop (m2 + 1)) V HB5.out.rng htx (by rw [List.length_drop]; omega) (by rw [List.length_drop]; omega) fun x hx => HS.out x (List.mem_of_mem_drop hx)
            rw [List.length_drop] at h
            refine h.mono ?_
            rintro e w' ⟨⟨z, ok, rfl, ho, hz⟩, hb⟩
            have hsz := hV.size
            have hbs := R5.out.bel.size
            exact ⟨z, ok, rfl, fun h => (ho h).weak (by omega), by rw [HRS.out]; exact hz, hb⟩
          have HSC : Hid (∀ w', Below W5.heap.size W5 w' → w'.cell? ⟨w.heap.size + 1, 0, none⟩ = some (.int .i64 y3.kind) ∧ w'.cell? ⟨w.heap.size + 1, 1, none⟩ = some (.string y3.temp) ∧ w'.cell? ⟨w.heap.size + 1, 2, none⟩ = some (.string y3.ka) ∧ w'.cell? ⟨w.heap.size + 1, 3, none⟩ = some (.string y3.kb) ∧ w'.cell? ⟨w.heap.size + 1, 4, none⟩ = some (.int .i64 y3.iff) ∧ w'.cell? ⟨w.heap.size + 1, 5, none⟩ = some (.slice y3.vp y3.vo.length y3.vc) ∧ w'.cell? ⟨w.heap.size + 1, 6, none⟩ = some (.slice y3.ep y3.eo.length y3.ec) ∧ w'.cell? ⟨w.heap.size + 1, 7, none⟩ = some (.slice y3.pp y3.po.length y3.pc) ∧ w'.cell? ⟨w.heap.size + 1, 8, none⟩ = some (.int .u64 y3.stamp) ∧ w'.cell? ⟨w.heap.size + 1, 9, none⟩ = some (.int .i64 y3.num)) := hid fun w' h => (R5.out.on h).cells
          have hsc := HSC.out W5.drew (bel_drewN (Below.refl _ _) 1)
          clear hq
          go_upto_region 43 with fail
          refine wp_region_held_drew (S := fun w' => w'.cell? ⟨w.heap.size + 1, 0, none⟩ = some (.int .i64 y3.kind) ∧ w'.cell? ⟨w.heap.size + 1, 1, none⟩ = some (.string y3.temp) ∧ w'.cell? ⟨w.heap.size + 1, 2, none⟩ = some (.string y3.ka) ∧ w'.cell? ⟨w.heap.size + 1, 3, none⟩ = some (.string y3.kb) ∧ w'.cell? ⟨w.heap.size + 1, 4, none⟩ = some (.int .i64 y3.iff) ∧ w'.cell? ⟨w.heap.size + 1, 5, none⟩ = some (.slice y3.vp y3.vo.length y3.vc) ∧ w'.cell? ⟨w.heap.size + 1, 6, none⟩ = some (.slice y3.ep y3.eo.length y3.ec) ∧ w'.cell? ⟨w.heap.size + 1, 7, none⟩ = some (.slice y3.pp y3.po.length y3.pc) ∧ w'.cell? ⟨w.heap.size + 1, 8, none⟩ = some (.int .u64 y3.stamp) ∧ w'.cell? ⟨w.heap.size + 1, 9, none⟩ = some (.int .i64 y3.num)) (by kernel_rfl) hsc (fun hHeld => ?_)
          refine tkv 0 (.agg #[.int .i64 y3.kind, .string y3.temp, .string y3.ka, .string y3.kb, .int .i64 y3.iff, .slice y3.vp y3.vo.length y3.vc, .slice y3.ep y3.eo.length y3.ec, .slice y3.pp y3.po.length y3.pc, .int .u64 y3.stamp, .int .i64 y3.num]) hHeld ?_
          simp only [Act.put, sz]
          refine tkv 1 (.slice (some ⟨b, off, none⟩) ws.length cap) hHeld ?_
          simp only [Act.put, sz]
          refine tkv 2 (.int .i64 ((m2 : Int) + 1)) hHeld ?_
          simp only [Act.put, sz]
          refine take_val (i := 3) (.slice q (ws.length - (m2 + 1) : Nat) (cap - (m2 + 1))) rfl (by kernel_rfl) (by kernel_rfl) (by kernel_rfl) (fun _ _ _ h => h) (by rfl) (fun w hSw => by
            rw [← HQ.out]
            by_cases hcp : cap = m2 + 1
            · rw [if_pos hcp]
              go_simp
              all_goals simp [htn]
            · rw [if_neg hcp]
              go_simp
              all_goals simp [htn, hcp]) hHeld ?_
          simp only [Act.put, sz]
          refine wpAnyH_ready (rs := [4]) (by kernel_rfl) (by simp) ?_
          refine AllReadyH.cons (at_drop0 rfl) (fun K hK => ?_) AllReadyH.nil
          rw [if_pos (by rfl)]
          go_simp
          refine (HRT.out _ (bel_drewN (Below.refl _ _) 1)).mono ?_
          rintro e w7 ⟨z, ok, rfl, hoz, hzO, hb7⟩
          have hb7' : Below W5.heap.size W5 w7 := (bel_drewN (Below.refl W5.heap.size W5) 1).trans hb7
          have R7 := hid (R5.out.on hb7')
          have q7 := HSC.out w7 hb7'
          have HOZ := hid hoz
          have HZO := hid hzO
          obtain ⟨W4, hW4⟩ : ∃ W4, w7.setCells w.heap.size 0 [.int .i64 z.kind, .string z.temp, .string z.ka, .string z.kb, .int .i64 z.iff, .slice z.vp z.vo.length z.vc, .slice z.ep z.eo.length z.ec, .slice z.pp z.po.length z.pc, .int .u64 z.stamp, .int .i64 z.num] = W4 := ⟨_, rfl⟩
          obtain ⟨⟨g0, g1, g2, g3, g4, g5, g6, g7, g8, g9⟩, hown4, hbel4, q8⟩ := R7.out.leave W4 hW4
          have HW4 : Hid (w7.setCells w.heap.size 0 (#[.int .i64 z.kind, .string z.temp, .string z.ka, .string z.kb, .int .i64 z.iff, .slice z.vp z.vo.length z.vc, .slice z.ep z.eo.length z.ec, .slice z.pp z.po.length z.pc, .int .u64 z.stamp, .int .i64 z.num] : Array Value).toList = W4) := hid hW4
          have HOW := hid hown4
          have HBE := hid hbel4
          have HTH := hid R7.out.there
          clear hoz hzO hb7 hb7' hown4 hbel4 hW4
          go_wp2_with fail
          refine hK.out _ _ q7 (fun hHeld => ?_)
          clear hK K
          try simp only [Act.put, sz]
          refine tkv 5 (.agg #[.int .i64 z.kind, .string z.temp, .string z.ka, .string z.kb, .int .i64 z.iff, .slice z.vp z.vo.length z.vc, .slice z.ep z.eo.length z.ec, .slice z.pp z.po.length z.pc, .int .u64 z.stamp, .int .i64 z.num]) hHeld ?_
          simp only [Act.put, sz]
          refine tkv 6 (.bool ok) hHeld ?_
          simp only [Act.put, sz]
          refine wpAnyH_ready (rs := [7]) (by kernel_rfl) (by simp) ?_
          refine AllReadyH.cons (at_drop0 rfl) (fun K hK => ?_) AllReadyH.nil
          rw [if_pos (by rfl)]
          refine wp_store_mid 42 _ _ rfl w.heap.size 0 #[.int .i64 z.kind, .string z.temp, .string z.ka, .string z.kb, .int .i64 z.iff, .slice z.vp z.vo.length z.vc, .slice z.ep z.eo.length z.ec, .slice z.pp z.po.length z.pc, .int .u64 z.stamp, .int .i64 z.num] rfl rfl HTH.out Tryz.entSize (one_ex z) ?_
          rw [HW4.out]
          refine hK.out _ _ q8 (fun hHeld => ?_)
          clear hK K
          try simp only [Act.put]
          refine tkv 8 (.bool ok) hHeld ?_
          simp only [Act.put, sz]
          refine wpAnyH_done (by kernel_rfl) ?_ _
          clear hHeld
          go_wp2_with fail
          exact bodyPost_ret (v := .tuple #[.agg #[.int .i64 z.kind, .string z.temp, .string z.ka, .string z.kb, .int .i64 z.iff, .slice z.vp z.vo.length z.vc, .slice z.ep z.eo.length z.ec, .slice z.pp z.po.length z.pc, .int .u64 z.stamp, .int .i64 z.num], .bool ok]) (by simp [results, Tryz.results19, go_sem, g0, g1, g2, g3, g4, g5, g6, g7, g8, g9]) rfl ⟨⟨z, ok, rfl, fun h => HOW.out (HOZ.out h), HZO.out⟩, HBE.out⟩
        have hif2 : (x3.toList == [105, 102]) = true := by rw [toList_data, hif]; rfl
        have HTL : Hid (O = (smallR (bytesL (ws.drop (m2 + 1)))[1]?).bind fun n => if n = 0 then none else restR { y3.en with iff := (n : Int) } ((bytesL (ws.drop (m2 + 1))).drop 2)) := hid (by
          rw [HT5.out, tlr_if (by omega) (by omega) (by rw [HW0.out, hif])])
        have HSM : Hid (Calls Tryz.prog 42 #[.slice (some ⟨b, off, none⟩) ws.length cap, .int .i64 ((m2 : Int) + 1 + 1)] W5 fun e w' => e = .returned (numV (smallR ((ws.map (·.data.toList))[m2 + 1 + 1]?))) ∧ w' = W5) := hid (rsmall16_any (some ⟨b, off, none⟩) cap ws (m2 + 1 + 1) W5 (HTV.out _ R5.out.bel) HS.out (by omega))
        obtain ⟨so, hso⟩ : ∃ so, smallR ((ws.map (·.data.toList))[m2 + 1 + 1]?) = so := ⟨_, rfl⟩
        have hsl : ((so.getD 0 : Nat) : Int) ≤ 999999999 := by
          cases so with
          | none => show (0 : Int) ≤ _; decide
          | some n => have := smallR_le hso; show (n : Int) ≤ _; omega
        have hlen : ∀ n, so = some n → m2 + 1 + 1 < ws.length := fun n hn => by
          rw [hn] at hso
          rcases Nat.lt_or_ge (m2 + 1 + 1) ws.length with h | h
          · exact h
          · rw [List.getElem?_eq_none (by rw [List.length_map]; exact h)] at hso
            cases hso
        have HLEN := hid hlen
        rw [bytes_at1, hso] at HTL
        rw [hso] at HSM
        unfold numV at HSM
        obtain ⟨sn, hsn⟩ : ∃ sn : Nat, so.getD 0 = sn := ⟨_, rfl⟩
        rw [hsn] at HSM hsl
        have HSN := hid hsn
        clear hsn hso hif hk hlen
        have HRG := hid R5.out.range
        have HTH := hid R5.out.there
        obtain ⟨W4, hW4⟩ : ∃ W4, W5.setCells w.heap.size 0 [.int .i64 y3.kind, .string y3.temp, .string y3.ka, .string y3.kb, .int .i64 y3.iff, .slice y3.vp y3.vo.length y3.vc, .slice y3.ep y3.eo.length y3.ec, .slice y3.pp y3.po.length y3.pc, .int .u64 y3.stamp, .int .i64 y3.num] = W4 := ⟨_, rfl⟩
        obtain ⟨⟨g0, g1, g2, g3, g4, g5, g6, g7, g8, g9⟩, hown4, hbel4⟩ := R5.out.fin W4 hW4
        have HW4 : Hid (W5.setCells w.heap.size 0 (#[.int .i64 y3.kind, .string y3.temp, .string y3.ka, .string y3.kb, .int .i64 y3.iff, .slice y3.vp y3.vo.length y3.vc, .slice y3.ep y3.eo.length y3.ec, .slice y3.pp y3.po.length y3.pc, .int .u64 y3.stamp, .int .i64 y3.num] : Array Value).toList = W4) := hid hW4
        have HOW := hid hown4
        have HBE := hid hbel4
        clear hown4 hbel4 hW4
        have f1 := R5.out.open 4
        have z1 : W5.cell? ⟨w.heap.size + 1, 4, none⟩ = some (.int .i64 y3.iff) := by rw [Lib.cell_of_heap R5.out.box]; rfl
        obtain ⟨y4, hzz⟩ : ∃ q : Ex, q = { y3 with iff := (sn : Int) } := ⟨_, rfl⟩
        have hbr : Bare y4 4 := by rw [hzz]; exact HB5.out.iff _ (by omega) hsl
        obtain ⟨W6, hW6⟩ : ∃ W', W5.setCell ⟨w.heap.size + 1, 4, none⟩ (.int .i64 (sn : Int)) = W' := ⟨_, rfl⟩
        have R6 : Hid (RsSt w (w.heap.size + 1) w.heap.size W6 y4) := hid (by
          rw [← hW6]
          exact R5.out.turn 4 _ (hbr.own _ _) (by rw [hzz]; rfl))
        have HB6 := hid hbr
        have HZZ := hid hzz
        clear hbr hzz
        go_wp2_with fail
        refine HSM.out.mono ?_
        rintro e w7 ⟨rfl, rfl⟩
        clear c0
        cases so with
        | none =>
          have HNO : Hid (O = none) := hid (by rw [HTL.out]; rfl)
          go_upto_region 40 with fail
          clear hW6 f1 z1
          go_wp2_with (first | (refine wpList_load_as rfl 42 _ rfl (w.heap.size + 1) 0 rfl [.int .i64 y3.kind, .string y3.temp, .string y3.ka, .string y3.kb, .int .i64 y3.iff, .slice y3.vp y3.vo.length y3.vc, .slice y3.ep y3.eo.length y3.ec, .slice y3.pp y3.po.length y3.pc, .int .u64 y3.stamp, .int .i64 y3.num] _ HRG.out Tryz.underlying42 rfl Tryz.entSize (.agg #[.int .i64 y3.kind, .string y3.temp, .string y3.ka, .string y3.kb, .int .i64 y3.iff, .slice y3.vp y3.vo.length y3.vc, .slice y3.ep y3.eo.length y3.ec, .slice y3.pp y3.po.length y3.pc, .int .u64 y3.stamp, .int .i64 y3.num]) rfl ?_) | (refine wpList_store_as rfl 42 _ _ rfl w.heap.size 0 #[.int .i64 y3.kind, .string y3.temp, .string y3.ka, .string y3.kb, .int .i64 y3.iff, .slice y3.vp y3.vo.length y3.vc, .slice y3.ep y3.eo.length y3.ec, .slice y3.pp y3.po.length y3.pc, .int .u64 y3.stamp, .int .i64 y3.num] rfl rfl HTH.out Tryz.entSize (one_ex y3) W4 HW4.out ?_))
          exact bodyPost_ret (v := .tuple #[.agg #[.int .i64 y3.kind, .string y3.temp, .string y3.ka, .string y3.kb, .int .i64 y3.iff, .slice y3.vp y3.vo.length y3.vc, .slice y3.ep y3.eo.length y3.ec, .slice y3.pp y3.po.length y3.pc, .int .u64 y3.stamp, .int .i64 y3.num], .bool false]) (by simp [results, Tryz.results19, go_sem, g0, g1, g2, g3, g4, g5, g6, g7, g8, g9]) rfl ⟨⟨y3, false, rfl, fun _ => HOW.out, by rw [HNO.out]; rfl⟩, HBE.out⟩
        | some n =>
          have HN : Hid (n = sn) := hid HSN.out
          by_cases hq : sn = 0
          · subst hq
            have HNO : Hid (O = none) := hid (by rw [HTL.out, HN.out]; rfl)
            go_upto_region 40 with fail
            clear hW6 f1 z1
            go_wp2_with (first | (refine wpList_load_as rfl 42 _ rfl (w.heap.size + 1) 0 rfl [.int .i64 y3.kind, .string y3.temp, .string y3.ka, .string y3.kb, .int .i64 y3.iff, .slice y3.vp y3.vo.length y3.vc, .slice y3.ep y3.eo.length y3.ec, .slice y3.pp y3.po.length y3.pc, .int .u64 y3.stamp, .int .i64 y3.num] _ HRG.out Tryz.underlying42 rfl Tryz.entSize (.agg #[.int .i64 y3.kind, .string y3.temp, .string y3.ka, .string y3.kb, .int .i64 y3.iff, .slice y3.vp y3.vo.length y3.vc, .slice y3.ep y3.eo.length y3.ec, .slice y3.pp y3.po.length y3.pc, .int .u64 y3.stamp, .int .i64 y3.num]) rfl ?_) | (refine wpList_store_as rfl 42 _ _ rfl w.heap.size 0 #[.int .i64 y3.kind, .string y3.temp, .string y3.ka, .string y3.kb, .int .i64 y3.iff, .slice y3.vp y3.vo.length y3.vc, .slice y3.ep y3.eo.length y3.ec, .slice y3.pp y3.po.length y3.pc, .int .u64 y3.stamp, .int .i64 y3.num] rfl rfl HTH.out Tryz.entSize (one_ex y3) W4 HW4.out ?_))
            exact bodyPost_ret (v := .tuple #[.agg #[.int .i64 y3.kind, .string y3.temp, .string y3.ka, .string y3.kb, .int .i64 y3.iff, .slice y3.vp y3.vo.length y3.vc, .slice y3.ep y3.eo.length y3.ec, .slice y3.pp y3.po.length y3.pc, .int .u64 y3.stamp, .int .i64 y3.num], .bool false]) (by simp [results, Tryz.results19, go_sem, g0, g1, g2, g3, g4, g5, g6, g7, g8, g9]) rfl ⟨⟨y3, false, rfl, fun _ => HOW.out, by rw [HNO.out]; rfl⟩, HBE.out⟩
          · have hqz : ((sn : Int) == 0) = false := by rw [beq_eq_false_iff_ne]; omega
            have hm3 := HLEN.out n rfl
            have hcy : (m2 : Int) + 1 + 2 ≤ (ws.length : Int) := by omega
            have hcy3 : (0 : Int) ≤ (m2 : Int) + 1 + 2 := by omega
            have HRS : Hid (O = restR y4.en (bytesL (ws.drop (m2 + 1 + 2)))) := hid (by
              rw [HTL.out, Option.bind_some, HN.out, if_neg hq, HZZ.out]
              have : (bytesL (ws.drop (m2 + 1))).drop 2 = bytesL (ws.drop (m2 + 1 + 2)) := by unfold bytesL; rw [← List.map_drop, List.drop_drop]
              rw [this]; rfl)
            clear hq
            have htn : ((m2 : Int) + 1 + 2).toNat = m2 + 1 + 2 := by omega
            obtain ⟨q, hq⟩ : ∃ q : Option Addr, (if cap = m2 + 1 + 2 then some ⟨b, off, none⟩ else some ⟨b, off + (m2 + 1 + 2), none⟩) = q := ⟨_, rfl⟩
            have HQ := hid hq
            have HRT : Hid (∀ V, Below W6.heap.size W6 V → Calls Tryz.prog 43 #[.agg #[.int .i64 y4.kind, .string y4.temp, .string y4.ka, .string y4.kb, .int .i64 y4.iff, .slice y4.vp y4.vo.length y4.vc, .slice y4.ep y4.eo.length y4.ec, .slice y4.pp y4.po.length y4.pc, .int .u64 y4.stamp, .int .i64 y4.num], .slice q (ws.length - (m2 + 1 + 2) : Nat) (cap - (m2 + 1 + 2))] V fun e w' => ∃ (z : Ex) (ok : Bool), e = .returned (.tuple #[.agg #[.int .i64 z.kind, .string z.temp, .string z.ka, .string z.kb, .int .i64 z.iff, .slice z.vp z.vo.length z.vc, .slice z.ep z.eo.length z.ec, .slice z.pp z.po.length z.pc, .int .u64 z.stamp, .int .i64 z.num], .bool ok]) ∧ (ok = true → OwnQ w.heap.size z w') ∧ O = (if ok = true then some z.en else none) ∧ Below V.heap.size V w') := hid fun V hV => by
              have htx : TxtAt V q (ws.drop (m2 + 1 + 2)) := by
                rw [← HQ.out]
                split
                · exact Or.inl (List.drop_eq_nil_of_le (by omega))
                · exact txt_drop (HTV.out V (R6.out.bel.trans (hV.mono R6.out.bel.size))) rfl _
              have h := rrest16_any y4 HB6.out.bare q (cap - (m2 + 1 + 2)) (ws.drop (m2 + 1 + 2)) V HB6.out.rng htx (by rw [List.length_drop]; omega) (by rw [List.length_drop]; omega) fun x hx => HS.out x (List.mem_of_mem_drop hx)
              rw [List.length_drop] at h
              refine h.mono ?_
              rintro e w' ⟨⟨z, ok, rfl, ho, hz⟩, hb⟩
              have hsz := hV.size
              have hbs := R6.out.bel.size
              exact ⟨z, ok, rfl, fun h => (ho h).weak (by omega), by rw [HRS.out]; exact hz, hb⟩
            have HSC : Hid (∀ w', Below W6.heap.size W6 w' → w'.cell? ⟨w.heap.size + 1, 0, none⟩ = some (.int .i64 y4.kind) ∧ w'.cell? ⟨w.heap.size + 1, 1, none⟩ = some (.string y4.temp) ∧ w'.cell? ⟨w.heap.size + 1, 2, none⟩ = some (.string y4.ka) ∧ w'.cell? ⟨w.heap.size + 1, 3, none⟩ = some (.string y4.kb) ∧ w'.cell? ⟨w.heap.size + 1, 4, none⟩ = some (.int .i64 y4.iff) ∧ w'.cell? ⟨w.heap.size + 1, 5, none⟩ = some (.slice y4.vp y4.vo.length y4.vc) ∧ w'.cell? ⟨w.heap.size + 1, 6, none⟩ = some (.slice y4.ep y4.eo.length y4.ec) ∧ w'.cell? ⟨w.heap.size + 1, 7, none⟩ = some (.slice y4.pp y4.po.length y4.pc) ∧ w'.cell? ⟨w.heap.size + 1, 8, none⟩ = some (.int .u64 y4.stamp) ∧ w'.cell? ⟨w.heap.size + 1, 9, none⟩ = some (.int .i64 y4.num)) := hid fun w' h => (R6.out.on h).cells
            have hsc := HSC.out W6.drew (bel_drewN (Below.refl _ _) 1)
            clear hq
            go_upto_region 43 with fail
            try rw [hW6]
            clear hW6 f1 z1
            refine wp_region_held_drew (S := fun w' => w'.cell? ⟨w.heap.size + 1, 0, none⟩ = some (.int .i64 y4.kind) ∧ w'.cell? ⟨w.heap.size + 1, 1, none⟩ = some (.string y4.temp) ∧ w'.cell? ⟨w.heap.size + 1, 2, none⟩ = some (.string y4.ka) ∧ w'.cell? ⟨w.heap.size + 1, 3, none⟩ = some (.string y4.kb) ∧ w'.cell? ⟨w.heap.size + 1, 4, none⟩ = some (.int .i64 y4.iff) ∧ w'.cell? ⟨w.heap.size + 1, 5, none⟩ = some (.slice y4.vp y4.vo.length y4.vc) ∧ w'.cell? ⟨w.heap.size + 1, 6, none⟩ = some (.slice y4.ep y4.eo.length y4.ec) ∧ w'.cell? ⟨w.heap.size + 1, 7, none⟩ = some (.slice y4.pp y4.po.length y4.pc) ∧ w'.cell? ⟨w.heap.size + 1, 8, none⟩ = some (.int .u64 y4.stamp) ∧ w'.cell? ⟨w.heap.size + 1, 9, none⟩ = some (.int .i64 y4.num)) (by kernel_rfl) hsc (fun hHeld => ?_)
            refine tkv 0 (.agg #[.int .i64 y4.kind, .string y4.temp, .string y4.ka, .string y4.kb, .int .i64 y4.iff, .slice y4.vp y4.vo.length y4.vc, .slice y4.ep y4.eo.length y4.ec, .slice y4.pp y4.po.length y4.pc, .int .u64 y4.stamp, .int .i64 y4.num]) hHeld ?_
            simp only [Act.put, sz]
            refine tkv 1 (.slice (some ⟨b, off, none⟩) ws.length cap) hHeld ?_
            simp only [Act.put, sz]
            refine tkv 2 (.int .i64 ((m2 : Int) + 1 + 2)) hHeld ?_
            simp only [Act.put, sz]
            refine take_val (i := 3) (.slice q (ws.length - (m2 + 1 + 2) : Nat) (cap - (m2 + 1 + 2))) rfl (by kernel_rfl) (by kernel_rfl) (by kernel_rfl) (fun _ _ _ h => h) (by rfl) (fun w hSw => by
              rw [← HQ.out]
              by_cases hcp : cap = m2 + 1 + 2
              · rw [if_pos hcp]
                go_simp
                all_goals simp [htn]
              · rw [if_neg hcp]
                go_simp
                all_goals simp [htn, hcp]) hHeld ?_
            simp only [Act.put, sz]
            refine wpAnyH_ready (rs := [4]) (by kernel_rfl) (by simp) ?_
            refine AllReadyH.cons (at_drop0 rfl) (fun K hK => ?_) AllReadyH.nil
            rw [if_pos (by rfl)]
            go_simp
            refine (HRT.out _ (bel_drewN (Below.refl _ _) 1)).mono ?_
            rintro e w7 ⟨z, ok, rfl, hoz, hzO, hb7⟩
            have hb7' : Below W6.heap.size W6 w7 := (bel_drewN (Below.refl W6.heap.size W6) 1).trans hb7
            have R7 := hid (R6.out.on hb7')
            have q7 := HSC.out w7 hb7'
            have HOZ := hid hoz
            have HZO := hid hzO
            obtain ⟨W4, hW4⟩ : ∃ W4, w7.setCells w.heap.size 0 [.int .i64 z.kind, .string z.temp, .string z.ka, .string z.kb, .int .i64 z.iff, .slice z.vp z.vo.length z.vc, .slice z.ep z.eo.length z.ec, .slice z.pp z.po.length z.pc, .int .u64 z.stamp, .int .i64 z.num] = W4 := ⟨_, rfl⟩
            obtain ⟨⟨g0, g1, g2, g3, g4, g5, g6, g7, g8, g9⟩, hown4, hbel4, q8⟩ := R7.out.leave W4 hW4
            have HW4 : Hid (w7.setCells w.heap.size 0 (#[.int .i64 z.kind, .string z.temp, .string z.ka, .string z.kb, .int .i64 z.iff, .slice z.vp z.vo.length z.vc, .slice z.ep z.eo.length z.ec, .slice z.pp z.po.length z.pc, .int .u64 z.stamp, .int .i64 z.num] : Array Value).toList = W4) := hid hW4
            have HOW := hid hown4
            have HBE := hid hbel4
            have HTH := hid R7.out.there
            clear hoz hzO hb7 hb7' hown4 hbel4 hW4
            go_wp2_with fail
            refine hK.out _ _ q7 (fun hHeld => ?_)
            clear hK K
            try simp only [Act.put, sz]
            refine tkv 5 (.agg #[.int .i64 z.kind, .string z.temp, .string z.ka, .string z.kb, .int .i64 z.iff, .slice z.vp z.vo.length z.vc, .slice z.ep z.eo.length z.ec, .slice z.pp z.po.length z.pc, .int .u64 z.stamp, .int .i64 z.num]) hHeld ?_
            simp only [Act.put, sz]
            refine tkv 6 (.bool ok) hHeld ?_
            simp only [Act.put, sz]
            refine wpAnyH_ready (rs := [7]) (by kernel_rfl) (by simp) ?_
            refine AllReadyH.cons (at_drop0 rfl) (fun K hK => ?_) AllReadyH.nil
            rw [if_pos (by rfl)]
            refine wp_store_mid 42 _ _ rfl w.heap.size 0 #[.int .i64 z.kind, .string z.temp, .string z.ka, .string z.kb, .int .i64 z.iff, .slice z.vp z.vo.length z.vc, .slice z.ep z.eo.length z.ec, .slice z.pp z.po.length z.pc, .int .u64 z.stamp, .int .i64 z.num] rfl rfl HTH.out Tryz.entSize (one_ex z) ?_
            rw [HW4.out]
            refine hK.out _ _ q8 (fun hHeld => ?_)
            clear hK K
            try simp only [Act.put]
            refine tkv 8 (.bool ok) hHeld ?_
            simp only [Act.put, sz]
            refine wpAnyH_done (by kernel_rfl) ?_ _
            clear hHeld
            go_wp2_with fail
            exact bodyPost_ret (v := .tuple #[.agg #[.int .i64 z.kind, .string z.temp, .string z.ka, .string z.kb, .int .i64 z.iff, .slice z.vp z.vo.length z.vc, .slice z.ep z.eo.length z.ec, .slice z.pp z.po.length z.pc, .int .u64 z.stamp, .int .i64 z.num], .bool ok]) (by simp [results, Tryz.results19, go_sem, g0, g1, g2, g3, g4, g5, g6, g7, g8, g9]) rfl ⟨⟨z, ok, rfl, fun h => HOW.out (HOZ.out h), HZO.out⟩, HBE.out⟩
      · as_aux_lemma =>
        have c0 : W5.cell? ⟨w.heap.size + 1, 0, none⟩ = some (.int .i64 5) := by rw [R5.out.cells.1, HB5.out.kind]; rfl
        have hcz : (m2 : Int) + 1 ≤ (ws.length : Int) := by omega
        have hcz2 : (ws.length : Int) ≤ (cap : Int) := by omega
        have hcz3 : (0 : Int) ≤ (m2 : Int) + 1 := by omega
        have hk : y3.en.kind = 5 := HB5.out.kind
        by_cases hn : m2 + 1 < ws.length
        case neg =>
          have hnz : ¬ (m2 : Int) + 1 < (ws.length : Int) := by omega
          have HRS : Hid (O = restR y3.en (bytesL (ws.drop (m2 + 1)))) := hid (by
            rw [HT5.out, tlr_rest (by omega) (by omega) (by omega) (by omega) (by omega) (fun q => by
              have := q.2.2
              rw [bytes_none (by omega)] at this
              cases this)])
          clear hk
          have htn : ((m2 : Int) + 1).toNat = m2 + 1 := by omega
          obtain ⟨q, hq⟩ : ∃ q : Option Addr, (if cap = m2 + 1 then some ⟨b, off, none⟩ else some ⟨b, off + (m2 + 1), none⟩) = q := ⟨_, rfl⟩
          have HQ := hid hq
          have HRT : Hid (∀ V, Below W5.heap.size W5 V → Calls Tryz.prog 43 #[.agg #[.int .i64 y3.kind, .string y3.temp, .string y3.ka, .string y3.kb, .int .i64 y3.iff, .slice y3.vp y3.vo.length y3.vc, .slice y3.ep y3.eo.length y3.ec, .slice y3.pp y3.po.length y3.pc, .int .u64 y3.stamp, .int .i64 y3.num], .slice q (ws.length - (m2 + 1) : Nat) (cap - (m2 + 1))] V fun e w' => ∃ (z : Ex) (ok : Bool), e = .returned (.tuple #[.agg #[.int .i64 z.kind, .string z.temp, .string z.ka, .string z.kb, .int .i64 z.iff, .slice z.vp z.vo.length z.vc, .slice z.ep z.eo.length z.ec, .slice z.pp z.po.length z.pc, .int .u64 z.stamp, .int .i64 z.num], .bool ok]) ∧ (ok = true → OwnQ w.heap.size z w') ∧ O = (if ok = true then some z.en else none) ∧ Below V.heap.size V w') := hid fun V hV => by
            have htx : TxtAt V q (ws.drop (m2 + 1)) := by
              rw [← HQ.out]
              split
              · exact Or.inl (List.drop_eq_nil_of_le (by omega))
              · exact txt_drop (HTV.out V (R5.out.bel.trans (hV.mono R5.out.bel.size))) rfl _
            have h := rrest16_any y3 HB5.out.bare q (cap - (m2 + 1)) (ws.drop (m2 + 1)) V HB5.out.rng htx (by rw [List.length_drop]; omega) (by rw [List.length_drop]; omega) fun x hx => HS.out x (List.mem_of_mem_drop hx)
            rw [List.length_drop] at h
            refine h.mono ?_
            rintro e w' ⟨⟨z, ok, rfl, ho, hz⟩, hb⟩
            have hsz := hV.size
            have hbs := R5.out.bel.size
            exact ⟨z, ok, rfl, fun h => (ho h).weak (by omega), by rw [HRS.out]; exact hz, hb⟩
          have HSC : Hid (∀ w', Below W5.heap.size W5 w' → w'.cell? ⟨w.heap.size + 1, 0, none⟩ = some (.int .i64 y3.kind) ∧ w'.cell? ⟨w.heap.size + 1, 1, none⟩ = some (.string y3.temp) ∧ w'.cell? ⟨w.heap.size + 1, 2, none⟩ = some (.string y3.ka) ∧ w'.cell? ⟨w.heap.size + 1, 3, none⟩ = some (.string y3.kb) ∧ w'.cell? ⟨w.heap.size + 1, 4, none⟩ = some (.int .i64 y3.iff) ∧ w'.cell? ⟨w.heap.size + 1, 5, none⟩ = some (.slice y3.vp y3.vo.length y3.vc) ∧ w'.cell? ⟨w.heap.size + 1, 6, none⟩ = some (.slice y3.ep y3.eo.length y3.ec) ∧ w'.cell? ⟨w.heap.size + 1, 7, none⟩ = some (.slice y3.pp y3.po.length y3.pc) ∧ w'.cell? ⟨w.heap.size + 1, 8, none⟩ = some (.int .u64 y3.stamp) ∧ w'.cell? ⟨w.heap.size + 1, 9, none⟩ = some (.int .i64 y3.num)) := hid fun w' h => (R5.out.on h).cells
          have hsc := HSC.out W5.drew (bel_drewN (Below.refl _ _) 1)
          clear hq
          go_upto_region 43 with fail
          refine wp_region_held_drew (S := fun w' => w'.cell? ⟨w.heap.size + 1, 0, none⟩ = some (.int .i64 y3.kind) ∧ w'.cell? ⟨w.heap.size + 1, 1, none⟩ = some (.string y3.temp) ∧ w'.cell? ⟨w.heap.size + 1, 2, none⟩ = some (.string y3.ka) ∧ w'.cell? ⟨w.heap.size + 1, 3, none⟩ = some (.string y3.kb) ∧ w'.cell? ⟨w.heap.size + 1, 4, none⟩ = some (.int .i64 y3.iff) ∧ w'.cell? ⟨w.heap.size + 1, 5, none⟩ = some (.slice y3.vp y3.vo.length y3.vc) ∧ w'.cell? ⟨w.heap.size + 1, 6, none⟩ = some (.slice y3.ep y3.eo.length y3.ec) ∧ w'.cell? ⟨w.heap.size + 1, 7, none⟩ = some (.slice y3.pp y3.po.length y3.pc) ∧ w'.cell? ⟨w.heap.size + 1, 8, none⟩ = some (.int .u64 y3.stamp) ∧ w'.cell? ⟨w.heap.size + 1, 9, none⟩ = some (.int .i64 y3.num)) (by kernel_rfl) hsc (fun hHeld => ?_)
          refine tkv 0 (.agg #[.int .i64 y3.kind, .string y3.temp, .string y3.ka, .string y3.kb, .int .i64 y3.iff, .slice y3.vp y3.vo.length y3.vc, .slice y3.ep y3.eo.length y3.ec, .slice y3.pp y3.po.length y3.pc, .int .u64 y3.stamp, .int .i64 y3.num]) hHeld ?_
          simp only [Act.put, sz]
          refine tkv 1 (.slice (some ⟨b, off, none⟩) ws.length cap) hHeld ?_
          simp only [Act.put, sz]
          refine tkv 2 (.int .i64 ((m2 : Int) + 1)) hHeld ?_
          simp only [Act.put, sz]
          refine take_val (i := 3) (.slice q (ws.length - (m2 + 1) : Nat) (cap - (m2 + 1))) rfl (by kernel_rfl) (by kernel_rfl) (by kernel_rfl) (fun _ _ _ h => h) (by rfl) (fun w hSw => by
            rw [← HQ.out]
            by_cases hcp : cap = m2 + 1
            · rw [if_pos hcp]
              go_simp
              all_goals simp [htn]
            · rw [if_neg hcp]
              go_simp
              all_goals simp [htn, hcp]) hHeld ?_
          simp only [Act.put, sz]
          refine wpAnyH_ready (rs := [4]) (by kernel_rfl) (by simp) ?_
          refine AllReadyH.cons (at_drop0 rfl) (fun K hK => ?_) AllReadyH.nil
          rw [if_pos (by rfl)]
          go_simp
          refine (HRT.out _ (bel_drewN (Below.refl _ _) 1)).mono ?_
          rintro e w7 ⟨z, ok, rfl, hoz, hzO, hb7⟩
          have hb7' : Below W5.heap.size W5 w7 := (bel_drewN (Below.refl W5.heap.size W5) 1).trans hb7
          have R7 := hid (R5.out.on hb7')
          have q7 := HSC.out w7 hb7'
          have HOZ := hid hoz
          have HZO := hid hzO
          obtain ⟨W4, hW4⟩ : ∃ W4, w7.setCells w.heap.size 0 [.int .i64 z.kind, .string z.temp, .string z.ka, .string z.kb, .int .i64 z.iff, .slice z.vp z.vo.length z.vc, .slice z.ep z.eo.length z.ec, .slice z.pp z.po.length z.pc, .int .u64 z.stamp, .int .i64 z.num] = W4 := ⟨_, rfl⟩
          obtain ⟨⟨g0, g1, g2, g3, g4, g5, g6, g7, g8, g9⟩, hown4, hbel4, q8⟩ := R7.out.leave W4 hW4
          have HW4 : Hid (w7.setCells w.heap.size 0 (#[.int .i64 z.kind, .string z.temp, .string z.ka, .string z.kb, .int .i64 z.iff, .slice z.vp z.vo.length z.vc, .slice z.ep z.eo.length z.ec, .slice z.pp z.po.length z.pc, .int .u64 z.stamp, .int .i64 z.num] : Array Value).toList = W4) := hid hW4
          have HOW := hid hown4
          have HBE := hid hbel4
          have HTH := hid R7.out.there
          clear hoz hzO hb7 hb7' hown4 hbel4 hW4
          go_wp2_with fail
          refine hK.out _ _ q7 (fun hHeld => ?_)
          clear hK K
          try simp only [Act.put, sz]
          refine tkv 5 (.agg #[.int .i64 z.kind, .string z.temp, .string z.ka, .string z.kb, .int .i64 z.iff, .slice z.vp z.vo.length z.vc, .slice z.ep z.eo.length z.ec, .slice z.pp z.po.length z.pc, .int .u64 z.stamp, .int .i64 z.num]) hHeld ?_
          simp only [Act.put, sz]
          refine tkv 6 (.bool ok) hHeld ?_
          simp only [Act.put, sz]
          refine wpAnyH_ready (rs := [7]) (by kernel_rfl) (by simp) ?_
          refine AllReadyH.cons (at_drop0 rfl) (fun K hK => ?_) AllReadyH.nil
          rw [if_pos (by rfl)]
          refine wp_store_mid 42 _ _ rfl w.heap.size 0 #[.int .i64 z.kind, .string z.temp, .string z.ka, .string z.kb, .int .i64 z.iff, .slice z.vp z.vo.length z.vc, .slice z.ep z.eo.length z.ec, .slice z.pp z.po.length z.pc, .int .u64 z.stamp, .int .i64 z.num] rfl rfl HTH.out Tryz.entSize (one_ex z) ?_
          rw [HW4.out]
          refine hK.out _ _ q8 (fun hHeld => ?_)
          clear hK K
          try simp only [Act.put]
          refine tkv 8 (.bool ok) hHeld ?_
          simp only [Act.put, sz]
          refine wpAnyH_done (by kernel_rfl) ?_ _
          clear hHeld
          go_wp2_with fail
          exact bodyPost_ret (v := .tuple #[.agg #[.int .i64 z.kind, .string z.temp, .string z.ka, .string z.kb, .int .i64 z.iff, .slice z.vp z.vo.length z.vc, .slice z.ep z.eo.length z.ec, .slice z.pp z.po.length z.pc, .int .u64 z.stamp, .int .i64 z.num], .bool ok]) (by simp [results, Tryz.results19, go_sem, g0, g1, g2, g3, g4, g5, g6, g7, g8, g9]) rfl ⟨⟨z, ok, rfl, fun h => HOW.out (HOZ.out h), HZO.out⟩, HBE.out⟩
        have hnz : (m2 : Int) + 1 < (ws.length : Int) := by omega
        obtain ⟨x3, hx3⟩ : ∃ x3, ws[m2 + 1]? = some x3 := ⟨_, List.getElem?_eq_getElem hn⟩
        have cx3 : W5.cell? ⟨b, off + (m2 + 1), none⟩ = some (.string x3) := HTX.out W5 (m2 + 1) x3 hx3 R5.out.bel
        have HW0 : Hid ((bytesL (ws.drop (m2 + 1)))[0]? = some x3.data.toList) := hid (by rw [bytes_drop hx3]; rfl)
        clear hx3
        by_cases hif : x3.data.toList = [105, 102]
        case neg =>
          have hif2 : (x3.toList == [105, 102]) = false := by rw [toList_data]; exact beq_eq_false_iff_ne.2 hif
          have HRS : Hid (O = restR y3.en (bytesL (ws.drop (m2 + 1)))) := hid (by
            rw [HT5.out, tlr_rest (by omega) (by omega) (by omega) (by omega) (by omega) (fun q => hif (by
              have := q.2.2
              rw [HW0.out] at this
              exact Option.some.inj this))])
          clear hk hif
          have htn : ((m2 : Int) + 1).toNat = m2 + 1 := by omega
          obtain ⟨q, hq⟩ : ∃ q : Option Addr, (if cap = m2 + 1 then some ⟨b, off, none⟩ else some ⟨b, off + (m2 + 1), none⟩) = q := ⟨_, rfl⟩
          have HQ := hid hq
          have HRT : Hid (∀ V, Below W5.heap.size W5 V → Calls Tryz.prog 43 #[.agg #[.int .i64 y3.kind, .string y3.temp, .string y3.ka, .string y3.kb, .int .i64 y3.iff, .slice y3.vp y3.vo.length y3.vc, .slice y3.ep y3.eo.length y3.ec, .slice y3.pp y3.po.length y3.pc, .int .u64 y3.stamp, .int .i64 y3.num], .slice q (ws.length - (m2 + 1) : Nat) (cap - (m2 + 1))] V fun e w' => ∃ (z : Ex) (ok : Bool), e = .returned (.tuple #[.agg #[.int .i64 z.kind, .string z.temp, .string z.ka, .string z.kb, .int .i64 z.iff, .slice z.vp z.vo.length z.vc, .slice z.ep z.eo.length z.ec, .slice z.pp z.po.length z.pc, .int .u64 z.stamp, .int .i64 z.num], .bool ok]) ∧ (ok = true → OwnQ w.heap.size z w') ∧ O = (if ok = true then some z.en else none) ∧ Below V.heap.size V w') := hid fun V hV => by
            have htx : TxtAt V q (ws.drop (m2 + 1)) := by
              rw [← HQ.out]
              split
              · exact Or.inl (List.drop_eq_nil_of_le (by omega))
              · exact txt_drop (HTV.out V (R5.out.bel.trans (hV.mono R5.out.bel.size))) rfl _
            have h := rrest16_any y3 HB5.out.bare q (cap - (m2 + 1)) (ws.drop (m2 + 1)) V HB5.out.rng htx (by rw [List.length_drop]; omega) (by rw [List.length_drop]; omega) fun x hx => HS.out x (List.mem_of_mem_drop hx)
            rw [List.length_drop] at h
            refine h.mono ?_
            rintro e w' ⟨⟨z, ok, rfl, ho, hz⟩, hb⟩
            have hsz := hV.size
            have hbs := R5.out.bel.size
            exact ⟨z, ok, rfl, fun h => (ho h).weak (by omega), by rw [HRS.out]; exact hz, hb⟩
          have HSC : Hid (∀ w', Below W5.heap.size W5 w' → w'.cell? ⟨w.heap.size + 1, 0, none⟩ = some (.int .i64 y3.kind) ∧ w'.cell? ⟨w.heap.size + 1, 1, none⟩ = some (.string y3.temp) ∧ w'.cell? ⟨w.heap.size + 1, 2, none⟩ = some (.string y3.ka) ∧ w'.cell? ⟨w.heap.size + 1, 3, none⟩ = some (.string y3.kb) ∧ w'.cell? ⟨w.heap.size + 1, 4, none⟩ = some (.int .i64 y3.iff) ∧ w'.cell? ⟨w.heap.size + 1, 5, none⟩ = some (.slice y3.vp y3.vo.length y3.vc) ∧ w'.cell? ⟨w.heap.size + 1, 6, none⟩ = some (.slice y3.ep y3.eo.length y3.ec) ∧ w'.cell? ⟨w.heap.size + 1, 7, none⟩ = some (.slice y3.pp y3.po.length y3.pc) ∧ w'.cell? ⟨w.heap.size + 1, 8, none⟩ = some (.int .u64 y3.stamp) ∧ w'.cell? ⟨w.heap.size + 1, 9, none⟩ = some (.int .i64 y3.num)) := hid fun w' h => (R5.out.on h).cells
          have hsc := HSC.out W5.drew (bel_drewN (Below.refl _ _) 1)
          clear hq
          go_upto_region 43 with fail
          refine wp_region_held_drew (S := fun w' => w'.cell? ⟨w.heap.size + 1, 0, none⟩ = some (.int .i64 y3.kind) ∧ w'.cell? ⟨w.heap.size + 1, 1, none⟩ = some (.string y3.temp) ∧ w'.cell? ⟨w.heap.size + 1, 2, none⟩ = some (.string y3.ka) ∧ w'.cell? ⟨w.heap.size + 1, 3, none⟩ = some (.string y3.kb) ∧ w'.cell? ⟨w.heap.size + 1, 4, none⟩ = some (.int .i64 y3.iff) ∧ w'.cell? ⟨w.heap.size + 1, 5, none⟩ = some (.slice y3.vp y3.vo.length y3.vc) ∧ w'.cell? ⟨w.heap.size + 1, 6, none⟩ = some (.slice y3.ep y3.eo.length y3.ec) ∧ w'.cell? ⟨w.heap.size + 1, 7, none⟩ = some (.slice y3.pp y3.po.length y3.pc) ∧ w'.cell? ⟨w.heap.size + 1, 8, none⟩ = some (.int .u64 y3.stamp) ∧ w'.cell? ⟨w.heap.size + 1, 9, none⟩ = some (.int .i64 y3.num)) (by kernel_rfl) hsc (fun hHeld => ?_)
          refine tkv 0 (.agg #[.int .i64 y3.kind, .string y3.temp, .string y3.ka, .string y3.kb, .int .i64 y3.iff, .slice y3.vp y3.vo.length y3.vc, .slice y3.ep y3.eo.length y3.ec, .slice y3.pp y3.po.length y3.pc, .int .u64 y3.stamp, .int .i64 y3.num]) hHeld ?_
          simp only [Act.put, sz]
          refine tkv 1 (.slice (some ⟨b, off, none⟩) ws.length cap) hHeld ?_
          simp only [Act.put, sz]
          refine tkv 2 (.int .i64 ((m2 : Int) + 1)) hHeld ?_
          simp only [Act.put, sz]
          refine take_val (i := 3) (.slice q (ws.length - (m2 + 1) : Nat) (cap - (m2 + 1))) rfl (by kernel_rfl) (by kernel_rfl) (by kernel_rfl) (fun _ _ _ h => h) (by rfl) (fun w hSw => by
            rw [← HQ.out]
            by_cases hcp : cap = m2 + 1
            · rw [if_pos hcp]
              go_simp
              all_goals simp [htn]
            · rw [if_neg hcp]
              go_simp
              all_goals simp [htn, hcp]) hHeld ?_
          simp only [Act.put, sz]
          refine wpAnyH_ready (rs := [4]) (by kernel_rfl) (by simp) ?_
          refine AllReadyH.cons (at_drop0 rfl) (fun K hK => ?_) AllReadyH.nil
          rw [if_pos (by rfl)]
          go_simp
          refine (HRT.out _ (bel_drewN (Below.refl _ _) 1)).mono ?_
          rintro e w7 ⟨z, ok, rfl, hoz, hzO, hb7⟩
          have hb7' : Below W5.heap.size W5 w7 := (bel_drewN (Below.refl W5.heap.size W5) 1).trans hb7
          have R7 := hid (R5.out.on hb7')
          have q7 := HSC.out w7 hb7'
          have HOZ := hid hoz
          have HZO := hid hzO
          obtain ⟨W4, hW4⟩ : ∃ W4, w7.setCells w.heap.size 0 [.int .i64 z.kind, .string z.temp, .string z.ka, .string z.kb, .int .i64 z.iff, .slice z.vp z.vo.length z.vc, .slice z.ep z.eo.length z.ec, .slice z.pp z.po.length z.pc, .int .u64 z.stamp, .int .i64 z.num] = W4 := ⟨_, rfl⟩
          obtain ⟨⟨g0, g1, g2, g3, g4, g5, g6, g7, g8, g9⟩, hown4, hbel4, q8⟩ := R7.out.leave W4 hW4
          have HW4 : Hid (w7.setCells w.heap.size 0 (#[.int .i64 z.kind, .string z.temp, .string z.ka, .string z.kb, .int .i64 z.iff, .slice z.vp z.vo.length z.vc, .slice z.ep z.eo.length z.ec, .slice z.pp z.po.length z.pc, .int .u64 z.stamp, .int .i64 z.num] : Array Value).toList = W4) := hid hW4
          have HOW := hid hown4
          have HBE := hid hbel4
          have HTH := hid R7.out.there
          clear hoz hzO hb7 hb7' hown4 hbel4 hW4
          go_wp2_with fail
          refine hK.out _ _ q7 (fun hHeld => ?_)
          clear hK K
          try simp only [Act.put, sz]
          refine tkv 5 (.agg #[.int .i64 z.kind, .string z.temp, .string z.ka, .string z.kb, .int .i64 z.iff, .slice z.vp z.vo.length z.vc, .slice z.ep z.eo.length z.ec, .slice z.pp z.po.length z.pc, .int .u64 z.stamp, .int .i64 z.num]) hHeld ?_
          simp only [Act.put, sz]
          refine tkv 6 (.bool ok) hHeld ?_
          simp only [Act.put, sz]
          refine wpAnyH_ready (rs := [7]) (by kernel_rfl) (by simp) ?_
          refine AllReadyH.cons (at_drop0 rfl) (fun K hK => ?_) AllReadyH.nil
          rw [if_pos (by rfl)]
          refine wp_store_mid 42 _ _ rfl w.heap.size 0 #[.int .i64 z.kind, .string z.temp, .string z.ka, .string z.kb, .int .i64 z.iff, .slice z.vp z.vo.length z.vc, .slice z.ep z.eo.length z.ec, .slice z.pp z.po.length z.pc, .int .u64 z.stamp, .int .i64 z.num] rfl rfl HTH.out Tryz.entSize (one_ex z) ?_
          rw [HW4.out]
          refine hK.out _ _ q8 (fun hHeld => ?_)
          clear hK K
          try simp only [Act.put]
          refine tkv 8 (.bool ok) hHeld ?_
          simp only [Act.put, sz]
          refine wpAnyH_done (by kernel_rfl) ?_ _
          clear hHeld
          go_wp2_with fail
          exact bodyPost_ret (v := .tuple #[.agg #[.int .i64 z.kind, .string z.temp, .string z.ka, .string z.kb, .int .i64 z.iff, .slice z.vp z.vo.length z.vc, .slice z.ep z.eo.length z.ec, .slice z.pp z.po.length z.pc, .int .u64 z.stamp, .int .i64 z.num], .bool ok]) (by simp [results, Tryz.results19, go_sem, g0, g1, g2, g3, g4, g5, g6, g7, g8, g9]) rfl ⟨⟨z, ok, rfl, fun h => HOW.out (HOZ.out h), HZO.out⟩, HBE.out⟩
        have hif2 : (x3.toList == [105, 102]) = true := by rw [toList_data, hif]; rfl
        have HTL : Hid (O = (smallR (bytesL (ws.drop (m2 + 1)))[1]?).bind fun n => if n = 0 then none else restR { y3.en with iff := (n : Int) } ((bytesL (ws.drop (m2 + 1))).drop 2)) := hid (by
          rw [HT5.out, tlr_if (by omega) (by omega) (by rw [HW0.out, hif])])
        have HSM : Hid (Calls Tryz.prog 42 #[.slice (some ⟨b, off, none⟩) ws.length cap, .int .i64 ((m2 : Int) + 1 + 1)] W5 fun e w' => e = .returned (numV (smallR ((ws.map (·.data.toList))[m2 + 1 + 1]?))) ∧ w' = W5) := hid (rsmall16_any (some ⟨b, off, none⟩) cap ws (m2 + 1 + 1) W5 (HTV.out _ R5.out.bel) HS.out (by omega))
        obtain ⟨so, hso⟩ : ∃ so, smallR ((ws.map (·.data.toList))[m2 + 1 + 1]?) = so := ⟨_, rfl⟩
        have hsl : ((so.getD 0 : Nat) : Int) ≤ 999999999 := by
          cases so with
          | none => show (0 : Int) ≤ _; decide
          | some n => have := smallR_le hso; show (n : Int) ≤ _; omega
        have hlen : ∀ n, so = some n → m2 + 1 + 1 < ws.length := fun n hn => by
          rw [hn] at hso
          rcases Nat.lt_or_ge (m2 + 1 + 1) ws.length with h | h
          · exact h
          · rw [List.getElem?_eq_none (by rw [List.length_map]; exact h)] at hso
            cases hso
        have HLEN := hid hlen
        rw [bytes_at1, hso] at HTL
        rw [hso] at HSM
        unfold numV at HSM
        obtain ⟨sn, hsn⟩ : ∃ sn : Nat, so.getD 0 = sn := ⟨_, rfl⟩
        rw [hsn] at HSM hsl
        have HSN := hid hsn
        clear hsn hso hif hk hlen
        have HRG := hid R5.out.range
        have HTH := hid R5.out.there
        obtain ⟨W4, hW4⟩ : ∃ W4, W5.setCells w.heap.size 0 [.int .i64 y3.kind, .string y3.temp, .string y3.ka, .string y3.kb, .int .i64 y3.iff, .slice y3.vp y3.vo.length y3.vc, .slice y3.ep y3.eo.length y3.ec, .slice y3.pp y3.po.length y3.pc, .int .u64 y3.stamp, .int .i64 y3.num] = W4 := ⟨_, rfl⟩
        obtain ⟨⟨g0, g1, g2, g3, g4, g5, g6, g7, g8, g9⟩, hown4, hbel4⟩ := R5.out.fin W4 hW4
        have HW4 : Hid (W5.setCells w.heap.size 0 (#[.int .i64 y3.kind, .string y3.temp, .string y3.ka, .string y3.kb, .int .i64 y3.iff, .slice y3.vp y3.vo.length y3.vc, .slice y3.ep y3.eo.length y3.ec, .slice y3.pp y3.po.length y3.pc, .int .u64 y3.stamp, .int .i64 y3.num] : Array Value).toList = W4) := hid hW4
        have HOW := hid hown4
        have HBE := hid hbel4
        clear hown4 hbel4 hW4
        have f1 := R5.out.open 4
        have z1 : W5.cell? ⟨w.heap.size + 1, 4, none⟩ = some (.int .i64 y3.iff) := by rw [Lib.cell_of_heap R5.out.box]; rfl
        obtain ⟨y4, hzz⟩ : ∃ q : Ex, q = { y3 with iff := (sn : Int) } := ⟨_, rfl⟩
        have hbr : Bare y4 5 := by rw [hzz]; exact HB5.out.iff _ (by omega) hsl
        obtain ⟨W6, hW6⟩ : ∃ W', W5.setCell ⟨w.heap.size + 1, 4, none⟩ (.int .i64 (sn : Int)) = W' := ⟨_, rfl⟩
        have R6 : Hid (RsSt w (w.heap.size + 1) w.heap.size W6 y4) := hid (by
          rw [← hW6]
          exact R5.out.turn 4 _ (hbr.own _ _) (by rw [hzz]; rfl))
        have HB6 := hid hbr
        have HZZ := hid hzz
        clear hbr hzz
        go_wp2_with fail
        refine HSM.out.mono ?_
        rintro e w7 ⟨rfl, rfl⟩
        clear c0
        cases so with
        | none =>
          have HNO : Hid (O = none) := hid (by rw [HTL.out]; rfl)
          go_upto_region 40 with fail
          clear hW6 f1 z1
          go_wp2_with (first | (refine wpList_load_as rfl 42 _ rfl (w.heap.size + 1) 0 rfl [.int .i64 y3.kind, .string y3.temp, .string y3.ka, .string y3.kb, .int .i64 y3.iff, .slice y3.vp y3.vo.length y3.vc, .slice y3.ep y3.eo.length y3.ec, .slice y3.pp y3.po.length y3.pc, .int .u64 y3.stamp, .int .i64 y3.num] _ HRG.out Tryz.underlying42 rfl Tryz.entSize (.agg #[.int .i64 y3.kind, .string y3.temp, .string y3.ka, .string y3.kb, .int .i64 y3.iff, .slice y3.vp y3.vo.length y3.vc, .slice y3.ep y3.eo.length y3.ec, .slice y3.pp y3.po.length y3.pc, .int .u64 y3.stamp, .int .i64 y3.num]) rfl ?_) | (refine wpList_store_as rfl 42 _ _ rfl w.heap.size 0 #[.int .i64 y3.kind, .string y3.temp, .string y3.ka, .string y3.kb, .int .i64 y3.iff, .slice y3.vp y3.vo.length y3.vc, .slice y3.ep y3.eo.length y3.ec, .slice y3.pp y3.po.length y3.pc, .int .u64 y3.stamp, .int .i64 y3.num] rfl rfl HTH.out Tryz.entSize (one_ex y3) W4 HW4.out ?_))
          exact bodyPost_ret (v := .tuple #[.agg #[.int .i64 y3.kind, .string y3.temp, .string y3.ka, .string y3.kb, .int .i64 y3.iff, .slice y3.vp y3.vo.length y3.vc, .slice y3.ep y3.eo.length y3.ec, .slice y3.pp y3.po.length y3.pc, .int .u64 y3.stamp, .int .i64 y3.num], .bool false]) (by simp [results, Tryz.results19, go_sem, g0, g1, g2, g3, g4, g5, g6, g7, g8, g9]) rfl ⟨⟨y3, false, rfl, fun _ => HOW.out, by rw [HNO.out]; rfl⟩, HBE.out⟩
        | some n =>
          have HN : Hid (n = sn) := hid HSN.out
          by_cases hq : sn = 0
          · subst hq
            have HNO : Hid (O = none) := hid (by rw [HTL.out, HN.out]; rfl)
            go_upto_region 40 with fail
            clear hW6 f1 z1
            go_wp2_with (first | (refine wpList_load_as rfl 42 _ rfl (w.heap.size + 1) 0 rfl [.int .i64 y3.kind, .string y3.temp, .string y3.ka, .string y3.kb, .int .i64 y3.iff, .slice y3.vp y3.vo.length y3.vc, .slice y3.ep y3.eo.length y3.ec, .slice y3.pp y3.po.length y3.pc, .int .u64 y3.stamp, .int .i64 y3.num] _ HRG.out Tryz.underlying42 rfl Tryz.entSize (.agg #[.int .i64 y3.kind, .string y3.temp, .string y3.ka, .string y3.kb, .int .i64 y3.iff, .slice y3.vp y3.vo.length y3.vc, .slice y3.ep y3.eo.length y3.ec, .slice y3.pp y3.po.length y3.pc, .int .u64 y3.stamp, .int .i64 y3.num]) rfl ?_) | (refine wpList_store_as rfl 42 _ _ rfl w.heap.size 0 #[.int .i64 y3.kind, .string y3.temp, .string y3.ka, .string y3.kb, .int .i64 y3.iff, .slice y3.vp y3.vo.length y3.vc, .slice y3.ep y3.eo.length y3.ec, .slice y3.pp y3.po.length y3.pc, .int .u64 y3.stamp, .int .i64 y3.num] rfl rfl HTH.out Tryz.entSize (one_ex y3) W4 HW4.out ?_))
            exact bodyPost_ret (v := .tuple #[.agg #[.int .i64 y3.kind, .string y3.temp, .string y3.ka, .string y3.kb, .int .i64 y3.iff, .slice y3.vp y3.vo.length y3.vc, .slice y3.ep y3.eo.length y3.ec, .slice y3.pp y3.po.length y3.pc, .int .u64 y3.stamp, .int .i64 y3.num], .bool false]) (by simp [results, Tryz.results19, go_sem, g0, g1, g2, g3, g4, g5, g6, g7, g8, g9]) rfl ⟨⟨y3, false, rfl, fun _ => HOW.out, by rw [HNO.out]; rfl⟩, HBE.out⟩
          · have hqz : ((sn : Int) == 0) = false := by rw [beq_eq_false_iff_ne]; omega
            have hm3 := HLEN.out n rfl
            have hcy : (m2 : Int) + 1 + 2 ≤ (ws.length : Int) := by omega
            have hcy3 : (0 : Int) ≤ (m2 : Int) + 1 + 2 := by omega
            have HRS : Hid (O = restR y4.en (bytesL (ws.drop (m2 + 1 + 2)))) := hid (by
              rw [HTL.out, Option.bind_some, HN.out, if_neg hq, HZZ.out]
              have : (bytesL (ws.drop (m2 + 1))).drop 2 = bytesL (ws.drop (m2 + 1 + 2)) := by unfold bytesL; rw [← List.map_drop, List.drop_drop]
              rw [this]; rfl)
            clear hq
            have htn : ((m2 : Int) + 1 + 2).toNat = m2 + 1 + 2 := by omega
            obtain ⟨q, hq⟩ : ∃ q : Option Addr, (if cap = m2 + 1 + 2 then some ⟨b, off, none⟩ else some ⟨b, off + (m2 + 1 + 2), none⟩) = q := ⟨_, rfl⟩
            have HQ := hid hq
            have HRT : Hid (∀ V, Below W6.heap.size W6 V → Calls Tryz.prog 43 #[.agg #[.int .i64 y4.kind, .string y4.temp, .string y4.ka, .string y4.kb, .int .i64 y4.iff, .slice y4.vp y4.vo.length y4.vc, .slice y4.ep y4.eo.length y4.ec, .slice y4.pp y4.po.length y4.pc, .int .u64 y4.stamp, .int .i64 y4.num], .slice q (ws.length - (m2 + 1 + 2) : Nat) (cap - (m2 + 1 + 2))] V fun e w' => ∃ (z : Ex) (ok : Bool), e = .returned (.tuple #[.agg #[.int .i64 z.kind, .string z.temp, .string z.ka, .string z.kb, .int .i64 z.iff, .slice z.vp z.vo.length z.vc, .slice z.ep z.eo.length z.ec, .slice z.pp z.po.length z.pc, .int .u64 z.stamp, .int .i64 z.num], .bool ok]) ∧ (ok = true → OwnQ w.heap.size z w') ∧ O = (if ok = true then some z.en else none) ∧ Below V.heap.size V w') := hid fun V hV => by
              have htx : TxtAt V q (ws.drop (m2 + 1 + 2)) := by
                rw [← HQ.out]
                split
                · exact Or.inl (List.drop_eq_nil_of_le (by omega))
                · exact txt_drop (HTV.out V (R6.out.bel.trans (hV.mono R6.out.bel.size))) rfl _
              have h := rrest16_any y4 HB6.out.bare q (cap - (m2 + 1 + 2)) (ws.drop (m2 + 1 + 2)) V HB6.out.rng htx (by rw [List.length_drop]; omega) (by rw [List.length_drop]; omega) fun x hx => HS.out x (List.mem_of_mem_drop hx)
              rw [List.length_drop] at h
              refine h.mono ?_
              rintro e w' ⟨⟨z, ok, rfl, ho, hz⟩, hb⟩
              have hsz := hV.size
              have hbs := R6.out.bel.size
              exact ⟨z, ok, rfl, fun h => (ho h).weak (by omega), by rw [HRS.out]; exact hz, hb⟩
            have HSC : Hid (∀ w', Below W6.heap.size W6 w' → w'.cell? ⟨w.heap.size + 1, 0, none⟩ = some (.int .i64 y4.kind) ∧ w'.cell? ⟨w.heap.size + 1, 1, none⟩ = some (.string y4.temp) ∧ w'.cell? ⟨w.heap.size + 1, 2, none⟩ = some (.string y4.ka) ∧ w'.cell? ⟨w.heap.size + 1, 3, none⟩ = some (.string y4.kb) ∧ w'.cell? ⟨w.heap.size + 1, 4, none⟩ = some (.int .i64 y4.iff) ∧ w'.cell? ⟨w.heap.size + 1, 5, none⟩ = some (.slice y4.vp y4.vo.length y4.vc) ∧ w'.cell? ⟨w.heap.size + 1, 6, none⟩ = some (.slice y4.ep y4.eo.length y4.ec) ∧ w'.cell? ⟨w.heap.size + 1, 7, none⟩ = some (.slice y4.pp y4.po.length y4.pc) ∧ w'.cell? ⟨w.heap.size + 1, 8, none⟩ = some (.int .u64 y4.stamp) ∧ w'.cell? ⟨w.heap.size + 1, 9, none⟩ = some (.int .i64 y4.num)) := hid fun w' h => (R6.out.on h).cells
            have hsc := HSC.out W6.drew (bel_drewN (Below.refl _ _) 1)
            clear hq
            go_upto_region 43 with fail
            try rw [hW6]
            clear hW6 f1 z1
            refine wp_region_held_drew (S := fun w' => w'.cell? ⟨w.heap.size + 1, 0, none⟩ = some (.int .i64 y4.kind) ∧ w'.cell? ⟨w.heap.size + 1, 1, none⟩ = some (.string y4.temp) ∧ w'.cell? ⟨w.heap.size + 1, 2, none⟩ = some (.string y4.ka) ∧ w'.cell? ⟨w.heap.size + 1, 3, none⟩ = some (.string y4.kb) ∧ w'.cell? ⟨w.heap.size + 1, 4, none⟩ = some (.int .i64 y4.iff) ∧ w'.cell? ⟨w.heap.size + 1, 5, none⟩ = some (.slice y4.vp y4.vo.length y4.vc) ∧ w'.cell? ⟨w.heap.size + 1, 6, none⟩ = some (.slice y4.ep y4.eo.length y4.ec) ∧ w'.cell? ⟨w.heap.size + 1, 7, none⟩ = some (.slice y4.pp y4.po.length y4.pc) ∧ w'.cell? ⟨w.heap.size + 1, 8, none⟩ = some (.int .u64 y4.stamp) ∧ w'.cell? ⟨w.heap.size + 1, 9, none⟩ = some (.int .i64 y4.num)) (by kernel_rfl) hsc (fun hHeld => ?_)
            refine tkv 0 (.agg #[.int .i64 y4.kind, .string y4.temp, .string y4.ka, .string y4.kb, .int .i64 y4.iff, .slice y4.vp y4.vo.length y4.vc, .slice y4.ep y4.eo.length y4.ec, .slice y4.pp y4.po.length y4.pc, .int .u64 y4.stamp, .int .i64 y4.num]) hHeld ?_
            simp only [Act.put, sz]
            refine tkv 1 (.slice (some ⟨b, off, none⟩) ws.length cap) hHeld ?_
            simp only [Act.put, sz]
            refine tkv 2 (.int .i64 ((m2 : Int) + 1 + 2)) hHeld ?_
            simp only [Act.put, sz]
            refine take_val (i := 3) (.slice q (ws.length - (m2 + 1 + 2) : Nat) (cap - (m2 + 1 + 2))) rfl (by kernel_rfl) (by kernel_rfl) (by kernel_rfl) (fun _ _ _ h => h) (by rfl) (fun w hSw => by
              rw [← HQ.out]
              by_cases hcp : cap = m2 + 1 + 2
              · rw [if_pos hcp]
                go_simp
                all_goals simp [htn]
              · rw [if_neg hcp]
                go_simp
                all_goals simp [htn, hcp]) hHeld ?_
            simp only [Act.put, sz]
            refine wpAnyH_ready (rs := [4]) (by kernel_rfl) (by simp) ?_
            refine AllReadyH.cons (at_drop0 rfl) (fun K hK => ?_) AllReadyH.nil
            rw [if_pos (by rfl)]
            go_simp
            refine (HRT.out _ (bel_drewN (Below.refl _ _) 1)).mono ?_
            rintro e w7 ⟨z, ok, rfl, hoz, hzO, hb7⟩
            have hb7' : Below W6.heap.size W6 w7 := (bel_drewN (Below.refl W6.heap.size W6) 1).trans hb7
            have R7 := hid (R6.out.on hb7')
            have q7 := HSC.out w7 hb7'
            have HOZ := hid hoz
            have HZO := hid hzO
            obtain ⟨W4, hW4⟩ : ∃ W4, w7.setCells w.heap.size 0 [.int .i64 z.kind, .string z.temp, .string z.ka, .string z.kb, .int .i64 z.iff, .slice z.vp z.vo.length z.vc, .slice z.ep z.eo.length z.ec, .slice z.pp z.po.length z.pc, .int .u64 z.stamp, .int .i64 z.num] = W4 := ⟨_, rfl⟩
            obtain ⟨⟨g0, g1, g2, g3, g4, g5, g6, g7, g8, g9⟩, hown4, hbel4, q8⟩ := R7.out.leave W4 hW4
            have HW4 : Hid (w7.setCells w.heap.size 0 (#[.int .i64 z.kind, .string z.temp, .string z.ka, .string z.kb, .int .i64 z.iff, .slice z.vp z.vo.length z.vc, .slice z.ep z.eo.length z.ec, .slice z.pp z.po.length z.pc, .int .u64 z.stamp, .int .i64 z.num] : Array Value).toList = W4) := hid hW4
            have HOW := hid hown4
            have HBE := hid hbel4
            have HTH := hid R7.out.there
            clear hoz hzO hb7 hb7' hown4 hbel4 hW4
            go_wp2_with fail
            refine hK.out _ _ q7 (fun hHeld => ?_)
            clear hK K
            try simp only [Act.put, sz]
            refine tkv 5 (.agg #[.int .i64 z.kind, .string z.temp, .string z.ka, .string z.kb, .int .i64 z.iff, .slice z.vp z.vo.length z.vc, .slice z.ep z.eo.length z.ec, .slice z.pp z.po.length z.pc, .int .u64 z.stamp, .int .i64 z.num]) hHeld ?_
            simp only [Act.put, sz]
            refine tkv 6 (.bool ok) hHeld ?_
            simp only [Act.put, sz]
            refine wpAnyH_ready (rs := [7]) (by kernel_rfl) (by simp) ?_
            refine AllReadyH.cons (at_drop0 rfl) (fun K hK => ?_) AllReadyH.nil
            rw [if_pos (by rfl)]
            refine wp_store_mid 42 _ _ rfl w.heap.size 0 #[.int .i64 z.kind, .string z.temp, .string z.ka, .string z.kb, .int .i64 z.iff, .slice z.vp z.vo.length z.vc, .slice z.ep z.eo.length z.ec, .slice z.pp z.po.length z.pc, .int .u64 z.stamp, .int .i64 z.num] rfl rfl HTH.out Tryz.entSize (one_ex z) ?_
            rw [HW4.out]
            refine hK.out _ _ q8 (fun hHeld => ?_)
            clear hK K
            try simp only [Act.put]
            refine tkv 8 (.bool ok) hHeld ?_
            simp only [Act.put, sz]
            refine wpAnyH_done (by kernel_rfl) ?_ _
            clear hHeld
            go_wp2_with fail
            exact bodyPost_ret (v := .tuple #[.agg #[.int .i64 z.kind, .string z.temp, .string z.ka, .string z.kb, .int .i64 z.iff, .slice z.vp z.vo.length z.vc, .slice z.ep z.eo.length z.ec, .slice z.pp z.po.length z.pc, .int .u64 z.stamp, .int .i64 z.num], .bool ok]) (by simp [results, Tryz.results19, go_sem, g0, g1, g2, g3, g4, g5, g6, g7, g8, g9]) rfl ⟨⟨z, ok, rfl, fun h => HOW.out (HOZ.out h), HZO.out⟩, HBE.out⟩
      · as_aux_lemma =>
        have c0 : W5.cell? ⟨w.heap.size + 1, 0, none⟩ = some (.int .i64 6) := by rw [R5.out.cells.1, HB5.out.kind]; rfl
        have HTL : Hid (O = if bytesL (ws.drop (m2 + 1)) = [] then some y3.en else none) := hid (by
          have hk : y3.en.kind = 6 := HB5.out.kind
          rw [HT5.out, tlr_plain (by rw [hk]; decide)])
        go_upto_region 36 with fail
        clear c0
        by_cases hq : m2 + 1 = ws.length
        · have hqz : ((m2 : Int) + 1 == (ws.length : Int)) = true := by rw [beq_iff_eq]; omega
          have HYES : Hid (O = some y3.en) := hid (by rw [HTL.out, if_pos (bytes_none (by omega))])
          clear hq
          have HRG := hid R5.out.range
          have HTH := hid R5.out.there
          obtain ⟨W4, hW4⟩ : ∃ W4, W5.setCells w.heap.size 0 [.int .i64 y3.kind, .string y3.temp, .string y3.ka, .string y3.kb, .int .i64 y3.iff, .slice y3.vp y3.vo.length y3.vc, .slice y3.ep y3.eo.length y3.ec, .slice y3.pp y3.po.length y3.pc, .int .u64 y3.stamp, .int .i64 y3.num] = W4 := ⟨_, rfl⟩
          obtain ⟨⟨g0, g1, g2, g3, g4, g5, g6, g7, g8, g9⟩, hown4, hbel4⟩ := R5.out.fin W4 hW4
          have HW4 : Hid (W5.setCells w.heap.size 0 (#[.int .i64 y3.kind, .string y3.temp, .string y3.ka, .string y3.kb, .int .i64 y3.iff, .slice y3.vp y3.vo.length y3.vc, .slice y3.ep y3.eo.length y3.ec, .slice y3.pp y3.po.length y3.pc, .int .u64 y3.stamp, .int .i64 y3.num] : Array Value).toList = W4) := hid hW4
          have HOW := hid hown4
          have HBE := hid hbel4
          clear hown4 hbel4 hW4
          go_wp2_with (first | (refine wpList_load_as rfl 42 _ rfl (w.heap.size + 1) 0 rfl [.int .i64 y3.kind, .string y3.temp, .string y3.ka, .string y3.kb, .int .i64 y3.iff, .slice y3.vp y3.vo.length y3.vc, .slice y3.ep y3.eo.length y3.ec, .slice y3.pp y3.po.length y3.pc, .int .u64 y3.stamp, .int .i64 y3.num] _ HRG.out Tryz.underlying42 rfl Tryz.entSize (.agg #[.int .i64 y3.kind, .string y3.temp, .string y3.ka, .string y3.kb, .int .i64 y3.iff, .slice y3.vp y3.vo.length y3.vc, .slice y3.ep y3.eo.length y3.ec, .slice y3.pp y3.po.length y3.pc, .int .u64 y3.stamp, .int .i64 y3.num]) rfl ?_) | (refine wpList_store_as rfl 42 _ _ rfl w.heap.size 0 #[.int .i64 y3.kind, .string y3.temp, .string y3.ka, .string y3.kb, .int .i64 y3.iff, .slice y3.vp y3.vo.length y3.vc, .slice y3.ep y3.eo.length y3.ec, .slice y3.pp y3.po.length y3.pc, .int .u64 y3.stamp, .int .i64 y3.num] rfl rfl HTH.out Tryz.entSize (one_ex y3) W4 HW4.out ?_))
          exact bodyPost_ret (v := .tuple #[.agg #[.int .i64 y3.kind, .string y3.temp, .string y3.ka, .string y3.kb, .int .i64 y3.iff, .slice y3.vp y3.vo.length y3.vc, .slice y3.ep y3.eo.length y3.ec, .slice y3.pp y3.po.length y3.pc, .int .u64 y3.stamp, .int .i64 y3.num], .bool true]) (by simp [results, Tryz.results19, go_sem, g0, g1, g2, g3, g4, g5, g6, g7, g8, g9]) rfl ⟨⟨y3, true, rfl, fun _ => HOW.out, by rw [HYES.out]; rfl⟩, HBE.out⟩
        · have hqz : ((m2 : Int) + 1 == (ws.length : Int)) = false := by rw [beq_eq_false_iff_ne]; omega
          have HNO : Hid (O = none) := hid (by
            rw [HTL.out, if_neg]
            intro q
            have := congrArg List.length q
            rw [bytes_len] at this
            simp at this
            omega)
          clear hq
          have HRG := hid R5.out.range
          have HTH := hid R5.out.there
          obtain ⟨W4, hW4⟩ : ∃ W4, W5.setCells w.heap.size 0 [.int .i64 y3.kind, .string y3.temp, .string y3.ka, .string y3.kb, .int .i64 y3.iff, .slice y3.vp y3.vo.length y3.vc, .slice y3.ep y3.eo.length y3.ec, .slice y3.pp y3.po.length y3.pc, .int .u64 y3.stamp, .int .i64 y3.num] = W4 := ⟨_, rfl⟩
          obtain ⟨⟨g0, g1, g2, g3, g4, g5, g6, g7, g8, g9⟩, hown4, hbel4⟩ := R5.out.fin W4 hW4
          have HW4 : Hid (W5.setCells w.heap.size 0 (#[.int .i64 y3.kind, .string y3.temp, .string y3.ka, .string y3.kb, .int .i64 y3.iff, .slice y3.vp y3.vo.length y3.vc, .slice y3.ep y3.eo.length y3.ec, .slice y3.pp y3.po.length y3.pc, .int .u64 y3.stamp, .int .i64 y3.num] : Array Value).toList = W4) := hid hW4
          have HOW := hid hown4
          have HBE := hid hbel4
          clear hown4 hbel4 hW4
          go_wp2_with (first | (refine wpList_load_as rfl 42 _ rfl (w.heap.size + 1) 0 rfl [.int .i64 y3.kind, .string y3.temp, .string y3.ka, .string y3.kb, .int .i64 y3.iff, .slice y3.vp y3.vo.length y3.vc, .slice y3.ep y3.eo.length y3.ec, .slice y3.pp y3.po.length y3.pc, .int .u64 y3.stamp, .int .i64 y3.num] _ HRG.out Tryz.underlying42 rfl Tryz.entSize (.agg #[.int .i64 y3.kind, .string y3.temp, .string y3.ka, .string y3.kb, .int .i64 y3.iff, .slice y3.vp y3.vo.length y3.vc, .slice y3.ep y3.eo.length y3.ec, .slice y3.pp y3.po.length y3.pc, .int .u64 y3.stamp, .int .i64 y3.num]) rfl ?_) | (refine wpList_store_as rfl 42 _ _ rfl w.heap.size 0 #[.int .i64 y3.kind, .string y3.temp, .string y3.ka, .string y3.kb, .int .i64 y3.iff, .slice y3.vp y3.vo.length y3.vc, .slice y3.ep y3.eo.length y3.ec, .slice y3.pp y3.po.length y3.pc, .int .u64 y3.stamp, .int .i64 y3.num] rfl rfl HTH.out Tryz.entSize (one_ex y3) W4 HW4.out ?_))
          exact bodyPost_ret (v := .tuple #[.agg #[.int .i64 y3.kind, .string y3.temp, .string y3.ka, .string y3.kb, .int .i64 y3.iff, .slice y3.vp y3.vo.length y3.vc, .slice y3.ep y3.eo.length y3.ec, .slice y3.pp y3.po.length y3.pc, .int .u64 y3.stamp, .int .i64 y3.num], .bool false]) (by simp [results, Tryz.results19, go_sem, g0, g1, g2, g3, g4, g5, g6, g7, g8, g9]) rfl ⟨⟨y3, false, rfl, fun _ => HOW.out, by rw [HNO.out]; rfl⟩, HBE.out⟩
      · as_aux_lemma =>
        have c0 : W5.cell? ⟨w.heap.size + 1, 0, none⟩ = some (.int .i64 7) := by rw [R5.out.cells.1, HB5.out.kind]; rfl
        have HTL : Hid (O = if (bytesL (ws.drop (m2 + 1))).length = 1 then (smallR (bytesL (ws.drop (m2 + 1)))[0]?).bind fun n => some { y3.en with num := (n : Int) } else none) := hid (by
          have hk : y3.en.kind = 7 := HB5.out.kind
          rw [HT5.out, tlr_num hk])
        have HSM : Hid (Calls Tryz.prog 42 #[.slice (some ⟨b, off, none⟩) ws.length cap, .int .i64 ((m2 : Int) + 1)] W5 fun e w' => e = .returned (numV (smallR ((ws.map (·.data.toList))[m2 + 1]?))) ∧ w' = W5) := hid (rsmall16_any (some ⟨b, off, none⟩) cap ws (m2 + 1) W5 (HTV.out _ R5.out.bel) HS.out (by omega))
        obtain ⟨so, hso⟩ : ∃ so, smallR ((ws.map (·.data.toList))[m2 + 1]?) = so := ⟨_, rfl⟩
        have hsl : ((so.getD 0 : Nat) : Int) ≤ 999999999 := by
          cases so with
          | none => show (0 : Int) ≤ _; decide
          | some n => have := smallR_le hso; show (n : Int) ≤ _; omega
        rw [bytes_at, bytes_len, hso] at HTL
        rw [hso] at HSM
        unfold numV at HSM
        obtain ⟨sn, hsn⟩ : ∃ sn : Nat, so.getD 0 = sn := ⟨_, rfl⟩
        rw [hsn] at HSM hsl
        have HSN := hid hsn
        clear hsn hso
        have f1 := R5.out.open 9
        have z1 : W5.cell? ⟨w.heap.size + 1, 9, none⟩ = some (.int .i64 y3.num) := by rw [Lib.cell_of_heap R5.out.box]; rfl
        obtain ⟨y4, hzz⟩ : ∃ q : Ex, q = { y3 with num := (sn : Int) } := ⟨_, rfl⟩
        have hbr : Bare y4 7 := by rw [hzz]; exact HB5.out.num _ (by omega) hsl
        obtain ⟨W6, hW6⟩ : ∃ W', W5.setCell ⟨w.heap.size + 1, 9, none⟩ (.int .i64 (sn : Int)) = W' := ⟨_, rfl⟩
        have R6 : Hid (RsSt w (w.heap.size + 1) w.heap.size W6 y4) := hid (by
          rw [← hW6]
          exact R5.out.turn 9 _ (hbr.own _ _) (by rw [hzz]; rfl))
        have HB6 := hid hbr
        have HZZ := hid hzz
        clear hbr hzz
        go_wp2_with fail
        refine HSM.out.mono ?_
        rintro e w7 ⟨rfl, rfl⟩
        clear c0
        cases so with
        | none =>
          have HNO : Hid (O = none) := hid (by rw [HTL.out]; split <;> rfl)
          go_upto_region 29 with fail
          try rw [hW6]
          clear hW6 f1 z1
          have HRG := hid R6.out.range
          have HTH := hid R6.out.there
          obtain ⟨W4, hW4⟩ : ∃ W4, W6.setCells w.heap.size 0 [.int .i64 y4.kind, .string y4.temp, .string y4.ka, .string y4.kb, .int .i64 y4.iff, .slice y4.vp y4.vo.length y4.vc, .slice y4.ep y4.eo.length y4.ec, .slice y4.pp y4.po.length y4.pc, .int .u64 y4.stamp, .int .i64 y4.num] = W4 := ⟨_, rfl⟩
          obtain ⟨⟨g0, g1, g2, g3, g4, g5, g6, g7, g8, g9⟩, hown4, hbel4⟩ := R6.out.fin W4 hW4
          have HW4 : Hid (W6.setCells w.heap.size 0 (#[.int .i64 y4.kind, .string y4.temp, .string y4.ka, .string y4.kb, .int .i64 y4.iff, .slice y4.vp y4.vo.length y4.vc, .slice y4.ep y4.eo.length y4.ec, .slice y4.pp y4.po.length y4.pc, .int .u64 y4.stamp, .int .i64 y4.num] : Array Value).toList = W4) := hid hW4
          have HOW := hid hown4
          have HBE := hid hbel4
          clear hown4 hbel4 hW4
          go_wp2_with (first | (refine wpList_load_as rfl 42 _ rfl (w.heap.size + 1) 0 rfl [.int .i64 y4.kind, .string y4.temp, .string y4.ka, .string y4.kb, .int .i64 y4.iff, .slice y4.vp y4.vo.length y4.vc, .slice y4.ep y4.eo.length y4.ec, .slice y4.pp y4.po.length y4.pc, .int .u64 y4.stamp, .int .i64 y4.num] _ HRG.out Tryz.underlying42 rfl Tryz.entSize (.agg #[.int .i64 y4.kind, .string y4.temp, .string y4.ka, .string y4.kb, .int .i64 y4.iff, .slice y4.vp y4.vo.length y4.vc, .slice y4.ep y4.eo.length y4.ec, .slice y4.pp y4.po.length y4.pc, .int .u64 y4.stamp, .int .i64 y4.num]) rfl ?_) | (refine wpList_store_as rfl 42 _ _ rfl w.heap.size 0 #[.int .i64 y4.kind, .string y4.temp, .string y4.ka, .string y4.kb, .int .i64 y4.iff, .slice y4.vp y4.vo.length y4.vc, .slice y4.ep y4.eo.length y4.ec, .slice y4.pp y4.po.length y4.pc, .int .u64 y4.stamp, .int .i64 y4.num] rfl rfl HTH.out Tryz.entSize (one_ex y4) W4 HW4.out ?_))
          exact bodyPost_ret (v := .tuple #[.agg #[.int .i64 y4.kind, .string y4.temp, .string y4.ka, .string y4.kb, .int .i64 y4.iff, .slice y4.vp y4.vo.length y4.vc, .slice y4.ep y4.eo.length y4.ec, .slice y4.pp y4.po.length y4.pc, .int .u64 y4.stamp, .int .i64 y4.num], .bool false]) (by simp [results, Tryz.results19, go_sem, g0, g1, g2, g3, g4, g5, g6, g7, g8, g9]) rfl ⟨⟨y4, false, rfl, fun _ => HOW.out, by rw [HNO.out]; rfl⟩, HBE.out⟩
        | some n =>
          have HN : Hid (n = sn) := hid HSN.out
          by_cases hq : m2 + 1 = ws.length - 1
          · have hqz : ((m2 : Int) + 1 == (ws.length : Int) - 1) = true := by rw [beq_iff_eq]; omega
            have HYES : Hid (O = some y4.en) := hid (by
              rw [HTL.out, if_pos (by omega), HZZ.out, HN.out]; rfl)
            clear hq
            go_upto_region 29 with fail
            try rw [hW6]
            clear hW6 f1 z1
            have HRG := hid R6.out.range
            have HTH := hid R6.out.there
            obtain ⟨W4, hW4⟩ : ∃ W4, W6.setCells w.heap.size 0 [.int .i64 y4.kind, .string y4.temp, .string y4.ka, .string y4.kb, .int .i64 y4.iff, .slice y4.vp y4.vo.length y4.vc, .slice y4.ep y4.eo.length y4.ec, .slice y4.pp y4.po.length y4.pc, .int .u64 y4.stamp, .int .i64 y4.num] = W4 := ⟨_, rfl⟩
            obtain ⟨⟨g0, g1, g2, g3, g4, g5, g6, g7, g8, g9⟩, hown4, hbel4⟩ := R6.out.fin W4 hW4
            have HW4 : Hid (W6.setCells w.heap.size 0 (#[.int .i64 y4.kind, .string y4.temp, .string y4.ka, .string y4.kb, .int .i64 y4.iff, .slice y4.vp y4.vo.length y4.vc, .slice y4.ep y4.eo.length y4.ec, .slice y4.pp y4.po.length y4.pc, .int .u64 y4.stamp, .int .i64 y4.num] : Array Value).toList = W4) := hid hW4
            have HOW := hid hown4
            have HBE := hid hbel4
            clear hown4 hbel4 hW4
            go_wp2_with (first | (refine wpList_load_as rfl 42 _ rfl (w.heap.size + 1) 0 rfl [.int .i64 y4.kind, .string y4.temp, .string y4.ka, .string y4.kb, .int .i64 y4.iff, .slice y4.vp y4.vo.length y4.vc, .slice y4.ep y4.eo.length y4.ec, .slice y4.pp y4.po.length y4.pc, .int .u64 y4.stamp, .int .i64 y4.num] _ HRG.out Tryz.underlying42 rfl Tryz.entSize (.agg #[.int .i64 y4.kind, .string y4.temp, .string y4.ka, .string y4.kb, .int .i64 y4.iff, .slice y4.vp y4.vo.length y4.vc, .slice y4.ep y4.eo.length y4.ec, .slice y4.pp y4.po.length y4.pc, .int .u64 y4.stamp, .int .i64 y4.num]) rfl ?_) | (refine wpList_store_as rfl 42 _ _ rfl w.heap.size 0 #[.int .i64 y4.kind, .string y4.temp, .string y4.ka, .string y4.kb, .int .i64 y4.iff, .slice y4.vp y4.vo.length y4.vc, .slice y4.ep y4.eo.length y4.ec, .slice y4.pp y4.po.length y4.pc, .int .u64 y4.stamp, .int .i64 y4.num] rfl rfl HTH.out Tryz.entSize (one_ex y4) W4 HW4.out ?_))
            exact bodyPost_ret (v := .tuple #[.agg #[.int .i64 y4.kind, .string y4.temp, .string y4.ka, .string y4.kb, .int .i64 y4.iff, .slice y4.vp y4.vo.length y4.vc, .slice y4.ep y4.eo.length y4.ec, .slice y4.pp y4.po.length y4.pc, .int .u64 y4.stamp, .int .i64 y4.num], .bool true]) (by simp [results, Tryz.results19, go_sem, g0, g1, g2, g3, g4, g5, g6, g7, g8, g9]) rfl ⟨⟨y4, true, rfl, fun _ => HOW.out, by rw [HYES.out]; rfl⟩, HBE.out⟩
          · have hqz : ((m2 : Int) + 1 == (ws.length : Int) - 1) = false := by rw [beq_eq_false_iff_ne]; omega
            have HNO : Hid (O = none) := hid (by rw [HTL.out, if_neg (by omega)])
            clear hq
            go_upto_region 29 with fail
            try rw [hW6]
            clear hW6 f1 z1
            have HRG := hid R6.out.range
            have HTH := hid R6.out.there
            obtain ⟨W4, hW4⟩ : ∃ W4, W6.setCells w.heap.size 0 [.int .i64 y4.kind, .string y4.temp, .string y4.ka, .string y4.kb, .int .i64 y4.iff, .slice y4.vp y4.vo.length y4.vc, .slice y4.ep y4.eo.length y4.ec, .slice y4.pp y4.po.length y4.pc, .int .u64 y4.stamp, .int .i64 y4.num] = W4 := ⟨_, rfl⟩
            obtain ⟨⟨g0, g1, g2, g3, g4, g5, g6, g7, g8, g9⟩, hown4, hbel4⟩ := R6.out.fin W4 hW4
            have HW4 : Hid (W6.setCells w.heap.size 0 (#[.int .i64 y4.kind, .string y4.temp, .string y4.ka, .string y4.kb, .int .i64 y4.iff, .slice y4.vp y4.vo.length y4.vc, .slice y4.ep y4.eo.length y4.ec, .slice y4.pp y4.po.length y4.pc, .int .u64 y4.stamp, .int .i64 y4.num] : Array Value).toList = W4) := hid hW4
            have HOW := hid hown4
            have HBE := hid hbel4
            clear hown4 hbel4 hW4
            go_wp2_with (first | (refine wpList_load_as rfl 42 _ rfl (w.heap.size + 1) 0 rfl [.int .i64 y4.kind, .string y4.temp, .string y4.ka, .string y4.kb, .int .i64 y4.iff, .slice y4.vp y4.vo.length y4.vc, .slice y4.ep y4.eo.length y4.ec, .slice y4.pp y4.po.length y4.pc, .int .u64 y4.stamp, .int .i64 y4.num] _ HRG.out Tryz.underlying42 rfl Tryz.entSize (.agg #[.int .i64 y4.kind, .string y4.temp, .string y4.ka, .string y4.kb, .int .i64 y4.iff, .slice y4.vp y4.vo.length y4.vc, .slice y4.ep y4.eo.length y4.ec, .slice y4.pp y4.po.length y4.pc, .int .u64 y4.stamp, .int .i64 y4.num]) rfl ?_) | (refine wpList_store_as rfl 42 _ _ rfl w.heap.size 0 #[.int .i64 y4.kind, .string y4.temp, .string y4.ka, .string y4.kb, .int .i64 y4.iff, .slice y4.vp y4.vo.length y4.vc, .slice y4.ep y4.eo.length y4.ec, .slice y4.pp y4.po.length y4.pc, .int .u64 y4.stamp, .int .i64 y4.num] rfl rfl HTH.out Tryz.entSize (one_ex y4) W4 HW4.out ?_))
            exact bodyPost_ret (v := .tuple #[.agg #[.int .i64 y4.kind, .string y4.temp, .string y4.ka, .string y4.kb, .int .i64 y4.iff, .slice y4.vp y4.vo.length y4.vc, .slice y4.ep y4.eo.length y4.ec, .slice y4.pp y4.po.length y4.pc, .int .u64 y4.stamp, .int .i64 y4.num], .bool false]) (by simp [results, Tryz.results19, go_sem, g0, g1, g2, g3, g4, g5, g6, g7, g8, g9]) rfl ⟨⟨y4, false, rfl, fun _ => HOW.out, by rw [HNO.out]; rfl⟩, HBE.out⟩
      · as_aux_lemma =>
        have c0 : W5.cell? ⟨w.heap.size + 1, 0, none⟩ = some (.int .i64 9) := by rw [R5.out.cells.1, HB5.out.kind]; rfl
        have HTL : Hid (O = if (bytesL (ws.drop (m2 + 1))).length = 1 then (stampR (bytesL (ws.drop (m2 + 1)))[0]?).bind fun n => some { y3.en with stamp := (n : Int) } else none) := hid (by
          have hk : y3.en.kind = 9 := HB5.out.kind
          rw [HT5.out, tlr_stamp (Or.inl hk)])
        have HSM : Hid (Calls Tryz.prog 40 #[.slice (some ⟨b, off, none⟩) ws.length cap, .int .i64 ((m2 : Int) + 1)] W5 fun e w' => e = .returned (numV (stampR ((ws.map (·.data.toList))[m2 + 1]?))) ∧ w' = W5) := hid (rstamp16_any (some ⟨b, off, none⟩) cap ws (m2 + 1) W5 (HTV.out _ R5.out.bel) HS.out (by omega))
        obtain ⟨so, hso⟩ : ∃ so, stampR ((ws.map (·.data.toList))[m2 + 1]?) = so := ⟨_, rfl⟩
        have hsl : ((so.getD 0 : Nat) : Int) ≤ 18446744073709551615 := by
          cases so with
          | none => show (0 : Int) ≤ _; decide
          | some n => have := stampR_le hso; show (n : Int) ≤ _; omega
        rw [bytes_at, bytes_len, hso] at HTL
        rw [hso] at HSM
        unfold numV at HSM
        obtain ⟨sn, hsn⟩ : ∃ sn : Nat, so.getD 0 = sn := ⟨_, rfl⟩
        rw [hsn] at HSM hsl
        have HSN := hid hsn
        clear hsn hso
        have f1 := R5.out.open 8
        have z1 : W5.cell? ⟨w.heap.size + 1, 8, none⟩ = some (.int .u64 y3.stamp) := by rw [Lib.cell_of_heap R5.out.box]; rfl
        obtain ⟨y4, hzz⟩ : ∃ q : Ex, q = { y3 with stamp := (sn : Int) } := ⟨_, rfl⟩
        have hbr : Bare y4 9 := by rw [hzz]; exact HB5.out.stamp _ (by omega) hsl
        obtain ⟨W6, hW6⟩ : ∃ W', W5.setCell ⟨w.heap.size + 1, 8, none⟩ (.int .u64 (sn : Int)) = W' := ⟨_, rfl⟩
        have R6 : Hid (RsSt w (w.heap.size + 1) w.heap.size W6 y4) := hid (by
          rw [← hW6]
          exact R5.out.turn 8 _ (hbr.own _ _) (by rw [hzz]; rfl))
        have HB6 := hid hbr
        have HZZ := hid hzz
        clear hbr hzz
        go_wp2_with fail
        refine HSM.out.mono ?_
        rintro e w7 ⟨rfl, rfl⟩
        clear c0
        cases so with
        | none =>
          have HNO : Hid (O = none) := hid (by rw [HTL.out]; split <;> rfl)
          go_upto_region 33 with fail
          try rw [hW6]
          clear hW6 f1 z1
          have HRG := hid R6.out.range
          have HTH := hid R6.out.there
          obtain ⟨W4, hW4⟩ : ∃ W4, W6.setCells w.heap.size 0 [.int .i64 y4.kind, .string y4.temp, .string y4.ka, .string y4.kb, .int .i64 y4.iff, .slice y4.vp y4.vo.length y4.vc, .slice y4.ep y4.eo.length y4.ec, .slice y4.pp y4.po.length y4.pc, .int .u64 y4.stamp, .int .i64 y4.num] = W4 := ⟨_, rfl⟩
          obtain ⟨⟨g0, g1, g2, g3, g4, g5, g6, g7, g8, g9⟩, hown4, hbel4⟩ := R6.out.fin W4 hW4
          have HW4 : Hid (W6.setCells w.heap.size 0 (#[.int .i64 y4.kind, .string y4.temp, .string y4.ka, .string y4.kb, .int .i64 y4.iff, .slice y4.vp y4.vo.length y4.vc, .slice y4.ep y4.eo.length y4.ec, .slice y4.pp y4.po.length y4.pc, .int .u64 y4.stamp, .int .i64 y4.num] : Array Value).toList = W4) := hid hW4
          have HOW := hid hown4
          have HBE := hid hbel4
          clear hown4 hbel4 hW4
          go_wp2_with (first | (refine wpList_load_as rfl 42 _ rfl (w.heap.size + 1) 0 rfl [.int .i64 y4.kind, .string y4.temp, .string y4.ka, .string y4.kb, .int .i64 y4.iff, .slice y4.vp y4.vo.length y4.vc, .slice y4.ep y4.eo.length y4.ec, .slice y4.pp y4.po.length y4.pc, .int .u64 y4.stamp, .int .i64 y4.num] _ HRG.out Tryz.underlying42 rfl Tryz.entSize (.agg #[.int .i64 y4.kind, .string y4.temp, .string y4.ka, .string y4.kb, .int .i64 y4.iff, .slice y4.vp y4.vo.length y4.vc, .slice y4.ep y4.eo.length y4.ec, .slice y4.pp y4.po.length y4.pc, .int .u64 y4.stamp, .int .i64 y4.num]) rfl ?_) | (refine wpList_store_as rfl 42 _ _ rfl w.heap.size 0 #[.int .i64 y4.kind, .string y4.temp, .string y4.ka, .string y4.kb, .int .i64 y4.iff, .slice y4.vp y4.vo.length y4.vc, .slice y4.ep y4.eo.length y4.ec, .slice y4.pp y4.po.length y4.pc, .int .u64 y4.stamp, .int .i64 y4.num] rfl rfl HTH.out Tryz.entSize (one_ex y4) W4 HW4.out ?_))
          exact bodyPost_ret (v := .tuple #[.agg #[.int .i64 y4.kind, .string y4.temp, .string y4.ka, .string y4.kb, .int .i64 y4.iff, .slice y4.vp y4.vo.length y4.vc, .slice y4.ep y4.eo.length y4.ec, .slice y4.pp y4.po.length y4.pc, .int .u64 y4.stamp, .int .i64 y4.num], .bool false]) (by simp [results, Tryz.results19, go_sem, g0, g1, g2, g3, g4, g5, g6, g7, g8, g9]) rfl ⟨⟨y4, false, rfl, fun _ => HOW.out, by rw [HNO.out]; rfl⟩, HBE.out⟩
        | some n =>
          have HN : Hid (n = sn) := hid HSN.out
          by_cases hq : m2 + 1 = ws.length - 1
          · have hqz : ((m2 : Int) + 1 == (ws.length : Int) - 1) = true := by rw [beq_iff_eq]; omega
            have HYES : Hid (O = some y4.en) := hid (by
              rw [HTL.out, if_pos (by omega), HZZ.out, HN.out]; rfl)
            clear hq
            go_upto_region 33 with fail
            try rw [hW6]
            clear hW6 f1 z1
            have HRG := hid R6.out.range
            have HTH := hid R6.out.there
            obtain ⟨W4, hW4⟩ : ∃ W4, W6.setCells w.heap.size 0 [.int .i64 y4.kind, .string y4.temp, .string y4.ka, .string y4.kb, .int .i64 y4.iff, .slice y4.vp y4.vo.length y4.vc, .slice y4.ep y4.eo.length y4.ec, .slice y4.pp y4.po.length y4.pc, .int .u64 y4.stamp, .int .i64 y4.num] = W4 := ⟨_, rfl⟩
            obtain ⟨⟨g0, g1, g2, g3, g4, g5, g6, g7, g8, g9⟩, hown4, hbel4⟩ := R6.out.fin W4 hW4
            have HW4 : Hid (W6.setCells w.heap.size 0 (#[.int .i64 y4.kind, .string y4.temp, .string y4.ka, .string y4.kb, .int .i64 y4.iff, .slice y4.vp y4.vo.length y4.vc, .slice y4.ep y4.eo.length y4.ec, .slice y4.pp y4.po.length y4.pc, .int .u64 y4.stamp, .int .i64 y4.num] : Array Value).toList = W4) := hid hW4
            have HOW := hid hown4
            have HBE := hid hbel4
            clear hown4 hbel4 hW4
            go_wp2_with (first | (refine wpList_load_as rfl 42 _ rfl (w.heap.size + 1) 0 rfl [.int .i64 y4.kind, .string y4.temp, .string y4.ka, .string y4.kb, .int .i64 y4.iff, .slice y4.vp y4.vo.length y4.vc, .slice y4.ep y4.eo.length y4.ec, .slice y4.pp y4.po.length y4.pc, .int .u64 y4.stamp, .int .i64 y4.num] _ HRG.out Tryz.underlying42 rfl Tryz.entSize (.agg #[.int .i64 y4.kind, .string y4.temp, .string y4.ka, .string y4.kb, .int .i64 y4.iff, .slice y4.vp y4.vo.length y4.vc, .slice y4.ep y4.eo.length y4.ec, .slice y4.pp y4.po.length y4.pc, .int .u64 y4.stamp, .int .i64 y4.num]) rfl ?_) | (refine wpList_store_as rfl 42 _ _ rfl w.heap.size 0 #[.int .i64 y4.kind, .string y4.temp, .string y4.ka, .string y4.kb, .int .i64 y4.iff, .slice y4.vp y4.vo.length y4.vc, .slice y4.ep y4.eo.length y4.ec, .slice y4.pp y4.po.length y4.pc, .int .u64 y4.stamp, .int .i64 y4.num] rfl rfl HTH.out Tryz.entSize (one_ex y4) W4 HW4.out ?_))
            exact bodyPost_ret (v := .tuple #[.agg #[.int .i64 y4.kind, .string y4.temp, .string y4.ka, .string y4.kb, .int .i64 y4.iff, .slice y4.vp y4.vo.length y4.vc, .slice y4.ep y4.eo.length y4.ec, .slice y4.pp y4.po.length y4.pc, .int .u64 y4.stamp, .int .i64 y4.num], .bool true]) (by simp [results, Tryz.results19, go_sem, g0, g1, g2, g3, g4, g5, g6, g7, g8, g9]) rfl ⟨⟨y4, true, rfl, fun _ => HOW.out, by rw [HYES.out]; rfl⟩, HBE.out⟩
          · have hqz : ((m2 : Int) + 1 == (ws.length : Int) - 1) = false := by rw [beq_eq_false_iff_ne]; omega
            have HNO : Hid (O = none) := hid (by rw [HTL.out, if_neg (by omega)])
            clear hq
            go_upto_region 33 with fail
            try rw [hW6]
            clear hW6 f1 z1
            have HRG := hid R6.out.range
            have HTH := hid R6.out.there
            obtain ⟨W4, hW4⟩ : ∃ W4, W6.setCells w.heap.size 0 [.int .i64 y4.kind, .string y4.temp, .string y4.ka, .string y4.kb, .int .i64 y4.iff, .slice y4.vp y4.vo.length y4.vc, .slice y4.ep y4.eo.length y4.ec, .slice y4.pp y4.po.length y4.pc, .int .u64 y4.stamp, .int .i64 y4.num] = W4 := ⟨_, rfl⟩
            obtain ⟨⟨g0, g1, g2, g3, g4, g5, g6, g7, g8, g9⟩, hown4, hbel4⟩ := R6.out.fin W4 hW4
            have HW4 : Hid (W6.setCells w.heap.size 0 (#[.int .i64 y4.kind, .string y4.temp, .string y4.ka, .string y4.kb, .int .i64 y4.iff, .slice y4.vp y4.vo.length y4.vc, .slice y4.ep y4.eo.length y4.ec, .slice y4.pp y4.po.length y4.pc, .int .u64 y4.stamp, .int .i64 y4.num] : Array Value).toList = W4) := hid hW4
            have HOW := hid hown4
            have HBE := hid hbel4
            clear hown4 hbel4 hW4
            go_wp2_with (first | (refine wpList_load_as rfl 42 _ rfl (w.heap.size + 1) 0 rfl [.int .i64 y4.kind, .string y4.temp, .string y4.ka, .string y4.kb, .int .i64 y4.iff, .slice y4.vp y4.vo.length y4.vc, .slice y4.ep y4.eo.length y4.ec, .slice y4.pp y4.po.length y4.pc, .int .u64 y4.stamp, .int .i64 y4.num] _ HRG.out Tryz.underlying42 rfl Tryz.entSize (.agg #[.int .i64 y4.kind, .string y4.temp, .string y4.ka, .string y4.kb, .int .i64 y4.iff, .slice y4.vp y4.vo.length y4.vc, .slice y4.ep y4.eo.length y4.ec, .slice y4.pp y4.po.length y4.pc, .int .u64 y4.stamp, .int .i64 y4.num]) rfl ?_) | (refine wpList_store_as rfl 42 _ _ rfl w.heap.size 0 #[.int .i64 y4.kind, .string y4.temp, .string y4.ka, .string y4.kb, .int .i64 y4.iff, .slice y4.vp y4.vo.length y4.vc, .slice y4.ep y4.eo.length y4.ec, .slice y4.pp y4.po.length y4.pc, .int .u64 y4.stamp, .int .i64 y4.num] rfl rfl HTH.out Tryz.entSize (one_ex y4) W4 HW4.out ?_))
            exact bodyPost_ret (v := .tuple #[.agg #[.int .i64 y4.kind, .string y4.temp, .string y4.ka, .string y4.kb, .int .i64 y4.iff, .slice y4.vp y4.vo.length y4.vc, .slice y4.ep y4.eo.length y4.ec, .slice y4.pp y4.po.length y4.pc, .int .u64 y4.stamp, .int .i64 y4.num], .bool false]) (by simp [results, Tryz.results19, go_sem, g0, g1, g2, g3, g4, g5, g6, g7, g8, g9]) rfl ⟨⟨y4, false, rfl, fun _ => HOW.out, by rw [HNO.out]; rfl⟩, HBE.out⟩
      · as_aux_lemma =>
        have c0 : W5.cell? ⟨w.heap.size + 1, 0, none⟩ = some (.int .i64 11) := by rw [R5.out.cells.1, HB5.out.kind]; rfl
        have HTL : Hid (O = if bytesL (ws.drop (m2 + 1)) = [] then some y3.en else none) := hid (by
          have hk : y3.en.kind = 11 := HB5.out.kind
          rw [HT5.out, tlr_plain (by rw [hk]; decide)])
        go_upto_region 36 with fail
        clear c0
        by_cases hq : m2 + 1 = ws.length
        · have hqz : ((m2 : Int) + 1 == (ws.length : Int)) = true := by rw [beq_iff_eq]; omega
          have HYES : Hid (O = some y3.en) := hid (by rw [HTL.out, if_pos (bytes_none (by omega))])
          clear hq
          have HRG := hid R5.out.range
          have HTH := hid R5.out.there
          obtain ⟨W4, hW4⟩ : ∃ W4, W5.setCells w.heap.size 0 [.int .i64 y3.kind, .string y3.temp, .string y3.ka, .string y3.kb, .int .i64 y3.iff, .slice y3.vp y3.vo.length y3.vc, .slice y3.ep y3.eo.length y3.ec, .slice y3.pp y3.po.length y3.pc, .int .u64 y3.stamp, .int .i64 y3.num] = W4 := ⟨_, rfl⟩
          obtain ⟨⟨g0, g1, g2, g3, g4, g5, g6, g7, g8, g9⟩, hown4, hbel4⟩ := R5.out.fin W4 hW4
          have HW4 : Hid (W5.setCells w.heap.size 0 (#[.int .i64 y3.kind, .string y3.temp, .string y3.ka, .string y3.kb, .int .i64 y3.iff, .slice y3.vp y3.vo.length y3.vc, .slice y3.ep y3.eo.length y3.ec, .slice y3.pp y3.po.length y3.pc, .int .u64 y3.stamp, .int .i64 y3.num] : Array Value).toList = W4) := hid hW4
          have HOW := hid hown4
          have HBE := hid hbel4
          clear hown4 hbel4 hW4
          go_wp2_with (first | (refine wpList_load_as rfl 42 _ rfl (w.heap.size + 1) 0 rfl [.int .i64 y3.kind, .string y3.temp, .string y3.ka, .string y3.kb, .int .i64 y3.iff, .slice y3.vp y3.vo.length y3.vc, .slice y3.ep y3.eo.length y3.ec, .slice y3.pp y3.po.length y3.pc, .int .u64 y3.stamp, .int .i64 y3.num] _ HRG.out Tryz.underlying42 rfl Tryz.entSize (.agg #[.int .i64 y3.kind, .string y3.temp, .string y3.ka, .string y3.kb, .int .i64 y3.iff, .slice y3.vp y3.vo.length y3.vc, .slice y3.ep y3.eo.length y3.ec, .slice y3.pp y3.po.length y3.pc, .int .u64 y3.stamp, .int .i64 y3.num]) rfl ?_) | (refine wpList_store_as rfl 42 _ _ rfl w.heap.size 0 #[.int .i64 y3.kind, .string y3.temp, .string y3.ka, .string y3.kb, .int .i64 y3.iff, .slice y3.vp y3.vo.length y3.vc, .slice y3.ep y3.eo.length y3.ec, .slice y3.pp y3.po.length y3.pc, .int .u64 y3.stamp, .int .i64 y3.num] rfl rfl HTH.out Tryz.entSize (one_ex y3) W4 HW4.out ?_))
          exact bodyPost_ret (v := .tuple #[.agg #[.int .i64 y3.kind, .string y3.temp, .string y3.ka, .string y3.kb, .int .i64 y3.iff, .slice y3.vp y3.vo.length y3.vc, .slice y3.ep y3.eo.length y3.ec, .slice y3.pp y3.po.length y3.pc, .int .u64 y3.stamp, .int .i64 y3.num], .bool true]) (by simp [results, Tryz.results19, go_sem, g0, g1, g2, g3, g4, g5, g6, g7, g8, g9]) rfl ⟨⟨y3, true, rfl, fun _ => HOW.out, by rw [HYES.out]; rfl⟩, HBE.out⟩
        · have hqz : ((m2 : Int) + 1 == (ws.length : Int)) = false := by rw [beq_eq_false_iff_ne]; omega
          have HNO : Hid (O = none) := hid (by
            rw [HTL.out, if_neg]
            intro q
            have := congrArg List.length q
            rw [bytes_len] at this
            simp at this
            omega)
          clear hq
          have HRG := hid R5.out.range
          have HTH := hid R5.out.there
          obtain ⟨W4, hW4⟩ : ∃ W4, W5.setCells w.heap.size 0 [.int .i64 y3.kind, .string y3.temp, .string y3.ka, .string y3.kb, .int .i64 y3.iff, .slice y3.vp y3.vo.length y3.vc, .slice y3.ep y3.eo.length y3.ec, .slice y3.pp y3.po.length y3.pc, .int .u64 y3.stamp, .int .i64 y3.num] = W4 := ⟨_, rfl⟩
          obtain ⟨⟨g0, g1, g2, g3, g4, g5, g6, g7, g8, g9⟩, hown4, hbel4⟩ := R5.out.fin W4 hW4
          have HW4 : Hid (W5.setCells w.heap.size 0 (#[.int .i64 y3.kind, .string y3.temp, .string y3.ka, .string y3.kb, .int .i64 y3.iff, .slice y3.vp y3.vo.length y3.vc, .slice y3.ep y3.eo.length y3.ec, .slice y3.pp y3.po.length y3.pc, .int .u64 y3.stamp, .int .i64 y3.num] : Array Value).toList = W4) := hid hW4
          have HOW := hid hown4
          have HBE := hid hbel4
          clear hown4 hbel4 hW4
          go_wp2_with (first | (refine wpList_load_as rfl 42 _ rfl (w.heap.size + 1) 0 rfl [.int .i64 y3.kind, .string y3.temp, .string y3.ka, .string y3.kb, .int .i64 y3.iff, .slice y3.vp y3.vo.length y3.vc, .slice y3.ep y3.eo.length y3.ec, .slice y3.pp y3.po.length y3.pc, .int .u64 y3.stamp, .int .i64 y3.num] _ HRG.out Tryz.underlying42 rfl Tryz.entSize (.agg #[.int .i64 y3.kind, .string y3.temp, .string y3.ka, .string y3.kb, .int .i64 y3.iff, .slice y3.vp y3.vo.length y3.vc, .slice y3.ep y3.eo.length y3.ec, .slice y3.pp y3.po.length y3.pc, .int .u64 y3.stamp, .int .i64 y3.num]) rfl ?_) | (refine wpList_store_as rfl 42 _ _ rfl w.heap.size 0 #[.int .i64 y3.kind, .string y3.temp, .string y3.ka, .string y3.kb, .int .i64 y3.iff, .slice y3.vp y3.vo.length y3.vc, .slice y3.ep y3.eo.length y3.ec, .slice y3.pp y3.po.length y3.pc, .int .u64 y3.stamp, .int .i64 y3.num] rfl rfl HTH.out Tryz.entSize (one_ex y3) W4 HW4.out ?_))
          exact bodyPost_ret (v := .tuple #[.agg #[.int .i64 y3.kind, .string y3.temp, .string y3.ka, .string y3.kb, .int .i64 y3.iff, .slice y3.vp y3.vo.length y3.vc, .slice y3.ep y3.eo.length y3.ec, .slice y3.pp y3.po.length y3.pc, .int .u64 y3.stamp, .int .i64 y3.num], .bool false]) (by simp [results, Tryz.results19, go_sem, g0, g1, g2, g3, g4, g5, g6, g7, g8, g9]) rfl ⟨⟨y3, false, rfl, fun _ => HOW.out, by rw [HNO.out]; rfl⟩, HBE.out⟩
end
end Go.Proofs.YtjeogllmpjihaaaGreatDoor
