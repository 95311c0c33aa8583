/-
  Texts of this claim, one behind the other: Pc8 Cb0 Kp0 Pc9 Hp0 Hbx Hp7 Tak Tkm Hp8 Re1 Re2 Re7 Hp9 Kba Oqb Oqr Sh5 Oqp.
-/
import Derived.Test.YtpdccbeeoapplaaGreatDoorPd
import Derived.Laws.CopyOwn
import Derived.Maps.AppendAt
import Derived.Shelf.Slices.Turned
namespace Go.Proofs.YtpdccbeeoapplaaGreatDoor
section
open Go.RowKit Go.Lib
theorem box_put {W:World} {R:Nat} {x:Tm} (h:BoxM W R x) (y:Tm) :
  BoxM (((W.setCell ⟨R,0,none⟩ (.string y.1)).setCell ⟨R,1,none⟩ (.int .i64 y.2.1)).setCell ⟨R,2,none⟩ (.string y.2.2)) R y :=
 heap_setCell_same _ R 2 _ _ _ (heap_setCell_same _ R 1 _ _ _ (heap_setCell_same W R 0 _ _ _ h))
theorem box_free {W:World} {R:Nat} {x:Tm} (h:BoxM W R x):W.frozen? ⟨R,0,none⟩=false∧W.frozen? ⟨R,1,none⟩=false∧W.frozen? ⟨R,2,none⟩=false :=
 ⟨Lib.frozen_of_heap h 0,Lib.frozen_of_heap h 1,Lib.frozen_of_heap h 2⟩
theorem bel_put {B R:Nat} {w W:World} (h:Below B w W) (hR:B≤R) (y:Tm):Below B w (((W.setCell ⟨R,0,none⟩ (.string y.1)).setCell ⟨R,1,none⟩ (.int .i64 y.2.1)).setCell ⟨R,2,none⟩ (.string y.2.2)) :=
 ((h.setCell (p:=⟨R,0,none⟩) hR _).setCell (p:=⟨R,1,none⟩) hR _).setCell (p:=⟨R,2,none⟩) hR _
theorem readL_cons {c:UInt8} {r t:List UInt8} (h:readL (c::r)=some t):t≠[]:=by
 cases hf:firstP (c::r) with
 | none=>rw [readL_none (by simp) hf] at h;cases h
 | some o =>
  obtain ⟨c',n⟩:=o
  rw [readL_some hf] at h
  cases hr:readL ((c::r).drop n) with
  | none=>rw [hr] at h;cases h
  | some m =>
   rw [hr] at h
   rintro rfl
   cases h
theorem ix_sign {c:UInt8} (h:isOp c=true):Lib.indexByte (⟨#[61,33,94,60,62,63,45]⟩:ByteArray).data.toList c=opN (c.toNat:Int)-1:=by
 rcases op_sign h with rfl|rfl|rfl|rfl|rfl|rfl|rfl<;>decide
theorem op_pos {c:UInt8} (h:isOp c=true):1≤opN (c.toNat:Int)∧opN (c.toNat:Int)≤7:=by
 have h1:=opN_range (c.toNat:Int)
 have h2:opN (c.toNat:Int)≠0:=by unfold isOp at h;exact bne_iff_ne.1 h
 omega
theorem termO_at {l:List UInt8} {i:Nat} (hi:i<l.length) (h1:isOp l[i]=true) (h2:∀c∈l.take i,isOp c=false) :
  termO l=match readL (l.drop (i+1)) with
   | none=>none
   | some t=>if rightM (⟨(l.take i).toArray⟩,opN (l[i].toNat:Int),⟨t.toArray⟩)=true then some (⟨(l.take i).toArray⟩,opN (l[i].toNat:Int),⟨t.toArray⟩) else none:=by
 obtain ⟨e1,e2⟩:=op_split hi h2 h1
 unfold termO
 rw [e2]
 simp only
 cases hr:readL (l.drop (i+1)) with
 | none=>rfl
 | some t =>
  simp only
  rw [e1]
  obtain ⟨o1,o2⟩:=op_pos h1
  have hz:(⟨t.toArray⟩:ByteArray).size=0↔t=[]:=by
   show t.toArray.size=0↔_
   simp
  have hne:l.drop (i+1)≠[]↔t≠[]:=by
   cases hd:l.drop (i+1) with
   | nil=>rw [hd,readL_nil] at hr;cases hr;simp
   | cons c r=>rw [hd] at hr;exact ⟨fun _=>readL_cons hr,fun _=>by simp⟩
  by_cases h5:5<opN (l[i].toNat:Int)
  ·by_cases ht:t=[]
   ·have:rightM (⟨(l.take i).toArray⟩,opN (l[i].toNat:Int),⟨t.toArray⟩)=true:=by
     unfold rightM
     simp only [decide_eq_true o1,decide_eq_true o2,decide_eq_true (hz.2 ht),Bool.true_and,Bool.or_true]
    rw [if_neg (fun h=>(hne.1 h.2) ht),if_pos this]
   ·have:rightM (⟨(l.take i).toArray⟩,opN (l[i].toNat:Int),⟨t.toArray⟩)=false:=by
     unfold rightM
     have e3:decide (opN (l[i].toNat:Int)<6)=false:=decide_eq_false (by omega)
     have e4:decide ((⟨t.toArray⟩:ByteArray).size=0)=false:=decide_eq_false (fun h=>ht (hz.1 h))
     simp only [e3,e4,Bool.or_false,Bool.and_false]
    rw [if_pos ⟨h5,hne.2 ht⟩,if_neg (by rw [this];simp)]
  ·have:rightM (⟨(l.take i).toArray⟩,opN (l[i].toNat:Int),⟨t.toArray⟩)=true:=by
    unfold rightM
    have e3:decide (opN (l[i].toNat:Int)<6)=true:=decide_eq_true (by omega)
    simp only [decide_eq_true o1,decide_eq_true o2,e3,Bool.true_and,Bool.true_or]
   rw [if_neg (fun h=>h5 h.1),if_pos this]
theorem FirstOp.uniq {l:List UInt8} {a b:Int} (ha:FirstOp l a) (hb:FirstOp l b):a=b:=by
 rcases ha with ⟨rfl,h1⟩|⟨i,rfl,hi,h1,h2⟩
 ·rcases hb with ⟨rfl,_⟩|⟨j,rfl,hj,h3,_⟩
  ·rfl
  ·rw [h1 _ (List.getElem_mem hj)] at h3;cases h3
 ·rcases hb with ⟨rfl,h3⟩|⟨j,rfl,hj,h3,h4⟩
  ·rw [h3 _ (List.getElem_mem hi)] at h1;cases h1
  ·rcases Nat.lt_trichotomy i j with h|h|h
   ·rw [h4 _ (List.mem_iff_getElem.2 ⟨i,by rw [List.length_take];omega,by rw [List.getElem_take]⟩)] at h1;cases h1
   ·rw [h]
   ·rw [h2 _ (List.mem_iff_getElem.2 ⟨j,by rw [List.length_take];omega,by rw [List.getElem_take]⟩)] at h3;cases h3
theorem ixany_at {s:ByteArray} {k:Int} (h:FirstOp s.data.toList k) (w:World) (hs:s.size≤4294967000) :
  Calls Tryz.prog 179 #[.string s,.string ⟨#[61,33,94,60,62,63,45]⟩] w fun e w'=>e=.returned (.int .i64 k)∧Below w.heap.size w w' :=
 (ixany_any s w hs).mono fun _ _ ⟨⟨k',h1,h2⟩,h3⟩=>⟨by rw [h1,h.uniq h2],h3⟩
def termV (o:Option Tm):Value:=match o with
 | none=>.tuple #[.agg #[.string ⟨#[]⟩,.int .i64 0,.string ⟨#[]⟩],.int .i64 4]
 | some x=>.tuple #[.agg #[.string x.1,.int .i64 x.2.1,.string x.2.2],.int .i64 0]
set_option maxHeartbeats 4000000 in
set_option maxRecDepth 100000 in
theorem term_any (s:ByteArray) (w:World) (hp:PlainAt w) (hs:s.size≤4294967000) :
  Calls Tryz.prog 141 #[.string s] w fun e w'=>e=.returned (termV (termO s.data.toList))∧Below w.heap.size w w':=by
 obtain ⟨W0,hW0⟩:∃W0,w.alloc (.cells #[.string ⟨#[]⟩,.int .i64 0,.string ⟨#[]⟩] 51)=W0:=⟨_,rfl⟩
 obtain ⟨R,hR⟩:∃R,w.heap.size=R:=⟨_,rfl⟩
 have hb0:Below R w W0:=by rw [←hW0,←hR];exact (Below.refl _ _).alloc (Nat.le_refl _) _
 have hx0:BoxM W0 R (⟨#[]⟩,0,⟨#[]⟩):=by rw [←hW0,←hR];exact boxM_new w (⟨#[]⟩,0,⟨#[]⟩)
 have hRl:R<W0.heap.size:=hx0.lt
 have HP:=hid (show PlainAt W0 from hp.on (by rw [hR];exact hb0))
 have HB0:=hid hb0
 have HX0:=hid hx0
 obtain ⟨V,hV⟩:∃V,termV (termO s.data.toList)=V:=⟨_,rfl⟩
 have HV:=hid hV
 rw [hV,hR]
 clear hp hb0 hx0 hV
 have KR:Hid (∀W,Below W0.heap.size W0 W→BoxM W R (⟨#[]⟩,0,⟨#[]⟩)):=fun W h=>HX0.out.on h
 have KZ:Hid (∀W,Below W0.heap.size W0 W→Below R w W):=fun W h=>HB0.out.trans (h.mono (Nat.le_of_lt hRl))
 rcases indexAny_first s.data.toList with hk|⟨i,hki,hi,h1,h2⟩
 ·have HX:=hid (ixany_at (Or.inl ⟨rfl,hk.2⟩) W0 hs)
  have HO:Hid (V=.tuple #[.agg #[.string ⟨#[]⟩,.int .i64 0,.string ⟨#[]⟩],.int .i64 4]):=by
   show _=_
   rw [←HV.out,op_none hk.2]
   rfl
  clear hk
  go_enter Tryz.func141,Tryz.ntmps141
  go_wp2_with (first|(go_at_call 179;refine HX.out.mono ?_;rintro e w1 ⟨rfl,hb1⟩;have hx1:=KR.out _ hb1;obtain ⟨k0,k1,k2⟩:=hx1.cells;obtain ⟨f0,f1,f2⟩:=box_free hx1;simp only at k0 k1 k2;have HX1:=hid hx1;clear hx1))
  obtain ⟨j0,j1,j2⟩:=(box_put HX1.out (⟨#[]⟩,0,⟨#[]⟩)).cells
  simp only at j0 j1 j2
  exact bodyPost_ret (v:=.tuple #[.agg #[.string ⟨#[]⟩,.int .i64 0,.string ⟨#[]⟩],.int .i64 4]) (by simp [results,Tryz.results141,go_sem,j0,j1,j2]) rfl ⟨by rw [HO.out],bel_put (KZ.out _ hb1) (Nat.le_refl _) (⟨#[]⟩,0,⟨#[]⟩)⟩
 ·have HX:=hid (ixany_at (Or.inr ⟨i,rfl,hi,h1,h2⟩) W0 hs)
  have HT:=hid (termO_at hi h1 h2)
  have his:i<s.size:=by simpa using hi
  obtain ⟨c,hc⟩:∃c,s[i]'his=c:=⟨_,rfl⟩
  have hcl:s.data.toList[i]=c:=hc
  rw [hcl] at HT h1
  have hix:=ix_sign h1
  obtain ⟨o1,o2⟩:=op_pos h1
  obtain ⟨o,ho⟩:∃o,opN (c.toNat:Int)=o:=⟨_,rfl⟩
  rw [ho] at hix o1 o2 HT
  have hback:((c.toNat:Int)).toNat.toUInt8=c:=by simp
  have HIX:Hid (∀W,Calls Tryz.prog 180 #[.string ⟨#[61,33,94,60,62,63,45]⟩,.int .u8 c.toNat] W fun e w'=>e=.returned (.int .i64 (o-1))∧w'=W):=fun W=>by
   have:=Tryz.strings_IndexByte ⟨#[61,33,94,60,62,63,45]⟩ c.toNat W
   rw [hback,hix] at this
   exact this
  have hw1:IntKind.i64.wrap (1+(o-1))=o:=by rw [show 1+(o-1)=o by omega];exact wrap_i64 _ (by omega) (by omega)
  have hiz:(0:Int)≤i:=by omega
  have hiz2:(i:Int)<(s.size:Int):=by omega
  have hiz3:(i:Int)+1≤(s.size:Int):=by omega
  have hiz4:(0:Int)≤(i:Int)+1:=by omega
  have hit:((i:Int)+1).toNat=i+1:=by omega
  have hnn:¬ ((i:Int)<0):=by omega
  have HRD:Hid (∀W,PlainAt W→Calls Tryz.prog 176 #[.string (s.extract (i+1) s.size)] W fun e w'=>e=.returned (readV (readL (s.data.toList.drop (i+1))))∧Below W.heap.size W w'):=fun W h=>by
   have:=read_any (s.extract (i+1) s.size) W h (by simp;omega)
   rwa [ext_drop] at this
  have HE:=hid (ext_take s i)
  clear hcl hix ho hki hi h2 h1
  cases hrd:readL (s.data.toList.drop (i+1)) with
  | none =>
   rw [hrd] at HRD HT
   have HO:Hid (V=.tuple #[.agg #[.string ⟨#[]⟩,.int .i64 0,.string ⟨#[]⟩],.int .i64 4]):=by
    show _=_
    rw [←HV.out,HT.out]
    rfl
   simp only [readV] at HRD
   go_enter Tryz.func141,Tryz.ntmps141
   go_wp2_with (first
    | (go_at_call 179;refine HX.out.mono ?_;rintro e w1 ⟨rfl,hb1⟩)
    | (go_at_call 180;refine (HIX.out _).mono ?_;rintro e w1' ⟨rfl,hw'⟩;rw [hw'])
    | (go_at_call 176;refine (HRD.out w1 (HP.out.on hb1)).mono ?_;rintro e w2 ⟨rfl,hb2⟩;have hb12:Below W0.heap.size W0 (w2.alloc (.cells #[.string (s.extract 0 i),.int .i64 o,.string ⟨#[]⟩] 51)):=(bel_then hb1 hb1.size hb2).alloc (Nat.le_trans hb1.size hb2.size) _;have hx1:=KR.out _ hb12;obtain ⟨k0,k1,k2⟩:=hx1.cells;obtain ⟨f0,f1,f2⟩:=box_free hx1;simp only at k0 k1 k2;have HX1:=hid hx1;clear hx1))
   obtain ⟨j0,j1,j2⟩:=(box_put HX1.out (⟨#[]⟩,0,⟨#[]⟩)).cells
   simp only at j0 j1 j2
   exact bodyPost_ret (v:=.tuple #[.agg #[.string ⟨#[]⟩,.int .i64 0,.string ⟨#[]⟩],.int .i64 4]) (by simp [results,Tryz.results141,go_sem,j0,j1,j2]) rfl ⟨by rw [HO.out],bel_put (KZ.out _ hb12) (Nat.le_refl _) (⟨#[]⟩,0,⟨#[]⟩)⟩
  | some t =>
   rw [hrd] at HRD HT
   simp only [readV] at HRD
   rw [←HE.out] at HT
   have HU:Hid (∀W,Calls Tryz.prog 181 #[.agg #[.string (s.extract 0 i),.int .i64 o,.string ⟨t.toArray⟩]] W fun e w'=>e=.returned (.bool (!rightM (s.extract 0 i,o,⟨t.toArray⟩)))∧Grown W w'):=fun W=>punm_any (s.extract 0 i,o,⟨t.toArray⟩) W
   have KF:Hid (∀w2 w4:World,Below W0.heap.size W0 w2→Grown (w2.alloc (.cells #[.string (s.extract 0 i),.int .i64 o,.string ⟨t.toArray⟩] 51)) w4→BoxM w4 w2.heap.size (s.extract 0 i,o,⟨t.toArray⟩)∧Below W0.heap.size W0 w4):=fun w2 w4 h hg =>
    ⟨(boxM_new w2 (s.extract 0 i,o,⟨t.toArray⟩)).on hg.below,bel_then (h.alloc h.size _) (h.alloc h.size _).size hg.below⟩
   cases hrt:rightM (s.extract 0 i,o,⟨t.toArray⟩) with
   | false =>
    rw [hrt] at HU
    have HO:Hid (V=.tuple #[.agg #[.string ⟨#[]⟩,.int .i64 0,.string ⟨#[]⟩],.int .i64 4]):=by
     show _=_
     rw [←HV.out,HT.out]
     simp only [hrt]
     rfl
    go_enter Tryz.func141,Tryz.ntmps141
    go_wp2_with (first
     | (go_at_call 179;refine HX.out.mono ?_;rintro e w1 ⟨rfl,hb1⟩)
     | (go_at_call 180;refine (HIX.out _).mono ?_;rintro e w1' ⟨rfl,hw'⟩;rw [hw'])
     | (go_at_call 176;refine (HRD.out w1 (HP.out.on hb1)).mono ?_;rintro e w2 ⟨rfl,hb2⟩;have hb12:Below W0.heap.size W0 w2:=bel_then hb1 hb1.size hb2)
     | (go_at_call 181;refine (HU.out _).mono ?_;rintro e w4 ⟨rfl,hg4⟩;obtain ⟨hbx,hb4⟩:=KF.out _ _ hb12 hg4;have hx1:=KR.out _ hb4;obtain ⟨k0,k1,k2⟩:=hx1.cells;obtain ⟨f0,f1,f2⟩:=box_free hx1;simp only at k0 k1 k2;have HX1:=hid hx1;clear hx1 hbx))
    obtain ⟨j0,j1,j2⟩:=(box_put HX1.out (⟨#[]⟩,0,⟨#[]⟩)).cells
    simp only at j0 j1 j2
    exact bodyPost_ret (v:=.tuple #[.agg #[.string ⟨#[]⟩,.int .i64 0,.string ⟨#[]⟩],.int .i64 4]) (by simp [results,Tryz.results141,go_sem,j0,j1,j2]) rfl ⟨by rw [HO.out],bel_put (KZ.out _ hb4) (Nat.le_refl _) (⟨#[]⟩,0,⟨#[]⟩)⟩
   | true =>
    rw [hrt] at HU
    have HO:Hid (V=.tuple #[.agg #[.string (s.extract 0 i),.int .i64 o,.string ⟨t.toArray⟩],.int .i64 0]):=by
     show _=_
     rw [←HV.out,HT.out]
     simp only [hrt]
     rfl
    go_enter Tryz.func141,Tryz.ntmps141
    go_wp2_with (first
     | (go_at_call 179;refine HX.out.mono ?_;rintro e w1 ⟨rfl,hb1⟩)
     | (go_at_call 180;refine (HIX.out _).mono ?_;rintro e w1' ⟨rfl,hw'⟩;rw [hw'])
     | (go_at_call 176;refine (HRD.out w1 (HP.out.on hb1)).mono ?_;rintro e w2 ⟨rfl,hb2⟩;have hb12:Below W0.heap.size W0 w2:=bel_then hb1 hb1.size hb2)
     | (go_at_call 181;refine (HU.out _).mono ?_;rintro e w4 ⟨rfl,hg4⟩;obtain ⟨hbx,hb4⟩:=KF.out _ _ hb12 hg4;obtain ⟨g0,g1,g2⟩:=hbx.cells;have hx1:=KR.out _ hb4;obtain ⟨k0,k1,k2⟩:=hx1.cells;obtain ⟨f0,f1,f2⟩:=box_free hx1;simp only at k0 k1 k2 g0 g1 g2;have HX1:=hid hx1;clear hx1 hbx))
    obtain ⟨j0,j1,j2⟩:=(box_put HX1.out (s.extract 0 i,o,⟨t.toArray⟩)).cells
    simp only at j0 j1 j2
    exact bodyPost_ret (v:=.tuple #[.agg #[.string (s.extract 0 i),.int .i64 o,.string ⟨t.toArray⟩],.int .i64 0]) (by simp [results,Tryz.results141,go_sem,j0,j1,j2]) rfl ⟨by rw [HO.out],bel_put (KZ.out _ hb4) (Nat.le_refl _) (s.extract 0 i,o,⟨t.toArray⟩)⟩
end
section
open Go.RowKit Go.Lib
def CopyX (d:List Fx):Prop:=d.length * 40≤140737488355328∧∀x∈d,x.txt.length * 16≤140737488355328
end
section
open Go.RowKit
attribute [local go_sem] Oper.semAt_some
theorem termO_fit {l:List UInt8} {x:Tm} (h:termO l=some x):x.1.size≤l.length∧x.2.2.size≤l.length∧0≤x.2.1∧x.2.1≤7:=by
 unfold termO at h
 cases hd:l.dropWhile (fun c=>!isOp c) with
 | nil=>rw [hd] at h;cases h
 | cons c r =>
  rw [hd] at h
  simp only at h
  have hl:(l.dropWhile (fun c=>!isOp c)).length≤l.length:=(List.dropWhile_sublist _).length_le
  rw [hd,List.length_cons] at hl
  cases hr:readL r with
  | none=>rw [hr] at h;cases h
  | some t =>
   rw [hr] at h
   simp only at h
   split at h
   ·cases h
   ·cases h
    have h1:=readL_len _ _ _ (Nat.le_refl _) hr
    have h2:=opN_range (c.toNat:Int)
    refine ⟨?_,?_,h2.1,h2.2⟩
    ·show (l.takeWhile _).toArray.size≤_
     rw [List.size_toArray]
     exact (List.takeWhile_sublist _).length_le
    ·show t.toArray.size≤_
     rw [List.size_toArray]
     omega
theorem termsW_fit {B:Nat} (ls:List (List UInt8)) (hB:∀l∈ls,l.length≤B):∀d,termsW ls=some d→d.length=ls.length∧∀x∈d,x.1.size≤B∧x.2.2.size≤B∧0≤x.2.1∧x.2.1≤7:=by
 induction ls with
 | nil=>intro d h;cases h;exact ⟨rfl,fun x hx=>by simp at hx⟩
 | cons l ls ih =>
  intro d h
  simp only [termsW] at h
  cases ho:termO l with
  | none=>rw [ho] at h;cases h
  | some y =>
   rw [ho] at h
   cases hr:termsW ls with
   | none=>rw [hr] at h;cases h
   | some gs =>
    rw [hr] at h
    cases h
    obtain ⟨h1,h2⟩:=ih (fun l' hl'=>hB l' (by simp [hl'])) gs hr
    refine ⟨by simp [h1],fun x hx=>?_⟩
    rcases List.mem_cons.1 hx with rfl|hx
    ·obtain ⟨f1,f2,f3,f4⟩:=termO_fit ho
     have:=hB l (by simp)
     exact ⟨by omega,by omega,f3,f4⟩
    ·exact h2 x hx
theorem Kind.own_far {α:Type} {K:Kind α} {N R:Nat} {w w':World} {v:Value} {d:List α} (h:K.Own N w v d) (hg:w.grownBy w' (some R)) (hR:R<N):K.Own N w' v d :=
 own_same h fun k hk=>hg.block k (World.ownsRow.lt h k hk).2 (fun e=>by have:=(World.ownsRow.lt h k hk).1;have:=Option.some.inj e;omega)
def PSt {M:Nat} (w:World) (N:Nat) (pre:List (Wd M)) (W:World):Prop :=
 ∃v d,W.heap[w.heap.size+2]? = some (.cells #[v] 38 (0,0))∧KM.Own (N+2) W v d∧termsW (plainW pre)=some d∧d.length=pre.length ∧
  W.heap[w.heap.size]? = some (.cells #[.slice none 0 0] 38 (0,0))∧W.heap[w.heap.size+1]? = some (.cells #[.int .i64 0] 26 (0,0))∧Below w.heap.size w W∧N+2≤W.heap.size∧w.heap.size+6≤N
def PStop {M:Nat} (w:World) (N:Nat) (c:Code) (pre:List (Wd M)) (W:World):Prop :=
 c=.ret∧termsW (plainW pre)=none∧W.heap[w.heap.size]? = some (.cells #[.slice none 0 0] 38 (0,0))∧W.heap[w.heap.size+1]? = some (.cells #[.int .i64 4] 26 (0,0))∧Below w.heap.size w W∧w.heap.size+6≤N
set_option maxHeartbeats 1000000 in
theorem pparse_empty (w:World):Calls Tryz.prog 97 #[.string ⟨#[]⟩] w fun e w'=>TWPost w (termsW (wordsAns [])) e w':=by
 refine (callsIn_wide (n:=3)).1 ?_
 refine callsIn_of_wp_marks Tryz.func97 rfl trivial ?_ rfl
 simp only [Tryz.ntmps97,List.size_toArray,List.length_cons,List.length_nil,Nat.reduceAdd,Nat.reduceSub,Array.replicate_succ,Array.replicate_zero,List.push_toArray,List.append_toArray,List.nil_append,List.cons_append]
 gi_wp2
 exact ⟨.tuple #[.slice none 0 0,.int .i64 0],by simp [results,Tryz.results97,go_sem],⟨⟨_,rfl,KM.own_nil _ _⟩,((Below.refl _ w).alloc (Nat.le_refl _) _).alloc (by simp) _⟩⟩
set_option maxHeartbeats 4000000 in
set_option maxRecDepth 100000 in
theorem pparse_words (s:ByteArray) (w:World) (hp:PlainAt w) (h0:s.data.toList≠[]) (hs:s.size≤4294967000) :
  Calls Tryz.prog 97 #[.string s] w fun e w'=>TWPost w (termsW (wordsAns s.data.toList)) e w':=by
 refine (callsIn_wide (n:=3)).1 ?_
 refine callsIn_of_wp_marks Tryz.func97 rfl trivial ?_ rfl
 simp only [Tryz.ntmps97,List.size_toArray,List.length_cons,List.length_nil,Nat.reduceAdd,Nat.reduceSub,Array.replicate_succ,Array.replicate_zero,List.push_toArray,List.append_toArray,List.nil_append,List.cons_append]
 have hsl:(splitL s.data.toList).length≤s.size+1:=by simpa using splitL_len s.data.toList
 have hne:s.toList.isEmpty=false:=by
  rw [Lib.toList_data]
  cases h:s.data.toList with
  | nil=>exact absurd h h0
  | cons _ _=>rfl
 gi_wp2_with (refine ⟨trivial,?_⟩;gi_at_call 25;refine (callsIn_wide.2 (splitSeq_any _ _)).mono ?_;rintro e w3 ⟨rfl,hbx,hb3,hs3⟩)
 simp only [World.size_alloc] at hbx hb3 hs3
 have hb30:Below w.heap.size w w3:=((((Below.refl _ w).alloc (Nat.le_refl _) _).alloc (by simp) _).alloc (by simp;omega) _).trans (hb3.mono (by omega))
 have g0:w3.heap[w.heap.size]? = some (.cells #[.slice none 0 0] 38 (0,0)):=by
  rw [hb3.block _ (by omega),Below.heap_alloc _ _ _ (by simp;omega),Below.heap_alloc _ _ _ (by simp)];exact heap_alloc_new w _
 have g1:w3.heap[w.heap.size+1]? = some (.cells #[.int .i64 0] 26 (0,0)):=by
  rw [hb3.block _ (by omega),Below.heap_alloc _ _ _ (by simp)]
  have:=heap_alloc_new (w.alloc (.cells #[.slice none 0 0] 38)) (.cells #[.int .i64 0] 26)
  simpa using this
 have g2:w3.heap[w.heap.size+2]? = some (.cells #[.slice none 0 0] 38 (0,0)):=by
  rw [hb3.block _ (by omega)]
  have:=heap_alloc_new ((w.alloc (.cells #[.slice none 0 0] 38)).alloc (.cells #[.int .i64 0] 26)) (.cells #[.slice none 0 0] 38)
  simpa using this
 have hN6:w3.heap.size=w.heap.size+6:=by omega
 have ST0:Hid (∀o1 o2,PSt (M:=s.size) w w3.heap.size [] ((w3.alloc o1).alloc o2)):=fun o1 o2=>by
  have ha:∀k,k<w3.heap.size→((w3.alloc o1).alloc o2).heap[k]? = w3.heap[k]?:=fun k hk=>by
   rw [Below.heap_alloc _ _ _ (by simp;omega),Below.heap_alloc _ _ _ hk]
  exact ⟨.slice none 0 0,[],(ha _ (by omega)).trans g2,KM.own_nil _ _,rfl,rfl,(ha _ (by omega)).trans g0,(ha _ (by omega)).trans g1,
   (hb30.alloc hb30.size _).alloc (by have:=hb30.size;simp;omega) _,by simp,by omega⟩
 have HBX:=hid hbx
 have HP:=hid hp
 have hen:=enters_of (P:=Tryz.prog) Tryz.func87 (by kernel_rfl) rfl
 clear hbx hp g0 g1 g2 hb3 hs3
 refine wpIn_rangeFunc_box (w:=w3) rfl (by decide) (gf:=87) (lb:=#[.pointer (some ⟨w.heap.size+1+1+1+1,0,none⟩),.pointer (some ⟨w.heap.size+1+1+1,0,none⟩),.pointer (some ⟨w.heap.size+1+1+1+2,0,none⟩)]) rfl trivial hen (Bs:=w.heap.size+1+1+1) (by omega)
  (split1_seq 2 (by decide) s.size _ _ _ s (Nat.le_refl _) (by unfold maxLen;omega) w3 HBX.out) ?hKt ?hKb (fun _=>rfl) (PSt w w3.heap.size) (PStop w w3.heap.size) ?hIp ?hIb ?hXp ST0.out
  (fun x=>{ tmps:=#[.string s,undef,.pointer (some ⟨w.heap.size,0,none⟩),.pointer (some ⟨w.heap.size+1,0,none⟩),.pointer (some ⟨w.heap.size+1+1,0,none⟩),.string x.1,undef,undef,.string s,.bool false,.string s,
   .func (.func 87) #[] #[.pointer (some ⟨w.heap.size+1+1+1+1,0,none⟩),.pointer (some ⟨w.heap.size+1+1+1,0,none⟩),.pointer (some ⟨w.heap.size+1+1+1+2,0,none⟩)],
   .string x.1,undef,undef,undef,undef,undef,undef,undef,undef,undef,undef,undef,undef,undef,undef,undef,undef],defers:=[] }) ?assign ?body ?done ?stop
 case hKt=>exact fun h k=>⟨k.1.trans h.1,k.2.1.trans h.2.1,k.2.2.trans h.2.2⟩
 case hKb=>exact fun W l o' hl=>⟨World.putObj_heap_other (by omega),World.putObj_heap_other (by omega),World.putObj_heap_other (by omega)⟩
 case hIp =>
  rintro pre W o' ⟨v,d,k2,hox,hf,hl,k0,k1,hb,hz,h6⟩
  have hg:W.grownBy (W.putObj (w3.heap.size+1) o') (some (w3.heap.size+1)):=grownBy_putObj' W _ o'
  exact ⟨v,d,(World.putObj_heap_other (by omega)).trans k2,Kind.own_far hox hg (by omega),hf,hl,(World.putObj_heap_other (by omega)).trans k0,(World.putObj_heap_other (by omega)).trans k1,hb.grown hg (by omega) (fun k e=>by cases e;omega),Nat.le_trans hz hg.size,h6⟩
 case hIb =>
  rintro pre W u ⟨v,d,k2,hox,hf,hl,k0,k1,hb,hz,h6⟩
  have hg:W.grownBy (W.setCell ⟨w.heap.size+1+1+1,0,none⟩ u) (some (w.heap.size+1+1+1)):=grown_set W _ 0 u
  exact ⟨v,d,(hg.block _ (by omega) (by intro e;have:=Option.some.inj e;omega)).trans k2,Kind.own_far hox hg (by omega),hf,hl,(hg.block _ (by omega) (by intro e;have:=Option.some.inj e;omega)).trans k0,(hg.block _ (by omega) (by intro e;have:=Option.some.inj e;omega)).trans k1,hb.grown hg (by omega) (fun k e=>by cases e;omega),Nat.le_trans hz hg.size,h6⟩
 case hXp =>
  rintro c pre W o' ⟨hc,hf,k0,k1,hb,h6⟩
  have hg:W.grownBy (W.putObj (w3.heap.size+1) o') (some (w3.heap.size+1)):=grownBy_putObj' W _ o'
  exact ⟨hc,hf,(World.putObj_heap_other (by omega)).trans k0,(World.putObj_heap_other (by omega)).trans k1,⟨hg.os.trans hb.os,hg.tape.trans hb.tape,hg.output.trans hb.output,Nat.le_trans hb.size hg.size,fun k hk=>(World.putObj_heap_other (by omega)).trans (hb.block k hk)⟩,h6⟩
 case assign =>
  intro l x W K hK
  simp only [encW]
  gi_wp2
  exact hK
 case body =>
  rintro l pre x W hlW ⟨v,d,k2,hox,hf,hl,k0,k1,hb,hz,h6⟩ hlen
  have hwp:=term_any x.1 W (HP.out.on hb) (Nat.le_trans x.2 hs)
  obtain ⟨i0,hi,hz0,hz1,hz2⟩:=info_parts Tryz.infoTrm
  have hpl:plainW (pre++[x])=plainW pre++[x.1.data.toList]:=by simp [plainW]
  have HPL:=hid hpl
  have HF:=hid hf
  have HB:=hid hb
  have HOX:=hid hox
  have HK0:=hid k0
  have HK1:=hid k1
  have HK2:=hid k2
  have HLN:=hid hl
  clear hpl hf hb hox hl
  cases hwo:termO x.1.data.toList with
  | none =>
   rw [hwo] at hwp
   have HW:Hid (Calls Tryz.prog 141 #[.string x.1] W fun e w'=>e=.returned (.tuple #[.agg #[.string ⟨#[]⟩,.int .i64 0,.string ⟨#[]⟩],.int .i64 4])∧Below W.heap.size W w'):=hwp
   have HNO:Hid (termsW (plainW (pre++[x]))=none):=by
    show _=_
    rw [HPL.out]
    exact termsW_no hwo
   clear hwp k0 k1 k2
   have HN6:=hid hN6
   clear hN6
   gi_wp2_with (refine ⟨trivial,?_⟩;gi_at_call 141;refine (CallsIn.inRound l (callsIn_wide.2 HW.out)).mono ?_;rintro e W2 ⟨rfl,hb2⟩;have hs2:=hb2.size;have t0:=HK0.out;have t1:=HK1.out;have t0':=(Below.heap_alloc W2 (.cells #[.string ⟨#[]⟩,.int .i64 0,.string ⟨#[]⟩] 51) w.heap.size (by omega)).trans ((hb2.block w.heap.size (by omega)).trans t0);have t1':=(Below.heap_alloc W2 (.cells #[.string ⟨#[]⟩,.int .i64 0,.string ⟨#[]⟩] 51) (w.heap.size+1) (by omega)).trans ((hb2.block (w.heap.size+1) (by omega)).trans t1);obtain ⟨q0,q1⟩:=one_facts t0';obtain ⟨q2,q3⟩:=one_facts t1';have T0:=hid t0';have T1:=hid t1';clear t0 t1 t0' t1')
   have hbb:=((((HB.out.trans (hb2.mono HB.out.size)).alloc (Nat.le_trans HB.out.size hs2) (.cells #[.string ⟨#[]⟩,.int .i64 0,.string ⟨#[]⟩] 51)).setCell (p:=⟨w.heap.size,0,none⟩) (Nat.le_refl _) (.slice none 0 0)).setCell (p:=⟨w.heap.size+1,0,none⟩) (by show _≤w.heap.size+1;omega) (.int .i64 4))
   have hkf:KeepsFrom w3.heap.size W (W2.alloc (.cells #[.string ⟨#[]⟩,.int .i64 0,.string ⟨#[]⟩] 51)):=KeepsFrom.trans (keeps_below hb2) ((KeepsOthers.alloc _ _).from _)
   exact ⟨(hkf.trans ((KeepsOthers.setCell _ _ _).from _)).trans ((KeepsOthers.setCell _ _ _).from _),rfl,HNO.out,Boxed.other (Boxed.set _ T0.out) (by omega) _,Boxed.set _ (Boxed.other T1.out (by omega) _),hbb,h6⟩
  | some y =>
   rw [hwo] at hwp
   have HW:Hid (Calls Tryz.prog 141 #[.string x.1] W fun e w'=>e=.returned (.tuple #[.agg #[.string y.1,.int .i64 y.2.1,.string y.2.2],.int .i64 0])∧Below W.heap.size W w'):=hwp
   have HNO:Hid (termsW (plainW (pre++[x]))=some (d++[y])):=by
    show _=_
    rw [HPL.out]
    exact termsW_snoc HF.out hwo
   obtain ⟨yf,yo,yt⟩:=y
   simp only at HW
   clear hwp k0 k1 k2
   have HN6:=hid hN6
   clear hN6
   gi_wp2_with (first|(gi_at_builtin;refine wpListIn_append_own _ rfl _ _ 38 rfl (w3.heap.size+2) 51 i0 (.agg #[.string ⟨#[]⟩,.int .i64 0,.string ⟨#[]⟩]) 3 40 Tryz.underlying38 hi hz0 hz1 hz2 rfl (by decide) _ _ _ rfl HX2.out ⟨W2.heap.size+1,0,none⟩ 1 1 (KM.cells [(yf,yo,yt)]) rfl rfl HC.out (KM.cells_ones _) (by rw [HLN.out];unfold maxLen;omega) (by rw [HLN.out];omega) (by simp;omega) ?_;intro v' w1 hown' hgrow _;obtain ⟨g',cap',rfl⟩:=ownsRow_succ hown';have hv1:=T2.out.kept hgrow (T2.out.not_row (by decide) HX2.out);have hc1:=hv1.cell;have hf1:=hv1.frozen;have HV1:=hid hv1;have HO:=hid hown';have HG:=hid hgrow;clear hv1 hown' hgrow)|(refine ⟨trivial,?_⟩;gi_at_call 141;refine (CallsIn.inRound l (callsIn_wide.2 HW.out)).mono ?_;rintro e W2 ⟨rfl,hb2⟩;have hs2:=hb2.size;have t2:=HK2.out;have t2':=(Below.heap_alloc W2 (.cells #[.string yf,.int .i64 yo,.string yt] 51) (w.heap.size+2) (by omega)).trans ((hb2.block (w.heap.size+2) (by omega)).trans t2);obtain ⟨q0,q1⟩:=one_facts t2';have T2:Hid (Boxed ((W2.alloc (.cells #[.string yf,.int .i64 yo,.string yt] 51)).alloc (.cells #[.string yf,.int .i64 yo,.string yt] 51)) (w.heap.size+2) 38 v):=hid (Boxed.alloc t2' _);have HB2:Hid (Below W.heap.size W ((W2.alloc (.cells #[.string yf,.int .i64 yo,.string yt] 51)).alloc (.cells #[.string yf,.int .i64 yo,.string yt] 51))):=hid ((hb2.alloc hs2 _).alloc (by simp;omega) _);have HX2:=hid (Kind.own_on HOX.out HB2.out);have HC:=hid (KM.news (W2.alloc (.cells #[.string yf,.int .i64 yo,.string yt] 51)) (yf,yo,yt));rw [World.size_alloc] at HC;clear t2 t2'))
   have hb12:Below (w3.heap.size+2) W w1:=(HB2.out.mono hz).trans ((Below.refl _ _).grown HG.out (by simp;omega) (fun k hk=>(World.ownsRow.lt HX2.out k hk).1))
   have hsz1:=hb12.size
   have hox0:KM.Own (w3.heap.size+2) w1 (.slice (some ⟨g',0,none⟩) (d.length+1) cap') (d++[(yf,yo,yt)]):=Kind.own_snoc HO.out rfl rfl
   have hox1:=Kind.own_far hox0 (grown_set w1 (w.heap.size+2) 0 (.slice (some ⟨g',0,none⟩) (d.length+1) cap')) (by omega)
   have hkf:KeepsFrom w3.heap.size W w1:=(keeps_below HB2.out).trans ((KeepsOthers.of_grownBy HG.out (fun j o ej hj=>row_cells HX2.out ej hj)).from _)
   refine ⟨hkf.trans ((KeepsOthers.setCell _ _ _).from _),⟨(Below.heap_setCell w1 _ _ _ (by show _≠w.heap.size+1+1;omega)).trans (hb12.block _ (by omega)),(Below.heap_setCell w1 _ _ _ (by show _≠w.heap.size+1+1;omega)).trans (hb12.block _ (by omega)),(Below.heap_setCell w1 _ _ _ (by show _≠w.heap.size+1+1;omega)).trans (hb12.block _ (by omega))⟩,?_⟩
   exact ⟨_,d++[(yf,yo,yt)],Boxed.set _ HV1.out,hox1,HNO.out,by rw [List.length_append,List.length_append,HLN.out];rfl,
    Boxed.other ((hb12.block _ (by omega)).trans HK0.out) (by omega) _,Boxed.other ((hb12.block _ (by omega)).trans HK1.out) (by omega) _,
    (HB.out.trans (hb12.mono (by omega))).setCell (p:=⟨w.heap.size+1+1,0,none⟩) (by show _≤w.heap.size+1+1;omega) _,by simp [World.setCell];omega,h6⟩
 case done =>
  rintro xs W hS ⟨v,d,k2,hox,hf,hl,k0,k1,hb,hz,h6⟩ hK
  have hfs:termsW (wordsAns s.data.toList)=some d:=by unfold wordsAns;rw [if_neg h0,←hS];exact hf
  have hln:d.length=(splitL s.data.toList).length:=by rw [hl];have:=congrArg List.length hS;simpa [plainW] using this
  obtain ⟨f1,f3⟩:=termsW_fit (B:=s.size) (plainW xs) (fun l hl=>by
   obtain ⟨x,_,rfl⟩:=List.mem_map.1 hl
   simpa using x.2) d hf
  have hfit:FitM d:=⟨by unfold maxLen;omega,fun x hx=>by
   obtain ⟨a1,a2,a3,a4⟩:=f3 x hx
   refine ⟨?_,?_,by omega,by omega⟩
   ·unfold maxLen;omega
   ·unfold maxLen;omega⟩
  have hnm:=pnorm_any v d W (Kind.own_is hox) hfit
  have HNM:Hid (Calls Tryz.prog 110 #[v] W fun e w'=>∃p n c,e=.returned (.tuple #[.slice p n c,.int .i64 (mayM d)])∧KM.Own W.heap.size w' (.slice p n c) (ansM d)∧Below W.heap.size W w'):=hnm.mono (by
   rintro e w' ⟨⟨u,rfl,ho⟩,hb'⟩
   obtain ⟨p,c,rfl⟩:=Kind.own_shape ho
   exact ⟨p,_,c,rfl,ho,hb'⟩)
  have HAN:Hid (codeW (some d)=mayM d∧ansW (some d)=ansM d):=⟨rfl,rfl⟩
  obtain ⟨k,hk⟩:∃k,mayM d=k:=⟨_,rfl⟩
  rw [hk] at HNM HAN
  obtain ⟨c2,_⟩:=one_facts k2
  have HK0:=hid k0
  have HK1:=hid k1
  have HB:=hid hb
  have HK:=hid hK
  have HFS:=hid hfs
  have HN6:=hid hN6
  clear hnm hfit hox hf k0 k1 k2 hK hN6 hb hfs hk
  gi_wp2_with (refine ⟨trivial,?_⟩;gi_at_call 110;refine (callsIn_wide.2 HNM.out).mono ?_;rintro e W2 ⟨p,n,c,rfl,hans,hb2⟩;obtain ⟨q0,q1⟩:=one_facts ((hb2.block w.heap.size (by omega)).trans HK0.out);obtain ⟨q2,q3⟩:=one_facts ((hb2.block (w.heap.size+1) (by omega)).trans HK1.out))
  have u0:Boxed W2 w.heap.size 38 (.slice none 0 0):=(hb2.block w.heap.size (by omega)).trans HK0.out
  have u1:Boxed W2 (w.heap.size+1) 26 (.int .i64 0):=(hb2.block (w.heap.size+1) (by omega)).trans HK1.out
  obtain ⟨W4,hW4⟩:∃W4,(W2.setCell ⟨w.heap.size,0,none⟩ (.slice p n c)).setCell ⟨w.heap.size+1,0,none⟩ (.int .i64 k)=W4:=⟨_,rfl⟩
  have y0:Boxed W4 w.heap.size 38 (.slice p n c):=by rw [←hW4];exact Boxed.other (Boxed.set _ u0) (by omega) _
  have y1:Boxed W4 (w.heap.size+1) 26 (.int .i64 k):=by rw [←hW4];exact Boxed.set _ (Boxed.other u1 (by omega) _)
  have hKD:W4.heap[w3.heap.size]? = some (.deferred (some [])):=by
   rw [←hW4]
   exact (Below.heap_setCell _ _ _ _ (by show _≠w.heap.size+1;omega)).trans ((Below.heap_setCell _ _ _ _ (by show _≠w.heap.size;omega)).trans ((hb2.block _ (by omega)).trans HK.out))
  have hb4:Below w.heap.size w W4:=by
   rw [←hW4]
   exact ((HB.out.trans (hb2.mono HB.out.size)).setCell (p:=⟨w.heap.size,0,none⟩) (Nat.le_refl _) _).setCell (p:=⟨w.heap.size+1,0,none⟩) (by show _≤w.heap.size+1;omega) _
  have ha4:KM.Own W.heap.size W4 (.slice p n c) (ansM d):=by
   rw [←hW4]
   exact Kind.own_far (Kind.own_far hans (grown_set W2 w.heap.size 0 _) (by omega)) (grown_set _ (w.heap.size+1) 0 _) (by omega)
  rw [hW4]
  have hsz4:=hb4.size
  have hg5:W4.grownBy (W4.putObj w3.heap.size (.deferred none)) (some w3.heap.size):=grownBy_putObj' W4 _ _
  have z0:Boxed (W4.putObj w3.heap.size (.deferred none)) w.heap.size 38 (.slice p n c):=(World.putObj_heap_other (by omega)).trans y0
  have z1:Boxed (W4.putObj w3.heap.size (.deferred none)) (w.heap.size+1) 26 (.int .i64 k):=(World.putObj_heap_other (by omega)).trans y1
  have z0c:=z0.cell
  have z1c:=z1.cell
  refine ⟨by simp,.inl ⟨_,_,rfl,run_takeDeferred hKD,?_⟩⟩
  refine ⟨.tuple #[.slice p n c,.int .i64 k],by simp [results,Tryz.results97,go_sem,z0c,z1c],⟨.slice p n c,?_,?_⟩,hb4.grown hg5 (by omega) (fun k e=>by cases e;omega)⟩
  ·rw [HFS.out,HAN.out.1]
  ·rw [HFS.out,HAN.out.2]
   exact Kind.own_weak (Kind.own_far ha4 hg5 (by omega)) (by omega)
 case stop =>
  rintro c pre W hSp ⟨rfl,hf,k0,k1,hb,h6⟩ hK
  have HN6:=hid hN6
  clear hN6
  gi_wp2
  have hg5:W.grownBy (W.putObj w3.heap.size (.deferred none)) (some w3.heap.size):=grownBy_putObj' W _ _
  have z0:Boxed (W.putObj w3.heap.size (.deferred none)) w.heap.size 38 (.slice none 0 0):=(World.putObj_heap_other (by omega)).trans k0
  have z1:Boxed (W.putObj w3.heap.size (.deferred none)) (w.heap.size+1) 26 (.int .i64 4):=(World.putObj_heap_other (by omega)).trans k1
  have z0c:=z0.cell
  have z1c:=z1.cell
  have hno:termsW (wordsAns s.data.toList)=none:=by
   obtain ⟨r,hr⟩:=hSp
   unfold wordsAns
   rw [if_neg h0,←hr,termsW_append,hf];rfl
  refine ⟨by simp,.inl ⟨_,_,rfl,run_takeDeferred hK,?_⟩⟩
  refine ⟨.tuple #[.slice none 0 0,.int .i64 4],by simp [results,Tryz.results97,go_sem,z0c,z1c],⟨.slice none 0 0,?_,?_⟩,hb.grown hg5 hb.size (fun k e=>by cases e;omega)⟩
  ·rw [hno];rfl
  ·rw [hno];exact KM.own_nil _ _
theorem pparse_any (s:ByteArray) (w:World) (hp:PlainAt w) (hs:s.size≤4294967000) :
  Calls Tryz.prog 97 #[.string s] w fun e w'=>TWPost w (termsW (wordsAns s.data.toList)) e w':=by
 by_cases h0:s.data.toList=[]
 ·have e:s=⟨#[]⟩:=by
   obtain ⟨⟨l⟩⟩:=s
   cases h0
   rfl
  subst e
  exact pparse_empty w
 ·exact pparse_words s w hp h0 hs
end
section
open Go.RowKit Go.Sort Go.Lib
set_option maxHeartbeats 1000000 in
theorem emis_any (x:Ed) (w:World) (hs:x.2.1.size≤maxLen):Calls Tryz.prog 130 #[.agg (encE x).toArray] w fun e w'=>e=.returned (.bool (!namedE x))∧Grown w w':=by
 obtain ⟨o,a,t⟩:=x
 simp only [encE,namedE] at hs ⊢
 go_enter Tryz.func130,Tryz.ntmps130
 go_wp2_with (go_at_call 168;refine (field_any _ _ hs).mono ?_;rintro e w' ⟨rfl,rfl⟩)
 go_ret
 exact ⟨rfl,(Grown.refl _).alloc _⟩
set_option maxHeartbeats 1000000 in
theorem elong_any (x:Ed) (w:World):Calls Tryz.prog 132 #[.agg (encE x).toArray] w fun e w'=>e=.returned (.bool (!shortE x))∧Grown w w':=by
 obtain ⟨o,a,t⟩:=x
 simp only [encE,shortE]
 have HE:Hid (decide ((128:Int)<t.size) = !decide (t.size≤128)):=by
  show _=_
  rw [Bool.eq_iff_iff];simp;omega
 go_enter Tryz.func132,Tryz.ntmps132
 go_wp2_with fail
 go_ret
 exact ⟨ret_bool HE.out,(Grown.refl _).alloc _⟩
set_option maxHeartbeats 2000000 in
theorem eunm_any (x:Ed) (w:World):Calls Tryz.prog 131 #[.agg (encE x).toArray] w fun e w'=>e=.returned (.bool (!rightE x))∧Grown w w':=by
 obtain ⟨o,a,t⟩:=x
 simp only [encE]
 by_cases h4:o=4
 ·have HE:Hid ((!t.toList.isEmpty) = !rightE (o,a,t)):=by
   show _=_
   unfold rightE
   have e1:decide (1≤o)=true:=decide_eq_true (by omega)
   have e2:decide (o≤5)=true:=decide_eq_true (by omega)
   have e3:decide (o≠4)=false:=decide_eq_false (by omega)
   simp only [e1,e2,e3,Bool.true_and,Bool.false_or]
   congr 1
   by_cases hz:t.size=0
   ·rw [sempty_of hz,decide_eq_true hz]
   ·rw [sfull_of hz,decide_eq_false hz]
  subst h4
  go_enter Tryz.func131,Tryz.ntmps131
  go_wp2_with fail
  go_ret
  exact ⟨ret_bool HE.out,(Grown.refl _).alloc _⟩
 ·by_cases h5:o=1∨o=2∨o=3∨o=5
  ·have HE:Hid (false = !rightE (o,a,t)):=by
    show _=_
    unfold rightE
    have e1:decide (1≤o)=true:=decide_eq_true (by omega)
    have e2:decide (o≤5)=true:=decide_eq_true (by omega)
    have e3:decide (o≠4)=true:=decide_eq_true (by omega)
    simp only [e1,e2,e3,Bool.true_and,Bool.true_or,Bool.not_true]
   rcases h5 with rfl|rfl|rfl|rfl <;>
   ·go_enter Tryz.func131,Tryz.ntmps131
    go_wp2_with fail
    go_ret
    exact ⟨ret_bool HE.out,(Grown.refl _).alloc _⟩
  ·have HE:Hid (true = !rightE (o,a,t)):=by
    show _=_
    unfold rightE
    by_cases e1:1≤o
    ·have e2:decide (o≤5)=false:=decide_eq_false (by omega)
     simp [e2]
    ·simp [e1]
   have n1:(o==1)=false:=by simp;omega
   have n2:(o==2)=false:=by simp;omega
   have n3:(o==3)=false:=by simp;omega
   have n4:(o==4)=false:=by simp;omega
   have n5:(o==5)=false:=by simp;omega
   clear h4 h5
   go_enter Tryz.func131,Tryz.ntmps131
   go_wp2_with fail
   go_ret
   exact ⟨ret_bool HE.out,(Grown.refl _).alloc _⟩
def Ef:Type:={ x:Ed // x.2.1.size≤maxLen∧x.2.2.size≤maxLen∧-9223372036854775808≤x.1∧x.1≤9223372036854775807 }
def efNone:Ef:=⟨(0,⟨#[]⟩,⟨#[]⟩),Nat.zero_le _,Nat.zero_le _,by decide,by decide⟩
set_option maxHeartbeats 1000000 in
theorem hasE_none (p:Option Addr) (c:Nat) (fv:Value) (w:World) :
  Calls Tryz.prog 129 #[.slice p 0 c,fv] w fun e w'=>e=.returned (.bool false)∧w'=w:=by
 have hix:Calls Tryz.prog 167 #[.slice p 0 c,fv] w fun e w'=>e=.returned (.int .i64 (-1))∧w'=w:=by
  go_enter Tryz.func167,Tryz.ntmps167
  go_wp2_with fail
  refine wp_loop_rounds 1 ?_
  rw [rounds_succ]
  go_wp2_with fail
  go_ret
  exact ⟨rfl,rfl⟩
 have HX:=hid hix
 clear hix
 go_enter Tryz.func129,Tryz.ntmps129
 go_wp2_with (first|(go_at_call 167;refine HX.out.mono ?_;rintro e w1 ⟨rfl,rfl⟩))
 go_ret
 exact ⟨rfl,rfl⟩
theorem ke_enc {w:World} {b off:Nat} {p:List Ed} (h:KE.At w b off p) (j:Nat) (hj:j<p.length) (i:Nat) (v:Value) (hv:(encE p[j])[i]? = some v):w.cell? ⟨b,off+j * 3+i,none⟩=some v:=h j hj i v hv
theorem hasE_any (f:Ed→Bool) (k:Nat) (lb:Array Value) (ent:∀args w,(callFunc k args).run Tryz.prog w=.ok (.enter k args) w) (v:Value) (p:List Ed) (w:World) (hv:KE.Is w v p) (hf:FitE p)
  (hk:∀(W:World) (x:Ed),Below w.heap.size w W→x.2.1.size≤maxLen→x.2.2.size≤maxLen→(-9223372036854775808≤x.1∧x.1≤9223372036854775807)→Calls Tryz.prog k (#[.agg (encE x).toArray]++lb) W fun e w'=>e=.returned (.bool (f x))∧Below w.heap.size w w') :
  Calls Tryz.prog 129 #[v,.func (.func k) #[] lb] w fun e w'=>e=.returned (.bool (p.any f))∧Below w.heap.size w w':=by
 obtain ⟨q,cap,rfl,hd⟩:=hv
 by_cases h0:p=[]
 ·subst h0
  refine (hasE_none q cap _ w).mono ?_
  rintro e w' ⟨rfl,rfl⟩
  exact ⟨rfl,Below.refl _ _⟩
 ·rcases hd with hd|⟨b,off,rfl,hx⟩
  ·exact absurd hd h0
  ·have hlen:0<p.length:=List.length_pos_iff.2 h0
   have hl:=hf.1
   unfold maxLen at hl
   have hfn:∀x∈p,x.2.1.size≤maxLen∧x.2.2.size≤maxLen∧-9223372036854775808≤x.1∧x.1≤9223372036854775807:=hf.2
   obtain ⟨zs,hzs⟩:∃zs:List Ef,zs.map (·.1)=p:=⟨p.attachWith _ hfn,List.attachWith_map_subtype_val ..⟩
   have hzl:zs.length=p.length:=by rw [←hzs,List.length_map]
   letI:Inhabited Ef:=⟨efNone⟩
   have hc:=AnyQ.slices_ContainsFunc (α:=Ef) Tryz.hasEdt 3 Tryz.isAgg49 Tryz.sizeOf49 (fun x=>encE x.1) (fun _=>rfl) (fun x=>f x.1) k lb ent b off p.length cap zs w
    (fun W x hb=>hk W x.1 hb x.2.1 x.2.2.1 x.2.2.2) (by omega) (by omega) (cell_block (hx 0 hlen 0 _ rfl))
    (fun j hj i u hu=>by
     have hj':j<p.length:=by omega
     rw [getElem!_pos zs j hj] at hu
     have e:(zs[j]).1=p[j]:=by subst hzs;simp
     rw [e] at hu
     exact ke_enc hx j hj' i u hu)
   change Calls Tryz.prog 129 _ _ _ at hc
   refine hc.mono ?_
   rintro e w' ⟨rfl,hb⟩
   refine ⟨ret_bool ?_,hb⟩
   rw [List.take_of_length_le (by omega),←hzs]
   simp [List.any_map,Function.comp_def]
theorem enters_emis:∀args w,(callFunc 130 args).run Tryz.prog w=.ok (.enter 130 args) w:=enters_of Tryz.func130 (by kernel_rfl) rfl
theorem enters_eunm:∀args w,(callFunc 131 args).run Tryz.prog w=.ok (.enter 131 args) w:=enters_of Tryz.func131 (by kernel_rfl) rfl
theorem enters_elong:∀args w,(callFunc 132 args).run Tryz.prog w=.ok (.enter 132 args) w:=enters_of Tryz.func132 (by kernel_rfl) rfl
theorem any_notE (p:List Ed) (f:Ed→Bool):p.any (fun x=>!f x) = !p.all f:=by
 induction p with
 | nil=>rfl
 | cons x p ih=>simp only [List.any_cons,List.all_cons,ih,Bool.not_and]
theorem hasMisE (v:Value) (p:List Ed) (w:World) (hv:KE.Is w v p) (hf:FitE p):Calls Tryz.prog 129 #[v,.func (.func 130) #[] #[]] w fun e w'=>e=.returned (.bool (!p.all namedE))∧Below w.heap.size w w':=by
 have:=hasE_any (fun x=>!namedE x) 130 #[] enters_emis v p w hv hf (fun W x hb h1 _ _=>(emis_any x W h1).mono fun _ _ ⟨h2,h3⟩=>⟨h2,hb.trans (h3.below.mono hb.size)⟩)
 rwa [any_notE] at this
theorem hasUnmE (v:Value) (p:List Ed) (w:World) (hv:KE.Is w v p) (hf:FitE p):Calls Tryz.prog 129 #[v,.func (.func 131) #[] #[]] w fun e w'=>e=.returned (.bool (!p.all rightE))∧Below w.heap.size w w':=by
 have:=hasE_any (fun x=>!rightE x) 131 #[] enters_eunm v p w hv hf (fun W x hb _ _ _=>(eunm_any x W).mono fun _ _ ⟨h2,h3⟩=>⟨h2,hb.trans (h3.below.mono hb.size)⟩)
 rwa [any_notE] at this
theorem hasLngE (v:Value) (p:List Ed) (w:World) (hv:KE.Is w v p) (hf:FitE p):Calls Tryz.prog 129 #[v,.func (.func 132) #[] #[]] w fun e w'=>e=.returned (.bool (!p.all shortE))∧Below w.heap.size w w':=by
 have:=hasE_any (fun x=>!shortE x) 132 #[] enters_elong v p w hv hf (fun W x hb _ _ _=>(elong_any x W).mono fun _ _ ⟨h2,h3⟩=>⟨h2,hb.trans (h3.below.mono hb.size)⟩)
 rwa [any_notE] at this
set_option maxHeartbeats 2000000 in
set_option maxRecDepth 100000 in
theorem pmayE_raw (v:Value) (p:List Ed) (w:World) (hv:KE.Is w v p) (hf:FitE p) :
  Calls Tryz.prog 85 #[v] w fun e w'=>e=.returned (.int .i64 (mayE p))∧Below w.heap.size w w':=by
 obtain ⟨q,cap,hvv⟩:∃q cap,v=.slice q p.length cap:=by obtain ⟨q,cap,h,_⟩:=hv;exact ⟨q,cap,h⟩
 subst hvv
 have HV:=hid hv
 have HF:=hid hf
 have H1:=hid (hasMisE _ p w hv hf)
 obtain ⟨m,hm⟩:∃m,mayE p=m:=⟨_,rfl⟩
 rw [hm]
 have HM:=hid hm
 clear hm hv hf
 unfold mayE at HM
 by_cases h16:16<p.length
 ·have h16z:(16:Int)<(p.length:Int):=by omega
  have HR:Hid (5=m):=by have:=HM.out;rw [if_pos h16] at this;exact this
  go_enter Tryz.func85,Tryz.ntmps85
  go_wp2_with fail
  go_ret
  exact ⟨ret_int HR.out,Below.refl _ _⟩
 ·have h16z:¬ (16:Int)<(p.length:Int):=by omega
  rw [if_neg h16] at HM
  cases a1:p.all namedE with
  | false =>
   rw [a1] at H1
   have HR:Hid (2=m):=by have:=HM.out;rw [if_pos a1] at this;exact this
   go_enter Tryz.func85,Tryz.ntmps85
   go_wp2_with (go_at_call 129;refine H1.out.mono ?_;rintro e w1 ⟨rfl,hb1⟩)
   go_ret
   exact ⟨ret_int HR.out,hb1⟩
  | true =>
   rw [a1] at H1
   rw [if_neg (by rw [a1];simp)] at HM
   have H2:Hid (∀W,Below w.heap.size w W→Calls Tryz.prog 129 #[.slice q p.length cap,.func (.func 131) #[] #[]] W fun e w'=>e=.returned (.bool (!p.all rightE))∧Below W.heap.size W w'):=fun W hb=>hasUnmE _ p W (Kind.is_kept HV.out hb) HF.out
   have H3:Hid (∀W,Below w.heap.size w W→Calls Tryz.prog 129 #[.slice q p.length cap,.func (.func 132) #[] #[]] W fun e w'=>e=.returned (.bool (!p.all shortE))∧Below W.heap.size W w'):=fun W hb=>hasLngE _ p W (Kind.is_kept HV.out hb) HF.out
   cases a2:p.all rightE with
   | false =>
    rw [a2] at H2
    have HR:Hid (1=m):=by have:=HM.out;rw [if_pos a2] at this;exact this
    go_enter Tryz.func85,Tryz.ntmps85
    go_wp2_with (first|(go_at_call 129;refine H1.out.mono ?_;rintro e w1 ⟨rfl,hb1⟩)|(go_at_call 129;refine (H2.out w1 hb1).mono ?_;rintro e w2 ⟨rfl,hb2⟩))
    go_ret
    exact ⟨ret_int HR.out,bel_then hb1 hb1.size hb2⟩
   | true =>
    rw [a2] at H2
    rw [if_neg (by rw [a2];simp)] at HM
    have h12:Hid (∀w1 w2,Below w.heap.size w w1→Below w1.heap.size w1 w2→Below w.heap.size w w2):=fun w1 w2 h k=>bel_then h h.size k
    cases a3:p.all shortE with
    | false =>
     rw [a3] at H3
     have HR:Hid (5=m):=by have:=HM.out;rw [if_pos a3] at this;exact this
     go_enter Tryz.func85,Tryz.ntmps85
     go_wp2_with (first|(go_at_call 129;refine H1.out.mono ?_;rintro e w1 ⟨rfl,hb1⟩)|(go_at_call 129;refine (H2.out w1 hb1).mono ?_;rintro e w2 ⟨rfl,hb2⟩;have hb12:=h12.out _ _ hb1 hb2)|(go_at_call 129;refine (H3.out w2 hb12).mono ?_;rintro e w3 ⟨rfl,hb3⟩))
     go_ret
     exact ⟨ret_int HR.out,bel_then hb12 hb12.size hb3⟩
    | true =>
     rw [a3] at H3
     have HR:Hid (0=m):=by have:=HM.out;rw [if_neg (by rw [a3];simp)] at this;exact this
     go_enter Tryz.func85,Tryz.ntmps85
     go_wp2_with (first|(go_at_call 129;refine H1.out.mono ?_;rintro e w1 ⟨rfl,hb1⟩)|(go_at_call 129;refine (H2.out w1 hb1).mono ?_;rintro e w2 ⟨rfl,hb2⟩;have hb12:=h12.out _ _ hb1 hb2)|(go_at_call 129;refine (H3.out w2 hb12).mono ?_;rintro e w3 ⟨rfl,hb3⟩))
     go_ret
     exact ⟨ret_int HR.out,bel_then hb12 hb12.size hb3⟩
end
section
open Go.RowKit Go.Lib
theorem belE_drew {B:Nat} {a w:World} (h:Below B a w) (n:Nat):Below B a (w.drewN n):=⟨h.os,h.tape,h.output,h.size,h.block⟩
def BoxE (w:World) (g:Nat) (x:Ed):Prop:=w.heap[g]? = some (.cells #[.int .i64 x.1,.string x.2.1,.string x.2.2] 49 (0,0))
theorem BoxE.cells {w:World} {g:Nat} {x:Ed} (h:BoxE w g x):w.cell? ⟨g,0,none⟩=some (.int .i64 x.1)∧w.cell? ⟨g,1,none⟩=some (.string x.2.1)∧w.cell? ⟨g,2,none⟩=some (.string x.2.2):=by
 rw [Lib.cell_of_heap h,Lib.cell_of_heap h,Lib.cell_of_heap h]
 exact ⟨rfl,rfl,rfl⟩
theorem BoxE.lt {w:World} {g:Nat} {x:Ed} (h:BoxE w g x):g<w.heap.size:=(Array.getElem?_eq_some_iff.1 h).1
theorem BoxE.on {w w':World} {g:Nat} {x:Ed} (h:BoxE w g x) (hb:Below w.heap.size w w'):BoxE w' g x:=(hb.block g h.lt).trans h
theorem boxE_new (w:World) (x:Ed):BoxE (w.alloc (.cells #[.int .i64 x.1,.string x.2.1,.string x.2.2] 49)) w.heap.size x:=heap_alloc_new w _
theorem boxE_put {W:World} {R:Nat} {x:Ed} (h:BoxE W R x) (y:Ed) :
  BoxE (((W.setCell ⟨R,0,none⟩ (.int .i64 y.1)).setCell ⟨R,1,none⟩ (.string y.2.1)).setCell ⟨R,2,none⟩ (.string y.2.2)) R y :=
 heap_setCell_same _ R 2 _ _ _ (heap_setCell_same _ R 1 _ _ _ (heap_setCell_same W R 0 _ _ _ h))
theorem boxE_text {W:World} {R:Nat} {x:Ed} (h:BoxE W R x) (t:ByteArray):BoxE (W.setCell ⟨R,2,none⟩ (.string t)) R (x.1,x.2.1,t):=heap_setCell_same W R 2 _ _ _ h
theorem boxE_free {W:World} {R:Nat} {x:Ed} (h:BoxE W R x):W.frozen? ⟨R,0,none⟩=false∧W.frozen? ⟨R,1,none⟩=false∧W.frozen? ⟨R,2,none⟩=false :=
 ⟨Lib.frozen_of_heap h 0,Lib.frozen_of_heap h 1,Lib.frozen_of_heap h 2⟩
theorem belE_put {B R:Nat} {w W:World} (h:Below B w W) (hR:B≤R) (y:Ed):Below B w (((W.setCell ⟨R,0,none⟩ (.int .i64 y.1)).setCell ⟨R,1,none⟩ (.string y.2.1)).setCell ⟨R,2,none⟩ (.string y.2.2)) :=
 ((h.setCell (p:=⟨R,0,none⟩) hR _).setCell (p:=⟨R,1,none⟩) hR _).setCell (p:=⟨R,2,none⟩) hR _
end
section
open Go.RowKit Go.Lib Go.ChangeMaps
def signsAH:ByteArray:=⟨#[58,43,45,126,61]⟩
theorem signs_k (c:UInt8):signsAH.data.toList.contains c=isK c:=by
 rw [Bool.eq_iff_iff]
 constructor
 ·intro h
  have:c∈signsAH.data.toList:=by simpa using h
  simp [signsAH] at this
  rcases this with rfl|rfl|rfl|rfl|rfl<;>decide
 ·intro h
  rcases kind_sign h with rfl|rfl|rfl|rfl|rfl<;>decide
def FirstK (l:List UInt8) (k:Int):Prop:=(k=-1∧∀c∈l,isK c=false)∨∃i:Nat,k=i∧∃h:i<l.length,isK l[i]=true∧∀c∈l.take i,isK c=false
theorem indexAny_firstH:∀l:List UInt8,FirstK l (Lib.indexAny l signsAH.data.toList)
 | []=>Or.inl ⟨rfl,fun c hc=>by simp at hc⟩
 | b::l=>by
  have ih:=indexAny_firstH l
  unfold Lib.indexAny
  rw [signs_k]
  cases hb:isK b with
  | true =>
   rw [if_pos rfl]
   exact Or.inr ⟨0,rfl,by simp,hb,fun c hc=>by simp at hc⟩
  | false =>
   rw [if_neg (by simp)]
   rcases ih with ⟨h1,h2⟩|⟨i,h1,hi,h3,h4⟩
   ·rw [h1]
    refine Or.inl ⟨rfl,fun c hc=>?_⟩
    rcases List.mem_cons.1 hc with rfl|hc
    ·exact hb
    ·exact h2 c hc
   ·rw [h1]
    have:((i:Int) == -1)=false:=by simp
    rw [this,if_neg (by simp)]
    refine Or.inr ⟨i+1,rfl,by simpa using hi,by simpa using h3,fun c hc=>?_⟩
    rw [List.take_succ_cons] at hc
    rcases List.mem_cons.1 hc with rfl|hc
    ·exact hb
    ·exact h4 c hc
theorem get_atH (s:ByteArray) (i:Nat) (h:i<s.size):s.get! i=s[i]'h:=by
 simp [ByteArray.get!,getElem!_pos,h]
 rfl
theorem dec_highH (s:ByteArray) (pos:Nat) (h:pos<s.size) (hb:128≤(s[pos]'h).toNat) :
  128≤(Utf8.decode s pos).1∧(Utf8.decode s pos).1≤2097151∧1≤(Utf8.decode s pos).2∧pos+(Utf8.decode s pos).2≤s.size∧∀j,pos≤j→j<pos+(Utf8.decode s pos).2→128≤(s.get! j).toNat:=by
 have e0:(s.get! (pos+0)).toNat=(s[pos]'h).toNat:=by rw [Nat.add_zero,get_atH s pos h]
 have hlt:∀k,(s.get! (pos+k)).toNat<256:=fun k=>UInt8.toNat_lt _
 have hcont:∀k,(decide (pos+k<s.size)&&(s.get! (pos+k)).toNat / 64==2)=true→pos+k<s.size∧128≤(s.get! (pos+k)).toNat:=fun k hk=>by
  rw [Bool.and_eq_true] at hk
  have h1:=of_decide_eq_true hk.1
  have h2:=beq_iff_eq.1 hk.2
  exact ⟨h1,by omega⟩
 have hp0:128≤(s.get! pos).toNat:=by rw [get_atH s pos h];exact hb
 have hone:∀j,pos≤j→j<pos+1→128≤(s.get! j).toNat:=fun j h1 h2=>by
  have:j=pos:=by omega
  subst this;exact hp0
 have herr:(128≤Utf8.runeError)∧Utf8.runeError≤2097151:=by decide
 unfold Utf8.decode
 simp only [e0]
 have h80:¬ (s[pos]'h).toNat<128:=by omega
 rw [if_neg h80]
 have hbound:(s[pos]'h).toNat<256:=UInt8.toNat_lt _
 have l1:=hlt 1
 have l2:=hlt 2
 have l3:=hlt 3
 split
 ·rename_i h1
  rw [Bool.and_eq_true] at h1
  obtain ⟨c1,c2⟩:=hcont 1 h1.2
  split
  ·rename_i h2
   refine ⟨h2,by omega,by omega,by omega,fun j g1 g2=>?_⟩
   rcases (show j=pos∨j=pos+1 by omega) with rfl|rfl
   ·exact hp0
   ·exact c2
  ·exact ⟨herr.1,herr.2,by omega,by omega,hone⟩
 ·split
  ·rename_i h1
   rw [Bool.and_eq_true,Bool.and_eq_true] at h1
   obtain ⟨c1,c2⟩:=hcont 1 h1.1.2
   obtain ⟨d1,d2⟩:=hcont 2 h1.2
   split
   ·rename_i h2
    rw [Bool.and_eq_true] at h2
    have h3:=of_decide_eq_true h2.1
    refine ⟨by omega,by omega,by omega,by omega,fun j g1 g2=>?_⟩
    rcases (show j=pos∨j=pos+1∨j=pos+2 by omega) with rfl|rfl|rfl
    ·exact hp0
    ·exact c2
    ·exact d2
   ·exact ⟨herr.1,herr.2,by omega,by omega,hone⟩
  ·split
   ·rename_i h1
    rw [Bool.and_eq_true,Bool.and_eq_true,Bool.and_eq_true] at h1
    obtain ⟨c1,c2⟩:=hcont 1 h1.1.1.2
    obtain ⟨d1,d2⟩:=hcont 2 h1.1.2
    obtain ⟨f1,f2⟩:=hcont 3 h1.2
    split
    ·rename_i h2
     rw [Bool.and_eq_true] at h2
     have h3:=of_decide_eq_true h2.1
     refine ⟨by omega,by omega,by omega,by omega,fun j g1 g2=>?_⟩
     rcases (show j=pos∨j=pos+1∨j=pos+2∨j=pos+3 by omega) with rfl|rfl|rfl|rfl
     ·exact hp0
     ·exact c2
     ·exact d2
     ·exact f2
    ·exact ⟨herr.1,herr.2,by omega,by omega,hone⟩
   ·exact ⟨herr.1,herr.2,by omega,by omega,hone⟩
theorem enc_lastH (r:Int) (h:128≤r):∃m:Nat,1≤m∧m≤3∧∃hs:(Utf8.encode r).size=m+1,128≤((Utf8.encode r)[m]'(by omega)).toNat:=by
 have hof:∀n:Nat,128≤n→n<256→128≤(UInt8.ofNat n).toNat:=fun n h1 h2=>by
  rw [UInt8.toNat_ofNat_of_lt' (by simpa using h2)];exact h1
 unfold Utf8.encode
 obtain ⟨c,hc⟩:∃c,(if Utf8.valid r=true then r.toNat else Utf8.runeError)=c:=⟨_,rfl⟩
 have hc128:128≤c:=by
  rw [←hc]
  split
  ·omega
  ·decide
 simp only [hc]
 have h0:¬ c<128:=by omega
 simp only [if_neg h0]
 by_cases h1:c<2048
 ·simp only [if_pos h1]
  exact ⟨1,by omega,by omega,rfl,hof _ (by omega) (by omega)⟩
 ·simp only [if_neg h1]
  by_cases h2:c<65536
  ·simp only [if_pos h2]
   exact ⟨2,by omega,by omega,rfl,hof _ (by omega) (by omega)⟩
  ·simp only [if_neg h2]
   exact ⟨3,by omega,by omega,rfl,hof _ (by omega) (by omega)⟩
theorem run_next_atH (W:World) (N:Nat) (s:ByteArray) (pos:Nat) (ty:TypeId) (hN:W.heap[N]? = some (.stringIter s pos)) (h:pos<s.size) :
  (Instr.next (.pointer (some ⟨N,0,none⟩)) true ty).run Tryz.prog W =
   .ok (.tuple #[.bool true,.int .i64 pos,.int .i32 (Utf8.decode s pos).1]) (setBlock W N (.stringIter s (pos+(Utf8.decode s pos).2))):=by
 have hlt:=(Array.getElem?_eq_some_iff.1 hN).1
 simp [Instr.next,getObj,setObj,Sem.run,hN,h,goInt,Result.andThen,setBlock]
theorem run_next_stopH (W:World) (N:Nat) (s:ByteArray) (pos:Nat) (ty:TypeId) (hN:W.heap[N]? = some (.stringIter s pos)) (h:¬ pos<s.size) :
  (Instr.next (.pointer (some ⟨N,0,none⟩)) true ty).run Tryz.prog W=.ok (.tuple #[.bool false]) W:=by
 simp [Instr.next,getObj,Sem.run,hN,h,Result.andThen]
theorem signs_lowH (x:UInt8) (h:x∈(⟨#[58,43,45,126,61]⟩:ByteArray).data.toList):x.toNat<128:=by
 simp at h
 rcases h with rfl|rfl|rfl|rfl|rfl<;>decide
set_option maxHeartbeats 4000000 in
set_option maxRecDepth 100000 in
theorem ixrune_errH (w:World) :
  Calls Tryz.prog 207 #[.string ⟨#[58,43,45,126,61]⟩,.int .i32 65533] w fun e w'=>e=.returned (.int .i64 (-1))∧Grown w w':=by
 obtain ⟨s,hs⟩:∃s:ByteArray,⟨#[58,43,45,126,61]⟩=s:=⟨_,rfl⟩
 have h7:s.size=5:=by rw [←hs];rfl
 have hlow:∀(i:Nat) (h:i<s.size),(s[i]'h).toNat<128:=by
  subst hs
  intro i h
  exact signs_lowH _ (List.getElem_mem (l:=(⟨#[58,43,45,126,61]⟩:ByteArray).data.toList) (n:=i) h)
 rw [hs]
 clear hs
 go_enter Tryz.func207,Tryz.ntmps207
 go_wp2_with fail
 go_loopg [5,6] 5 (fun g _ _ wx=>∃i:Nat,i+g=5∧wx=w.iter s i)
 case atStart=>exact ⟨0,by omega,rfl⟩
 case round =>
  obtain ⟨i,hig,rfl⟩:=hrel
  cases gk with
  | zero =>
   have hnx:=fun ty=>run_next_end (P:=Tryz.prog) w s i ty (by omega)
   go_wp2_with fail
   go_ret
   exact ⟨rfl,(Grown.refl _).alloc _⟩
  | succ g =>
   have hi:i<s.size:=by omega
   have hx:=hlow i hi
   have hnx:=fun ty=>run_next_ascii (P:=Tryz.prog) w s i ty hi hx
   have hne:(((s[i]'hi).toNat:Int)==65533)=false:=by simp;omega
   clear hlow
   go_wp2_with fail
   go_roundg g
   case measure=>omega
   case rel=>exact ⟨i+1,by omega,rfl⟩
set_option maxHeartbeats 4000000 in
set_option maxRecDepth 100000 in
theorem ixrune_validH (r:Int) (h1:128≤r) (h2:r≤2097151) (hv:Lib.validRune r=true) (hne:r≠65533) (w:World) :
  Calls Tryz.prog 207 #[.string ⟨#[58,43,45,126,61]⟩,.int .i32 r] w fun e w'=>e=.returned (.int .i64 (-1))∧Grown w w':=by
 obtain ⟨m,hm1,hm3,hs,hb⟩:=enc_lastH r h1
 obtain ⟨pat,hpat⟩:∃pat,Utf8.encode r=pat:=⟨_,rfl⟩
 simp only [hpat] at hs hb
 obtain ⟨b,hbe⟩:∃b,pat[m]'(by omega)=b:=⟨_,rfl⟩
 rw [hbe] at hb
 have hz:(0:Int)≤r:=by omega
 have h128:decide (r<128)=false:=decide_eq_false (by omega)
 have hne':(r==65533)=false:=by simpa using hne
 have HV:=hid hv
 obtain ⟨s,hse⟩:∃s:ByteArray,⟨#[58,43,45,126,61]⟩=s:=⟨_,rfl⟩
 have h7:s.size=5:=by rw [←hse];rfl
 have hlow:∀x∈s.data.toList,x.toNat<128:=by subst hse;exact signs_lowH
 rw [hse]
 clear hv hne hse
 have hback:((b.toNat:Int)).toNat.toUInt8=b:=by simp
 have HIX:Hid (∀W k,Calls Tryz.prog 180 #[.string (s.extract k s.size),.int .u8 b.toNat] W fun e w'=>e=.returned (.int .i64 (-1))∧w'=W):=fun W k=>by
  have:=Tryz.strings_IndexByte (s.extract k s.size) b.toNat W
  rw [hback,ix_none (fun hc=>by
   have hm:b∈s.data.toList:=by
    have e:(s.extract k s.size).data.toList=s.data.toList.drop k:=by
     have:=ext_drop s k
     exact this
    rw [e] at hc
    exact List.mem_of_mem_drop hc
   have:=hlow b hm
   omega)] at this
  exact this
 have hsm:m<s.size:=by omega
 obtain ⟨c,hce⟩:∃c,s[m]'hsm=c:=⟨_,rfl⟩
 have hc:c.toNat<128:=by
  rw [←hce]
  exact hlow _ (List.getElem_mem (l:=s.data.toList) (n:=m) (by simpa using hsm))
 have hx:((c.toNat:Int) != (b.toNat:Int))=true:=by simp;omega
 have hmz:(0:Int)≤m:=by omega
 have hms:(m:Int)<(s.size:Int):=by omega
 have hmp:(m:Int)<(pat.size:Int):=by omega
 have hpz:(pat.size:Int)-1=(m:Int):=by omega
 have hww:IntKind.i64.wrap ((m:Int)+1)=(m:Int)+1:=wrap_i64E _ (by omega) (by omega)
 have hm1s:(m:Int)+1≤(s.size:Int):=by omega
 have hm0z:(0:Int)≤(m:Int)+1:=by omega
 have hmt:((m:Int)+1).toNat=m+1:=by omega
 have hmp2:m<pat.size:=by omega
 have hbe2:pat[m]'hmp2=b:=hbe
 clear hbe
 clear h7 hs
 clear hlow
 go_enter Tryz.func207,Tryz.ntmps207
 go_wp2_with (first|(go_at_call 232;refine (Tryz.utf8_ValidRune _ _).mono ?_;rintro e w1 ⟨rfl,rfl⟩;rw [HV.out]))
 go_step3
 go_wp2_with fail
 refine wp_loop_rounds 1 ?_
 rw [rounds_succ]
 go_wp2_with fail
 go_step3
 go_wp2_with fail
 go_quiet (fail)
 go_wp2_with fail
 have hG2:=Grown.draws w1 nq
 generalize w1.drewN nq=W2 at hG2 ⊢
 go_quiet (first|(go_at_call 180;refine Calls.quiet_of_same (HIX.out _ _)))
 go_wp2_with fail
 repeat (first|rw [Exit.noGoto_ret]|simp only [Exit.inBlock,Exit.then])
 go_ret
 exact ⟨rfl,hG2.drewN _⟩
set_option maxHeartbeats 2000000 in
set_option maxRecDepth 100000 in
theorem ixrune_noneH (r:Int) (h1:128≤r) (h2:r≤2097151) (w:World) :
  Calls Tryz.prog 207 #[.string ⟨#[58,43,45,126,61]⟩,.int .i32 r] w fun e w'=>e=.returned (.int .i64 (-1))∧Grown w w':=by
 by_cases hne:r=65533
 ·subst hne;exact ixrune_errH w
 ·cases hv:Lib.validRune r with
  | true=>exact ixrune_validH r h1 h2 hv hne w
  | false =>
   have h128:decide (r<128)=false:=decide_eq_false (by omega)
   have hz:(0:Int)≤r:=by omega
   have hne':(r==65533)=false:=by simpa using hne
   have HV:=hid hv
   clear hv hne
   go_enter Tryz.func207,Tryz.ntmps207
   go_wp2_with (first|(go_at_call 232;refine (Tryz.utf8_ValidRune _ _).mono ?_;rintro e w1 ⟨rfl,rfl⟩;rw [HV.out]))
   repeat (first|rw [Exit.noGoto_ret]|simp only [Exit.inBlock,Exit.then])
   go_ret
   exact ⟨rfl,Grown.refl _⟩
def ItAtH (W:World) (N:Nat) (s:ByteArray) (pos:Nat):Prop:=W.heap[N]? = some (.stringIter s pos)
theorem it_stepH {w W:World} {s:ByteArray} {pos:Nat} (h:ItAtH W w.heap.size s pos) (hb:Below w.heap.size w W) (p':Nat) :
  ItAtH (setBlock W w.heap.size (.stringIter s p')) w.heap.size s p'∧Below w.heap.size w (setBlock W w.heap.size (.stringIter s p')):=by
 have hlt:=(Array.getElem?_eq_some_iff.1 h).1
 refine ⟨by unfold ItAtH setBlock;simp [hlt],hb.os,hb.tape,hb.output,by simpa [setBlock] using hb.size,fun k hk=>?_⟩
 refine Eq.trans ?_ (hb.block k hk)
 show (W.heap.setIfInBounds w.heap.size _)[k]? = _
 rw [Array.getElem?_setIfInBounds,if_neg (by omega)]
set_option maxHeartbeats 4000000 in
set_option maxRecDepth 100000 in
theorem ixany_shortH (s:ByteArray) (w:World) (h8:s.size≤8) :
  Calls Tryz.prog 179 #[.string s,.string ⟨#[58,43,45,126,61]⟩] w fun e w'=>(∃k,e=.returned (.int .i64 k)∧FirstK s.data.toList k)∧Below w.heap.size w w':=by
 have h8z:decide ((8:Int)<(s.size:Int))=false:=decide_eq_false (by omega)
 obtain ⟨cs,hcs⟩:∃cs:ByteArray,⟨#[58,43,45,126,61]⟩=cs:=⟨_,rfl⟩
 have HCS:=hid hcs
 have hemp:cs.toList.isEmpty=false:=sfull_of (by rw [←hcs];decide)
 have hn1:((cs.size:Int)==1)=false:=by rw [←hcs];rfl
 rw [hcs]
 clear hcs
 go_enter Tryz.func179,Tryz.ntmps179
 go_wp2_with (go_at_call 208;refine (Tryz.strings_shouldUseASCIISet _ _).mono ?_;rintro e w' ⟨rfl,hw⟩;rw [hw,h8z])
 go_loopg [9,10] s.size (fun g _ _ wx=>∃i:Nat,i≤s.size∧s.size-i≤g∧Hid (ItAtH wx w.heap.size s i)∧Hid (Below w.heap.size w wx)∧Hid (∀c∈s.data.toList.take i,isK c=false))
 case atStart=>exact ⟨0,by omega,by omega,World.iter_heap _ _ _,(Below.refl _ _).alloc (Nat.le_refl _) _,fun c hc=>by simp at hc⟩
 case round =>
  obtain ⟨i,hi,hg,HI,HB,HN⟩:=hrel
  by_cases hlt:i<s.size
  ·have hil:i<s.data.toList.length:=by simpa using hlt
   have hnx:=fun ty=>run_next_atH wr w.heap.size s i ty HI.out hlt
   obtain ⟨x,hx⟩:∃x:UInt8,s[i]'hlt=x:=⟨_,rfl⟩
   have hxl:s.data.toList[i]=x:=hx
   by_cases hx128:x.toNat<128
   ·have hdec:=decode_ascii s i hlt (by rw [hx];exact hx128)
    rw [hx] at hdec
    rw [hdec] at hnx
    obtain ⟨hi2,hb2⟩:=it_stepH HI.out HB.out (i+1)
    simp only at hnx
    obtain ⟨W1,hW1⟩:∃W1,setBlock wr w.heap.size (.stringIter s (i+1))=W1:=⟨_,rfl⟩
    rw [hW1] at hnx hi2 hb2
    have HI2:=hid hi2
    have HB2:=hid hb2
    have HXL:=hid hxl
    have hback:((x.toNat:Int)).toNat.toUInt8=x:=by simp
    have hcon:=Lib.contains_iff_indexByte cs.data.toList x
    have e1:cs.data.toList.contains x=isK x:=by rw [←HCS.out];exact signs_k x
    rw [e1] at hcon
    cases hop:isK x with
    | true =>
     rw [hop] at hcon
     have hge:(0:Int)≤Lib.indexByte cs.data.toList x:=of_decide_eq_true hcon.symm
     have HF:Hid (FirstK s.data.toList (i:Int)):=Or.inr ⟨i,rfl,hil,by rw [hxl];exact hop,HN.out⟩
     clear hcon e1 hxl hx hW1 hi2 hb2 hdec hop
     go_wp2_with (go_at_call 207;refine (Tryz.strings_IndexRune_ascii _ _ _ (by omega) (by omega)).mono ?_;rintro e w' ⟨rfl,hw⟩;rw [hw,hback])
     go_ret
     exact ⟨⟨_,rfl,HF.out⟩,HB2.out⟩
    | false =>
     rw [hop] at hcon
     have hge:¬ ((0:Int)≤Lib.indexByte cs.data.toList x):=of_decide_eq_false hcon.symm
     have HF:Hid (∀c∈s.data.toList.take (i+1),isK c=false):=fun c hc=>by
      rw [List.take_succ_eq_append_getElem hil,List.mem_append,List.mem_singleton] at hc
      rcases hc with hc|hc
      ·exact HN.out c hc
      ·rw [hc,hxl];exact hop
     clear hcon e1 hxl hx hW1 hi2 hb2 hdec hop
     go_wp2_with (go_at_call 207;refine (Tryz.strings_IndexRune_ascii _ _ _ (by omega) (by omega)).mono ?_;rintro e w' ⟨rfl,hw⟩;rw [hw,hback])
     go_roundg (s.size-(i+1))
     case measure=>omega
     case rel=>exact ⟨i+1,by omega,by omega,HI2,HB2,HF⟩
   ·obtain ⟨r1,r2,r3,r4,r5⟩:=dec_highH s i hlt (by rw [hx];omega)
    obtain ⟨hi2,hb2⟩:=it_stepH HI.out HB.out (i+(Utf8.decode s i).2)
    obtain ⟨r,hr⟩:∃r,(Utf8.decode s i).1=r:=⟨_,rfl⟩
    obtain ⟨k,hk⟩:∃k,(Utf8.decode s i).2=k:=⟨_,rfl⟩
    rw [hr,hk] at hnx
    rw [hr] at r1 r2
    rw [hk] at r3 r4 r5 hi2 hb2
    obtain ⟨W1,hW1⟩:∃W1,setBlock wr w.heap.size (.stringIter s (i+k))=W1:=⟨_,rfl⟩
    rw [hW1] at hnx hi2 hb2
    have HF:Hid (∀c∈s.data.toList.take (i+k),isK c=false):=fun c hc=>by
     obtain ⟨j,hj,rfl⟩:=List.mem_iff_getElem.1 hc
     rw [List.length_take] at hj
     rw [List.getElem_take]
     by_cases hji:j<i
     ·exact HN.out _ (List.mem_iff_getElem.2 ⟨j,by rw [List.length_take];omega,by rw [List.getElem_take]⟩)
     ·have hjs:j<s.size:=by have:=hj;simp at this;omega
      have h128:=r5 j (by omega) (by omega)
      rw [get_atH s j hjs] at h128
      have e:s.data.toList[j]'(by simpa using hjs)=s[j]'hjs:=rfl
      rw [e]
      cases hop:isK (s[j]'hjs) with
      | false=>rfl
      | true=>rcases kind_sign hop with h|h|h|h|h<;>(rw [h] at h128;exact absurd h128 (by decide))
    have HIR:Hid (Calls Tryz.prog 207 #[.string cs,.int .i32 r] W1 fun e w'=>e=.returned (.int .i64 (-1))∧Grown W1 w'):=by
     show Calls _ _ _ _ _
     rw [←HCS.out]
     exact ixrune_noneH r (by omega) (by omega) W1
    have HI2:=hid hi2
    have HB2:=hid hb2
    clear hxl hx hW1 hi2 hb2 hr hk r5
    go_wp2_with (go_at_call 207;refine HIR.out.mono ?_;rintro e w2 ⟨rfl,hg2⟩)
    go_roundg (s.size-(i+k))
    case measure=>omega
    case rel=>exact ⟨i+k,by omega,by omega,(hg2.below.block _ (Array.getElem?_eq_some_iff.1 HI2.out).1).trans HI2.out,bel_then HB2.out HB2.out.size hg2.below,HF⟩
  ·have hi':i=s.size:=by omega
   have hnx:=fun ty=>run_next_stopH wr w.heap.size s i ty HI.out hlt
   have HF:Hid (FirstK s.data.toList (-1)):=Or.inl ⟨rfl,fun c hc=>HN.out c (by rw [List.take_of_length_le (by simp;omega)];exact hc)⟩
   go_wp2_with fail
   go_ret
   exact ⟨⟨_,rfl,HF.out⟩,HB.out⟩
theorem ixany_anyH (s:ByteArray) (w:World) (hs:s.size≤4294967000) :
  Calls Tryz.prog 179 #[.string s,.string ⟨#[58,43,45,126,61]⟩] w fun e w'=>(∃k,e=.returned (.int .i64 k)∧FirstK s.data.toList k)∧Below w.heap.size w w':=by
 by_cases h8:s.size≤8
 ·exact ixany_shortH s w h8
 ·refine (Tryz.strings_IndexAny_long (fun _=>by kernel_rfl) s ⟨#[58,43,45,126,61]⟩ w (by decide) (by omega) (by omega) (by decide) (fun j b hb=>signs_lowH b (List.mem_of_getElem? hb))).mono ?_
  rintro e w' ⟨rfl,rfl⟩
  exact ⟨⟨_,rfl,indexAny_firstH _⟩,((Below.refl _ _).alloc (Nat.le_refl _) _).alloc (by simp) _⟩
end
section
theorem at_drop0 {ops:Array Oper} {i:Nat} {oi:Oper} {rest:List Oper} (h:ops.toList.drop i=oi::rest):ops[i]? = some oi:=by
 rw [←Array.getElem?_toList,←List.head?_drop,h];rfl
section
variable {P:Program} {ops:Array Oper} {Q:Exit→Act→World→Prop} {md:Region.Mode} {S:World→Prop}
theorem tkv (i:Nat) {fuel:Nat} {listed:Array Bool} {a:Act} {w:World} (v:Value) {oi:Oper} {rest:List Oper} (hS:S w)
  (h:wpAnyH P md ops Q S fuel (listed.setIfInBounds i true) (a.put oi.dst v) w) (hd:ops.toList.drop i=oi::rest:=by rfl)
  (hs:Region.noSelect ops=true:=by kernel_rfl) (hf:Region.free md ops listed i=true:=by kernel_rfl) (hr:(Region.ready md ops listed).contains i=true:=by kernel_rfl)
  (hQ:∀c a w,Q (.panic c) (a.put oi.dst v) w→Q (.panic c) a w:=by exact fun _ _ _ h=>h) (hw:Region.wanted oi (yielded ops a.tmps)=true:=by rfl)
  (hy:∀w,S w→(execOp a.eval oi).run P w=.ok (.value v) w:=by exact fun w hSw=>by go_simp):wpAnyH P md ops Q S (fuel+1) listed a w :=
 wpAnyH_take (at_drop0 hd) hs hf hr hQ (Or.inl ⟨hw,hy⟩) hS h
theorem take_val {i fuel:Nat} {listed:Array Bool} {a:Act} {w:World} (v:Value) {oi:Oper} {rest:List Oper} (hd:ops.toList.drop i=oi::rest)
  (hs:Region.noSelect ops=true) (hf:Region.free md ops listed i=true) (hr:(Region.ready md ops listed).contains i=true)
  (hQ:∀c a w,Q (.panic c) (a.put oi.dst v) w→Q (.panic c) a w) (hw:Region.wanted oi (yielded ops a.tmps)=true) (hy:∀w,S w→(execOp a.eval oi).run P w=.ok (.value v) w) (hS:S w)
  (h:wpAnyH P md ops Q S fuel (listed.setIfInBounds i true) (a.put oi.dst v) w):wpAnyH P md ops Q S (fuel+1) listed a w :=
 wpAnyH_take (at_drop0 hd) hs hf hr hQ (Or.inl ⟨hw,hy⟩) hS h
end
end
section
open Go.RowKit Go.Lib
theorem ix_signK {c:UInt8} (h:isK c=true):Lib.indexByte (⟨#[58,43,45,126,61]⟩:ByteArray).data.toList c=kindN (c.toNat:Int)-1:=by
 rcases kind_sign h with rfl|rfl|rfl|rfl|rfl<;>decide
theorem k_pos {c:UInt8} (h:isK c=true):1≤kindN (c.toNat:Int)∧kindN (c.toNat:Int)≤5:=by
 rcases kind_sign h with rfl|rfl|rfl|rfl|rfl<;>decide
theorem editO_at {l:List UInt8} {i:Nat} (hi:i<l.length) (h1:isK l[i]=true) (h2:∀c∈l.take i,isK c=false) :
  editO l=if kindN (l[i].toNat:Int)=4 then (if l.drop (i+1)=[] then some (4,⟨(l.take i).toArray⟩,⟨#[]⟩) else none)
   else if Lib.hasPrefix (l.drop (i+1)) [61]=true then (match readL ((l.drop (i+1)).drop 1) with
    | none=>none
    | some t=>some (kindN (l[i].toNat:Int),⟨(l.take i).toArray⟩,⟨t.toArray⟩)) else none:=by
 obtain ⟨e1,e2⟩:=k_split hi h2 h1
 unfold editO
 rw [e2]
 simp only
 rw [e1]
 by_cases h4:kindN (l[i].toNat:Int)=4
 ·rw [if_pos h4,if_pos h4]
 ·rw [if_neg h4,if_neg h4]
  cases l.drop (i+1) with
  | nil=>rfl
  | cons d r =>
   simp only [List.drop_succ_cons,List.drop_zero]
   by_cases hd:d=61
   ·subst hd
    rw [if_pos rfl,if_pos (by rfl)]
    cases readL r<;>rfl
   ·rw [if_neg hd,if_neg]
    intro h
    simp [Lib.hasPrefix] at h
    exact hd h.symm
theorem FirstK.uniq {l:List UInt8} {a b:Int} (ha:FirstK l a) (hb:FirstK l b):a=b:=by
 rcases ha with ⟨rfl,h1⟩|⟨i,rfl,hi,h1,h2⟩
 ·rcases hb with ⟨rfl,_⟩|⟨j,rfl,hj,h3,_⟩
  ·rfl
  ·rw [h1 _ (List.getElem_mem hj)] at h3;cases h3
 ·rcases hb with ⟨rfl,h3⟩|⟨j,rfl,hj,h3,h4⟩
  ·rw [h3 _ (List.getElem_mem hi)] at h1;cases h1
  ·rcases Nat.lt_trichotomy i j with h|h|h
   ·rw [h4 _ (List.mem_iff_getElem.2 ⟨i,by rw [List.length_take];omega,by rw [List.getElem_take]⟩)] at h1;cases h1
   ·rw [h]
   ·rw [h2 _ (List.mem_iff_getElem.2 ⟨j,by rw [List.length_take];omega,by rw [List.getElem_take]⟩)] at h3;cases h3
theorem ixanyK_at {s:ByteArray} {k:Int} (h:FirstK s.data.toList k) (w:World) (hs:s.size≤4294967000) :
  Calls Tryz.prog 179 #[.string s,.string ⟨#[58,43,45,126,61]⟩] w fun e w'=>e=.returned (.int .i64 k)∧Below w.heap.size w w' :=
 (ixany_anyH s w hs).mono fun _ _ ⟨⟨k',h1,h2⟩,h3⟩=>⟨by rw [h1,h.uniq h2],h3⟩
def editV (o:Option Ed):Value:=match o with
 | none=>.tuple #[.agg #[.int .i64 0,.string ⟨#[]⟩,.string ⟨#[]⟩],.int .i64 4]
 | some x=>.tuple #[.agg #[.int .i64 x.1,.string x.2.1,.string x.2.2],.int .i64 0]
set_option maxHeartbeats 4000000 in
set_option maxRecDepth 100000 in
theorem read_none (s:ByteArray) (w:World) (hs:s.size≤4294967000) (hk:∀c∈s.data.toList,isK c=false) :
  Calls Tryz.prog 142 #[.string s] w fun e w'=>e=.returned (.tuple #[.agg #[.int .i64 0,.string ⟨#[]⟩,.string ⟨#[]⟩],.int .i64 4])∧Below w.heap.size w w':=by
 obtain ⟨W0,hW0⟩:∃W0,w.alloc (.cells #[.int .i64 0,.string ⟨#[]⟩,.string ⟨#[]⟩] 49)=W0:=⟨_,rfl⟩
 obtain ⟨R,hR⟩:∃R,w.heap.size=R:=⟨_,rfl⟩
 have hb0:Below R w W0:=by rw [←hW0,←hR];exact (Below.refl _ _).alloc (Nat.le_refl _) _
 have hx0:BoxE W0 R (0,⟨#[]⟩,⟨#[]⟩):=by rw [←hW0,←hR];exact boxE_new w (0,⟨#[]⟩,⟨#[]⟩)
 have hRl:R<W0.heap.size:=hx0.lt
 have HB0:=hid hb0
 have HX0:=hid hx0
 rw [hR]
 have HX:=hid (ixanyK_at (Or.inl ⟨rfl,hk⟩) W0 hs)
 clear hb0 hx0 hk
 go_enter Tryz.func142,Tryz.ntmps142
 go_wp2_with fail
 refine HX.out.mono ?_
 rintro e w1 ⟨rfl,hb1⟩
 have hx1:=HX0.out.on hb1
 obtain ⟨k0,k1,k2⟩:=hx1.cells
 obtain ⟨f0,f1,f2⟩:=boxE_free hx1
 simp only at k0 k1 k2
 have HX1:=hid hx1
 have HB1:=hid (show Below R w w1 from HB0.out.trans (hb1.mono (Nat.le_of_lt hRl)))
 clear hx1 hb1
 go_wp2_with fail
 obtain ⟨j0,j1,j2⟩:=(boxE_put HX1.out (0,⟨#[]⟩,⟨#[]⟩)).cells
 simp only at j0 j1 j2
 exact bodyPost_ret (v:=.tuple #[.agg #[.int .i64 0,.string ⟨#[]⟩,.string ⟨#[]⟩],.int .i64 4]) (by simp [results,Tryz.results142,go_sem,j0,j1,j2]) rfl ⟨rfl,belE_put HB1.out (Nat.le_refl _) (0,⟨#[]⟩,⟨#[]⟩)⟩
set_option maxHeartbeats 4000000 in
set_option maxRecDepth 100000 in
theorem read_sign (s:ByteArray) (w:World) (hp:PlainAt w) (hs:s.size≤4294967000) (i:Nat) (hi:i<s.data.toList.length) (h1:isK s.data.toList[i]=true) (h2:∀c∈s.data.toList.take i,isK c=false) :
  Calls Tryz.prog 142 #[.string s] w fun e w'=>e=.returned (editV (editO s.data.toList))∧Below w.heap.size w w':=by
 obtain ⟨W0,hW0⟩:∃W0,w.alloc (.cells #[.int .i64 0,.string ⟨#[]⟩,.string ⟨#[]⟩] 49)=W0:=⟨_,rfl⟩
 obtain ⟨R,hR⟩:∃R,w.heap.size=R:=⟨_,rfl⟩
 have hb0:Below R w W0:=by rw [←hW0,←hR];exact (Below.refl _ _).alloc (Nat.le_refl _) _
 have hx0:BoxE W0 R (0,⟨#[]⟩,⟨#[]⟩):=by rw [←hW0,←hR];exact boxE_new w (0,⟨#[]⟩,⟨#[]⟩)
 have hRl:R<W0.heap.size:=hx0.lt
 have HP:=hid (show PlainAt W0 from hp.on (by rw [hR];exact hb0))
 have HB0:=hid hb0
 have HX0:=hid hx0
 obtain ⟨V,hV⟩:∃V,editV (editO s.data.toList)=V:=⟨_,rfl⟩
 rw [hV]
 have HX:=hid (ixanyK_at (Or.inr ⟨i,rfl,hi,h1,h2⟩) W0 hs)
 rw [editO_at hi h1 h2] at hV
 have his:i<s.size:=by simpa using hi
 obtain ⟨c,hc⟩:∃c,s[i]'his=c:=⟨_,rfl⟩
 have hcl:s.data.toList[i]=c:=hc
 rw [hcl] at h1 hV
 have hix:=ix_signK h1
 obtain ⟨o1,o2⟩:=k_pos h1
 obtain ⟨o,ho⟩:∃o,kindN (c.toNat:Int)=o:=⟨_,rfl⟩
 rw [ho] at hix o1 o2 hV
 have hback:((c.toNat:Int)).toNat.toUInt8=c:=by simp
 have HIX:Hid (∀W,Calls Tryz.prog 180 #[.string ⟨#[58,43,45,126,61]⟩,.int .u8 c.toNat] W fun e w'=>e=.returned (.int .i64 (o-1))∧W=w'):=fun W=>by
  have:=Tryz.strings_IndexByte ⟨#[58,43,45,126,61]⟩ c.toNat W
  rw [hback,hix] at this
  exact this.mono fun e w' h=>⟨h.1,h.2.symm⟩
 have hw1:IntKind.i64.wrap (1+(o-1))=o:=by rw [show 1+(o-1)=o by omega];exact wrap_i64E _ (by omega) (by omega)
 have hiz:(0:Int)≤i:=by omega
 have hiz2:(i:Int)<(s.size:Int):=by omega
 have hiz3:(i:Int)+1≤(s.size:Int):=by omega
 have hiz4:(0:Int)≤(i:Int)+1:=by omega
 have hiz5:(i:Int)≤(s.size:Int):=by omega
 have hit:((i:Int)+1).toNat=i+1:=by omega
 have hnn:¬ ((i:Int)<0):=by omega
 have HE:=hid (ext_take s i)
 have HV:=hid hV
 rw [hR]
 clear hp hb0 hx0 hcl hix ho hi h2 h1 hV
 go_enter Tryz.func142,Tryz.ntmps142
 go_wp2_with fail
 refine HX.out.mono ?_
 rintro e w1 ⟨rfl,hb1⟩
 have HB1:=hid hb1
 clear hb1
 go_wp2_with fail
 refine wp_region_held_drew (S:=fun _=>True) (by kernel_rfl) trivial (fun hHeld=>?_)
 refine tkv 0 (.string s) hHeld ?_
 simp only [Act.put,sz]
 refine tkv 1 (.int .i64 i) hHeld ?_
 simp only [Act.put,sz]
 refine tkv 2 (.int .u8 c.toNat) hHeld ?_
 simp only [Act.put,sz]
 refine tkv 5 (.string s) hHeld ?_
 simp only [Act.put,sz]
 refine tkv 6 (.int .i64 i) hHeld ?_
 simp only [Act.put,sz]
 refine tkv 7 (.string (s.extract 0 i)) hHeld ?_
 simp only [Act.put,sz]
 refine wpAnyH_ready (rs:=[3,9]) (by kernel_rfl) (by simp) ?_
 refine AllReadyH.cons (at_drop0 rfl) (fun K hK=>?_) (AllReadyH.cons (at_drop0 rfl) (fun K hK=>?_) AllReadyH.nil)
 case' refine_1 =>
  rw [if_pos (by rfl)]
  go_simp
  refine (HIX.out _).mono ?_
  rintro e w2 ⟨rfl,rfl⟩
  go_wp2_with fail
  refine hK.out _ _ trivial (fun hHeld=>?_)
  clear hK K
  try simp only [Act.put,sz]
  refine tkv 4 (.int .i64 o) hHeld ?_
  simp only [Act.put,sz]
  refine tkv 8 (.agg #[.int .i64 o,.string (s.extract 0 i),.string ⟨#[]⟩]) hHeld ?_
  simp only [Act.put,sz]
  refine wpAnyH_ready (rs:=[9]) (by kernel_rfl) (by simp) ?_
  refine AllReadyH.cons (at_drop0 rfl) (fun K hK=>?_) AllReadyH.nil
  rw [if_pos (by rfl)]
  go_simp
  refine hK.out _ _ trivial (fun hHeld=>?_)
  clear hK K
  try simp only [Act.put,sz]
  refine wpAnyH_ready (rs:=[10]) (by kernel_rfl) (by simp) ?_
  refine AllReadyH.cons (at_drop0 rfl) (fun K hK=>?_) AllReadyH.nil
  rw [if_pos (by rfl)]
  go_simp
  refine hK.out _ _ trivial (fun hHeld=>?_)
  clear hK K
  try simp only [Act.put,sz]
  refine wpAnyH_done (by kernel_rfl) ?_ _
 case' refine_2 =>
  rw [if_pos (by rfl)]
  go_simp
  refine hK.out _ _ trivial (fun hHeld=>?_)
  clear hK K
  try simp only [Act.put,sz]
  refine wpAnyH_ready (rs:=[3]) (by kernel_rfl) (by simp) ?_
  refine AllReadyH.cons (at_drop0 rfl) (fun K hK=>?_) AllReadyH.nil
  rw [if_pos (by rfl)]
  go_simp
  refine (HIX.out _).mono ?_
  rintro e w2 ⟨rfl,rfl⟩
  go_wp2_with fail
  refine hK.out _ _ trivial (fun hHeld=>?_)
  clear hK K
  try simp only [Act.put,sz]
  refine tkv 4 (.int .i64 o) hHeld ?_
  simp only [Act.put,sz]
  refine tkv 8 (.agg #[.int .i64 o,.string (s.extract 0 i),.string ⟨#[]⟩]) hHeld ?_
  simp only [Act.put,sz]
  refine wpAnyH_ready (rs:=[10]) (by kernel_rfl) (by simp) ?_
  refine AllReadyH.cons (at_drop0 rfl) (fun K hK=>?_) AllReadyH.nil
  rw [if_pos (by rfl)]
  go_simp
  refine hK.out _ _ trivial (fun hHeld=>?_)
  clear hK K
  try simp only [Act.put,sz]
  refine wpAnyH_done (by kernel_rfl) ?_ _
 all_goals
  clear HIX HX
  obtain ⟨E,hE⟩:∃E,w1.heap.size=E:=⟨_,rfl⟩
  have hsz1:=HB1.out.size
  have hRE:R≠E:=by omega
  have hER:E≠R:=by omega
  have HBW:Hid (Below W0.heap.size W0 (w1.alloc (.cells #[.int .i64 o,.string (s.extract 0 i),.string ⟨#[]⟩] 49)).drew):=(HB1.out.alloc hsz1 _).drew
  have HEB:Hid (BoxE (w1.alloc (.cells #[.int .i64 o,.string (s.extract 0 i),.string ⟨#[]⟩] 49)).drew E (o,s.extract 0 i,⟨#[]⟩)):=by rw [←hE];exact boxE_new w1 (o,s.extract 0 i,⟨#[]⟩)
  obtain ⟨W,hW⟩:∃W,(w1.alloc (.cells #[.int .i64 o,.string (s.extract 0 i),.string ⟨#[]⟩] 49)).drew=W:=⟨_,rfl⟩
  rw [hW] at HBW HEB
  rw [hE]
  have hx1:=HX0.out.on HBW.out
  obtain ⟨k0,k1,k2⟩:=hx1.cells
  obtain ⟨f0,f1,f2⟩:=boxE_free hx1
  obtain ⟨y0,y1,y2⟩:=HEB.out.cells
  obtain ⟨z0,z1,z2⟩:=boxE_free HEB.out
  simp only at k0 k1 k2 y0 y1 y2
  have HX1:=hid hx1
  have HRW:Hid (Below R w W):=HB0.out.trans (HBW.out.mono (Nat.le_of_lt hRl))
  clear hx1
  have hcd:(s.extract (i+1) s.size).data.toList=s.data.toList.drop (i+1):=ext_drop s (i+1)
  by_cases h4:o=4
  ·have hkb:(o==4)=true:=by rw [h4];rfl
   have hvv:=HV.out
   rw [if_pos h4] at hvv
   by_cases hL:s.data.toList.drop (i+1)=[]
   ·have hbe:(s.extract (i+1) s.size).toList.isEmpty=true:=by rw [Lib.toList_data,hcd,hL];rfl
    have HO:Hid (V=.tuple #[.agg #[.int .i64 o,.string (s.extract 0 i),.string ⟨#[]⟩],.int .i64 0]):=by
     show _=_
     rw [←hvv,if_pos hL,h4,HE.out]
     rfl
    clear hvv hL hcd h4
    go_wp2_with fail
    obtain ⟨j0,j1,j2⟩:=(boxE_put HX1.out (o,s.extract 0 i,⟨#[]⟩)).cells
    simp only at j0 j1 j2
    exact bodyPost_ret (v:=.tuple #[.agg #[.int .i64 o,.string (s.extract 0 i),.string ⟨#[]⟩],.int .i64 0]) (by simp [results,Tryz.results142,go_sem,j0,j1,j2]) rfl ⟨by rw [HO.out],belE_put HRW.out (Nat.le_refl _) (o,s.extract 0 i,⟨#[]⟩)⟩
   ·have hbe:(s.extract (i+1) s.size).toList.isEmpty=false:=by
     rw [Lib.toList_data,hcd]
     cases hq:s.data.toList.drop (i+1) with
     | nil=>exact absurd hq hL
     | cons _ _=>rfl
    have HO:Hid (V=.tuple #[.agg #[.int .i64 0,.string ⟨#[]⟩,.string ⟨#[]⟩],.int .i64 4]):=by
     show _=_
     rw [←hvv,if_neg hL]
     rfl
    clear hvv hL hcd h4
    go_wp2_with fail
    obtain ⟨j0,j1,j2⟩:=(boxE_put HX1.out (0,⟨#[]⟩,⟨#[]⟩)).cells
    simp only at j0 j1 j2
    exact bodyPost_ret (v:=.tuple #[.agg #[.int .i64 0,.string ⟨#[]⟩,.string ⟨#[]⟩],.int .i64 4]) (by simp [results,Tryz.results142,go_sem,j0,j1,j2]) rfl ⟨by rw [HO.out],belE_put HRW.out (Nat.le_refl _) (0,⟨#[]⟩,⟨#[]⟩)⟩
  ·have hkb:(o==4)=false:=beq_eq_false_iff_ne.2 h4
   have hvv:=HV.out
   rw [if_neg h4] at hvv
   have hcp:=Tryz.strings_CutPrefix (s.extract (i+1) s.size) ⟨#[61]⟩ W
   rw [hcd] at hcp
   obtain ⟨wr,hwr⟩:∃wr:ByteArray,⟨(Lib.trimPrefix (s.data.toList.drop (i+1)) [61]).toArray⟩=wr:=⟨_,rfl⟩
   have hwrl:wr.data.toList=Lib.trimPrefix (s.data.toList.drop (i+1)) [61]:=by rw [←hwr]
   have hwrs:wr.size≤s.size:=by
    have e1:wr.size=wr.data.toList.length:=by simp
    rw [e1,hwrl]
    have e2:(Lib.trimPrefix (s.data.toList.drop (i+1)) [61]).length≤(s.data.toList.drop (i+1)).length:=by
     unfold Lib.trimPrefix
     split
     ·rw [List.length_drop];exact Nat.sub_le _ _
     ·exact Nat.le_refl _
    have e3:(s.data.toList.drop (i+1)).length≤s.data.toList.length:=by simp
    have e4:s.data.toList.length=s.size:=by simp
    omega
   have hrd:=read_any wr W (HP.out.on HBW.out) (by omega)
   have HKE:Hid (∀W2,Below W.heap.size W W2→(BoxE W2 E (o,s.extract 0 i,⟨#[]⟩)∧BoxE W2 R (0,⟨#[]⟩,⟨#[]⟩))∧Below R w W2):=fun W2 h=>⟨⟨HEB.out.on h,HX1.out.on h⟩,HRW.out.trans (h.mono (by have:=HBW.out.size;omega))⟩
   cases hpre:Lib.hasPrefix (s.data.toList.drop (i+1)) [61] with
   | false =>
    have HO:Hid (V=.tuple #[.agg #[.int .i64 0,.string ⟨#[]⟩,.string ⟨#[]⟩],.int .i64 4]):=by
     show _=_
     rw [←hvv,if_neg (by rw [hpre];decide)]
     rfl
    have HCP:Hid (Calls Tryz.prog 24 #[.string (s.extract (i+1) s.size),.string ⟨#[61]⟩] W fun e w'=>e=.returned (.tuple #[.string wr,.bool false])∧W=w'):=hcp.mono fun e w' h=>⟨by rw [h.1,←hwr,←hpre],h.2.symm⟩
    have HRD:Hid (Calls Tryz.prog 176 #[.string wr] W fun e w'=>∃t k,e=.returned (.tuple #[.string t,.int .i64 k])∧Below W.heap.size W w'):=hrd.mono fun e w' h=>by
     cases hr:readL wr.data.toList with
     | none=>rw [hr] at h;exact ⟨_,_,h.1,h.2⟩
     | some t=>rw [hr] at h;exact ⟨_,_,h.1,h.2⟩
    clear hvv hcd h4 hcp hwr hwrl hwrs hrd hpre k0 k1 k2 f0 f1 f2
    go_wp2_with fail
    refine HCP.out.mono ?_
    rintro e w3 ⟨rfl,rfl⟩
    go_wp2_with fail
    refine HRD.out.mono ?_
    rintro e w4 ⟨t,k,rfl,hb4⟩
    obtain ⟨⟨hbE,hbR⟩,hbw⟩:=HKE.out _ hb4
    obtain ⟨k0,k1,k2⟩:=hbR.cells
    obtain ⟨f0,f1,f2⟩:=boxE_free hbR
    simp only at k0 k1 k2
    have HXR:=hid hbR
    have HBR:=hid hbw
    clear hb4 hbE hbR hbw
    go_wp2_with fail
    obtain ⟨j0,j1,j2⟩:=(boxE_put HXR.out (0,⟨#[]⟩,⟨#[]⟩)).cells
    simp only at j0 j1 j2
    exact bodyPost_ret (v:=.tuple #[.agg #[.int .i64 0,.string ⟨#[]⟩,.string ⟨#[]⟩],.int .i64 4]) (by simp [results,Tryz.results142,go_sem,j0,j1,j2]) rfl ⟨by rw [HO.out],belE_put HBR.out (Nat.le_refl _) (0,⟨#[]⟩,⟨#[]⟩)⟩
   | true =>
    have HCP:Hid (Calls Tryz.prog 24 #[.string (s.extract (i+1) s.size),.string ⟨#[61]⟩] W fun e w'=>e=.returned (.tuple #[.string wr,.bool true])∧W=w'):=hcp.mono fun e w' h=>⟨by rw [h.1,←hwr,←hpre],h.2.symm⟩
    have hdr:wr.data.toList=(s.data.toList.drop (i+1)).drop 1:=by
     rw [hwrl]
     unfold Lib.trimPrefix
     rw [if_pos hpre]
     rfl
    rw [if_pos hpre,←hdr] at hvv
    cases hr:readL wr.data.toList with
    | none =>
     rw [hr] at hrd hvv
     have HO:Hid (V=.tuple #[.agg #[.int .i64 0,.string ⟨#[]⟩,.string ⟨#[]⟩],.int .i64 4]):=hvv.symm
     have HRD:Hid (Calls Tryz.prog 176 #[.string wr] W fun e w'=>e=.returned (.tuple #[.string ⟨#[]⟩,.int .i64 4])∧Below W.heap.size W w'):=hrd
     clear hvv hcd h4 hcp hwr hwrl hwrs hrd hpre k0 k1 k2 f0 f1 f2 hdr hr
     go_wp2_with fail
     refine HCP.out.mono ?_
     rintro e w3 ⟨rfl,rfl⟩
     go_wp2_with fail
     refine HRD.out.mono ?_
     rintro e w4 ⟨rfl,hb4⟩
     obtain ⟨⟨hbE,hbR⟩,hbw⟩:=HKE.out _ hb4
     obtain ⟨k0,k1,k2⟩:=hbR.cells
     obtain ⟨f0,f1,f2⟩:=boxE_free hbR
     simp only at k0 k1 k2
     have HXR:=hid hbR
     have HBR:=hid hbw
     clear hb4 hbE hbR hbw
     go_wp2_with fail
     obtain ⟨j0,j1,j2⟩:=(boxE_put HXR.out (0,⟨#[]⟩,⟨#[]⟩)).cells
     simp only at j0 j1 j2
     exact bodyPost_ret (v:=.tuple #[.agg #[.int .i64 0,.string ⟨#[]⟩,.string ⟨#[]⟩],.int .i64 4]) (by simp [results,Tryz.results142,go_sem,j0,j1,j2]) rfl ⟨by rw [HO.out],belE_put HBR.out (Nat.le_refl _) (0,⟨#[]⟩,⟨#[]⟩)⟩
    | some t =>
     rw [hr] at hrd hvv
     have HO:Hid (V=.tuple #[.agg #[.int .i64 o,.string (s.extract 0 i),.string ⟨t.toArray⟩],.int .i64 0]):=by
      show _=_
      rw [←hvv,HE.out]
      rfl
     have HRD:Hid (Calls Tryz.prog 176 #[.string wr] W fun e w'=>e=.returned (.tuple #[.string ⟨t.toArray⟩,.int .i64 0])∧Below W.heap.size W w'):=hrd
     clear hvv hcd h4 hcp hwr hwrl hwrs hrd hpre k0 k1 k2 f0 f1 f2 hdr hr
     go_wp2_with fail
     refine HCP.out.mono ?_
     rintro e w3 ⟨rfl,rfl⟩
     go_wp2_with fail
     refine HRD.out.mono ?_
     rintro e w4 ⟨rfl,hb4⟩
     obtain ⟨⟨hbE,hbR⟩,hbw⟩:=HKE.out _ hb4
     have hbE2:=boxE_text hbE ⟨t.toArray⟩
     have hbR2:BoxE (w4.setCell ⟨E,2,none⟩ (.string ⟨t.toArray⟩)) R (0,⟨#[]⟩,⟨#[]⟩):=(Below.heap_setCell w4 _ _ _ hRE).trans hbR
     obtain ⟨y0,y1,y2⟩:=hbE.cells
     obtain ⟨z0,z1,z2⟩:=boxE_free hbE
     obtain ⟨x0,x1,x2⟩:=hbE2.cells
     obtain ⟨k0,k1,k2⟩:=hbR2.cells
     obtain ⟨f0,f1,f2⟩:=boxE_free hbR2
     simp only at k0 k1 k2 y0 y1 y2 x0 x1 x2
     have HXR:=hid hbR2
     have HBR:Hid (Below R w (w4.setCell ⟨E,2,none⟩ (.string ⟨t.toArray⟩))):=hbw.setCell (p:=⟨E,2,none⟩) (by show R≤E;omega) _
     clear hb4 hbE hbE2 hbR hbR2 hbw
     obtain ⟨W5,hW5⟩:∃W5,w4.setCell ⟨E,2,none⟩ (.string ⟨t.toArray⟩)=W5:=⟨_,rfl⟩
     rw [hW5] at HXR HBR k0 k1 k2 f0 f1 f2 x0 x1 x2
     go_wp2_with fail
     obtain ⟨j0,j1,j2⟩:=(boxE_put HXR.out (o,s.extract 0 i,⟨t.toArray⟩)).cells
     simp only at j0 j1 j2
     exact bodyPost_ret (v:=.tuple #[.agg #[.int .i64 o,.string (s.extract 0 i),.string ⟨t.toArray⟩],.int .i64 0]) (by simp [results,Tryz.results142,go_sem,j0,j1,j2]) rfl ⟨by rw [HO.out],belE_put HBR.out (Nat.le_refl _) (o,s.extract 0 i,⟨t.toArray⟩)⟩
theorem read_edit (s:ByteArray) (w:World) (hp:PlainAt w) (hs:s.size≤4294967000) :
  Calls Tryz.prog 142 #[.string s] w fun e w'=>e=.returned (editV (editO s.data.toList))∧Below w.heap.size w w':=by
 rcases indexAny_firstH s.data.toList with ⟨_,h⟩|⟨i,_,hi,h1,h2⟩
 ·have:=read_none s w hs h
  rw [k_none h]
  exact this
 ·exact read_sign s w hp hs i hi h1 h2
end
section
open Go.RowKit Go.Lib
def EWPost (w:World) (o:Option (List Ed)) (e:Ending) (w':World):Prop :=
 (∃u,e=.returned (.tuple #[u,.int .i64 (codeL o)])∧KE.Own w.heap.size w' u (ansL o))∧Below w.heap.size w w'
end
section
open Go.RowKit
attribute [local go_sem] Oper.semAt_some
theorem editO_fit {l:List UInt8} {x:Ed} (h:editO l=some x):x.2.1.size≤l.length∧x.2.2.size≤l.length∧0≤x.1∧x.1≤5:=by
 unfold editO at h
 have ht:(l.takeWhile (fun c=>!isK c)).length≤l.length:=(List.takeWhile_sublist _).length_le
 cases hd:l.dropWhile (fun c=>!isK c) with
 | nil=>rw [hd] at h;cases h
 | cons c r =>
  rw [hd] at h
  simp only at h
  have hl:(l.dropWhile (fun c=>!isK c)).length≤l.length:=(List.dropWhile_sublist _).length_le
  rw [hd,List.length_cons] at hl
  have hk:=kindN_range (c.toNat:Int)
  by_cases h4:kindN (c.toNat:Int)=4
  ·rw [if_pos h4] at h
   split at h
   ·cases h
    refine ⟨?_,Nat.zero_le _,(show (0:Int)≤4 by decide),(show (4:Int)≤5 by decide)⟩
    show (l.takeWhile _).toArray.size≤_
    rw [List.size_toArray]
    exact ht
   ·cases h
  ·rw [if_neg h4] at h
   cases r with
   | nil=>cases h
   | cons d r2 =>
    simp only at h
    split at h
    ·cases hr:readL r2 with
     | none=>rw [hr] at h;cases h
     | some t =>
      rw [hr] at h
      cases h
      have h1:=readL_len _ _ _ (Nat.le_refl _) hr
      rw [List.length_cons] at hl
      refine ⟨?_,?_,hk.1,hk.2⟩
      ·show (l.takeWhile _).toArray.size≤_
       rw [List.size_toArray]
       exact ht
      ·show t.toArray.size≤_
       rw [List.size_toArray]
       omega
    ·cases h
theorem editsW_fit {B:Nat} (ls:List (List UInt8)) (hB:∀l∈ls,l.length≤B):∀d,editsW ls=some d→d.length=ls.length∧∀x∈d,x.2.1.size≤B∧x.2.2.size≤B∧0≤x.1∧x.1≤5:=by
 induction ls with
 | nil=>intro d h;cases h;exact ⟨rfl,fun x hx=>by simp at hx⟩
 | cons l ls ih =>
  intro d h
  simp only [editsW] at h
  cases ho:editO l with
  | none=>rw [ho] at h;cases h
  | some y =>
   rw [ho] at h
   cases hr:editsW ls with
   | none=>rw [hr] at h;cases h
   | some gs =>
    rw [hr] at h
    cases h
    obtain ⟨h1,h2⟩:=ih (fun l' hl'=>hB l' (by simp [hl'])) gs hr
    refine ⟨by simp [h1],fun x hx=>?_⟩
    rcases List.mem_cons.1 hx with rfl|hx
    ·obtain ⟨f1,f2,f3,f4⟩:=editO_fit ho
     have:=hB l (by simp)
     exact ⟨by omega,by omega,f3,f4⟩
    ·exact h2 x hx
theorem may_take (D:List Ed):mayE (D.take 17)=mayE D:=by
 by_cases h:D.length≤17
 ·rw [List.take_of_length_le h]
 ·have e:(D.take 17).length=17:=by rw [List.length_take];omega
  unfold mayE
  rw [if_pos (by omega),if_pos (by omega)]
theorem take_short {D:List Ed} (h:mayE D=0):D.take 17=D:=List.take_of_length_le (by have:=(mayE_zero h).1;omega)
theorem Kind.own_farE {α:Type} {K:Kind α} {N R:Nat} {w w':World} {v:Value} {d:List α} (h:K.Own N w v d) (hg:w.grownBy w' (some R)) (hR:R<N):K.Own N w' v d :=
 own_same h fun k hk=>hg.block k (World.ownsRow.lt h k hk).2 (fun e=>by have:=(World.ownsRow.lt h k hk).1;have:=Option.some.inj e;omega)
def ESt {M:Nat} (w:World) (N:Nat) (pre:List (Wd M)) (W:World):Prop :=
 ∃v d,W.heap[w.heap.size+2]? = some (.cells #[v] 37 (0,0))∧KE.Own (N+2) W v d∧(∃D,editsW (plainW pre)=some D∧D.length=pre.length∧d=D.take 17) ∧
  W.heap[w.heap.size]? = some (.cells #[.slice none 0 0] 37 (0,0))∧W.heap[w.heap.size+1]? = some (.cells #[.int .i64 0] 26 (0,0))∧Below w.heap.size w W∧N+2≤W.heap.size∧w.heap.size+6≤N
def EStop {M:Nat} (w:World) (N:Nat) (c:Code) (pre:List (Wd M)) (W:World):Prop :=
 c=.ret∧editsW (plainW pre)=none∧W.heap[w.heap.size]? = some (.cells #[.slice none 0 0] 37 (0,0))∧W.heap[w.heap.size+1]? = some (.cells #[.int .i64 4] 26 (0,0))∧Below w.heap.size w W∧w.heap.size+6≤N
set_option maxHeartbeats 1000000 in
theorem pparseE_empty (w:World):Calls Tryz.prog 98 #[.string ⟨#[]⟩] w fun e w'=>EWPost w (editsW (wordsAns [])) e w':=by
 refine (callsIn_wide (n:=3)).1 ?_
 refine callsIn_of_wp_marks Tryz.func98 rfl trivial ?_ rfl
 simp only [Tryz.ntmps98,List.size_toArray,List.length_cons,List.length_nil,Nat.reduceAdd,Nat.reduceSub,Array.replicate_succ,Array.replicate_zero,List.push_toArray,List.append_toArray,List.nil_append,List.cons_append]
 gi_wp2
 exact ⟨.tuple #[.slice none 0 0,.int .i64 0],by simp [results,Tryz.results98,go_sem],⟨⟨_,rfl,KE.own_nil _ _⟩,((Below.refl _ w).alloc (Nat.le_refl _) _).alloc (by simp) _⟩⟩
set_option maxHeartbeats 4000000 in
set_option maxRecDepth 100000 in
theorem pparseE_words (s:ByteArray) (w:World) (hp:PlainAt w) (h0:s.data.toList≠[]) (hs:s.size≤4294967000) :
  Calls Tryz.prog 98 #[.string s] w fun e w'=>EWPost w (editsW (wordsAns s.data.toList)) e w':=by
 refine (callsIn_wide (n:=3)).1 ?_
 refine callsIn_of_wp_marks Tryz.func98 rfl trivial ?_ rfl
 simp only [Tryz.ntmps98,List.size_toArray,List.length_cons,List.length_nil,Nat.reduceAdd,Nat.reduceSub,Array.replicate_succ,Array.replicate_zero,List.push_toArray,List.append_toArray,List.nil_append,List.cons_append]
 have hsl:(splitL s.data.toList).length≤s.size+1:=by simpa using splitL_len s.data.toList
 have hne:s.toList.isEmpty=false:=by
  rw [Lib.toList_data]
  cases h:s.data.toList with
  | nil=>exact absurd h h0
  | cons _ _=>rfl
 gi_wp2_with (refine ⟨trivial,?_⟩;gi_at_call 25;refine (callsIn_wide.2 (splitSeq_any _ _)).mono ?_;rintro e w3 ⟨rfl,hbx,hb3,hs3⟩)
 simp only [World.size_alloc] at hbx hb3 hs3
 have hb30:Below w.heap.size w w3:=((((Below.refl _ w).alloc (Nat.le_refl _) _).alloc (by simp) _).alloc (by simp;omega) _).trans (hb3.mono (by omega))
 have g0:w3.heap[w.heap.size]? = some (.cells #[.slice none 0 0] 37 (0,0)):=by
  rw [hb3.block _ (by omega),Below.heap_alloc _ _ _ (by simp;omega),Below.heap_alloc _ _ _ (by simp)];exact heap_alloc_new w _
 have g1:w3.heap[w.heap.size+1]? = some (.cells #[.int .i64 0] 26 (0,0)):=by
  rw [hb3.block _ (by omega),Below.heap_alloc _ _ _ (by simp)]
  have:=heap_alloc_new (w.alloc (.cells #[.slice none 0 0] 37)) (.cells #[.int .i64 0] 26)
  simpa using this
 have g2:w3.heap[w.heap.size+2]? = some (.cells #[.slice none 0 0] 37 (0,0)):=by
  rw [hb3.block _ (by omega)]
  have:=heap_alloc_new ((w.alloc (.cells #[.slice none 0 0] 37)).alloc (.cells #[.int .i64 0] 26)) (.cells #[.slice none 0 0] 37)
  simpa using this
 have hN6:w3.heap.size=w.heap.size+6:=by omega
 have ST0:Hid (∀o1 o2,ESt (M:=s.size) w w3.heap.size [] ((w3.alloc o1).alloc o2)):=fun o1 o2=>by
  have ha:∀k,k<w3.heap.size→((w3.alloc o1).alloc o2).heap[k]? = w3.heap[k]?:=fun k hk=>by
   rw [Below.heap_alloc _ _ _ (by simp;omega),Below.heap_alloc _ _ _ hk]
  exact ⟨.slice none 0 0,[],(ha _ (by omega)).trans g2,KE.own_nil _ _,⟨[],rfl,rfl,rfl⟩,(ha _ (by omega)).trans g0,(ha _ (by omega)).trans g1,
   (hb30.alloc hb30.size _).alloc (by have:=hb30.size;simp;omega) _,by simp,by omega⟩
 have HBX:=hid hbx
 have HP:=hid hp
 have hen:=enters_of (P:=Tryz.prog) Tryz.func87 (by kernel_rfl) rfl
 clear hbx hp g0 g1 g2 hb3 hs3
 refine wpIn_rangeFunc_box (w:=w3) rfl (by decide) (gf:=87) (lb:=#[.pointer (some ⟨w.heap.size+1+1+1+1,0,none⟩),.pointer (some ⟨w.heap.size+1+1+1,0,none⟩),.pointer (some ⟨w.heap.size+1+1+1+2,0,none⟩)]) rfl trivial hen (Bs:=w.heap.size+1+1+1) (by omega)
  (split1_seq 2 (by decide) s.size _ _ _ s (Nat.le_refl _) (by unfold maxLen;omega) w3 HBX.out) ?hKt ?hKb (fun _=>rfl) (ESt w w3.heap.size) (EStop w w3.heap.size) ?hIp ?hIb ?hXp ST0.out
  (fun x=>{ tmps:=#[.string s,undef,.pointer (some ⟨w.heap.size,0,none⟩),.pointer (some ⟨w.heap.size+1,0,none⟩),.pointer (some ⟨w.heap.size+1+1,0,none⟩),.string x.1,undef,undef,undef,.string s,.bool false,.string s,
   .func (.func 87) #[] #[.pointer (some ⟨w.heap.size+1+1+1+1,0,none⟩),.pointer (some ⟨w.heap.size+1+1+1,0,none⟩),.pointer (some ⟨w.heap.size+1+1+1+2,0,none⟩)],
   .string x.1,undef,undef,undef,undef,undef,undef,undef,undef,undef,undef,undef,undef,undef,undef,undef,undef,undef,undef,undef,undef,undef],defers:=[] }) ?assign ?body ?done ?stop
 case hKt=>exact fun h k=>⟨k.1.trans h.1,k.2.1.trans h.2.1,k.2.2.trans h.2.2⟩
 case hKb=>exact fun W l o' hl=>⟨World.putObj_heap_other (by omega),World.putObj_heap_other (by omega),World.putObj_heap_other (by omega)⟩
 case hIp =>
  rintro pre W o' ⟨v,d,k2,hox,hf,k0,k1,hb,hz,h6⟩
  have hg:W.grownBy (W.putObj (w3.heap.size+1) o') (some (w3.heap.size+1)):=grownBy_putObj' W _ o'
  exact ⟨v,d,(World.putObj_heap_other (by omega)).trans k2,Kind.own_farE hox hg (by omega),hf,(World.putObj_heap_other (by omega)).trans k0,(World.putObj_heap_other (by omega)).trans k1,hb.grown hg (by omega) (fun k e=>by cases e;omega),Nat.le_trans hz hg.size,h6⟩
 case hIb =>
  rintro pre W u ⟨v,d,k2,hox,hf,k0,k1,hb,hz,h6⟩
  have hg:W.grownBy (W.setCell ⟨w.heap.size+1+1+1,0,none⟩ u) (some (w.heap.size+1+1+1)):=grown_set W _ 0 u
  exact ⟨v,d,(hg.block _ (by omega) (by intro e;have:=Option.some.inj e;omega)).trans k2,Kind.own_farE hox hg (by omega),hf,(hg.block _ (by omega) (by intro e;have:=Option.some.inj e;omega)).trans k0,(hg.block _ (by omega) (by intro e;have:=Option.some.inj e;omega)).trans k1,hb.grown hg (by omega) (fun k e=>by cases e;omega),Nat.le_trans hz hg.size,h6⟩
 case hXp =>
  rintro c pre W o' ⟨hc,hf,k0,k1,hb,h6⟩
  have hg:W.grownBy (W.putObj (w3.heap.size+1) o') (some (w3.heap.size+1)):=grownBy_putObj' W _ o'
  exact ⟨hc,hf,(World.putObj_heap_other (by omega)).trans k0,(World.putObj_heap_other (by omega)).trans k1,⟨hg.os.trans hb.os,hg.tape.trans hb.tape,hg.output.trans hb.output,Nat.le_trans hb.size hg.size,fun k hk=>(World.putObj_heap_other (by omega)).trans (hb.block k hk)⟩,h6⟩
 case assign =>
  intro l x W K hK
  simp only [encW]
  gi_wp2
  exact hK
 case body =>
  rintro l pre x W hlW ⟨v,d,k2,hox,⟨D,hf,hl,hdD⟩,k0,k1,hb,hz,h6⟩ _
  have hwp:=read_edit x.1 W (HP.out.on hb) (Nat.le_trans x.2 hs)
  obtain ⟨i0,hi,hz0,hz1,hz2⟩:=info_parts Tryz.infoEd
  have hpl:plainW (pre++[x])=plainW pre++[x.1.data.toList]:=by simp [plainW]
  have HPL:=hid hpl
  have HF:=hid hf
  have HB:=hid hb
  have HOX:=hid hox
  have HK0:=hid k0
  have HK1:=hid k1
  have HK2:=hid k2
  have HLN:=hid hl
  have HDD:=hid hdD
  clear hpl hf hb hox hl hdD
  cases hwo:editO x.1.data.toList with
  | none =>
   rw [hwo] at hwp
   have HW:Hid (Calls Tryz.prog 142 #[.string x.1] W fun e w'=>e=.returned (.tuple #[.agg #[.int .i64 0,.string ⟨#[]⟩,.string ⟨#[]⟩],.int .i64 4])∧Below W.heap.size W w'):=hwp
   have HNO:Hid (editsW (plainW (pre++[x]))=none):=by
    show _=_
    rw [HPL.out]
    exact editsW_no hwo
   clear hwp k0 k1 k2
   have HN6:=hid hN6
   clear hN6
   gi_wp2_with (refine ⟨trivial,?_⟩;gi_at_call 142;refine (CallsIn.inRound l (callsIn_wide.2 HW.out)).mono ?_;rintro e W2 ⟨rfl,hb2⟩;have hs2:=hb2.size;have t0:=HK0.out;have t1:=HK1.out;have t0':=(Below.heap_alloc W2 (.cells #[.int .i64 0,.string ⟨#[]⟩,.string ⟨#[]⟩] 49) w.heap.size (by omega)).trans ((hb2.block w.heap.size (by omega)).trans t0);have t1':=(Below.heap_alloc W2 (.cells #[.int .i64 0,.string ⟨#[]⟩,.string ⟨#[]⟩] 49) (w.heap.size+1) (by omega)).trans ((hb2.block (w.heap.size+1) (by omega)).trans t1);obtain ⟨q0,q1⟩:=one_facts t0';obtain ⟨q2,q3⟩:=one_facts t1';have T0:=hid t0';have T1:=hid t1';clear t0 t1 t0' t1')
   have hbb:=((((HB.out.trans (hb2.mono HB.out.size)).alloc (Nat.le_trans HB.out.size hs2) (.cells #[.int .i64 0,.string ⟨#[]⟩,.string ⟨#[]⟩] 49)).setCell (p:=⟨w.heap.size,0,none⟩) (Nat.le_refl _) (.slice none 0 0)).setCell (p:=⟨w.heap.size+1,0,none⟩) (by show _≤w.heap.size+1;omega) (.int .i64 4))
   have hkf:KeepsFrom w3.heap.size W (W2.alloc (.cells #[.int .i64 0,.string ⟨#[]⟩,.string ⟨#[]⟩] 49)):=KeepsFrom.trans (keeps_below hb2) ((KeepsOthers.alloc _ _).from _)
   exact ⟨(hkf.trans ((KeepsOthers.setCell _ _ _).from _)).trans ((KeepsOthers.setCell _ _ _).from _),rfl,HNO.out,Boxed.other (Boxed.set _ T0.out) (by omega) _,Boxed.set _ (Boxed.other T1.out (by omega) _),hbb,h6⟩
  | some y =>
   rw [hwo] at hwp
   have HW:Hid (Calls Tryz.prog 142 #[.string x.1] W fun e w'=>e=.returned (.tuple #[.agg #[.int .i64 y.1,.string y.2.1,.string y.2.2],.int .i64 0])∧Below W.heap.size W w'):=hwp
   have HNO:Hid (editsW (plainW (pre++[x]))=some (D++[y])):=by
    show _=_
    rw [HPL.out]
    exact editsW_snoc HF.out hwo
   obtain ⟨yo,yf,yt⟩:=y
   simp only at HW
   clear hwp k0 k1 k2
   obtain ⟨pv,cv,rfl⟩:=Kind.own_shape HOX.out
   by_cases h17:d.length≤16
   ·have h17z:(d.length:Int)≤16:=by omega
    have HDT:Hid (d++[(yo,yf,yt)]=(D++[(yo,yf,yt)]).take 17):=by
     show _=_
     have hD:D.length≤16:=by rw [HDD.out,List.length_take] at h17;omega
     rw [List.take_of_length_le (by simp;omega),HDD.out,List.take_of_length_le (by omega)]
    have HN6:=hid hN6
    clear hN6
    gi_wp2_with (first|(gi_at_builtin;refine wpListIn_append_own _ rfl _ _ 37 rfl (w3.heap.size+2) 49 i0 (.agg #[.int .i64 0,.string ⟨#[]⟩,.string ⟨#[]⟩]) 3 40 Tryz.underlying37 hi hz0 hz1 hz2 rfl (by decide) _ _ _ rfl HX2.out ⟨W2.heap.size+1,0,none⟩ 1 1 (KE.cells [(yo,yf,yt)]) rfl rfl HC.out (KE.cells_ones _) (by unfold maxLen;omega) (by omega) (by simp;omega) ?_;intro v' w1 hown' hgrow _;obtain ⟨g',cap',rfl⟩:=ownsRow_succ hown';have hv1:=T2.out.kept hgrow (T2.out.not_row (by decide) HX2.out);have hc1:=hv1.cell;have hf1:=hv1.frozen;have HV1:=hid hv1;have HO:=hid hown';have HG:=hid hgrow;clear hv1 hown' hgrow)|(refine ⟨trivial,?_⟩;gi_at_call 142;refine (CallsIn.inRound l (callsIn_wide.2 HW.out)).mono ?_;rintro e W2 ⟨rfl,hb2⟩;have hs2:=hb2.size;have t2:=HK2.out;have t2':=(Below.heap_alloc W2 (.cells #[.int .i64 yo,.string yf,.string yt] 49) (w.heap.size+2) (by omega)).trans ((hb2.block (w.heap.size+2) (by omega)).trans t2);obtain ⟨q0,q1⟩:=one_facts t2';have T2:Hid (Boxed ((W2.alloc (.cells #[.int .i64 yo,.string yf,.string yt] 49)).alloc (.cells #[.int .i64 yo,.string yf,.string yt] 49)) (w.heap.size+2) 37 (.slice pv d.length cv)):=hid (Boxed.alloc t2' _);have HB2:Hid (Below W.heap.size W ((W2.alloc (.cells #[.int .i64 yo,.string yf,.string yt] 49)).alloc (.cells #[.int .i64 yo,.string yf,.string yt] 49))):=hid ((hb2.alloc hs2 _).alloc (by simp;omega) _);have HX2:=hid (Kind.own_on HOX.out HB2.out);have HC:=hid (KE.news (W2.alloc (.cells #[.int .i64 yo,.string yf,.string yt] 49)) (yo,yf,yt));rw [World.size_alloc] at HC;clear t2 t2'))
    have hb12:Below (w3.heap.size+2) W w1:=(HB2.out.mono hz).trans ((Below.refl _ _).grown HG.out (by simp;omega) (fun k hk=>(World.ownsRow.lt HX2.out k hk).1))
    have hsz1:=hb12.size
    have hox0:KE.Own (w3.heap.size+2) w1 (.slice (some ⟨g',0,none⟩) (d.length+1) cap') (d++[(yo,yf,yt)]):=Kind.own_snoc HO.out rfl rfl
    have hox1:=Kind.own_farE hox0 (grown_set w1 (w.heap.size+2) 0 (.slice (some ⟨g',0,none⟩) (d.length+1) cap')) (by omega)
    have hkf:KeepsFrom w3.heap.size W w1:=(keeps_below HB2.out).trans ((KeepsOthers.of_grownBy HG.out (fun j o ej hj=>row_cells HX2.out ej hj)).from _)
    refine ⟨hkf.trans ((KeepsOthers.setCell _ _ _).from _),⟨(Below.heap_setCell w1 _ _ _ (by show _≠w.heap.size+1+1;omega)).trans (hb12.block _ (by omega)),(Below.heap_setCell w1 _ _ _ (by show _≠w.heap.size+1+1;omega)).trans (hb12.block _ (by omega)),(Below.heap_setCell w1 _ _ _ (by show _≠w.heap.size+1+1;omega)).trans (hb12.block _ (by omega))⟩,?_⟩
    exact ⟨_,d++[(yo,yf,yt)],Boxed.set _ HV1.out,hox1,⟨D++[(yo,yf,yt)],HNO.out,by rw [List.length_append,List.length_append,HLN.out];rfl,HDT.out⟩,
     Boxed.other ((hb12.block _ (by omega)).trans HK0.out) (by omega) _,Boxed.other ((hb12.block _ (by omega)).trans HK1.out) (by omega) _,
     (HB.out.trans (hb12.mono (by omega))).setCell (p:=⟨w.heap.size+1+1,0,none⟩) (by show _≤w.heap.size+1+1;omega) _,by simp [World.setCell];omega,h6⟩
   ·have h17z:¬ ((d.length:Int)≤16):=by omega
    have HDT:Hid (d=(D++[(yo,yf,yt)]).take 17):=by
     show _=_
     have hD:17≤D.length:=by rw [HDD.out,List.length_take] at h17;omega
     rw [List.take_append_of_le_length hD]
     exact HDD.out
    have HN6:=hid hN6
    clear hN6
    gi_wp2_with (refine ⟨trivial,?_⟩;gi_at_call 142;refine (CallsIn.inRound l (callsIn_wide.2 HW.out)).mono ?_;rintro e W2 ⟨rfl,hb2⟩;have hs2:=hb2.size;have t2:=HK2.out;have t2':=(Below.heap_alloc W2 (.cells #[.int .i64 yo,.string yf,.string yt] 49) (w.heap.size+2) (by omega)).trans ((hb2.block (w.heap.size+2) (by omega)).trans t2);obtain ⟨q0,q1⟩:=one_facts t2';have T2:=hid t2';have HB2:Hid (Below W.heap.size W (W2.alloc (.cells #[.int .i64 yo,.string yf,.string yt] 49))):=hid (hb2.alloc hs2 _);clear t2 t2')
    refine ⟨keeps_below HB2.out,⟨HB2.out.block _ (by omega),HB2.out.block _ (by omega),HB2.out.block _ (by omega)⟩,?_⟩
    exact ⟨_,d,T2.out,Kind.own_on HOX.out HB2.out,⟨D++[(yo,yf,yt)],HNO.out,by rw [List.length_append,List.length_append,HLN.out];rfl,HDT.out⟩,
     (HB2.out.block _ (by omega)).trans HK0.out,(HB2.out.block _ (by omega)).trans HK1.out,HB.out.trans (HB2.out.mono HB.out.size),Nat.le_trans hz HB2.out.size,h6⟩
 case done =>
  rintro xs W hS ⟨v,d,k2,hox,⟨D,hf,hl,hdD⟩,k0,k1,hb,hz,h6⟩ hK
  have hfs:editsW (wordsAns s.data.toList)=some D:=by unfold wordsAns;rw [if_neg h0,←hS];exact hf
  obtain ⟨f1,f3⟩:=editsW_fit (B:=s.size) (plainW xs) (fun l hl=>by
   obtain ⟨x,_,rfl⟩:=List.mem_map.1 hl
   simpa using x.2) D hf
  have hdl:d.length≤17:=by rw [hdD,List.length_take];omega
  have hfit:FitE d:=⟨by unfold maxLen;omega,fun x hx=>by
   obtain ⟨a1,a2,a3,a4⟩:=f3 x (by rw [hdD] at hx;exact List.mem_of_mem_take hx)
   refine ⟨?_,?_,by omega,by omega⟩
   ·unfold maxLen;omega
   ·unfold maxLen;omega⟩
  have hmy:=pmayE_raw v d W (Kind.own_is hox) hfit
  have hmt:=may_take D
  rw [←hdD] at hmt
  rw [hmt] at hmy
  obtain ⟨pv,cv,rfl⟩:=Kind.own_shape hox
  obtain ⟨k,hk⟩:∃k,mayE D=k:=⟨_,rfl⟩
  have HDD:Hid (k=0→D=d):=fun e=>by rw [hdD];exact (take_short (by rw [hk];exact e)).symm
  have HCD:Hid (codeL (some D)=k):=hk
  have HAN:Hid (ansL (some D)=if k=0 then D else []):=by show _=_;rw [←hk];rfl
  rw [hk] at hmy
  have HMY:=hid hmy
  have HOX:=hid hox
  have HK0:=hid k0
  have HK1:=hid k1
  have HK2:=hid k2
  have HB:=hid hb
  have HK:=hid hK
  have HFS:=hid hfs
  have HN6:=hid hN6
  obtain ⟨c2,_⟩:=one_facts k2
  clear hmy hmt hfit hox hf hl hdD k0 k1 k2 hK hN6 hb hfs hk f1 f3
  by_cases hm:k=0
  ·have HZ:=hid hm
   subst hm
   gi_wp2_with (refine ⟨trivial,?_⟩;gi_at_call 85;refine (callsIn_wide.2 HMY.out).mono ?_;rintro e W2 ⟨rfl,hb2⟩;obtain ⟨q0,q1⟩:=one_facts ((hb2.block w.heap.size (by omega)).trans HK0.out);obtain ⟨q2,q3⟩:=one_facts ((hb2.block (w.heap.size+1) (by omega)).trans HK1.out);obtain ⟨q4,q5⟩:=one_facts ((hb2.block (w.heap.size+2) (by omega)).trans HK2.out))
   have u0:Boxed W2 w.heap.size 37 (.slice none 0 0):=(hb2.block w.heap.size (by omega)).trans HK0.out
   have u1:Boxed W2 (w.heap.size+1) 26 (.int .i64 0):=(hb2.block (w.heap.size+1) (by omega)).trans HK1.out
   obtain ⟨W4,hW4⟩:∃W4,(W2.setCell ⟨w.heap.size,0,none⟩ (.slice pv d.length cv)).setCell ⟨w.heap.size+1,0,none⟩ (.int .i64 0)=W4:=⟨_,rfl⟩
   have y0:Boxed W4 w.heap.size 37 (.slice pv d.length cv):=by rw [←hW4];exact Boxed.other (Boxed.set _ u0) (by omega) _
   have y1:Boxed W4 (w.heap.size+1) 26 (.int .i64 0):=by rw [←hW4];exact Boxed.set _ (Boxed.other u1 (by omega) _)
   have hKD:W4.heap[w3.heap.size]? = some (.deferred (some [])):=by
    rw [←hW4]
    exact (Below.heap_setCell _ _ _ _ (by show _≠w.heap.size+1;omega)).trans ((Below.heap_setCell _ _ _ _ (by show _≠w.heap.size;omega)).trans ((hb2.block _ (by omega)).trans HK.out))
   have hb4:Below w.heap.size w W4:=by
    rw [←hW4]
    exact ((HB.out.trans (hb2.mono HB.out.size)).setCell (p:=⟨w.heap.size,0,none⟩) (Nat.le_refl _) _).setCell (p:=⟨w.heap.size+1,0,none⟩) (by show _≤w.heap.size+1;omega) _
   have ha4:KE.Own (w3.heap.size+2) W4 (.slice pv d.length cv) d:=by
    rw [←hW4]
    exact Kind.own_farE (Kind.own_farE (Kind.own_on HOX.out hb2) (grown_set W2 w.heap.size 0 _) (by omega)) (grown_set _ (w.heap.size+1) 0 _) (by omega)
   rw [hW4]
   have hsz4:=hb4.size
   have hg5:W4.grownBy (W4.putObj w3.heap.size (.deferred none)) (some w3.heap.size):=grownBy_putObj' W4 _ _
   have z0:Boxed (W4.putObj w3.heap.size (.deferred none)) w.heap.size 37 (.slice pv d.length cv):=(World.putObj_heap_other (by omega)).trans y0
   have z1:Boxed (W4.putObj w3.heap.size (.deferred none)) (w.heap.size+1) 26 (.int .i64 0):=(World.putObj_heap_other (by omega)).trans y1
   have z0c:=z0.cell
   have z1c:=z1.cell
   refine ⟨by simp,.inl ⟨_,_,rfl,run_takeDeferred hKD,?_⟩⟩
   refine ⟨.tuple #[.slice pv d.length cv,.int .i64 0],by simp [results,Tryz.results98,go_sem,z0c,z1c],⟨.slice pv d.length cv,?_,?_⟩,hb4.grown hg5 (by omega) (fun k e=>by cases e;omega)⟩
   ·rw [HFS.out,HCD.out]
   ·rw [HFS.out,HAN.out]
    simp only [if_true]
    rw [HDD.out (by trivial)]
    exact Kind.own_weak (Kind.own_farE ha4 hg5 (by omega)) (by omega)
  ·have hne:(k != 0)=true:=by rw [bne_iff_ne];exact hm
   have HNZ:=hid hm
   gi_wp2_with (refine ⟨trivial,?_⟩;gi_at_call 85;refine (callsIn_wide.2 HMY.out).mono ?_;rintro e W2 ⟨rfl,hb2⟩;obtain ⟨q0,q1⟩:=one_facts ((hb2.block w.heap.size (by omega)).trans HK0.out);obtain ⟨q2,q3⟩:=one_facts ((hb2.block (w.heap.size+1) (by omega)).trans HK1.out))
   have u0:Boxed W2 w.heap.size 37 (.slice none 0 0):=(hb2.block w.heap.size (by omega)).trans HK0.out
   have u1:Boxed W2 (w.heap.size+1) 26 (.int .i64 0):=(hb2.block (w.heap.size+1) (by omega)).trans HK1.out
   obtain ⟨W4,hW4⟩:∃W4,(W2.setCell ⟨w.heap.size,0,none⟩ (.slice none 0 0)).setCell ⟨w.heap.size+1,0,none⟩ (.int .i64 k)=W4:=⟨_,rfl⟩
   have y0:Boxed W4 w.heap.size 37 (.slice none 0 0):=by rw [←hW4];exact Boxed.other (Boxed.set _ u0) (by omega) _
   have y1:Boxed W4 (w.heap.size+1) 26 (.int .i64 k):=by rw [←hW4];exact Boxed.set _ (Boxed.other u1 (by omega) _)
   have hKD:W4.heap[w3.heap.size]? = some (.deferred (some [])):=by
    rw [←hW4]
    exact (Below.heap_setCell _ _ _ _ (by show _≠w.heap.size+1;omega)).trans ((Below.heap_setCell _ _ _ _ (by show _≠w.heap.size;omega)).trans ((hb2.block _ (by omega)).trans HK.out))
   have hb4:Below w.heap.size w W4:=by
    rw [←hW4]
    exact ((HB.out.trans (hb2.mono HB.out.size)).setCell (p:=⟨w.heap.size,0,none⟩) (Nat.le_refl _) _).setCell (p:=⟨w.heap.size+1,0,none⟩) (by show _≤w.heap.size+1;omega) _
   rw [hW4]
   have hsz4:=hb4.size
   have hg5:W4.grownBy (W4.putObj w3.heap.size (.deferred none)) (some w3.heap.size):=grownBy_putObj' W4 _ _
   have z0:Boxed (W4.putObj w3.heap.size (.deferred none)) w.heap.size 37 (.slice none 0 0):=(World.putObj_heap_other (by omega)).trans y0
   have z1:Boxed (W4.putObj w3.heap.size (.deferred none)) (w.heap.size+1) 26 (.int .i64 k):=(World.putObj_heap_other (by omega)).trans y1
   have z0c:=z0.cell
   have z1c:=z1.cell
   refine ⟨by simp,.inl ⟨_,_,rfl,run_takeDeferred hKD,?_⟩⟩
   refine ⟨.tuple #[.slice none 0 0,.int .i64 k],by simp [results,Tryz.results98,go_sem,z0c,z1c],⟨.slice none 0 0,?_,?_⟩,hb4.grown hg5 (by omega) (fun k e=>by cases e;omega)⟩
   ·rw [HFS.out,HCD.out]
   ·rw [HFS.out,HAN.out,if_neg HNZ.out]
    exact KE.own_nil _ _
 case stop =>
  rintro c pre W hSp ⟨rfl,hf,k0,k1,hb,h6⟩ hK
  have HN6:=hid hN6
  clear hN6
  gi_wp2
  have hg5:W.grownBy (W.putObj w3.heap.size (.deferred none)) (some w3.heap.size):=grownBy_putObj' W _ _
  have z0:Boxed (W.putObj w3.heap.size (.deferred none)) w.heap.size 37 (.slice none 0 0):=(World.putObj_heap_other (by omega)).trans k0
  have z1:Boxed (W.putObj w3.heap.size (.deferred none)) (w.heap.size+1) 26 (.int .i64 4):=(World.putObj_heap_other (by omega)).trans k1
  have z0c:=z0.cell
  have z1c:=z1.cell
  have hno:editsW (wordsAns s.data.toList)=none:=by
   obtain ⟨r,hr⟩:=hSp
   unfold wordsAns
   rw [if_neg h0,←hr,editsW_append,hf];rfl
  refine ⟨by simp,.inl ⟨_,_,rfl,run_takeDeferred hK,?_⟩⟩
  refine ⟨.tuple #[.slice none 0 0,.int .i64 4],by simp [results,Tryz.results98,go_sem,z0c,z1c],⟨.slice none 0 0,?_,?_⟩,hb.grown hg5 hb.size (fun k e=>by cases e;omega)⟩
  ·rw [hno];rfl
  ·rw [hno];exact KE.own_nil _ _
theorem pparseE_plain (s:ByteArray) (w:World) (hp:PlainAt w) (hs:s.size≤4294967000) :
  Calls Tryz.prog 98 #[.string s] w fun e w'=>EWPost w (editsW (wordsAns s.data.toList)) e w':=by
 by_cases h0:s.data.toList=[]
 ·have e:s=⟨#[]⟩:=by
   obtain ⟨⟨l⟩⟩:=s
   cases h0
   rfl
  subst e
  exact pparseE_empty w
 ·exact pparseE_words s w hp h0 hs
end
section
open Go.RowKit
theorem ba_ext {a b:ByteArray} (h:a.data.toList=b.data.toList):a=b:=by
 obtain ⟨⟨x⟩⟩:=a
 obtain ⟨⟨y⟩⟩:=b
 simp at h
 rw [h]
theorem ba_append (a b:ByteArray):(a++b).data.toList=a.data.toList++b.data.toList:=by simp
theorem letB_slash:letB (47:Int)=false:=by decide
theorem bigB_slash:bigB (47:Int)=false:=by decide
theorem typeB_slash {l:List UInt8} (h:typeB l=true):(47:UInt8) ∉ l:=by
 cases l with
 | nil=>simp
 | cons c r =>
  simp only [typeB,spell,Bool.and_eq_true,List.all_eq_true] at h
  obtain ⟨⟨_,h1⟩,h2⟩:=h
  simp only [List.mem_cons,not_or]
  refine ⟨?_,?_⟩
  ·rintro rfl
   rw [show ((47:UInt8).toNat:Int)=47 from rfl,bigB_slash] at h1
   cases h1
  ·intro hm
   have:=h2 _ hm
   rw [show ((47:UInt8).toNat:Int)=47 from rfl,letB_slash] at this
   cases this
theorem ix_first (a b:List UInt8) (c:UInt8) (h:c ∉ a):Lib.indexByte (a++c::b) c=(a.length:Int):=by
 induction a with
 | nil=>simp [Lib.indexByte]
 | cons x a ih =>
  simp only [List.mem_cons,not_or] at h
  have hx:(x==c)=false:=by rw [beq_eq_false_iff_ne];exact fun e=>h.1 e.symm
  rw [List.cons_append]
  unfold Lib.indexByte
  rw [hx,ih h.2]
  have:((a.length:Int) == -1)=false:=by rw [beq_eq_false_iff_ne];omega
  simp [this]
theorem keyB_parts {a b:ByteArray} (h:keyB a b=true):typeB a.data.toList=true∧idenB b.data.toList=true:=by
 simpa [keyB] using h
theorem keyB_sizes {a b:ByteArray} (h:keyB a b=true):a.size≤32∧b.size≤32:=by
 obtain ⟨h1,h2⟩:=keyB_parts h
 exact ⟨by simpa using typeB_len h1,by simpa using idenB_len h2⟩
theorem cat_data (a b:ByteArray):(a++⟨#[47]⟩++b).data.toList=a.data.toList++(47:UInt8)::b.data.toList:=by
 rw [ba_append,ba_append,List.append_assoc];rfl
theorem cell_lt {w:World} {a:Addr} {v:Value} (h:w.cell? a=some v):a.block<w.heap.size:=by
 rcases Nat.lt_or_ge a.block w.heap.size with h'|h'
 ·exact h'
 ·simp [World.cell?,Array.getElem?_eq_none h'] at h
theorem kept {W w':World} (hq:Below W.heap.size W w') {b o:Nat} {v:Value} (h:W.cell? ⟨b,o,none⟩=some v):w'.cell? ⟨b,o,none⟩=some v:=by
 rw [(bcell hq).1 _ _ (cell_lt h)];exact h
end
section
open Go.RowKit Go.Lib
structure RangeE (x:Ex):Prop where
 temp:x.temp.size≤maxLen
 ka:x.ka.size≤maxLen
 kb:x.kb.size≤maxLen
 k0:-9223372036854775808≤x.kind
 k1:x.kind≤9223372036854775807
 i0:-9223372036854775808≤x.iff
 i1:x.iff≤9223372036854775807
 t0:0≤x.stamp
 t1:x.stamp≤18446744073709551615
 n0:-9223372036854775808≤x.num
 n1:x.num≤9223372036854775807
structure OwnQ (n0:Nat) (x:Ex) (w:World):Prop where
 val:OwnXs n0 w x.vs x.vo
 fit:FitX x.vo
 eds:KE.Own n0 w x.es x.eo
 efit:FitE x.eo
 prd:KM.Own n0 w x.ps x.po
 pfit:FitM x.po
 rng:RangeE x
structure BxQ (n0 g:Nat) (x:Ex) (w:World):Prop where
 box:w.heap[g]? = some (.cells (encEx x).toArray 41 (0,0))
 low:n0≤g
 own:OwnQ n0 x w
theorem row_box {w:World} {n0 n size g:Nat} {e T:TypeId} {v:Value} {xs:List Value} {c:Array Value} {fr:Nat × Nat} (h:w.ownsRow n0 e size v n xs) (hO:w.heap[g]? = some (.cells c T fr)) (ht:e≠T) (b:Nat) (hb:v.ownBlock=some b):b≠g:=fun q=>by
 rcases h.2 with ⟨rfl,_⟩|⟨k,cap,cur,hv,_,hg,_⟩
 ·cases hb
 ·rw [hv] at hb
  have:k=b:=Option.some.inj hb
  rw [this,q,hO] at hg
  injection hg with hg
  injection hg with _ h2
  exact ht h2.symm
theorem OwnQ.fr {n0 g:Nat} {x:Ex} {w W:World} {c:Array Value} {fr:Nat × Nat} (h:OwnQ n0 x w) (hO:w.heap[g]? = some (.cells c 41 fr)) (f:Fr (fun b=>b=g) w W):OwnQ n0 x W :=
 ⟨⟨f.row h.val.1 (row_box h.val.1 hO (by decide)),fun y hy=>f.row (h.val.2 y hy) (row_box (h.val.2 y hy) hO (by decide))⟩,h.fit,
  f.row (show w.ownsRow n0 KE.T KE.k x.es x.eo.length (KE.cells x.eo) from h.eds) (row_box (show w.ownsRow n0 KE.T KE.k x.es x.eo.length (KE.cells x.eo) from h.eds) hO (by decide)),h.efit,
  f.row (show w.ownsRow n0 KM.T KM.k x.ps x.po.length (KM.cells x.po) from h.prd) (row_box (show w.ownsRow n0 KM.T KM.k x.ps x.po.length (KM.cells x.po) from h.prd) hO (by decide)),h.pfit,h.rng⟩
theorem OwnQ.on {n0:Nat} {x:Ex} {w W:World} (h:OwnQ n0 x w) (hb:Below w.heap.size w W):OwnQ n0 x W :=
 have f:Fr (fun _=>False) w W:=Fr.of_below hb
 ⟨⟨f.row h.val.1 fun _ _ q=>q,fun y hy=>f.row (h.val.2 y hy) fun _ _ q=>q⟩,h.fit,
  f.row (show w.ownsRow n0 KE.T KE.k x.es x.eo.length (KE.cells x.eo) from h.eds) (fun _ _ q=>q),h.efit,
  f.row (show w.ownsRow n0 KM.T KM.k x.ps x.po.length (KM.cells x.po) from h.prd) (fun _ _ q=>q),h.pfit,h.rng⟩
theorem BxQ.lt {n0 g:Nat} {x:Ex} {w:World} (h:BxQ n0 g x w):g<w.heap.size:=(Array.getElem?_eq_some_iff.1 h.box).1
theorem BxQ.on {n0 g:Nat} {x:Ex} {w W:World} (h:BxQ n0 g x w) (hb:Below w.heap.size w W):BxQ n0 g x W :=
 ⟨(hb.block g h.lt).trans h.box,h.low,h.own.on hb⟩
theorem BxQ.cell {n0 g:Nat} {x:Ex} {w:World} (h:BxQ n0 g x w) (i:Nat) (u:Value) (hu:(encEx x)[i]? = some u):w.cell? ⟨g,i,none⟩=some u:=by
 rw [cell_of_row w g i _ _ _ h.box]
 simpa using hu
theorem BxQ.free {n0 g:Nat} {x:Ex} {w:World} (h:BxQ n0 g x w) (i:Nat):w.frozen? ⟨g,i,none⟩=false:=by
 simp [World.frozen?,h.box]
theorem fr_setE (w:World) (G j:Nat) (u:Value):Fr (fun b=>b=G) w (w.setCell ⟨G,j,none⟩ u):=by
 have hb:Below G w (w.setCell ⟨G,j,none⟩ u):=(Below.refl G w).setCell (Nat.le_refl _) _
 exact ⟨hb.os,hb.tape,hb.output,hb.size,fun k _ hn=>heap_setCell_other _ _ k _ hn⟩
theorem BxQ.set {n0 g:Nat} {x y:Ex} {w:World} (h:BxQ n0 g x w) (i:Nat) (u:Value) (hy:(encEx y).toArray=(encEx x).toArray.setIfInBounds i u) (ho:OwnQ n0 y w) :
  BxQ n0 g y (w.setCell ⟨g,i,none⟩ u) :=
 ⟨by rw [hy];exact heap_setCell_same _ g _ _ _ _ h.box,h.low,ho.fr h.box (fr_setE w g i u)⟩
def WordsAt (w:World) (v:Value) (ws:List ByteArray):Prop :=
 ∃b o c,v=.slice (some ⟨b,o,none⟩) ws.length c∧ws.length≤c∧b<w.heap.size∧∀(j:Nat) x,ws[j]? = some x→w.cell? ⟨b,o+j,none⟩=some (.string x)
theorem WordsAt.on {w W:World} {v:Value} {ws:List ByteArray} (h:WordsAt w v ws) (hb:Below w.heap.size w W):WordsAt W v ws:=by
 obtain ⟨b,o,c,h1,h2,h3,h4⟩:=h
 exact ⟨b,o,c,h1,h2,Nat.lt_of_lt_of_le h3 hb.size,fun j x hx=>(hb.cell (p:=⟨b,o+j,none⟩) h3).trans (h4 j x hx)⟩
def textW (ws:List ByteArray):ByteArray:=⟨(joinW (ws.map (·.data.toList))).toArray⟩
theorem textW_data (ws:List ByteArray):(textW ws).data.toList=joinW (ws.map (·.data.toList)):=rfl
theorem opjoin_any (w:World) (v:Value) (ws:List ByteArray) (hw:WordsAt w v ws) (hl:(textW ws).size≤4294967000) (hn:ws.length≤4294967000) :
  Calls Tryz.prog 20 #[v,.string ⟨#[32]⟩] w fun e w'=>e=.returned (.string (textW ws))∧Below w.heap.size w w':=by
 obtain ⟨b,o,c,rfl,h2,h3,h4⟩:=hw
 exact Tryz.strings_Join b o c ws ⟨#[32]⟩ w h4 h3 (by omega) h2 (by
  have:(Lib.join (ws.map (·.data.toList)) [32]).length=(textW ws).size:=rfl
  show (Lib.join (ws.map (·.data.toList)) [32]).length≤_
  omega)
theorem fitM_may {p:List Tm} (h:mayM p=0):FitM p:=by
 obtain ⟨h1,h2,h3,h4⟩:=mayM_zero h
 refine ⟨by unfold maxLen;omega,fun x hx=>?_⟩
 have a1:=fieldB_len (List.all_eq_true.1 h2 x hx)
 have a2:=List.all_eq_true.1 h3 x hx
 have a3:=List.all_eq_true.1 h4 x hx
 unfold rightM at a2
 unfold shortM at a3
 simp only [Bool.and_eq_true,decide_eq_true_eq] at a2 a3
 have e1:x.1.data.toList.length=x.1.size:=rfl
 unfold maxLen
 refine ⟨by omega,by omega,by omega,by omega⟩
theorem fitE_may {p:List Ed} (h:mayE p=0):FitE p:=by
 obtain ⟨h1,h2,h3,h4⟩:=mayE_zero h
 refine ⟨by unfold maxLen;omega,fun x hx=>?_⟩
 have a1:=fieldB_len (h2 x hx)
 have a2:=h3 x hx
 have a3:=h4 x hx
 unfold rightE at a2
 unfold shortE at a3
 simp only [Bool.and_eq_true,decide_eq_true_eq] at a2 a3
 have e1:x.2.1.data.toList.length=x.2.1.size:=rfl
 unfold maxLen
 refine ⟨by omega,by omega,by omega,by omega⟩
theorem fitM_ans (o:Option (List Tm)):FitM (ansW o):=by
 cases o with
 | none=>exact fitM_may (by decide)
 | some p =>
  by_cases h:mayM p=0
  ·exact fitM_may (ansM_again h).1
  ·have:ansW (some p)=[]:=by show ansM p=[];unfold ansM;rw [if_neg h]
   rw [this];exact fitM_may (by decide)
theorem fitE_ans (o:Option (List Ed)):FitE (ansL o):=by
 cases o with
 | none=>exact fitE_may (by decide)
 | some p =>
  by_cases h:mayE p=0
  ·have:ansL (some p)=p:=by show (if mayE p=0 then p else [])=p;rw [if_pos h]
   rw [this];exact fitE_may h
  ·have:ansL (some p)=[]:=by show (if mayE p=0 then p else [])=[];rw [if_neg h]
   rw [this];exact fitE_may (by decide)
end
section
open Go.RowKit Go.Lib
def RdPost (n0 g:Nat) (x:Ex) (p:Nat) (ws:List ByteArray) (w:World) (e:Ending) (w':World):Prop :=
 (∃ok y,e=.returned (.bool ok)∧BxQ n0 g y w'∧readP x.en p (textW ws).data.toList=if ok=true then some y.en else none)∧Fr (fun b=>b=g) w w'
theorem readP_1 (e:En) (x:List UInt8):readP e 1 x=if x=[]∨tempB (untag x)=true then some { e with temp:=⟨(untag x).toArray⟩ } else none:=by unfold readP;simp
theorem readP_2 (e:En) (x:List UInt8):readP e 2 x=(keyR x).map fun k=>{ e with ka:=k.1,kb:=k.2 }:=by unfold readP;simp
theorem readP_3 (e:En) (x:List UInt8):readP e 3 x=if typeB x=true then some { e with ka:=⟨x.toArray⟩ } else none:=by unfold readP;simp
theorem readP_4 (e:En) (x:List UInt8):readP e 4 x=(condL x).map fun (n:Nat)=>{ e with iff:=(n:Int) }:=by unfold readP;simp
theorem readP_5 (e:En) (x:List UInt8):readP e 5 x=(valR (wordsAns x)).map fun v=>{ e with val:=v }:=by unfold readP;simp
theorem readP_6 (e:En) (x:List UInt8):readP e 6 x=if x=[63] then some e else none:=by unfold readP;simp
theorem readP_7 (e:En) (x:List UInt8):readP e 7 x=(prdR (wordsAns x)).map fun v=>{ e with pred:=v }:=by unfold readP;simp
theorem readP_8 (e:En) (x:List UInt8):readP e 8 x=(edsR (wordsAns x)).bind fun v=>if v=[] then none else some { e with eds:=v }:=by unfold readP;simp
theorem readP_9 (e:En) (x:List UInt8):readP e 9 x=(numL 999999999 x).map fun (n:Nat)=>{ e with num:=(n:Int) }:=by unfold readP;simp
theorem readP_10 (e:En) (x:List UInt8):readP e 10 x=(numL 18446744073709551615 x).map fun (n:Nat)=>{ e with stamp:=(n:Int) }:=by unfold readP;simp
theorem fr_three {g:Nat} {w w1 w2 w3:World} (h1:Below w.heap.size w w1) (h2:Below w1.heap.size w1 w2) (h3:Fr (fun b=>b=g) w2 w3):Fr (fun b=>b=g) w w3 :=
 ((Fr.of_below (P:=fun b=>b=g) h1).then (Fr.of_below h2) fun _ h=>Or.inl h).then h3 fun _ h=>Or.inl h
theorem valR_P (l:List UInt8):valR (wordsAns l)=if codeP l=0 then some (ansP l) else none:=by
 unfold valR codeP ansP
 rw [fieldsP_words]
 cases fieldsP l with
 | none=>rfl
 | some fs=>rfl
theorem untag_is (l:List UInt8):trimPrefix l [64]=untag l:=by
 unfold trimPrefix untag hasPrefix
 cases l with
 | nil=>rfl
 | cons c l =>
  by_cases h:c=64
  ·subst h;rfl
  ·have h1:([64]:List UInt8).isPrefixOf (c::l)=false:=by simp [List.isPrefixOf,Ne.symm h]
   rw [if_neg (by rw [h1];simp),if_neg (by simpa using h)]
theorem nparse_q (s:ByteArray) (w:World) (hs:s.size≤maxLen) :
  Calls Tryz.prog 94 #[.string s] w fun e w'=>(∃(a b:ByteArray) (c:Int),e=.returned (.tuple #[.agg #[.string a,.string b],.int .i64 c]) ∧
   ((c=0∧keyR s.data.toList=some (a,b)∧keyB a b=true)∨(c=2∧keyR s.data.toList=none∧a=⟨#[]⟩∧b=⟨#[]⟩)))∧Below w.heap.size w w':=by
 rcases ix_cases s.data.toList 47 with ⟨h1,_⟩|⟨i,h1,h2,h3,_⟩
 ·refine (parse_bare s w hs h1).mono ?_
  rintro e w' ⟨rfl,hb⟩
  exact ⟨⟨_,_,2,rfl,.inr ⟨rfl,by unfold keyR;rw [if_pos h1],rfl,rfl⟩⟩,hb⟩
 ·have hi:i<s.size:=by simpa using h2
  have e1:(s.extract 0 i)=⟨(s.data.toList.take i).toArray⟩:=ba_ext (by rw [ext_head])
  have e2:(s.extract (i+1) s.size)=⟨(s.data.toList.drop (i+1)).toArray⟩:=ba_ext (by rw [ext_tail])
  have hne:¬ Lib.indexByte s.data.toList 47=-1:=by rw [h1];omega
  have hto:(Lib.indexByte s.data.toList 47).toNat=i:=by rw [h1];rfl
  cases hk:keyB (s.extract 0 i) (s.extract (i+1) s.size) with
  | false =>
   refine (parse_no s w hs i h1 hi hk).mono ?_
   rintro e w' ⟨rfl,hb⟩
   refine ⟨⟨_,_,2,rfl,.inr ⟨rfl,?_,rfl,rfl⟩⟩,hb⟩
   unfold keyR
   rw [if_neg hne]
   simp only [hto]
   rw [←e1,←e2,hk];rfl
  | true =>
   refine (parse_yes s w hs i h1 hi hk).mono ?_
   rintro e w' ⟨rfl,hb⟩
   refine ⟨⟨_,_,0,rfl,.inl ⟨rfl,?_,hk⟩⟩,hb⟩
   unfold keyR
   rw [if_neg hne]
   simp only [hto]
   rw [←e1,←e2,hk];rfl
section
variable (v:Value) (ws:List ByteArray) (g n0:Nat) (x:Ex) (w:World) (hv:OpVars w) (hw:WordsAt w v ws) (hl:(textW ws).size≤4294967000) (hn:ws.length≤4294967000) (hx:BxQ n0 g x w)
include hv hw hl hn hx
set_option maxHeartbeats 2000000 in
theorem read9:Calls Tryz.prog 55 #[.pointer (some ⟨g,0,none⟩),.int .i64 9,v] w fun e w'=>RdPost n0 g x 9 ws w e w':=by
 have HV:=hid hv
 have HX:=hid hx
 have HJ:=hid (opjoin_any w v ws hw hl hn)
 have HR:=hid (readP_9 x.en (textW ws).data.toList)
 clear hv hx hw
 go_enter Tryz.func55,Tryz.ntmps55
 go_wp2_with fail
 refine HJ.out.mono ?_
 rintro e w1 ⟨rfl,hb1⟩
 have HB1:=hid hb1
 clear hb1
 go_wp2_with fail
 refine (opcount_any (textW ws) w1 hl (HV.out.on HB1.out)).mono ?_
 rintro e w2 ⟨rfl,hb2⟩
 have HB2:=hid hb2
 have HX2:=hid ((HX.out.on HB1.out).on hb2)
 clear hb2
 have hc:=HX2.out.cell 9 _ rfl
 have hf:=HX2.out.free 9
 cases hn:numL 999999999 (textW ws).data.toList with
 | none =>
  have h1:(none:Option Nat).isSome=false:=rfl
  rw [h1]
  go_wp2_with fail
  go_ret
  refine ⟨⟨false,{ x with num:=0 },rfl,HX2.out.set 9 _ rfl ⟨HX2.out.own.val,HX2.out.own.fit,HX2.out.own.eds,HX2.out.own.efit,HX2.out.own.prd,HX2.out.own.pfit,{ HX2.out.own.rng with n0:=by show (-9223372036854775808:Int)≤0;omega,n1:=by show (0:Int)≤9223372036854775807;omega }⟩,?_⟩,fr_three HB1.out HB2.out (fr_setE _ _ _ _)⟩
  rw [HR.out,hn];rfl
 | some n =>
  have hle:=numL_le hn
  have h1:(some n).isSome=true:=rfl
  rw [h1]
  go_wp2_with fail
  go_ret
  refine ⟨⟨true,{ x with num:=n },rfl,HX2.out.set 9 _ rfl ⟨HX2.out.own.val,HX2.out.own.fit,HX2.out.own.eds,HX2.out.own.efit,HX2.out.own.prd,HX2.out.own.pfit,{ HX2.out.own.rng with n0:=by show (-9223372036854775808:Int)≤n;omega,n1:=by show (n:Int)≤9223372036854775807;omega }⟩,?_⟩,fr_three HB1.out HB2.out (fr_setE _ _ _ _)⟩
  rw [HR.out,hn];rfl
set_option maxHeartbeats 2000000 in
theorem read10:Calls Tryz.prog 55 #[.pointer (some ⟨g,0,none⟩),.int .i64 10,v] w fun e w'=>RdPost n0 g x 10 ws w e w':=by
 have HV:=hid hv
 have HX:=hid hx
 have HJ:=hid (opjoin_any w v ws hw hl hn)
 have HR:=hid (readP_10 x.en (textW ws).data.toList)
 clear hv hx hw
 go_enter Tryz.func55,Tryz.ntmps55
 go_wp2_with fail
 refine HJ.out.mono ?_
 rintro e w1 ⟨rfl,hb1⟩
 have HB1:=hid hb1
 clear hb1
 go_wp2_with fail
 refine (whole_any (textW ws) w1 hl (HV.out.on HB1.out)).mono ?_
 rintro e w2 ⟨rfl,hb2⟩
 have HB2:=hid hb2
 have HX2:=hid ((HX.out.on HB1.out).on hb2)
 clear hb2
 have hc:=HX2.out.cell 8 _ rfl
 have hf:=HX2.out.free 8
 cases hn:numL 18446744073709551615 (textW ws).data.toList with
 | none =>
  have h1:(none:Option Nat).isSome=false:=rfl
  rw [h1]
  go_wp2_with fail
  go_ret
  refine ⟨⟨false,{ x with stamp:=0 },rfl,HX2.out.set 8 _ rfl ⟨HX2.out.own.val,HX2.out.own.fit,HX2.out.own.eds,HX2.out.own.efit,HX2.out.own.prd,HX2.out.own.pfit,{ HX2.out.own.rng with t0:=by show (0:Int)≤0;omega,t1:=by show (0:Int)≤18446744073709551615;omega }⟩,?_⟩,fr_three HB1.out HB2.out (fr_setE _ _ _ _)⟩
  rw [HR.out,hn];rfl
 | some n =>
  have hle:=numL_le hn
  have h1:(some n).isSome=true:=rfl
  rw [h1]
  go_wp2_with fail
  go_ret
  refine ⟨⟨true,{ x with stamp:=n },rfl,HX2.out.set 8 _ rfl ⟨HX2.out.own.val,HX2.out.own.fit,HX2.out.own.eds,HX2.out.own.efit,HX2.out.own.prd,HX2.out.own.pfit,{ HX2.out.own.rng with t0:=by show (0:Int)≤n;omega,t1:=by show (n:Int)≤18446744073709551615;omega }⟩,?_⟩,fr_three HB1.out HB2.out (fr_setE _ _ _ _)⟩
  rw [HR.out,hn];rfl
set_option maxHeartbeats 2000000 in
theorem read4:Calls Tryz.prog 55 #[.pointer (some ⟨g,0,none⟩),.int .i64 4,v] w fun e w'=>RdPost n0 g x 4 ws w e w':=by
 have HV:=hid hv
 have HX:=hid hx
 have HJ:=hid (opjoin_any w v ws hw hl hn)
 have HR:=hid (readP_4 x.en (textW ws).data.toList)
 clear hv hx hw
 go_enter Tryz.func55,Tryz.ntmps55
 go_wp2_with fail
 refine HJ.out.mono ?_
 rintro e w1 ⟨rfl,hb1⟩
 have HB1:=hid hb1
 clear hb1
 go_wp2_with fail
 refine (condition_any (textW ws) w1 hl (HV.out.on HB1.out)).mono ?_
 rintro e w2 ⟨⟨m,rfl,hm0,hm1,hm⟩,hb2⟩
 have HM:=hid hm
 clear hm
 have HB2:=hid hb2
 have HX2:=hid ((HX.out.on HB1.out).on hb2)
 clear hb2
 have hc:=HX2.out.cell 4 _ rfl
 have hf:=HX2.out.free 4
 have HC:Hid (condO (textW ws)=condL (textW ws).data.toList):=hid rfl
 cases hn:condO (textW ws) with
 | none =>
  have h1:(none:Option Nat).isSome=false:=rfl
  rw [h1]
  go_wp2_with fail
  go_ret
  refine ⟨⟨false,{ x with iff:=m },rfl,HX2.out.set 4 _ rfl ⟨HX2.out.own.val,HX2.out.own.fit,HX2.out.own.eds,HX2.out.own.efit,HX2.out.own.prd,HX2.out.own.pfit,{ HX2.out.own.rng with i0:=by show (-9223372036854775808:Int)≤m;omega,i1:=by show m≤9223372036854775807;omega }⟩,?_⟩,fr_three HB1.out HB2.out (fr_setE _ _ _ _)⟩
  rw [HR.out,←HC.out,hn];rfl
 | some n =>
  have h1:(some n).isSome=true:=rfl
  rw [h1]
  have hmn:=HM.out n hn
  subst hmn
  go_wp2_with fail
  go_ret
  refine ⟨⟨true,{ x with iff:=n },rfl,HX2.out.set 4 _ rfl ⟨HX2.out.own.val,HX2.out.own.fit,HX2.out.own.eds,HX2.out.own.efit,HX2.out.own.prd,HX2.out.own.pfit,{ HX2.out.own.rng with i0:=by show (-9223372036854775808:Int)≤n;omega,i1:=by show (n:Int)≤9223372036854775807;omega }⟩,?_⟩,fr_three HB1.out HB2.out (fr_setE _ _ _ _)⟩
  rw [HR.out,←HC.out,hn];rfl
set_option maxHeartbeats 2000000 in
theorem read3:Calls Tryz.prog 55 #[.pointer (some ⟨g,0,none⟩),.int .i64 3,v] w fun e w'=>RdPost n0 g x 3 ws w e w':=by
 have HV:=hid hv
 have HX:=hid hx
 have HJ:=hid (opjoin_any w v ws hw hl hn)
 have HR:=hid (readP_3 x.en (textW ws).data.toList)
 clear hv hx hw
 go_enter Tryz.func55,Tryz.ntmps55
 go_wp2_with fail
 refine HJ.out.mono ?_
 rintro e w1 ⟨rfl,hb1⟩
 have HB1:=hid hb1
 clear hb1
 have hc:=(HX.out.on HB1.out).cell 2 _ rfl
 have hf:=(HX.out.on HB1.out).free 2
 have hm:(textW ws).size≤maxLen:=by unfold maxLen;omega
 have HX2:=hid (HX.out.on HB1.out)
 cases ht:typeB (textW ws).data.toList with
 | false =>
  go_wp2_with (go_at_call 82;refine (type_any (textW ws) _ hm).mono ?_;rintro e w2 ⟨rfl,rfl⟩;rw [ht])
  go_ret
  refine ⟨⟨false,{ x with ka:=textW ws },rfl,HX2.out.set 2 _ rfl ⟨HX2.out.own.val,HX2.out.own.fit,HX2.out.own.eds,HX2.out.own.efit,HX2.out.own.prd,HX2.out.own.pfit,{ HX2.out.own.rng with ka:=hm }⟩,?_⟩,fr_three HB1.out (Below.refl _ _) (fr_setE _ _ _ _)⟩
  rw [HR.out,ht];rfl
 | true =>
  go_wp2_with (go_at_call 82;refine (type_any (textW ws) _ hm).mono ?_;rintro e w2 ⟨rfl,rfl⟩;rw [ht])
  go_ret
  refine ⟨⟨true,{ x with ka:=textW ws },rfl,HX2.out.set 2 _ rfl ⟨HX2.out.own.val,HX2.out.own.fit,HX2.out.own.eds,HX2.out.own.efit,HX2.out.own.prd,HX2.out.own.pfit,{ HX2.out.own.rng with ka:=hm }⟩,?_⟩,fr_three HB1.out (Below.refl _ _) (fr_setE _ _ _ _)⟩
  rw [HR.out,ht];rfl
set_option maxHeartbeats 2000000 in
theorem read6:Calls Tryz.prog 55 #[.pointer (some ⟨g,0,none⟩),.int .i64 6,v] w fun e w'=>RdPost n0 g x 6 ws w e w':=by
 have HV:=hid hv
 have HX:=hid hx
 have HJ:=hid (opjoin_any w v ws hw hl hn)
 have HR:=hid (readP_6 x.en (textW ws).data.toList)
 clear hv hx hw
 go_enter Tryz.func55,Tryz.ntmps55
 go_wp2_with fail
 refine HJ.out.mono ?_
 rintro e w1 ⟨rfl,hb1⟩
 have HB1:=hid hb1
 clear hb1
 have HX2:=hid (HX.out.on HB1.out)
 by_cases ht:(textW ws).data.toList=[63]
 ·have hq:((textW ws).toList==[63])=true:=by rw [toList_data,ht];rfl
  have HT:=hid ht
  clear ht
  go_wp2_with fail
  go_ret
  refine ⟨⟨true,x,rfl,HX2.out,?_⟩,Fr.of_below HB1.out⟩
  rw [HR.out,if_pos HT.out];rfl
 ·have hq:((textW ws).toList==[63])=false:=by rw [toList_data];exact beq_eq_false_iff_ne.2 ht
  have HT:=hid ht
  clear ht
  go_wp2_with fail
  go_ret
  refine ⟨⟨false,x,rfl,HX2.out,?_⟩,Fr.of_below HB1.out⟩
  rw [HR.out,if_neg HT.out];rfl
set_option maxHeartbeats 2000000 in
theorem read7:Calls Tryz.prog 55 #[.pointer (some ⟨g,0,none⟩),.int .i64 7,v] w fun e w'=>RdPost n0 g x 7 ws w e w':=by
 have HV:=hid hv
 have HX:=hid hx
 have HJ:=hid (opjoin_any w v ws hw hl hn)
 have HR:=hid (readP_7 x.en (textW ws).data.toList)
 clear hv hx hw
 go_enter Tryz.func55,Tryz.ntmps55
 go_wp2_with fail
 refine HJ.out.mono ?_
 rintro e w1 ⟨rfl,hb1⟩
 have HB1:=hid hb1
 clear hb1
 go_wp2_with fail
 refine (pparse_any (textW ws) w1 (HV.out.on HB1.out).plain hl).mono ?_
 rintro e w2 ⟨⟨u,rfl,ho⟩,hb2⟩
 obtain ⟨up,uc,hu⟩:=Kind.own_shape ho
 subst hu
 have HO:=hid (Kind.own_weak ho (Nat.le_trans (Nat.le_of_lt (Nat.lt_of_le_of_lt HX.out.low HX.out.lt)) HB1.out.size))
 clear ho
 have HB2:=hid hb2
 have HX2:=hid ((HX.out.on HB1.out).on hb2)
 clear hb2
 have hc:=HX2.out.cell 7 _ rfl
 have hf:=HX2.out.free 7
 have HF:=hid (fitM_ans (termsW (wordsAns (textW ws).data.toList)))
 have HP:Hid (prdR (wordsAns (textW ws).data.toList)=if codeW (termsW (wordsAns (textW ws).data.toList))=0 then some (ansW (termsW (wordsAns (textW ws).data.toList))) else none):=hid rfl
 generalize hcw:codeW (termsW (wordsAns (textW ws).data.toList))=cw at *
 generalize haw:ansW (termsW (wordsAns (textW ws).data.toList))=aw at *
 clear hcw haw
 by_cases hz:cw=0
 ·subst hz
  go_wp2_with fail
  go_ret
  refine ⟨⟨true,{ x with pp:=up,pc:=uc,po:=aw },rfl,HX2.out.set 7 _ rfl ⟨HX2.out.own.val,HX2.out.own.fit,HX2.out.own.eds,HX2.out.own.efit,HO.out,HF.out,{ HX2.out.own.rng with }⟩,?_⟩,fr_three HB1.out HB2.out (fr_setE _ _ _ _)⟩
  rw [HR.out,HP.out];rfl
 ·have hq:(cw==0)=false:=beq_eq_false_iff_ne.2 hz
  go_wp2_with fail
  go_ret
  refine ⟨⟨false,{ x with pp:=up,pc:=uc,po:=aw },rfl,HX2.out.set 7 _ rfl ⟨HX2.out.own.val,HX2.out.own.fit,HX2.out.own.eds,HX2.out.own.efit,HO.out,HF.out,{ HX2.out.own.rng with }⟩,?_⟩,fr_three HB1.out HB2.out (fr_setE _ _ _ _)⟩
  rw [HR.out,HP.out,if_neg hz];rfl
set_option maxHeartbeats 2000000 in
theorem read5:Calls Tryz.prog 55 #[.pointer (some ⟨g,0,none⟩),.int .i64 5,v] w fun e w'=>RdPost n0 g x 5 ws w e w':=by
 have HV:=hid hv
 have HX:=hid hx
 have HJ:=hid (opjoin_any w v ws hw hl hn)
 have HR:=hid (readP_5 x.en (textW ws).data.toList)
 clear hv hx hw
 go_enter Tryz.func55,Tryz.ntmps55
 go_wp2_with fail
 refine HJ.out.mono ?_
 rintro e w1 ⟨rfl,hb1⟩
 have HB1:=hid hb1
 clear hb1
 go_wp2_with fail
 refine (parse_plain (textW ws) w1 (HV.out.on HB1.out).plain (by omega)).mono ?_
 rintro e w2 ⟨⟨u,o,rfl,ho,ha⟩,hb2⟩
 obtain ⟨up,uc,hu⟩:=own_len ho
 subst hu
 have HF:=hid (ansP_fit ha)
 have hle:n0≤w1.heap.size:=Nat.le_trans (Nat.le_of_lt (Nat.lt_of_le_of_lt HX.out.low HX.out.lt)) HB1.out.size
 have HO:Hid (OwnXs n0 w2 (.slice up o.length uc) o):=hid ⟨own_weak ho.1 hle,fun y hy=>own_weak (ho.2 y hy) hle⟩
 have HA:=hid ha
 clear ho ha hle
 have HB2:=hid hb2
 have HX2:=hid ((HX.out.on HB1.out).on hb2)
 clear hb2
 have hc:=HX2.out.cell 5 _ rfl
 have hf:=HX2.out.free 5
 have HP:Hid (valR (wordsAns (textW ws).data.toList)=if codeP (textW ws).data.toList=0 then some (ansP (textW ws).data.toList) else none):=hid (valR_P _)
 generalize hcw:codeP (textW ws).data.toList=cw at *
 clear hcw
 by_cases hz:cw=0
 ·subst hz
  go_wp2_with fail
  go_ret
  refine ⟨⟨true,{ x with vp:=up,vc:=uc,vo:=o },rfl,HX2.out.set 5 _ rfl ⟨HO.out,HF.out,HX2.out.own.eds,HX2.out.own.efit,HX2.out.own.prd,HX2.out.own.pfit,{ HX2.out.own.rng with }⟩,?_⟩,fr_three HB1.out HB2.out (fr_setE _ _ _ _)⟩
  rw [HR.out,HP.out]
  simp only [if_true,Option.map_some,←HA.out]
  rfl
 ·have hq:(cw==0)=false:=beq_eq_false_iff_ne.2 hz
  go_wp2_with fail
  go_ret
  refine ⟨⟨false,{ x with vp:=up,vc:=uc,vo:=o },rfl,HX2.out.set 5 _ rfl ⟨HO.out,HF.out,HX2.out.own.eds,HX2.out.own.efit,HX2.out.own.prd,HX2.out.own.pfit,{ HX2.out.own.rng with }⟩,?_⟩,fr_three HB1.out HB2.out (fr_setE _ _ _ _)⟩
  rw [HR.out,HP.out,if_neg hz];rfl
set_option maxHeartbeats 2000000 in
theorem read8:Calls Tryz.prog 55 #[.pointer (some ⟨g,0,none⟩),.int .i64 8,v] w fun e w'=>RdPost n0 g x 8 ws w e w':=by
 have HV:=hid hv
 have HX:=hid hx
 have HJ:=hid (opjoin_any w v ws hw hl hn)
 have HR:=hid (readP_8 x.en (textW ws).data.toList)
 clear hv hx hw
 go_enter Tryz.func55,Tryz.ntmps55
 go_wp2_with fail
 refine HJ.out.mono ?_
 rintro e w1 ⟨rfl,hb1⟩
 have HB1:=hid hb1
 clear hb1
 go_wp2_with fail
 refine (pparseE_plain (textW ws) w1 (HV.out.on HB1.out).plain hl).mono ?_
 rintro e w2 ⟨⟨u,rfl,ho⟩,hb2⟩
 obtain ⟨up,uc,hu⟩:=Kind.own_shape ho
 subst hu
 have HO:=hid (Kind.own_weak ho (Nat.le_trans (Nat.le_of_lt (Nat.lt_of_le_of_lt HX.out.low HX.out.lt)) HB1.out.size))
 clear ho
 have HB2:=hid hb2
 have HX2:=hid ((HX.out.on HB1.out).on hb2)
 clear hb2
 have hc:=HX2.out.cell 6 _ rfl
 have hf:=HX2.out.free 6
 have HF:=hid (fitE_ans (editsW (wordsAns (textW ws).data.toList)))
 have HP:Hid (edsR (wordsAns (textW ws).data.toList)=if codeL (editsW (wordsAns (textW ws).data.toList))=0 then some (ansL (editsW (wordsAns (textW ws).data.toList))) else none):=hid rfl
 generalize hcw:codeL (editsW (wordsAns (textW ws).data.toList))=cw at *
 generalize haw:ansL (editsW (wordsAns (textW ws).data.toList))=aw at *
 clear hcw haw
 by_cases hne:aw=[]
 ·subst hne
  have h0:¬ (0:Int)<(([]:List Ed).length:Int):=by simp
  go_wp2_with fail
  go_ret
  refine ⟨⟨false,{ x with ep:=up,ec:=uc,eo:=[] },rfl,HX2.out.set 6 _ rfl ⟨HX2.out.own.val,HX2.out.own.fit,HO.out,HF.out,HX2.out.own.prd,HX2.out.own.pfit,{ HX2.out.own.rng with }⟩,?_⟩,fr_three HB1.out HB2.out (fr_setE _ _ _ _)⟩
  rw [HR.out,HP.out]
  split<;>rfl
 ·have h0:(0:Int)<(aw.length:Int):=by have:=List.length_pos_iff.2 hne;omega
  by_cases hz:cw=0
  ·subst hz
   go_wp2_with fail
   go_ret
   refine ⟨⟨true,{ x with ep:=up,ec:=uc,eo:=aw },rfl,HX2.out.set 6 _ rfl ⟨HX2.out.own.val,HX2.out.own.fit,HO.out,HF.out,HX2.out.own.prd,HX2.out.own.pfit,{ HX2.out.own.rng with }⟩,?_⟩,fr_three HB1.out HB2.out (fr_setE _ _ _ _)⟩
   rw [HR.out,HP.out]
   simp only [if_true,Option.bind_some]
   rw [if_neg hne]
   rfl
  ·have hq:(cw==0)=false:=beq_eq_false_iff_ne.2 hz
   go_wp2_with fail
   go_ret
   refine ⟨⟨false,{ x with ep:=up,ec:=uc,eo:=aw },rfl,HX2.out.set 6 _ rfl ⟨HX2.out.own.val,HX2.out.own.fit,HO.out,HF.out,HX2.out.own.prd,HX2.out.own.pfit,{ HX2.out.own.rng with }⟩,?_⟩,fr_three HB1.out HB2.out (fr_setE _ _ _ _)⟩
   rw [HR.out,HP.out,if_neg hz];rfl
set_option maxHeartbeats 2000000 in
theorem read2:Calls Tryz.prog 55 #[.pointer (some ⟨g,0,none⟩),.int .i64 2,v] w fun e w'=>RdPost n0 g x 2 ws w e w':=by
 have HV:=hid hv
 have HX:=hid hx
 have HJ:=hid (opjoin_any w v ws hw hl hn)
 have HR:=hid (readP_2 x.en (textW ws).data.toList)
 clear hv hx hw
 go_enter Tryz.func55,Tryz.ntmps55
 go_wp2_with fail
 refine HJ.out.mono ?_
 rintro e w1 ⟨rfl,hb1⟩
 have HB1:=hid hb1
 clear hb1
 go_wp2_with fail
 refine (nparse_q (textW ws) w1 (by unfold maxLen;omega)).mono ?_
 rintro e w2 ⟨⟨ka,kb,c,rfl,hk⟩,hb2⟩
 have HK:=hid hk
 clear hk
 have HB2:=hid hb2
 have HX2:=hid ((HX.out.on HB1.out).on hb2)
 clear hb2
 have hc:=HX2.out.cell 2 _ rfl
 have hf:=HX2.out.free 2
 have hc3:=HX2.out.cell 3 _ rfl
 have hf3:=HX2.out.free 3
 have HS:Hid (ka.size≤maxLen∧kb.size≤maxLen):=hid (by
  rcases HK.out with ⟨_,_,h⟩|⟨_,_,rfl,rfl⟩
  ·have:=keyB_sizes h;unfold maxLen;omega
  ·unfold maxLen;exact ⟨by decide,by decide⟩)
 by_cases hz:c=0
 ·subst hz
  have HK2:Hid (keyR (textW ws).data.toList=some (ka,kb)):=hid (by
   rcases HK.out with ⟨_,h,_⟩|⟨h,_⟩
   ·exact h
   ·cases h)
  go_wp2_with fail
  go_ret
  have HY:=hid (HX2.out.set (y:={ x with ka:=ka }) 2 (.string ka) rfl ⟨HX2.out.own.val,HX2.out.own.fit,HX2.out.own.eds,HX2.out.own.efit,HX2.out.own.prd,HX2.out.own.pfit,{ HX2.out.own.rng with ka:=HS.out.1 }⟩)
  refine ⟨⟨true,{ x with ka:=ka,kb:=kb },rfl,HY.out.set 3 _ rfl ⟨HY.out.own.val,HY.out.own.fit,HY.out.own.eds,HY.out.own.efit,HY.out.own.prd,HY.out.own.pfit,{ HY.out.own.rng with kb:=HS.out.2 }⟩,?_⟩,fr_three HB1.out HB2.out ((fr_setE _ _ _ _).then (fr_setE _ _ _ _) fun _ h=>Or.inl h)⟩
  rw [HR.out,HK2.out];rfl
 ·have hq:(c==0)=false:=beq_eq_false_iff_ne.2 hz
  have HK2:Hid (keyR (textW ws).data.toList=none):=hid (by
   rcases HK.out with ⟨h,_⟩|⟨_,h,_⟩
   ·exact absurd h hz
   ·exact h)
  go_wp2_with fail
  go_ret
  have HY:=hid (HX2.out.set (y:={ x with ka:=ka }) 2 (.string ka) rfl ⟨HX2.out.own.val,HX2.out.own.fit,HX2.out.own.eds,HX2.out.own.efit,HX2.out.own.prd,HX2.out.own.pfit,{ HX2.out.own.rng with ka:=HS.out.1 }⟩)
  refine ⟨⟨false,{ x with ka:=ka,kb:=kb },rfl,HY.out.set 3 _ rfl ⟨HY.out.own.val,HY.out.own.fit,HY.out.own.eds,HY.out.own.efit,HY.out.own.prd,HY.out.own.pfit,{ HY.out.own.rng with kb:=HS.out.2 }⟩,?_⟩,fr_three HB1.out HB2.out ((fr_setE _ _ _ _).then (fr_setE _ _ _ _) fun _ h=>Or.inl h)⟩
  rw [HR.out,HK2.out];rfl
set_option maxHeartbeats 2000000 in
theorem read1:Calls Tryz.prog 55 #[.pointer (some ⟨g,0,none⟩),.int .i64 1,v] w fun e w'=>RdPost n0 g x 1 ws w e w':=by
 have HV:=hid hv
 have HX:=hid hx
 have HJ:=hid (opjoin_any w v ws hw hl hn)
 have HR:=hid (readP_1 x.en (textW ws).data.toList)
 clear hv hx hw
 go_enter Tryz.func55,Tryz.ntmps55
 go_wp2_with fail
 refine HJ.out.mono ?_
 rintro e w1 ⟨rfl,hb1⟩
 have HB1:=hid hb1
 clear hb1
 have hc:=(HX.out.on HB1.out).cell 1 _ rfl
 have hf:=(HX.out.on HB1.out).free 1
 have HX2:=hid (HX.out.on HB1.out)
 have HU:Hid (trimPrefix (textW ws).data.toList [64]=untag (textW ws).data.toList):=hid (untag_is _)
 have hm:(⟨(untag (textW ws).data.toList).toArray⟩:ByteArray).size≤maxLen:=by
  have:=trim_len (textW ws).data.toList [64]
  rw [HU.out] at this
  have e1:(⟨(untag (textW ws).data.toList).toArray⟩:ByteArray).size=(untag (textW ws).data.toList).length:=rfl
  have e2:(textW ws).data.toList.length=(textW ws).size:=rfl
  unfold maxLen;omega
 by_cases h0:(textW ws).data.toList=[]
 ·have hse:(textW ws).toList.isEmpty=true:=by rw [toList_data,h0];rfl
  have H0:=hid h0
  clear h0
  go_wp2_with (go_at_call 93;refine (Tryz.strings_TrimPrefix _ _ _).mono ?_;rintro e w2 ⟨rfl,rfl⟩;rw [HU.out])
  go_ret
  refine ⟨⟨true,{ x with temp:=⟨(untag (textW ws).data.toList).toArray⟩ },rfl,HX2.out.set 1 _ rfl ⟨HX2.out.own.val,HX2.out.own.fit,HX2.out.own.eds,HX2.out.own.efit,HX2.out.own.prd,HX2.out.own.pfit,{ HX2.out.own.rng with temp:=hm }⟩,?_⟩,fr_three HB1.out (Below.refl _ _) (fr_setE _ _ _ _)⟩
  rw [HR.out,if_pos (Or.inl H0.out)];rfl
 ·have hse:(textW ws).toList.isEmpty=false:=by
   rw [toList_data]
   cases hl:(textW ws).data.toList with
   | nil=>exact absurd hl h0
   | cons _ _=>rfl
  have H0:=hid h0
  clear h0
  cases ht:tempB (untag (textW ws).data.toList) with
  | false =>
   go_wp2_with (first
    | (go_at_call 93;refine (Tryz.strings_TrimPrefix _ _ _).mono ?_;rintro e w2 ⟨rfl,rfl⟩;rw [HU.out])
    | (go_at_call 80;refine (temp_any ⟨(untag (textW ws).data.toList).toArray⟩ _ hm).mono ?_;rintro e w2 ⟨rfl,rfl⟩;rw [ht]))
   go_ret
   refine ⟨⟨false,{ x with temp:=⟨(untag (textW ws).data.toList).toArray⟩ },rfl,HX2.out.set 1 _ rfl ⟨HX2.out.own.val,HX2.out.own.fit,HX2.out.own.eds,HX2.out.own.efit,HX2.out.own.prd,HX2.out.own.pfit,{ HX2.out.own.rng with temp:=hm }⟩,?_⟩,fr_three HB1.out (Below.refl _ _) (fr_setE _ _ _ _)⟩
   rw [HR.out,if_neg]
   ·rfl
   ·rintro (h|h)
    ·exact H0.out h
    ·rw [ht] at h;cases h
  | true =>
   go_wp2_with (first
    | (go_at_call 93;refine (Tryz.strings_TrimPrefix _ _ _).mono ?_;rintro e w2 ⟨rfl,rfl⟩;rw [HU.out])
    | (go_at_call 80;refine (temp_any ⟨(untag (textW ws).data.toList).toArray⟩ _ hm).mono ?_;rintro e w2 ⟨rfl,rfl⟩;rw [ht]))
   go_ret
   refine ⟨⟨true,{ x with temp:=⟨(untag (textW ws).data.toList).toArray⟩ },rfl,HX2.out.set 1 _ rfl ⟨HX2.out.own.val,HX2.out.own.fit,HX2.out.own.eds,HX2.out.own.efit,HX2.out.own.prd,HX2.out.own.pfit,{ HX2.out.own.rng with temp:=hm }⟩,?_⟩,fr_three HB1.out (Below.refl _ _) (fr_setE _ _ _ _)⟩
   rw [HR.out,if_pos (Or.inr ht)];rfl
theorem opread_any (p:Nat) (h1:1≤p) (h2:p≤10):Calls Tryz.prog 55 #[.pointer (some ⟨g,0,none⟩),.int .i64 p,v] w fun e w'=>RdPost n0 g x p ws w e w':=by
 have:p=1∨p=2∨p=3∨p=4∨p=5∨p=6∨p=7∨p=8∨p=9∨p=10:=by omega
 rcases this with rfl|rfl|rfl|rfl|rfl|rfl|rfl|rfl|rfl|rfl
 ·exact read1 v ws g n0 x w hv hw hl hn hx
 ·exact read2 v ws g n0 x w hv hw hl hn hx
 ·exact read3 v ws g n0 x w hv hw hl hn hx
 ·exact read4 v ws g n0 x w hv hw hl hn hx
 ·exact read5 v ws g n0 x w hv hw hl hn hx
 ·exact read6 v ws g n0 x w hv hw hl hn hx
 ·exact read7 v ws g n0 x w hv hw hl hn hx
 ·exact read8 v ws g n0 x w hv hw hl hn hx
 ·exact read9 v ws g n0 x w hv hw hl hn hx
 ·exact read10 v ws g n0 x w hv hw hl hn hx
end
end
end Go.Proofs.YtpdccbeeoapplaaGreatDoor
namespace Go.Proofs
open Go.Shelf
def Tryz.lays110_ren:Go.Shelf.Ren:=⟨fun|110=>52|109=>91|n=>n,fun|31=>45|9=>9|4=>4|3=>3|0=>0|n=>n,fun|n=>n⟩
theorem Tryz.lays110:Go.Proofs.Lays.n110 Tryz.prog Tryz.lays110_ren:={
 mixed:=by kernel_rfl
 f109:=Tryz.func91.trans (congrArg some (by kernel_rfl))
 f110:=Tryz.func52.trans (congrArg some (by kernel_rfl))
 t0:=Tryz.underlying0
 a0:=Tryz.isAgg0
 z0:=Tryz.sizeOf0
 v0:=Tryz.zeroValue0
 t3:=Tryz.underlying3
 a3:=Tryz.isAgg3
 z3:=Tryz.sizeOf3
 v3:=Tryz.zeroValue3
 t4:=Tryz.underlying4
 a4:=Tryz.isAgg4
 z4:=Tryz.sizeOf4
 v4:=Tryz.zeroValue4
 t9:=Tryz.underlying9
 a9:=Tryz.isAgg9
 z9:=Tryz.sizeOf9
 v9:=Tryz.zeroValue9
 t31:=Tryz.underlying45
 a31:=Tryz.isAgg45
 z31:=Tryz.sizeOf45
 v31:=Tryz.zeroValue45 }
open Go.Lib in
theorem Tryz.slices_Contains_string (b off n c:Nat) (zs:List ByteArray) (x:ByteArray) (w:World) (hz:n≤zs.length) (hbig:n≤9223372036854775807) (hc:∀j,j<zs.length→w.cell? ⟨b,off+j,none⟩=some (.string (zs.getD j ByteArray.empty))) :
  Calls Tryz.prog 52 #[.slice (some ⟨b,off,none⟩) n c,.string x] w fun e w'=>e=.returned (.bool (Lib.containsS (zs.take n) x))∧w'=w:=Any.slices_Contains_string Tryz.lays110 b off n c zs x w hz hbig hc
def Tryz.lays109_ren:Go.Shelf.Ren:=⟨fun|109=>91|n=>n,fun|31=>45|9=>9|3=>3|0=>0|4=>4|n=>n,fun|n=>n⟩
theorem Tryz.lays109:Go.Proofs.Lays.n109 Tryz.prog Tryz.lays109_ren:={
 mixed:=by kernel_rfl
 f109:=Tryz.func91.trans (congrArg some (by kernel_rfl))
 t0:=Tryz.underlying0
 a0:=Tryz.isAgg0
 z0:=Tryz.sizeOf0
 v0:=Tryz.zeroValue0
 t3:=Tryz.underlying3
 a3:=Tryz.isAgg3
 z3:=Tryz.sizeOf3
 v3:=Tryz.zeroValue3
 t4:=Tryz.underlying4
 a4:=Tryz.isAgg4
 z4:=Tryz.sizeOf4
 v4:=Tryz.zeroValue4
 t9:=Tryz.underlying9
 a9:=Tryz.isAgg9
 z9:=Tryz.sizeOf9
 v9:=Tryz.zeroValue9
 t31:=Tryz.underlying45
 a31:=Tryz.isAgg45
 z31:=Tryz.sizeOf45
 v31:=Tryz.zeroValue45 }
open Go.Lib in
theorem Tryz.slices_Index_string (b off n c:Nat) (zs:List ByteArray) (x:ByteArray) (w:World) (hz:n≤zs.length) (hbig:n≤9223372036854775807) (hc:∀j,j<zs.length→w.cell? ⟨b,off+j,none⟩=some (.string (zs.getD j ByteArray.empty))) :
  Calls Tryz.prog 91 #[.slice (some ⟨b,off,none⟩) n c,.string x] w fun e w'=>e=.returned (.int .i64 (Lib.idxOfS (zs.take n) x))∧w'=w:=Any.slices_Index_string Tryz.lays109 b off n c zs x w hz hbig hc
end Go.Proofs
namespace Go.Proofs.YtpdccbeeoapplaaGreatDoor
section
open Go.RowKit Go.Lib
theorem ba_is {z:ByteArray} {l:List UInt8}:z=⟨l.toArray⟩↔z.data.toList=l:=by
 constructor
 ·rintro rfl;rfl
 ·intro h;exact ba_ext h
theorem idx_while (ws:List ByteArray):∀i:Nat,idxFromS ws ⟨#[63]⟩ i=if [63]∈ws.map (·.data.toList) then ((i+((ws.map (·.data.toList)).takeWhile fun x=>decide (x≠[63])).length:Nat):Int) else -1:=by
 induction ws with
 | nil=>intro i;simp [idxFromS]
 | cons z ws ih =>
  intro i
  by_cases hz:z.data.toList=[63]
  ·have hz':z=⟨#[63]⟩:=ba_is.2 hz
   rw [idxFromS,if_pos hz',if_pos (by simp [hz]),List.map_cons,List.takeWhile_cons,if_neg (by simp [hz])]
   rfl
  ·have hz':¬ z=⟨#[63]⟩:=fun q=>hz (by rw [q])
   have ht:decide (z.data.toList≠[63])=true:=by simpa using hz
   rw [idxFromS,if_neg hz',ih (i+1),List.map_cons,List.takeWhile_cons]
   simp only [ht,if_true]
   by_cases hm:[63]∈ws.map (·.data.toList)
   ·rw [if_pos hm,if_pos (List.mem_cons_of_mem _ hm),List.length_cons]
    congr 1;omega
   ·rw [if_neg hm,if_neg]
    rw [List.mem_cons]
    rintro (q|q)
    ·exact hz q.symm
    ·exact hm q
theorem idx_span (ws:List ByteArray):idxOfS ws ⟨#[63]⟩=if [63]∈ws.map (·.data.toList) then (spanP (ws.map (·.data.toList)) 5:Int) else -1:=by
 unfold idxOfS
 rw [idx_while ws 0,Nat.zero_add]
 rfl
theorem span_sign (x:ByteArray) (ws:List ByteArray):spanP ((x::ws).map (·.data.toList)) 1=if hasPrefix x.data.toList [64]=true then 1 else 0:=by
 show (if (some x.data.toList).bind List.head? = some 64 then 1 else 0)=_
 unfold hasPrefix
 rw [Option.bind_some]
 cases x.data.toList with
 | nil=>rfl
 | cons c l =>
  by_cases h:c=64
  ·subst h;simp [List.isPrefixOf]
  ·rw [if_neg (by simpa using h),if_neg]
   simp [List.isPrefixOf,Ne.symm h]
section
variable (v:Value) (ws:List ByteArray) (w:World) (hw:WordsAt w v ws) (hn:ws.length≤4294967000)
include hw hn
set_option maxHeartbeats 2000000 in
theorem opspan_any (p:Nat) (h1:1≤p) (h2:p≤10):Calls Tryz.prog 54 #[v,.int .i64 p] w fun e w'=>e=.returned (.int .i64 (spanP (ws.map (·.data.toList)) p))∧Below w.heap.size w w':=by
 have HW:=hid hw
 obtain ⟨b,o,c,rfl,hc,hb,hcells⟩:=hw
 have HC:=hid hcells
 have hp:p=2∨p=3∨p=6∨p=9∨p=10∨p=7∨p=8∨p=1∨p=4∨p=5:=by omega
 rcases hp with rfl|rfl|rfl|rfl|rfl|rfl|rfl|rfl|rfl|rfl
 ·go_enter Tryz.func54,Tryz.ntmps54
  go_wp2_with fail
  go_ret
  exact ⟨rfl,Below.refl _ _⟩
 ·go_enter Tryz.func54,Tryz.ntmps54
  go_wp2_with fail
  go_ret
  exact ⟨rfl,Below.refl _ _⟩
 ·go_enter Tryz.func54,Tryz.ntmps54
  go_wp2_with fail
  go_ret
  exact ⟨rfl,Below.refl _ _⟩
 ·go_enter Tryz.func54,Tryz.ntmps54
  go_wp2_with fail
  go_ret
  exact ⟨rfl,Below.refl _ _⟩
 ·go_enter Tryz.func54,Tryz.ntmps54
  go_wp2_with fail
  go_ret
  exact ⟨rfl,Below.refl _ _⟩
 ·go_enter Tryz.func54,Tryz.ntmps54
  go_wp2_with fail
  go_ret
  exact ⟨by show _=Ending.returned (.int .i64 ((ws.map (·.data.toList)).length:Nat));rw [List.length_map];rfl,Below.refl _ _⟩
 ·go_enter Tryz.func54,Tryz.ntmps54
  go_wp2_with fail
  go_ret
  exact ⟨by show _=Ending.returned (.int .i64 ((ws.map (·.data.toList)).length:Nat));rw [List.length_map];rfl,Below.refl _ _⟩
 ·cases ws with
  | nil =>
   go_enter Tryz.func54,Tryz.ntmps54
   go_wp2_with fail
   go_ret
   exact ⟨rfl,Below.refl _ _⟩
  | cons x ws =>
   have hx:=HC.out 0 x rfl
   rw [Nat.add_zero] at hx
   have hl:¬ ((x::ws).length:Int)=0:=by simp only [List.length_cons];omega
   have hl0:(0:Int)<((x::ws).length:Int):=by simp only [List.length_cons];omega
   cases hq:hasPrefix x.data.toList [64] with
   | true =>
    go_enter Tryz.func54,Tryz.ntmps54
    go_wp2_with (go_at_call 92;refine (Tryz.strings_HasPrefix _ _ _).mono ?_;rintro e w1 ⟨rfl,rfl⟩;rw [hq])
    go_ret
    exact ⟨by rw [span_sign,hq];rfl,Below.refl _ _⟩
   | false =>
    go_enter Tryz.func54,Tryz.ntmps54
    go_wp2_with (go_at_call 92;refine (Tryz.strings_HasPrefix _ _ _).mono ?_;rintro e w1 ⟨rfl,rfl⟩;rw [hq])
    go_ret
    exact ⟨by rw [span_sign,hq];rfl,Below.refl _ _⟩
 ·cases ws with
  | nil =>
   go_enter Tryz.func54,Tryz.ntmps54
   go_wp2_with fail
   go_ret
   exact ⟨rfl,Below.refl _ _⟩
  | cons x ws =>
   have hx:=HC.out 0 x rfl
   rw [Nat.add_zero] at hx
   have hl:¬ ((x::ws).length:Int)=0:=by simp only [List.length_cons];omega
   have hl0:(0:Int)<((x::ws).length:Int):=by simp only [List.length_cons];omega
   by_cases hq:x.data.toList=[105,102]
   ·have hq2:(x.toList==[105,102])=true:=by rw [toList_data,hq];rfl
    have HQ:=hid hq
    clear hq
    go_enter Tryz.func54,Tryz.ntmps54
    go_wp2_with fail
    go_ret
    refine ⟨?_,Below.refl _ _⟩
    have e:spanP ((x::ws).map (·.data.toList)) 4=2:=by
     show (if (some x.data.toList)=some [105,102] then 2 else 0)=2
     rw [HQ.out,if_pos rfl]
    rw [e];rfl
   ·have hq2:(x.toList==[105,102])=false:=by rw [toList_data];exact beq_eq_false_iff_ne.2 hq
    have HQ:=hid hq
    clear hq
    go_enter Tryz.func54,Tryz.ntmps54
    go_wp2_with fail
    go_ret
    refine ⟨?_,Below.refl _ _⟩
    have e:spanP ((x::ws).map (·.data.toList)) 4=0:=by
     show (if (some x.data.toList)=some [105,102] then 2 else 0)=0
     rw [if_neg]
     intro q
     exact HQ.out (Option.some.inj q)
    rw [e];rfl
 ·have HI:=hid (idx_span ws)
  have HS:Hid (Calls Tryz.prog 91 #[.slice (some ⟨b,o,none⟩) ws.length c,.string ⟨#[63]⟩] w fun e w'=>e=.returned (.int .i64 (idxOfS ws ⟨#[63]⟩))∧w'=w):=hid (by
   have h:=Tryz.slices_Index_string b o ws.length c ws ⟨#[63]⟩ w (Nat.le_refl _) (by omega) (fun j hj=>by
    refine HC.out j _ ?_
    simp [List.getD,hj])
   rw [List.take_length] at h
   exact h)
  by_cases hm:[63]∈ws.map (·.data.toList)
  ·have hi:=HI.out
   rw [if_pos hm] at hi
   have HI2:=hid hi
   have hge:(0:Int)≤(spanP (ws.map (·.data.toList)) 5:Int):=by omega
   clear hi hm
   go_enter Tryz.func54,Tryz.ntmps54
   go_wp2_with (go_at_call 91;refine HS.out.mono ?_;rintro e w1 ⟨rfl,rfl⟩;rw [HI2.out])
   go_ret
   exact ⟨rfl,Below.refl _ _⟩
  ·have hi:=HI.out
   rw [if_neg hm] at hi
   have HI2:=hid hi
   have HM:=hid (while_all hm)
   clear hi hm
   go_enter Tryz.func54,Tryz.ntmps54
   go_wp2_with (go_at_call 91;refine HS.out.mono ?_;rintro e w1 ⟨rfl,rfl⟩;rw [HI2.out])
   go_ret
   refine ⟨?_,Below.refl _ _⟩
   have e:spanP (ws.map (·.data.toList)) 5=ws.length:=by
    show ((ws.map (·.data.toList)).takeWhile fun x=>decide (x≠[63])).length=_
    rw [HM.out,List.length_map]
   rw [e];rfl
end
end
end Go.Proofs.YtpdccbeeoapplaaGreatDoor
