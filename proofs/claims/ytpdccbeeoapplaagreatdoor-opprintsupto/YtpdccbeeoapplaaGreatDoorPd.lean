/-
  Texts of this claim, one behind the other: Rp8 Rs0 Edm Edd Re0 Edl Spk Kys Opm Opb Opc Ope Oph Opn Opo Oqs Opx Frm Ksu Pc0 Pc1 Pc2 Pc3 Tok Rtok App Rp3 Pc5 Pc7.
-/
import Derived.Test.YtpdccbeeoapplaaGreatDoorPc
import Derived.Shelf.GgSortFunc.RowK
import Derived.Lib.SlicesCompact
import Derived.Lib.SliceRun
import Derived.Laws.RangeString
import Derived.Lib.IndexAny
import Derived.ChangeMaps5
import Derived.WalkMore
namespace Go.Proofs.YtpdccbeeoapplaaGreatDoor
section
open Go.RowKit Go.Lib
theorem op_sign {c:UInt8} (h:isOp c=true):c=61∨c=33∨c=94∨c=60∨c=62∨c=63∨c=45:=by
 unfold isOp at h
 rw [bne_iff_ne] at h
 unfold opN at h
 have key:∀k:UInt8,(k.toNat:Int)=(c.toNat:Int)→c=k:=fun k e=>UInt8.toNat_inj.1 (by omega)
 by_cases h1:(61:Int)=c.toNat
 ·exact Or.inl (key 61 h1)
 by_cases h2:(33:Int)=c.toNat
 ·exact Or.inr (Or.inl (key 33 h2))
 by_cases h3:(94:Int)=c.toNat
 ·exact Or.inr (Or.inr (Or.inl (key 94 h3)))
 by_cases h4:(60:Int)=c.toNat
 ·exact Or.inr (Or.inr (Or.inr (Or.inl (key 60 h4))))
 by_cases h5:(62:Int)=c.toNat
 ·exact Or.inr (Or.inr (Or.inr (Or.inr (Or.inl (key 62 h5)))))
 by_cases h6:(63:Int)=c.toNat
 ·exact Or.inr (Or.inr (Or.inr (Or.inr (Or.inr (Or.inl (key 63 h6))))))
 by_cases h7:(45:Int)=c.toNat
 ·exact Or.inr (Or.inr (Or.inr (Or.inr (Or.inr (Or.inr (key 45 h7))))))
 rw [if_neg h1,if_neg h2,if_neg h3,if_neg h4,if_neg h5,if_neg h6,if_neg h7] at h
 exact absurd rfl h
theorem field_noop {l:List UInt8} (h:fieldB l=true):∀c∈l,isOp c=false:=by
 intro c hc
 unfold fieldB spell at h
 cases l with
 | nil=>simp at hc
 | cons x r =>
  simp only [Bool.and_eq_true,List.all_eq_true] at h
  have key:lodB (c.toNat:Int)=true∨smallB (c.toNat:Int)=true:=by
   rcases List.mem_cons.1 hc with e|hc
   ·exact Or.inr (by rw [e];exact h.1.2)
   ·exact Or.inl (h.2 _ hc)
  cases ho:isOp c with
  | false=>rfl
  | true =>
   rcases op_sign ho with rfl|rfl|rfl|rfl|rfl|rfl|rfl<;>(rcases key with k|k<;>(revert k;decide))
theorem opC_is {o:Int} (h1:1≤o) (h2:o≤7):isOp (opC o)=true:=by
 unfold isOp
 rw [opN_opC h1 h2,bne_iff_ne]
 omega
theorem opC_noblank (o:Int):opC o≠32:=by
 unfold opC
 repeat' split
 all_goals decide
theorem termO_back {x:Tm} (h1:namedM x=true) (h2:rightM x=true):termO (wordM x).data.toList=some x:=by
 obtain ⟨n,o,t⟩:=x
 have hr:=rightM_range h2
 simp only at hr
 have hno:=field_noop h1
 simp only at hno
 rw [wordM_data]
 simp only
 have hk:n.data.toList.length<(n.data.toList++opC o::writeL t.data.toList).length:=by simp
 have hg:(n.data.toList++opC o::writeL t.data.toList)[n.data.toList.length]=opC o:=by simp
 obtain ⟨e1,e2⟩:=op_split hk (by rw [List.take_left' rfl];exact hno) (by rw [hg];exact opC_is hr.1 hr.2)
 rw [List.take_left' rfl] at e1
 rw [hg,show n.data.toList++opC o::writeL t.data.toList=(n.data.toList++[opC o])++writeL t.data.toList by simp,List.drop_left' (by simp)] at e2
 unfold termO
 rw [e1,show n.data.toList++opC o::writeL t.data.toList=(n.data.toList++[opC o])++writeL t.data.toList by simp,e2]
 simp only
 rw [read_write]
 simp only
 rw [opN_opC hr.1 hr.2,if_neg,ba_back,ba_back]
 rintro ⟨h5,hne⟩
 apply hne
 unfold rightM at h2
 simp only [Bool.and_eq_true,Bool.or_eq_true,decide_eq_true_eq] at h2
 have h0:t.size=0:=by
  rcases h2.2 with h|h
  ·omega
  ·exact h
 have:t.data.toList=[]:=List.length_eq_zero_iff.1 (by simpa using h0)
 rw [this]
 rfl
theorem terms_back (p:List Tm) (h:∀x∈p,namedM x=true∧rightM x=true):termsW ((p.map wordM).map (·.data.toList))=some p:=by
 induction p with
 | nil=>rfl
 | cons x p ih =>
  have hx:=h x (by simp)
  simp only [List.map_cons,termsW]
  rw [termO_back hx.1 hx.2,ih fun y hy=>h y (by simp [hy])]
  rfl
theorem wordM_noblank {x:Tm} (h1:namedM x=true):(32:UInt8) ∉ (wordM x).data.toList:=by
 rw [wordM_data,List.mem_append,List.mem_cons]
 rintro (h|h|h)
 ·exact noblank_mem (field_noblank h1) h
 ·exact opC_noblank _ h.symm
 ·exact noblank_mem (write_noblank _) h
theorem ansM_again {p:List Tm} (h:mayM p=0):mayM (ansM p)=0∧ansM (ansM p)=ansM p:=by
 have e:ansM p=sortM p:=by unfold ansM;rw [if_pos h]
 have h8:=(mayM_zero h).1
 have hl:=sortM_len p
 obtain ⟨s1,s2⟩:=sortM_spec p
 rw [e]
 have hm:mayM (sortM p)=0:=(mayM_perm s2 (by omega) h8).trans h
 refine ⟨hm,?_⟩
 unfold ansM
 rw [if_pos hm]
 exact (sortM_unique s1 (fun _=>Iff.rfl)).symm
end
section
open Go.RowKit Go.Lib
abbrev Ky:=ByteArray × ByteArray
end
section
open Go.RowKit
abbrev Ed:=Int × ByteArray × ByteArray
def encE (x:Ed):List Value:=[.int .i64 x.1,.string x.2.1,.string x.2.2]
def KE:Kind Ed:=⟨49,3,encE,fun _=>rfl,by decide,fun x u hu=>by simp [encE] at hu;rcases hu with rfl|rfl|rfl<;>rfl⟩
def FitE (l:List Ed):Prop:=l.length≤maxLen∧∀x∈l,x.2.1.size≤maxLen∧x.2.2.size≤maxLen∧-9223372036854775808≤x.1∧x.1≤9223372036854775807
def namedE (x:Ed):Bool:=fieldB x.2.1.data.toList
def rightE (x:Ed):Bool:=decide (1≤x.1)&&decide (x.1≤5)&&(decide (x.1≠4)||decide (x.2.2.size=0))
def shortE (x:Ed):Bool:=decide (x.2.2.size≤128)
def mayE (l:List Ed):Int:=if 16<l.length then 5 else if l.all namedE=false then 2 else if l.all rightE=false then 1 else if l.all shortE=false then 5 else 0
theorem mayE_zero {l:List Ed} (h:mayE l=0):l.length≤16∧(∀x∈l,namedE x=true)∧(∀x∈l,rightE x=true)∧∀x∈l,shortE x=true:=by
 unfold mayE at h
 split at h
 ·omega
 ·rename_i h1
  split at h
  ·omega
  ·rename_i h2
   split at h
   ·omega
   ·rename_i h3
    split at h
    ·omega
    ·rename_i h4
     exact ⟨by omega,List.all_eq_true.1 (by simpa using h2),List.all_eq_true.1 (by simpa using h3),List.all_eq_true.1 (by simpa using h4)⟩
end
section
open Go.RowKit
theorem ke_cells {w:World} {b off:Nat} {p:List Ed} (h:KE.At w b off p) (i:Nat) (hi:i<p.length) :
  w.cell? ⟨b,off+i * 3,none⟩=some (.int .i64 (p[i]).1)∧w.cell? ⟨b,off+i * 3+1,none⟩=some (.string (p[i]).2.1)∧w.cell? ⟨b,off+i * 3+2,none⟩=some (.string (p[i]).2.2) :=
 ⟨h i hi 0 _ rfl,h i hi 1 _ rfl,h i hi 2 _ rfl⟩
theorem all_snocE {p:List Ed} {f:Ed→Bool} {i:Nat} (h:i<p.length):(p.take (i+1)).all f=((p.take i).all f&&f p[i]):=by
 rw [List.take_succ_eq_append_getElem h,List.all_append]
 simp
set_option maxHeartbeats 4000000 in
set_option maxRecDepth 100000 in
theorem rmayE_any (v:Value) (p:List Ed) (w:World) (hv:KE.Is w v p) (hf:FitE p) :
  Calls Tryz.prog 76 #[v] w fun e w'=>e=.returned (.int .i64 (mayE p))∧w'=w:=by
 obtain ⟨q,cap,rfl,hd⟩:=hv
 have hl:=hf.1
 unfold maxLen at hl
 have HD:=hid hd
 have HF:=hid hf.2
 obtain ⟨r,hr⟩:∃r,mayE p=r:=⟨_,rfl⟩
 rw [hr]
 have HR:=hid hr
 clear hd hf hr
 by_cases h8:16<p.length
 ·have h8z:(16:Int)<(p.length:Int):=by omega
  have H0:Hid (r=5):=by show _=_;rw [←HR.out];unfold mayE;rw [if_pos h8]
  clear h8
  go_enter Tryz.func76,Tryz.ntmps76
  go_wp2_with fail
  go_ret
  exact ⟨ret_int H0.out.symm,rfl⟩
 ·have h8z:¬ (16:Int)<(p.length:Int):=by omega
  have HR2:Hid (r=if p.all namedE=false then 2 else if p.all rightE=false then 1 else if p.all shortE=false then 5 else 0):=by show _=_;rw [←HR.out];unfold mayE;rw [if_neg h8]
  clear h8
  go_enter Tryz.func76,Tryz.ntmps76
  go_wp2_with fail
  go_loopg [3,4,5,6] p.length (fun g v3 v4 v5 vi wr=>∃i:Nat,vi=.int .i64 i∧i≤p.length∧p.length-i≤g∧v3=.bool ((p.take i).all namedE)∧v4=.bool ((p.take i).all rightE)∧v5=.bool ((p.take i).all shortE)∧w=wr)
  case atStart=>exact ⟨0,rfl,by omega,by omega,by simp,by simp,by simp,rfl⟩
  case round =>
  obtain ⟨i,rfl,hi,hgk,rfl,rfl,rfl,rfl⟩:=hrel
  by_cases hlt:i<p.length
  ·have hltz:(i:Int)<(p.length:Int):=by omega
   have hiz:(0:Int)≤(i:Int):=by omega
   obtain ⟨b,off,rfl,hat⟩:∃b off,q=some ⟨b,off,none⟩∧KE.At w b off p:=by
    rcases HD.out with h|h
    ·subst h;simp at hlt
    ·exact h
   obtain ⟨c0,c1,c2⟩:=ke_cells hat i hlt
   have hfx:=HF.out _ (List.getElem_mem hlt)
   have HN:=hid (all_snocE (f:=namedE) hlt)
   have HG:=hid (all_snocE (f:=rightE) hlt)
   have HS:=hid (all_snocE (f:=shortE) hlt)
   obtain ⟨x,hx⟩:∃x,p[i]=x:=⟨_,rfl⟩
   rw [hx] at c0 c1 c2 hfx HN HG HS
   obtain ⟨xo,xf,xt⟩:=x
   simp only at c0 c1 c2
   obtain ⟨B1,hB1⟩:∃B,(p.take i).all namedE=B:=⟨_,rfl⟩
   obtain ⟨B2,hB2⟩:∃B,(p.take i).all rightE=B:=⟨_,rfl⟩
   obtain ⟨B3,hB3⟩:∃B,(p.take i).all shortE=B:=⟨_,rfl⟩
   rw [hB1] at HN ⊢
   rw [hB2] at HG ⊢
   rw [hB3] at HS ⊢
   obtain ⟨hs1,hs2,hs3,hs4⟩:=hfx
   simp only at hs1 hs2 hs3 hs4
   have HFC:Hid (∀W,Calls Tryz.prog 118 #[.string xf] W fun e w'=>e=.returned (.bool (fieldB xf.data.toList))∧w'=W):=fun W=>rfield_any xf W hs1
   unfold maxLen at hs2
   clear hat hx hB1 hB2 hB3 hs1
   go_upto_region 7 with fail
   go_cut [3] from 10 to 67 (fun v wx=>w=wx∧v=.bool (B1&&fieldB xf.data.toList))
   case first =>
    cases B1 with
    | false =>
     go_wp2_with fail
     go_meet
     case rel=>exact ⟨rfl,rfl⟩
    | true =>
     go_wp2_with (first|(go_at_call 118;refine (HFC.out _).mono ?_;rintro e w1 ⟨rfl,rfl⟩))
     go_meet
     case rel=>exact ⟨rfl,rfl⟩
   case rest =>
   obtain ⟨rfl,rfl⟩:=hcut
   go_upto_region 8 with fail
   go_cut [4] from 10 to 67 (fun v wx=>w=wx∧v=.bool (B2&&rightE (xo,xf,xt)))
   case first =>
    have HRM:Hid (rightE (xo,xf,xt)=(decide (1≤xo)&&decide (xo≤5)&&(decide (xo≠4)||decide (xt.size=0)))):=rfl
    cases B2 with
    | false =>
     go_wp2_with fail
     go_meet
     case rel=>exact ⟨rfl,rfl⟩
    | true =>
     by_cases g1:1≤xo
     ·have d1:decide (1≤xo)=true:=decide_eq_true g1
      by_cases g2:xo≤5
      ·have d2:decide (xo≤5)=true:=decide_eq_true g2
       by_cases g3:xo=4
       ·have d3:(xo != 4)=false:=by simp [g3]
        by_cases g4:xt.size=0
        ·have e4:=sempty_of g4
         have HV:Hid (rightE (xo,xf,xt)=true):=by show _=_;rw [HRM.out,d1,d2,decide_eq_true g4];simp
         clear g4 g3
         go_wp2_with fail
         go_meet
         case rel=>exact ⟨rfl,by rw [HV.out];rfl⟩
        ·have e4:=sfull_of g4
         have HV:Hid (rightE (xo,xf,xt)=false):=by show _=_;rw [HRM.out,d1,d2,decide_eq_false g4,decide_eq_false (by simp [g3])];rfl
         clear g4 g3
         go_wp2_with fail
         go_meet
         case rel=>exact ⟨rfl,by rw [HV.out];rfl⟩
       ·have d3:(xo != 4)=true:=by simp [g3]
        have HV:Hid (rightE (xo,xf,xt)=true):=by show _=_;rw [HRM.out,d1,d2,decide_eq_true (by simpa using g3)];rfl
        clear g3
        go_wp2_with fail
        go_meet
        case rel=>exact ⟨rfl,by rw [HV.out];rfl⟩
      ·have d2:decide (xo≤5)=false:=decide_eq_false g2
       have HV:Hid (rightE (xo,xf,xt)=false):=by show _=_;rw [HRM.out,d1,d2];rfl
       go_wp2_with fail
       go_meet
       case rel=>exact ⟨rfl,by rw [HV.out];rfl⟩
     ·have d1:decide (1≤xo)=false:=decide_eq_false g1
      have HV:Hid (rightE (xo,xf,xt)=false):=by show _=_;rw [HRM.out,d1];rfl
      go_wp2_with fail
      go_meet
      case rel=>exact ⟨rfl,by rw [HV.out];rfl⟩
   case rest =>
   obtain ⟨rfl,rfl⟩:=hcut
   have HSM:Hid (shortE (xo,xf,xt)=decide (xt.size≤128)):=rfl
   cases B3 with
   | false =>
    go_wp2_with fail
    go_roundg (p.length-(i+1))
    case measure=>omega
    case rel=>exact ⟨i+1,by go_num,by omega,by omega,by rw [HN.out];rfl,by rw [HG.out],by rw [HS.out];rfl,rfl⟩
   | true =>
    by_cases g1:xt.size≤128
    ·have g1z:(xt.size:Int)≤128:=by omega
     have HV:Hid (shortE (xo,xf,xt)=true):=by show _=_;rw [HSM.out];exact decide_eq_true g1
     go_wp2_with fail
     go_roundg (p.length-(i+1))
     case measure=>omega
     case rel=>exact ⟨i+1,by go_num,by omega,by omega,by rw [HN.out];rfl,by rw [HG.out],by rw [HS.out,HV.out];rfl,rfl⟩
    ·have g1z:¬ (xt.size:Int)≤128:=by omega
     have HV:Hid (shortE (xo,xf,xt)=false):=by show _=_;rw [HSM.out];exact decide_eq_false g1
     go_wp2_with fail
     go_roundg (p.length-(i+1))
     case measure=>omega
     case rel=>exact ⟨i+1,by go_num,by omega,by omega,by rw [HN.out];rfl,by rw [HG.out],by rw [HS.out,HV.out];rfl,rfl⟩
  ·have hltz:¬ (i:Int)<(p.length:Int):=by omega
   rw [List.take_of_length_le (by omega)]
   cases h1:p.all namedE with
   | false =>
    have H0:Hid (r=2):=by show _=_;rw [HR2.out,h1];rfl
    clear h1
    go_wp2_with fail
    go_ret
    exact ⟨ret_int H0.out.symm,rfl⟩
   | true =>
    cases h2:p.all rightE with
    | false =>
     have H0:Hid (r=1):=by show _=_;rw [HR2.out,h1,h2];rfl
     clear h1 h2
     go_wp2_with fail
     go_ret
     exact ⟨ret_int H0.out.symm,rfl⟩
    | true =>
     cases h3:p.all shortE with
     | false =>
      have H0:Hid (r=5):=by show _=_;rw [HR2.out,h1,h2,h3];rfl
      clear h1 h2 h3
      go_wp2_with fail
      go_ret
      exact ⟨ret_int H0.out.symm,rfl⟩
     | true =>
      have H0:Hid (r=0):=by show _=_;rw [HR2.out,h1,h2,h3];rfl
      clear h1 h2 h3
      go_wp2_with fail
      go_ret
      exact ⟨ret_int H0.out.symm,rfl⟩
theorem Tryz.infoEd:(Tryz.prog.info? 49).map (fun i=>(i.zero,i.size,i.bytes))=some (some (.agg #[.int .i64 0,.string ⟨#[]⟩,.string ⟨#[]⟩]),3,40):=by kernel_rfl
theorem neq_edit (a b:Ed) (w:World):(binOp .neq 49 (.agg #[.int .i64 a.1,.string a.2.1,.string a.2.2]) (.agg #[.int .i64 b.1,.string b.2.1,.string b.2.2])).run Tryz.prog w=.ok (.bool (!decide (a=b))) w:=by
 obtain ⟨a1,a2,a3⟩:=a
 obtain ⟨b1,b2,b3⟩:=b
 have hS:Tryz.prog.underlying 49=some (.struct (Tryz.prog.fieldsOf 49)):=by kernel_rfl
 have hp:Tryz.prog.stoodInHeld 49=false:=by kernel_rfl
 have u9:=Tryz.underlying9
 have a9:=Tryz.isAgg9
 have z9:=Tryz.sizeOf9
 have u3:=Tryz.underlying3
 have a3':=Tryz.isAgg3
 have z3:=Tryz.sizeOf3
 rw [run_neq_struct,show (10000:Nat)=9999+1 from rfl,run_equalIn_agg w 9999 49 _ _ hS hp]
 simp only [Program.fieldsOf,Tryz.underlying49]
 go_simp
 by_cases h1:a1=b1
 ·subst h1
  by_cases h2:a2=b2
  ·subst h2
   by_cases h3:a3=b3
   ·subst h3;simp
   ·have e3:=beq_eq_false_iff_ne.1 (seq_false h3)
    simp [h3,e3]
  ·have e2:=beq_eq_false_iff_ne.1 (seq_false h2)
   simp [h2,e2]
 ·simp [h1]
set_option maxHeartbeats 2000000 in
set_option maxRecDepth 100000 in
theorem rsameE_any (v u:Value) (p q:List Ed) (w:World) (hv:KE.Is w v p) (hu:KE.Is w u q) (hl1:p.length≤maxLen) :
  Calls Tryz.prog 30 #[v,u] w fun e w'=>e=.returned (.bool (decide (p=q)))∧∃n,w'=w.drewN n:=by
 unfold maxLen at hl1
 obtain ⟨a1,k1,rfl,hd1⟩:=hv
 obtain ⟨a2,k2,rfl,hd2⟩:=hu
 obtain ⟨r,hr⟩:∃r,decide (p=q)=r:=⟨_,rfl⟩
 rw [hr]
 have HR:=hid hr
 have HD1:=hid hd1
 have HD2:=hid hd2
 clear hr hd1 hd2
 by_cases hl:p.length=q.length
 ·have hb:((p.length:Int) != (q.length:Int))=false:=by simp [hl]
  have HL:=hid hl
  clear hl
  go_enter Tryz.func30,Tryz.ntmps30
  go_wp2_with fail
  go_loopg [5] p.length (fun g vi wr=>∃i m:Nat,vi=.int .i64 i∧i≤p.length∧p.length-i≤g∧wr=w.drewN m∧Hid (∀j,j<i→p[j]? = q[j]?))
  case atStart=>exact ⟨0,0,rfl,by omega,by omega,rfl,fun j h=>by omega⟩
  case round =>
   obtain ⟨i,m,rfl,hi,hg,rfl,HJ⟩:=hrel
   by_cases hlt:i<p.length
   ·have hlt2:i<q.length:=by rw [←HL.out];exact hlt
    have i1:(0:Int)≤↑i:=by omega
    have i2:(↑i:Int) < ↑p.length:=by omega
    have i3:(↑i:Int) < ↑q.length:=by omega
    rcases HD1.out with hn|⟨b1,o1,rfl,k1⟩
    ·rw [hn] at hlt;simp at hlt
    rcases HD2.out with hn|⟨b2,o2,rfl,k2⟩
    ·rw [hn] at hlt2;simp at hlt2
    obtain ⟨x0,x1,x2⟩:=ke_cells k1 i hlt
    obtain ⟨y0,y1,y2⟩:=ke_cells k2 i hlt2
    have hne:=fun W=>neq_edit p[i] q[i] W
    have G1:=hid (List.getElem?_eq_getElem hlt)
    have G2:=hid (List.getElem?_eq_getElem hlt2)
    obtain ⟨x,hx⟩:∃x,p[i]=x:=⟨_,rfl⟩
    obtain ⟨y,hy⟩:∃y,q[i]=y:=⟨_,rfl⟩
    rw [hx] at x0 x1 x2 hne G1
    rw [hy] at y0 y1 y2 hne G2
    clear k1 k2 hx hy
    by_cases hst:x=y
    ·have hd:=decide_eq_true hst
     rw [hd] at hne
     have HS:=hid hst
     clear hst hd
     go_wp2_with fail
     go_quiet (fail)
     go_wp2_with fail
     go_roundg (p.length-(i+1))
     case measure=>omega
     refine ⟨i+1,_,by go_num,by omega,by omega,rfl,fun j hj=>?_⟩
     by_cases e:j=i
     ·subst e;rw [G1.out,G2.out,HS.out]
     ·exact HJ.out j (by omega)
    ·have hd:=decide_eq_false hst
     rw [hd] at hne
     have H0:Hid (r=false):=HR.out.symm.trans (decide_eq_false fun e=>hst (by
      have:=G1.out
      rw [e,G2.out] at this
      exact (Option.some.inj this).symm))
     clear hst hd
     go_wp2_with fail
     go_quiet (fail)
     go_wp2_with fail
     go_ret
     exact ⟨ret_bool H0.out.symm,_,by rw [World.drewN_drewN]⟩
   ·have hltz:¬ (i:Int)<(p.length:Int):=by omega
    have H0:Hid (r=true):=HR.out.symm.trans (decide_eq_true (List.ext_getElem? fun j=>by
     by_cases hj:j<p.length
     ·exact HJ.out j (by omega)
     ·rw [List.getElem?_eq_none (by omega),List.getElem?_eq_none (by have:=HL.out;omega)]))
    go_wp2_with fail
    go_ret
    exact ⟨ret_bool H0.out.symm,_,rfl⟩
 ·have hb:((p.length:Int) != (q.length:Int))=true:=by simp;omega
  have H0:Hid (r=false):=HR.out.symm.trans (decide_eq_false fun e=>hl (by rw [e]))
  clear hl
  go_enter Tryz.func30,Tryz.ntmps30
  go_wp2_with fail
  go_ret
  exact ⟨ret_bool H0.out.symm,0,rfl⟩
def signS (k:Int):ByteArray:=if k=1 then ⟨#[58,61]⟩ else if k=2 then ⟨#[43,61]⟩ else if k=3 then ⟨#[45,61]⟩ else if k=4 then ⟨#[126]⟩ else ⟨#[61,61]⟩
set_option maxHeartbeats 2000000 in
theorem rsign_any (k:Int) (w:World):Calls Tryz.prog 79 #[.int .i64 k] w fun e w'=>e=.returned (.string (signS k))∧w'=w:=by
 by_cases h1:k=1
 ·subst h1
  go_enter Tryz.func79,Tryz.ntmps79
  go_wp2_with fail
  go_ret
  exact ⟨rfl,rfl⟩
 ·by_cases h2:k=2
  ·subst h2
   go_enter Tryz.func79,Tryz.ntmps79
   go_wp2_with fail
   go_ret
   exact ⟨rfl,rfl⟩
  ·by_cases h3:k=3
   ·subst h3
    go_enter Tryz.func79,Tryz.ntmps79
    go_wp2_with fail
    go_ret
    exact ⟨rfl,rfl⟩
   ·by_cases h4:k=4
    ·subst h4
     go_enter Tryz.func79,Tryz.ntmps79
     go_wp2_with fail
     go_ret
     exact ⟨rfl,rfl⟩
    ·have b1:(k==1)=false:=beq_eq_false_iff_ne.2 h1
     have b2:(k==2)=false:=beq_eq_false_iff_ne.2 h2
     have b3:(k==3)=false:=beq_eq_false_iff_ne.2 h3
     have b4:(k==4)=false:=beq_eq_false_iff_ne.2 h4
     have H0:Hid (signS k=⟨#[61,61]⟩):=by show _=_;unfold signS;rw [if_neg h1,if_neg h2,if_neg h3,if_neg h4]
     clear h1 h2 h3 h4
     go_enter Tryz.func79,Tryz.ntmps79
     go_wp2_with fail
     go_ret
     rw [H0.out]
     exact ⟨rfl,rfl⟩
def kindN (c:Int):Int:=if c=58 then 1 else if c=43 then 2 else if c=45 then 3 else if c=126 then 4 else if c=61 then 5 else 0
theorem kindN_range (c:Int):0≤kindN c∧kindN c≤5:=by
 unfold kindN
 repeat' split
 all_goals omega
end
section
open Go.RowKit Go.Lib
def wordE (x:Ed):ByteArray:=x.2.1++signS x.1++⟨(writeL x.2.2.data.toList).toArray⟩
def lineE (l:List Ed):ByteArray:=lineB (l.map wordE)
theorem wordE_data (x:Ed):(wordE x).data.toList=x.2.1.data.toList++((signS x.1).data.toList++writeL x.2.2.data.toList):=by
 unfold wordE
 simp only [data_append]
 simp
theorem lineE_first (x:Ed):lineB [wordE x]=⟨#[]⟩++x.2.1++signS x.1++⟨(writeL x.2.2.data.toList).toArray⟩:=by
 refine ba_eq ?_
 rw [lineB_data,List.map_cons,List.map_nil,Lib.join_one,wordE_data]
 simp only [data_append]
 simp
theorem lineE_next {ws:List ByteArray} (h:ws≠[]) (x:Ed):lineB (ws++[wordE x])=lineB ws++⟨#[32]⟩++x.2.1++signS x.1++⟨(writeL x.2.2.data.toList).toArray⟩:=by
 refine ba_eq ?_
 rw [lineB_data,List.map_append,List.map_cons,List.map_nil,join_snoc _ _ (by simpa using h)]
 simp only [data_append,lineB_data,wordE_data]
 simp
theorem sign_size (k:Int):(signS k).size≤2∧1≤(signS k).size:=by
 unfold signS
 repeat' split
 all_goals exact ⟨by decide,by decide⟩
theorem wordE_len {x:Ed} (h1:namedE x=true) (h2:shortE x=true):(wordE x).size≤418:=by
 have h3:x.2.1.size≤32:=by simpa using fieldB_len h1
 have h4:=writeL_len x.2.2.data.toList
 have h5:x.2.2.data.toList.length=x.2.2.size:=by simp
 have h6:=of_decide_eq_true h2
 have h7:=sign_size x.1
 have h8:(⟨(writeL x.2.2.data.toList).toArray⟩:ByteArray).size=(writeL x.2.2.data.toList).length:=by show (writeL x.2.2.data.toList).toArray.size=_;simp
 unfold wordE
 rw [ByteArray.size_append,ByteArray.size_append,h8]
 omega
theorem lineE_size {ws:List ByteArray} (hn:ws.length≤16) (hs:∀x∈ws,x.size≤418):(lineB ws).size≤6704:=by
 have e:(lineB ws).size=(Lib.join (ws.map (·.data.toList)) [32]).length:=by rw [←lineB_data];simp
 have h1:=join_size 418 (ws.map (·.data.toList)) (fun w hw=>by
  obtain ⟨x,hx,rfl⟩:=List.mem_map.1 hw
  simpa using hs x hx)
 rw [List.length_map] at h1
 have h3:ws.length * (418+1)≤16 * (418+1):=Nat.mul_le_mul_right _ hn
 omega
theorem wrap_i64E (n:Int) (h1:-9223372036854775808≤n) (h2:n≤9223372036854775807):IntKind.i64.wrap n=n:=by
 simp [IntKind.wrap,IntKind.signed,IntKind.bits];omega
def isK (c:UInt8):Bool:=kindN (c.toNat:Int) != 0
def editO (l:List UInt8):Option Ed :=
 match l.dropWhile (fun c=>!isK c) with
 | []=>none
 | c::r =>
  if kindN (c.toNat:Int)=4 then (if r=[] then some (4,⟨(l.takeWhile (fun c=>!isK c)).toArray⟩,⟨#[]⟩) else none)
  else match r with
   | []=>none
   | d::r2=>if d=61 then (match readL r2 with
    | none=>none
    | some t=>some (kindN (c.toNat:Int),⟨(l.takeWhile (fun c=>!isK c)).toArray⟩,⟨t.toArray⟩)) else none
def editsW:List (List UInt8)→Option (List Ed)
 | []=>some []
 | l::ls=>match editO l with
  | none=>none
  | some x=>(editsW ls).map (x :: ·)
theorem editsW_append (a b:List (List UInt8)):editsW (a++b)=(editsW a).bind fun xs=>(editsW b).map (xs ++ ·):=by
 induction a with
 | nil=>simp [editsW]
 | cons l a ih =>
  simp only [List.cons_append,editsW,ih]
  cases editO l with
  | none=>rfl
  | some x =>
   cases editsW a with
   | none=>rfl
   | some xs=>cases editsW b<;>rfl
theorem editsW_no {a b:List (List UInt8)} {l:List UInt8} (h:editO l=none):editsW (a++l::b)=none:=by
 rw [editsW_append]
 cases editsW a with
 | none=>rfl
 | some x=>simp [editsW,h]
theorem editsW_snoc {a:List (List UInt8)} {l:List UInt8} {xs:List Ed} {x:Ed} (ha:editsW a=some xs) (h:editO l=some x):editsW (a++[l])=some (xs++[x]):=by
 rw [editsW_append,ha]
 simp [editsW,h]
theorem k_split {l:List UInt8} {k:Nat} (hk:k<l.length) (h:∀d∈l.take k,isK d=false) (h2:isK l[k]=true) :
  l.takeWhile (fun c=>!isK c)=l.take k∧l.dropWhile (fun c=>!isK c)=l[k]::l.drop (k+1):=by
 have e:l=l.take k++l[k]::l.drop (k+1):=by
  conv=>lhs;rw [←List.take_append_drop k l,List.drop_eq_getElem_cons hk]
 have hp:∀d∈l.take k,(!isK d)=true:=fun d hd=>by rw [h d hd];rfl
 constructor
 ·conv=>lhs;rw [e]
  rw [List.takeWhile_append_of_pos hp,List.takeWhile_cons,h2]
  simp
 ·conv=>lhs;rw [e]
  rw [List.dropWhile_append_of_pos hp,List.dropWhile_cons,h2]
  simp
theorem k_none {l:List UInt8} (h:∀d∈l,isK d=false):editO l=none:=by
 have:l.dropWhile (fun c=>!isK c)=[]:=by
  induction l with
  | nil=>rfl
  | cons c l ih =>
   rw [List.dropWhile_cons,h c (by simp)]
   simpa using ih fun d hd=>h d (by simp [hd])
 unfold editO
 rw [this]
theorem kind_sign {c:UInt8} (h:isK c=true):c=58∨c=43∨c=45∨c=126∨c=61:=by
 unfold isK at h
 rw [bne_iff_ne] at h
 unfold kindN at h
 have key:∀k:UInt8,(c.toNat:Int)=(k.toNat:Int)→c=k:=fun k e=>UInt8.toNat_inj.1 (by omega)
 by_cases h1:(c.toNat:Int)=58
 ·exact Or.inl (key 58 h1)
 by_cases h2:(c.toNat:Int)=43
 ·exact Or.inr (Or.inl (key 43 h2))
 by_cases h3:(c.toNat:Int)=45
 ·exact Or.inr (Or.inr (Or.inl (key 45 h3)))
 by_cases h4:(c.toNat:Int)=126
 ·exact Or.inr (Or.inr (Or.inr (Or.inl (key 126 h4))))
 by_cases h5:(c.toNat:Int)=61
 ·exact Or.inr (Or.inr (Or.inr (Or.inr (key 61 h5))))
 rw [if_neg h1,if_neg h2,if_neg h3,if_neg h4,if_neg h5] at h
 exact absurd rfl h
theorem field_nokind {l:List UInt8} (h:fieldB l=true):∀c∈l,isK c=false:=by
 intro c hc
 unfold fieldB spell at h
 cases l with
 | nil=>simp at hc
 | cons x r =>
  simp only [Bool.and_eq_true,List.all_eq_true] at h
  have key:lodB (c.toNat:Int)=true∨smallB (c.toNat:Int)=true:=by
   rcases List.mem_cons.1 hc with e|hc
   ·exact Or.inr (by rw [e];exact h.1.2)
   ·exact Or.inl (h.2 _ hc)
  cases ho:isK c with
  | false=>rfl
  | true =>
   rcases kind_sign ho with rfl|rfl|rfl|rfl|rfl<;>(rcases key with k|k<;>(revert k;decide))
theorem editO_back {x:Ed} (h1:namedE x=true) (h2:rightE x=true):editO (wordE x).data.toList=some x:=by
 obtain ⟨k,n,t⟩:=x
 have hr:(1≤k∧k≤5)∧(k≠4∨t.size=0):=by
  unfold rightE at h2
  simp only [Bool.and_eq_true,Bool.or_eq_true,decide_eq_true_eq] at h2
  exact h2
 obtain ⟨⟨hk1,hk5⟩,hk4⟩:=hr
 have hno:=field_nokind h1
 simp only at hno
 have key:∀(c:UInt8) (r:List UInt8),isK c=true→(n.data.toList++c::r).takeWhile (fun c=>!isK c)=n.data.toList∧(n.data.toList++c::r).dropWhile (fun c=>!isK c)=c::r:=fun c r hc=>by
  have hkl:n.data.toList.length<(n.data.toList++c::r).length:=by simp
  have hg:(n.data.toList++c::r)[n.data.toList.length]=c:=by simp
  obtain ⟨e1,e2⟩:=k_split hkl (by rw [List.take_left' rfl];exact hno) (by rw [hg];exact hc)
  rw [List.take_left' rfl] at e1
  rw [hg,show n.data.toList++c::r=(n.data.toList++[c])++r by simp,List.drop_left' (by simp)] at e2
  refine ⟨e1,?_⟩
  rw [show n.data.toList++c::r=(n.data.toList++[c])++r by simp]
  exact e2
 have hcs:k=1∨k=2∨k=3∨k=4∨k=5:=by omega
 have hback:(⟨n.data.toList.toArray⟩:ByteArray)=n:=ba_back n
 have htb:(⟨t.data.toList.toArray⟩:ByteArray)=t:=ba_back t
 rw [wordE_data]
 simp only
 rcases hcs with rfl|rfl|rfl|rfl|rfl
 ·obtain ⟨e1,e2⟩:=key 58 (61::writeL t.data.toList) rfl
  rw [show (signS 1).data.toList++writeL t.data.toList=58::61::writeL t.data.toList from rfl]
  unfold editO
  rw [e1,e2]
  simp only
  rw [if_neg (by decide),if_pos trivial,read_write]
  simp only
  rw [hback,htb]
  rfl
 ·obtain ⟨e1,e2⟩:=key 43 (61::writeL t.data.toList) rfl
  rw [show (signS 2).data.toList++writeL t.data.toList=43::61::writeL t.data.toList from rfl]
  unfold editO
  rw [e1,e2]
  simp only
  rw [if_neg (by decide),if_pos trivial,read_write]
  simp only
  rw [hback,htb]
  rfl
 ·obtain ⟨e1,e2⟩:=key 45 (61::writeL t.data.toList) rfl
  rw [show (signS 3).data.toList++writeL t.data.toList=45::61::writeL t.data.toList from rfl]
  unfold editO
  rw [e1,e2]
  simp only
  rw [if_neg (by decide),if_pos trivial,read_write]
  simp only
  rw [hback,htb]
  rfl
 ·have h0:t.size=0:=by
   rcases hk4 with h|h
   ·exact absurd rfl h
   ·exact h
  have ht:t=⟨#[]⟩:=ba_eq (List.length_eq_zero_iff.1 (by simpa using h0))
  subst ht
  obtain ⟨e1,e2⟩:=key 126 [] rfl
  rw [show (signS 4).data.toList++writeL (⟨#[]⟩:ByteArray).data.toList=[126] from rfl]
  unfold editO
  rw [e1,e2]
  simp only
  rw [if_pos (by decide),if_pos trivial,hback]
 ·obtain ⟨e1,e2⟩:=key 61 (61::writeL t.data.toList) rfl
  rw [show (signS 5).data.toList++writeL t.data.toList=61::61::writeL t.data.toList from rfl]
  unfold editO
  rw [e1,e2]
  simp only
  rw [if_neg (by decide),if_pos trivial,read_write]
  simp only
  rw [hback,htb]
  rfl
theorem edits_back (p:List Ed) (h:∀x∈p,namedE x=true∧rightE x=true):editsW ((p.map wordE).map (·.data.toList))=some p:=by
 induction p with
 | nil=>rfl
 | cons x p ih =>
  have hx:=h x (by simp)
  simp only [List.map_cons,editsW]
  rw [editO_back hx.1 hx.2,ih fun y hy=>h y (by simp [hy])]
  rfl
theorem sign_noblank (k:Int):(32:UInt8) ∉ (signS k).data.toList:=by
 unfold signS
 repeat' split
 all_goals decide
theorem wordE_noblank {x:Ed} (h1:namedE x=true):(32:UInt8) ∉ (wordE x).data.toList:=by
 rw [wordE_data,List.mem_append,List.mem_append]
 rintro (h|h|h)
 ·exact noblank_mem (field_noblank h1) h
 ·exact sign_noblank _ h
 ·exact noblank_mem (write_noblank _) h
def prE (l:List Ed):ByteArray:=if mayE l=0 then lineE l else ⟨#[]⟩
def codeL (o:Option (List Ed)):Int:=match o with|none=>4|some p=>mayE p
def ansL (o:Option (List Ed)):List Ed:=match o with|none=>[]|some p=>if mayE p=0 then p else []
end
section
open Go.RowKit
set_option maxHeartbeats 1000000 in
theorem id_any (n:Int) (w:World):Calls Tryz.prog 161 #[.int .u8 n] w fun e w'=>e=.returned (.bool (idB n))∧w'=w:=by
 go_enter Tryz.func161,Tryz.ntmps161
 go_wp2
 all_goals go_ret
 all_goals refine ⟨ret_bool ?_,rfl⟩
 all_goals (rw [Bool.eq_iff_iff];simp_all [idB,lodB,digB,letB,bigB,smallB];try omega)
set_option maxHeartbeats 1000000 in
theorem spelled_type (s:ByteArray) (w:World) (hs:s.size≤maxLen) :
  Calls Tryz.prog 123 #[.string s,.func (.func 126) #[] #[],.func (.func 127) #[] #[]] w fun e w'=>e=.returned (.bool (typeB s.data.toList))∧w'=w:=by
 unfold maxLen at hs
 by_cases he:s.size=0
 ·have hb:=spell_empty bigB letB s he
  have hlt:(s.size:Int)<1:=by omega
  have HB:Hid (spell bigB letB s.data.toList=false):=hb
  clear he hb
  go_enter Tryz.func123,Tryz.ntmps123
  go_wp2_with fail
  go_ret
  exact ⟨ret_bool HB.out.symm,rfl⟩
 have hpos:0<s.size:=by omega
 have hnl:¬ (s.size:Int)<1:=by omega
 by_cases hl:32<s.size
 ·have hb:=spell_long bigB letB s hl
  have HB:Hid (spell bigB letB s.data.toList=false):=hb
  have hgt:(32:Int)<(s.size:Int):=by omega
  clear he hb
  go_enter Tryz.func123,Tryz.ntmps123
  go_wp2_with fail
  go_ret
  exact ⟨ret_bool HB.out.symm,rfl⟩
 have hle:¬ (32:Int)<(s.size:Int):=by omega
 clear he
 cases hc:bigB (s[0].toNat:Int) with
 | false =>
  have HB:Hid (spell bigB letB s.data.toList=false):=spell_first bigB letB s hpos hc
  go_enter Tryz.func123,Tryz.ntmps123
  go_wp2_with (go_at_call 126;refine (big_any _ _).mono ?_;rintro e w' ⟨rfl,rfl⟩)
  go_ret
  exact ⟨ret_bool HB.out.symm,rfl⟩
 | true =>
  have HT:Hid ((∀k,1≤k→(hk:k<s.size)→letB (s[k].toNat:Int)=true)→spell bigB letB s.data.toList=true):=spell_true bigB letB s hpos (by omega) hc
  have HA:Hid (∀k,1≤k→(hk:k<s.size)→letB (s[k].toNat:Int)=false→spell bigB letB s.data.toList=false):=fun k h1 hk=>spell_at bigB letB s k h1 hk
  go_enter Tryz.func123,Tryz.ntmps123
  go_wp2_with (go_at_call 126;refine (big_any _ _).mono ?_;rintro e w' ⟨rfl,rfl⟩)
  go_loop [7] (fun i=>∃k:Nat,1≤k∧k≤s.size∧i=.int .i64 k∧(∀j,1≤j→j<k→(hj:j<s.size)→letB (s[j].toNat:Int)=true)) (fun i=>s.size-(intOf i).toNat)
  case atStart=>exact ⟨1,by omega,by omega,rfl,fun j h1 h2=>by omega⟩
  case round =>
   obtain ⟨k,hk1,hk,rfl,hall⟩:=hrel
   have HL:Hid (∀j,1≤j→j<k→(hj:j<s.size)→letB (s[j].toNat:Int)=true):=hall
   clear hall
   by_cases hlt:k<s.size
   ·cases hd:letB (s[k].toNat:Int) with
    | false =>
     go_wp2_with (go_at_call 127;refine (letter_any _ _).mono ?_;rintro e w' ⟨rfl,rfl⟩)
     go_ret
     exact ⟨ret_bool (HA.out k hk1 hlt hd).symm,rfl⟩
    | true =>
     go_wp2_with (go_at_call 127;refine (letter_any _ _).mono ?_;rintro e w' ⟨rfl,rfl⟩)
     go_round
     case rel =>
      refine ⟨k+1,by omega,by omega,by go_num,fun j h1 h2 hj=>?_⟩
      by_cases hjk:j=k
      ·subst hjk;exact hd
      ·exact HL.out j h1 (by omega) hj
     case measure=>simp [intOf];omega
   ·go_wp2_with fail
    go_ret
    exact ⟨ret_bool (HT.out fun j h1 hj=>HL.out j h1 (by omega) hj).symm,rfl⟩
set_option maxHeartbeats 1000000 in
theorem type_any (s:ByteArray) (w:World) (hs:s.size≤maxLen) :
  Calls Tryz.prog 82 #[.string s] w fun e w'=>e=.returned (.bool (typeB s.data.toList))∧w'=w:=by
 go_enter Tryz.func82,Tryz.ntmps82
 go_wp2_with (go_at_call 123;refine (spelled_type _ _ hs).mono ?_;rintro e w' ⟨rfl,rfl⟩)
 go_ret
 exact ⟨rfl,rfl⟩
set_option maxHeartbeats 1000000 in
theorem spelled_iden (s:ByteArray) (w:World) (hs:s.size≤maxLen) :
  Calls Tryz.prog 123 #[.string s,.func (.func 161) #[] #[],.func (.func 161) #[] #[]] w fun e w'=>e=.returned (.bool (idenB s.data.toList))∧w'=w:=by
 unfold maxLen at hs
 by_cases he:s.size=0
 ·have hb:=spell_empty idB idB s he
  have hlt:(s.size:Int)<1:=by omega
  have HB:Hid (spell idB idB s.data.toList=false):=hb
  clear he hb
  go_enter Tryz.func123,Tryz.ntmps123
  go_wp2_with fail
  go_ret
  exact ⟨ret_bool HB.out.symm,rfl⟩
 have hpos:0<s.size:=by omega
 have hnl:¬ (s.size:Int)<1:=by omega
 by_cases hl:32<s.size
 ·have hb:=spell_long idB idB s hl
  have HB:Hid (spell idB idB s.data.toList=false):=hb
  have hgt:(32:Int)<(s.size:Int):=by omega
  clear he hb
  go_enter Tryz.func123,Tryz.ntmps123
  go_wp2_with fail
  go_ret
  exact ⟨ret_bool HB.out.symm,rfl⟩
 have hle:¬ (32:Int)<(s.size:Int):=by omega
 clear he
 cases hc:idB (s[0].toNat:Int) with
 | false =>
  have HB:Hid (spell idB idB s.data.toList=false):=spell_first idB idB s hpos hc
  go_enter Tryz.func123,Tryz.ntmps123
  go_wp2_with (go_at_call 161;refine (id_any _ _).mono ?_;rintro e w' ⟨rfl,rfl⟩)
  go_ret
  exact ⟨ret_bool HB.out.symm,rfl⟩
 | true =>
  have HT:Hid ((∀k,1≤k→(hk:k<s.size)→idB (s[k].toNat:Int)=true)→spell idB idB s.data.toList=true):=spell_true idB idB s hpos (by omega) hc
  have HA:Hid (∀k,1≤k→(hk:k<s.size)→idB (s[k].toNat:Int)=false→spell idB idB s.data.toList=false):=fun k h1 hk=>spell_at idB idB s k h1 hk
  go_enter Tryz.func123,Tryz.ntmps123
  go_wp2_with (go_at_call 161;refine (id_any _ _).mono ?_;rintro e w' ⟨rfl,rfl⟩)
  go_loop [7] (fun i=>∃k:Nat,1≤k∧k≤s.size∧i=.int .i64 k∧(∀j,1≤j→j<k→(hj:j<s.size)→idB (s[j].toNat:Int)=true)) (fun i=>s.size-(intOf i).toNat)
  case atStart=>exact ⟨1,by omega,by omega,rfl,fun j h1 h2=>by omega⟩
  case round =>
   obtain ⟨k,hk1,hk,rfl,hall⟩:=hrel
   have HL:Hid (∀j,1≤j→j<k→(hj:j<s.size)→idB (s[j].toNat:Int)=true):=hall
   clear hall
   by_cases hlt:k<s.size
   ·cases hd:idB (s[k].toNat:Int) with
    | false =>
     go_wp2_with (go_at_call 161;refine (id_any _ _).mono ?_;rintro e w' ⟨rfl,rfl⟩)
     go_ret
     exact ⟨ret_bool (HA.out k hk1 hlt hd).symm,rfl⟩
    | true =>
     go_wp2_with (go_at_call 161;refine (id_any _ _).mono ?_;rintro e w' ⟨rfl,rfl⟩)
     go_round
     case rel =>
      refine ⟨k+1,by omega,by omega,by go_num,fun j h1 h2 hj=>?_⟩
      by_cases hjk:j=k
      ·subst hjk;exact hd
      ·exact HL.out j h1 (by omega) hj
     case measure=>simp [intOf];omega
   ·go_wp2_with fail
    go_ret
    exact ⟨ret_bool (HT.out fun j h1 hj=>HL.out j h1 (by omega) hj).symm,rfl⟩
set_option maxHeartbeats 1000000 in
theorem iden_any (s:ByteArray) (w:World) (hs:s.size≤maxLen) :
  Calls Tryz.prog 125 #[.string s] w fun e w'=>e=.returned (.bool (idenB s.data.toList))∧w'=w:=by
 go_enter Tryz.func125,Tryz.ntmps125
 go_wp2_with (go_at_call 123;refine (spelled_iden _ _ hs).mono ?_;rintro e w' ⟨rfl,rfl⟩)
 go_ret
 exact ⟨rfl,rfl⟩
set_option maxHeartbeats 1000000 in
theorem spelled_temp (s:ByteArray) (w:World) (hs:s.size≤maxLen) :
  Calls Tryz.prog 123 #[.string s,.func (.func 124) #[] #[],.func (.func 124) #[] #[]] w fun e w'=>e=.returned (.bool (tempB s.data.toList))∧w'=w:=by
 unfold maxLen at hs
 by_cases he:s.size=0
 ·have hb:=spell_empty lodB lodB s he
  have hlt:(s.size:Int)<1:=by omega
  have HB:Hid (spell lodB lodB s.data.toList=false):=hb
  clear he hb
  go_enter Tryz.func123,Tryz.ntmps123
  go_wp2_with fail
  go_ret
  exact ⟨ret_bool HB.out.symm,rfl⟩
 have hpos:0<s.size:=by omega
 have hnl:¬ (s.size:Int)<1:=by omega
 by_cases hl:32<s.size
 ·have hb:=spell_long lodB lodB s hl
  have HB:Hid (spell lodB lodB s.data.toList=false):=hb
  have hgt:(32:Int)<(s.size:Int):=by omega
  clear he hb
  go_enter Tryz.func123,Tryz.ntmps123
  go_wp2_with fail
  go_ret
  exact ⟨ret_bool HB.out.symm,rfl⟩
 have hle:¬ (32:Int)<(s.size:Int):=by omega
 clear he
 cases hc:lodB (s[0].toNat:Int) with
 | false =>
  have HB:Hid (spell lodB lodB s.data.toList=false):=spell_first lodB lodB s hpos hc
  go_enter Tryz.func123,Tryz.ntmps123
  go_wp2_with (go_at_call 124;refine (lod_any _ _).mono ?_;rintro e w' ⟨rfl,rfl⟩)
  go_ret
  exact ⟨ret_bool HB.out.symm,rfl⟩
 | true =>
  have HT:Hid ((∀k,1≤k→(hk:k<s.size)→lodB (s[k].toNat:Int)=true)→spell lodB lodB s.data.toList=true):=spell_true lodB lodB s hpos (by omega) hc
  have HA:Hid (∀k,1≤k→(hk:k<s.size)→lodB (s[k].toNat:Int)=false→spell lodB lodB s.data.toList=false):=fun k h1 hk=>spell_at lodB lodB s k h1 hk
  go_enter Tryz.func123,Tryz.ntmps123
  go_wp2_with (go_at_call 124;refine (lod_any _ _).mono ?_;rintro e w' ⟨rfl,rfl⟩)
  go_loop [7] (fun i=>∃k:Nat,1≤k∧k≤s.size∧i=.int .i64 k∧(∀j,1≤j→j<k→(hj:j<s.size)→lodB (s[j].toNat:Int)=true)) (fun i=>s.size-(intOf i).toNat)
  case atStart=>exact ⟨1,by omega,by omega,rfl,fun j h1 h2=>by omega⟩
  case round =>
   obtain ⟨k,hk1,hk,rfl,hall⟩:=hrel
   have HL:Hid (∀j,1≤j→j<k→(hj:j<s.size)→lodB (s[j].toNat:Int)=true):=hall
   clear hall
   by_cases hlt:k<s.size
   ·cases hd:lodB (s[k].toNat:Int) with
    | false =>
     go_wp2_with (go_at_call 124;refine (lod_any _ _).mono ?_;rintro e w' ⟨rfl,rfl⟩)
     go_ret
     exact ⟨ret_bool (HA.out k hk1 hlt hd).symm,rfl⟩
    | true =>
     go_wp2_with (go_at_call 124;refine (lod_any _ _).mono ?_;rintro e w' ⟨rfl,rfl⟩)
     go_round
     case rel =>
      refine ⟨k+1,by omega,by omega,by go_num,fun j h1 h2 hj=>?_⟩
      by_cases hjk:j=k
      ·subst hjk;exact hd
      ·exact HL.out j h1 (by omega) hj
     case measure=>simp [intOf];omega
   ·go_wp2_with fail
    go_ret
    exact ⟨ret_bool (HT.out fun j h1 hj=>HL.out j h1 (by omega) hj).symm,rfl⟩
set_option maxHeartbeats 1000000 in
theorem temp_any (s:ByteArray) (w:World) (hs:s.size≤maxLen) :
  Calls Tryz.prog 80 #[.string s] w fun e w'=>e=.returned (.bool (tempB s.data.toList))∧w'=w:=by
 go_enter Tryz.func80,Tryz.ntmps80
 go_wp2_with (go_at_call 123;refine (spelled_temp _ _ hs).mono ?_;rintro e w' ⟨rfl,rfl⟩)
 go_ret
 exact ⟨rfl,rfl⟩
end
section
open Go.RowKit
def keyB (a b:ByteArray):Bool:=typeB a.data.toList&&idenB b.data.toList
theorem bcell {W w1:World} (hb:Below W.heap.size W w1):(∀b o,b<W.heap.size→w1.cell? ⟨b,o,none⟩=W.cell? ⟨b,o,none⟩)∧(∀b o,b<W.heap.size→w1.frozen? ⟨b,o,none⟩=W.frozen? ⟨b,o,none⟩) :=
 ⟨fun b o h=>hb.cell (p:=⟨b,o,none⟩) h,fun b o h=>hb.frozen (p:=⟨b,o,none⟩) h⟩
set_option maxHeartbeats 400000 in
theorem key_any (a b:ByteArray) (w:World) (ha:a.size≤maxLen) (hb:b.size≤maxLen) :
  Calls Tryz.prog 81 #[.agg #[.string a,.string b]] w fun e w'=>e=.returned (.bool (keyB a b))∧Below w.heap.size w w':=by
 have HK:Hid (keyB a b=(typeB a.data.toList&&idenB b.data.toList)):=rfl
 cases ht:typeB a.data.toList
 all_goals
  go_enter Tryz.func81,Tryz.ntmps81
  go_wp2_with (first|(go_at_call 82;refine (type_any _ _ ha).mono ?_;rintro e w' ⟨rfl,rfl⟩)|(go_at_call 125;refine (iden_any _ _ hb).mono ?_;rintro e w' ⟨rfl,rfl⟩))
  go_ret
  exact ⟨ret_bool (by rw [HK.out,ht];rfl),(Below.refl _ _).alloc (Nat.le_refl _) _⟩
set_option maxHeartbeats 400000 in
theorem nprint_yes (a b:ByteArray) (w:World) (ha:a.size≤maxLen) (hb:b.size≤maxLen) (ha32:a.size≤32) (hb32:b.size≤32) (hk:keyB a b=true) :
  Calls Tryz.prog 64 #[.agg #[.string a,.string b]] w fun e w'=>e=.returned (.tuple #[.string (a++⟨#[47]⟩++b),.int .i64 0])∧Below w.heap.size w w':=by
 go_enter Tryz.func64,Tryz.ntmps64
 go_wp2_with (go_at_call 81;refine (key_any _ _ _ ha hb).mono ?_;rintro e w1 ⟨rfl,hq⟩;obtain ⟨hc,hf⟩:=bcell hq)
 go_ret2
 refine ⟨?_,((Below.refl _ _).alloc (Nat.le_refl _) _).trans (hq.mono (by simp))⟩
 rfl
theorem typeB_len {l:List UInt8} (h:typeB l=true):l.length≤32:=by
 cases l with
 | nil=>simp
 | cons c r=>simp [typeB,spell] at h;simp;omega
theorem idenB_len {l:List UInt8} (h:idenB l=true):l.length≤32:=by
 cases l with
 | nil=>simp
 | cons c r=>simp [idenB,spell] at h;simp;omega
theorem idenB_empty:idenB []=false:=rfl
theorem keyB_empty (a:ByteArray):keyB a ⟨#[]⟩=false:=by
 unfold keyB
 rw [show (⟨#[]⟩:ByteArray).data.toList=[] from rfl,idenB_empty,Bool.and_false]
theorem ext_size (s:ByteArray) (i j:Nat) (h:s.size≤maxLen):(s.extract i j).size≤maxLen:=by
 have:(s.extract i j).size≤s.size:=by simp;omega
 omega
set_option maxHeartbeats 400000 in
theorem parse_bare (s:ByteArray) (w:World) (hs:s.size≤maxLen) (hix:Lib.indexByte s.data.toList 47=-1) :
  Calls Tryz.prog 94 #[.string s] w fun e w'=>e=.returned (.tuple #[.agg #[.string ⟨#[]⟩,.string ⟨#[]⟩],.int .i64 2])∧Below w.heap.size w w':=by
 have HX:Hid (Lib.indexByte s.data.toList 47=-1):=hix
 clear hix
 have hk:=keyB_empty s
 have h0:(⟨#[]⟩:ByteArray).size≤maxLen:=by decide
 go_enter Tryz.func94,Tryz.ntmps94
 go_wp2_with (first|(go_at_call 138;refine (cut_no _ _ _ HX.out).mono ?_;rintro e w' ⟨rfl,rfl⟩)|(go_at_call 81;refine (key_any _ _ _ hs h0).mono ?_;rintro e w1 ⟨rfl,hq⟩;obtain ⟨hc,hf⟩:=bcell hq))
 have c0:w1.cell? ⟨w.heap.size,0,none⟩=some (.string ⟨#[]⟩):=by rw [hc _ _ (by simp;omega)];simp [go_sem]
 have c1:w1.cell? ⟨w.heap.size,1,none⟩=some (.string ⟨#[]⟩):=by rw [hc _ _ (by simp;omega)];simp [go_sem]
 exact bodyPost_ret (v:=.tuple #[.agg #[.string ⟨#[]⟩,.string ⟨#[]⟩],.int .i64 2]) (by simp [results,Tryz.results94,go_sem,c0,c1]) rfl
  ⟨rfl,(((((Below.refl _ _).alloc (Nat.le_refl _) _).alloc (by simp) _).trans (hq.mono (by simp;omega))).setCell (by simp) _).setCell (by simp) _⟩
set_option maxHeartbeats 400000 in
theorem parse_no (s:ByteArray) (w:World) (hs:s.size≤maxLen) (i:Nat) (hix:Lib.indexByte s.data.toList 47=(i:Int)) (hi:i<s.size)
  (hk:keyB (s.extract 0 i) (s.extract (i+1) s.size)=false) :
  Calls Tryz.prog 94 #[.string s] w fun e w'=>e=.returned (.tuple #[.agg #[.string ⟨#[]⟩,.string ⟨#[]⟩],.int .i64 2])∧Below w.heap.size w w':=by
 have HX:Hid (Lib.indexByte s.data.toList 47=(i:Int)):=hix
 have h1:=ext_size s 0 i hs
 have h2:=ext_size s (i+1) s.size hs
 have HH:Hid (i<s.size∧s.size≤maxLen∧(s.extract 0 i).size≤maxLen∧(s.extract (i+1) s.size).size≤maxLen):=⟨hi,hs,h1,h2⟩
 clear hix hi hs h1 h2
 go_enter Tryz.func94,Tryz.ntmps94
 go_wp2_with (first|(go_at_call 138;refine (cut_yes _ _ _ i HX.out HH.out.1 HH.out.2.1).mono ?_;rintro e w' ⟨rfl,n,rfl⟩)|(go_at_call 81;refine (key_any _ _ _ HH.out.2.2.1 HH.out.2.2.2).mono ?_;rintro e w1 ⟨rfl,hq⟩;obtain ⟨hc,hf⟩:=bcell hq))
 have c0:w1.cell? ⟨w.heap.size,0,none⟩=some (.string ⟨#[]⟩):=by rw [hc _ _ (by simp;omega)];simp [go_sem]
 have c1:w1.cell? ⟨w.heap.size,1,none⟩=some (.string ⟨#[]⟩):=by rw [hc _ _ (by simp;omega)];simp [go_sem]
 exact bodyPost_ret (v:=.tuple #[.agg #[.string ⟨#[]⟩,.string ⟨#[]⟩],.int .i64 2]) (by simp [results,Tryz.results94,go_sem,c0,c1]) rfl
  ⟨rfl,((((_root_.Go.below_drewN ((Below.refl _ _).alloc (Nat.le_refl _) _) _).alloc (by simp) _).trans (hq.mono (by simp;omega))).setCell (by simp) _).setCell (by simp) _⟩
set_option maxHeartbeats 400000 in
theorem parse_yes (s:ByteArray) (w:World) (hs:s.size≤maxLen) (i:Nat) (hix:Lib.indexByte s.data.toList 47=(i:Int)) (hi:i<s.size)
  (hk:keyB (s.extract 0 i) (s.extract (i+1) s.size)=true) :
  Calls Tryz.prog 94 #[.string s] w fun e w'=>e=.returned (.tuple #[.agg #[.string (s.extract 0 i),.string (s.extract (i+1) s.size)],.int .i64 0])∧Below w.heap.size w w':=by
 have HX:Hid (Lib.indexByte s.data.toList 47=(i:Int)):=hix
 have h1:=ext_size s 0 i hs
 have h2:=ext_size s (i+1) s.size hs
 have HH:Hid (i<s.size∧s.size≤maxLen∧(s.extract 0 i).size≤maxLen∧(s.extract (i+1) s.size).size≤maxLen):=⟨hi,hs,h1,h2⟩
 clear hix hi hs h1 h2
 go_enter Tryz.func94,Tryz.ntmps94
 go_wp2_with (first|(go_at_call 138;refine (cut_yes _ _ _ i HX.out HH.out.1 HH.out.2.1).mono ?_;rintro e w' ⟨rfl,n,rfl⟩)|(go_at_call 81;refine (key_any _ _ _ HH.out.2.2.1 HH.out.2.2.2).mono ?_;rintro e w1 ⟨rfl,hq⟩;obtain ⟨hc,hf⟩:=bcell hq))
 have c0:w1.cell? ⟨w.heap.size,0,none⟩=some (.string ⟨#[]⟩):=by rw [hc _ _ (by simp;omega)];simp [go_sem]
 have c1:w1.cell? ⟨w.heap.size,1,none⟩=some (.string ⟨#[]⟩):=by rw [hc _ _ (by simp;omega)];simp [go_sem]
 exact bodyPost_ret (v:=.tuple #[.agg #[.string (s.extract 0 i),.string (s.extract (i+1) s.size)],.int .i64 0]) (by simp [results,Tryz.results94,go_sem,c0,c1]) rfl
  ⟨rfl,((((_root_.Go.below_drewN ((Below.refl _ _).alloc (Nat.le_refl _) _) _).alloc (by simp) _).trans (hq.mono (by simp;omega))).setCell (by simp) _).setCell (by simp) _⟩
end
section
open Go.RowKit Go.Lib
structure En where
 kind:Int
 temp:ByteArray
 ka:ByteArray
 kb:ByteArray
 iff:Int
 val:List Fld
 eds:List Ed
 pred:List Tm
 stamp:Int
 num:Int
def nameN:Nat→List UInt8
 | 1=>[99,114,101,97,116,101]
 | 2=>[101,110,115,117,114,101]
 | 3=>[117,112,100,97,116,101]
 | 4=>[112,97,116,99,104]
 | 5=>[100,101,108,101,116,101]
 | 6=>[114,101,97,100]
 | 7=>[110,117,109,98,101,114]
 | 8=>[115,101,97,114,99,104]
 | 9=>[104,105,115,116,111,114,121]
 | 10=>[115,105,110,99,101]
 | 11=>[97,116]
 | 12=>[102,105,110,100]
 | _=>[]
def nameK (k:Int):List UInt8:=nameN k.toNat
def typedK (k:Int):Bool:=decide (k=8)||decide (k=10)||decide (k=12)
def keyEn (e:En):Bool:=if typedK e.kind=true then decide (e.kb=⟨#[]⟩)&&typeB e.ka.data.toList else keyB e.ka e.kb
def mayEn (e:En):Bool :=
 decide (1≤e.kind∧e.kind≤12)&&keyEn e &&
 (decide (e.temp=⟨#[]⟩)||decide (e.kind≤2)&&tempB e.temp.data.toList) &&
 decide (e.iff≠0→3≤e.kind∧e.kind≤5∧0≤e.iff∧e.iff≤999999999) &&
 decide (e.num≠0→e.kind=7∧0≤e.num∧e.num≤999999999) &&
 decide (e.stamp≠0→9≤e.kind) &&
 decide (e.val≠[]→e.kind≤3)&&mayB e.val &&
 decide (e.eds≠[]↔e.kind=4)&&decide (mayE e.eds=0) &&
 (decide (mayM e.pred=0)&&decide (sortM e.pred=e.pred))&&decide (e.pred≠[]→e.kind=2∨e.kind=8∨e.kind=12)
def mayRq (l:List En):Bool:=decide (0<l.length)&&decide (l.length≤16)&&l.all mayEn
def bytesL (l:List ByteArray):List (List UInt8):=l.map (·.data.toList)
def keyWd (e:En):List UInt8:=e.ka.data.toList++(if e.kb=⟨#[]⟩ then [] else 47::e.kb.data.toList)
def tailW (e:En):List (List UInt8) :=
 if e.kind=2 then bytesL (wordsL e.val)++[63]::bytesL (e.pred.map wordM)
 else if e.kind=7 then [decL e.num.toNat]
 else if e.kind=9∨e.kind=10 then [decL e.stamp.toNat]
 else (if 0<e.iff then [[105,102],decL e.iff.toNat] else [])++(bytesL (wordsL e.val)++(bytesL (e.eds.map wordE)++bytesL (e.pred.map wordM)))
def wordsEn (e:En):List (List UInt8) :=
 nameK e.kind::((if e.temp=⟨#[]⟩ then [] else [64::e.temp.data.toList])++((if e.kind=11∨e.kind=12 then [decL e.stamp.toNat] else [])++keyWd e::tailW e))
def kindW (x:List UInt8):Nat:=if x=[] then 0 else ((List.range 13).find? fun k=>decide (nameN k=x)).getD 0
def keyR (x:List UInt8):Option (ByteArray × ByteArray) :=
 if Lib.indexByte x 47=-1 then none
 else
  let i:=(Lib.indexByte x 47).toNat
  if keyB ⟨(x.take i).toArray⟩ ⟨(x.drop (i+1)).toArray⟩=true then some (⟨(x.take i).toArray⟩,⟨(x.drop (i+1)).toArray⟩) else none
def valR (w:List (List UInt8)):Option (List Fld):=(fieldsW w).bind fun fs=>if codeF fs=0 then some (ansF fs) else none
def edsR (w:List (List UInt8)):Option (List Ed):=if codeL (editsW w)=0 then some (ansL (editsW w)) else none
def prdR (w:List (List UInt8)):Option (List Tm):=if codeW (termsW w)=0 then some (ansW (termsW w)) else none
def restR (e:En) (w:List (List UInt8)):Option En :=
 if e.kind=1∨e.kind=3 then (valR w).map fun v=>{ e with val:=v }
 else if e.kind=2 then
  if [63]∈w then (valR (w.takeWhile fun x=>decide (x≠[63]))).bind fun v=>(prdR ((w.dropWhile fun x=>decide (x≠[63])).drop 1)).map fun p=>{ e with val:=v,pred:=p }
  else none
 else if e.kind=4 then (edsR w).map fun d=>{ e with eds:=d }
 else if e.kind=5 then if w=[] then some e else none
 else (prdR w).map fun p=>{ e with pred:=p }
def smallR (x:Option (List UInt8)):Option Nat:=x.bind (numL 999999999)
def stampR (x:Option (List UInt8)):Option Nat:=x.bind (numL 18446744073709551615)
def tailR (e:En) (w:List (List UInt8)):Option En :=
 if e.kind=7 then if w.length=1 then (smallR w[0]?).map fun n=>{ e with num:=n } else none
 else if e.kind=9∨e.kind=10 then if w.length=1 then (stampR w[0]?).map fun n=>{ e with stamp:=n } else none
 else if e.kind=6∨e.kind=11 then if w=[] then some e else none
 else if 3≤e.kind∧e.kind≤5∧w[0]? = some [105,102] then (smallR w[1]?).bind fun n=>if n=0 then none else restR { e with iff:=n } (w.drop 2)
 else restR e w
def keyT (e:En):List (List UInt8)→Option En
 | []=>none
 | x::w =>
  if typedK e.kind=true then tailR { e with ka:=⟨x.toArray⟩ } w
  else (keyR x).bind fun k=>tailR { e with ka:=k.1,kb:=k.2 } w
def stampT (e:En) (w:List (List UInt8)):Option En :=
 if 10<e.kind then (stampR w[0]?).bind fun n=>keyT { e with stamp:=n } (w.drop 1) else keyT e w
def zeroEn (k:Int):En:=⟨k,⟨#[]⟩,⟨#[]⟩,⟨#[]⟩,0,[],[],[],0,0⟩
def tempT (e:En):List (List UInt8)→Option En
 | (64::t)::w=>if e.kind≤2 then if t=[] then none else stampT { e with temp:=⟨t.toArray⟩ } w else stampT e ((64::t)::w)
 | w=>stampT e w
def entryR:List (List UInt8)→Option En
 | []=>none
 | x::w=>if kindW x=0 then none else tempT (zeroEn (kindW x)) w
def entriesW:List En→List (List UInt8)
 | []=>[]
 | [e]=>wordsEn e
 | e::f::l=>wordsEn e++[59]::entriesW (f::l)
def cutSemi:List (List UInt8)→List (List (List UInt8))
 | []=>[[]]
 | x::w=>if x=[59] then []::cutSemi w else match cutSemi w with
  | []=>[[x]]
  | c::cs=>(x::c)::cs
def entriesR:List (List (List UInt8))→Option (List En)
 | []=>some []
 | c::cs=>(entryR c).bind fun e=>(entriesR cs).map (e :: ·)
def onceW:List UInt8:=[111,110,99,101]
def wordsRq (once:Bool) (l:List En):List (List UInt8):=(if once=true then [onceW] else [])++entriesW l
def readRq (w:List (List UInt8)):Option (Bool × List En) :=
 let once:=decide (w.head? = some onceW)
 (entriesR (cutSemi (if once=true then w.drop 1 else w))).bind fun l=>if mayRq l=true then some (once,l) else none
theorem kind_name:∀k:Nat,1≤k→k≤12→kindW (nameN k)=k:=by
 intro k h1 h2
 match k with
 | 1|2|3|4|5|6|7|8|9|10|11|12=>decide
 | 0=>omega
 | n+13=>omega
theorem cutSemi_no:∀w:List (List UInt8),(∀x∈w,x≠[59])→cutSemi w=[w]
 | [],_=>rfl
 | x::w,h=>by
  have ih:=cutSemi_no w fun y hy=>h y (by simp [hy])
  simp only [cutSemi,ih]
  rw [if_neg (h x (by simp))]
theorem cutSemi_at:∀(w v:List (List UInt8)),(∀x∈w,x≠[59])→cutSemi (w++[59]::v)=w::cutSemi v
 | [],v,_=>by simp only [List.nil_append,cutSemi];rfl
 | x::w,v,h=>by
  have ih:=cutSemi_at w v fun y hy=>h y (by simp [hy])
  simp only [List.cons_append,cutSemi,ih]
  rw [if_neg (h x (by simp))]
theorem cut_entries:∀l:List En,l≠[]→(∀e∈l,∀x∈wordsEn e,x≠[59])→cutSemi (entriesW l)=l.map wordsEn
 | [],h,_=>absurd rfl h
 | [e],_,h=>by
  simp only [entriesW,List.map_cons,List.map_nil]
  exact cutSemi_no _ (h e (by simp))
 | e::f::l,_,h=>by
  have ih:=cut_entries (f::l) (by simp) fun g hg=>h g (by simp [hg])
  simp only [entriesW]
  rw [cutSemi_at _ _ (h e (by simp)),ih]
  rfl
theorem read_entries (l:List En) (h:∀e∈l,entryR (wordsEn e)=some e):entriesR (l.map wordsEn)=some l:=by
 induction l with
 | nil=>rfl
 | cons e l ih =>
  simp only [List.map_cons,entriesR]
  rw [h e (by simp),ih fun g hg=>h g (by simp [hg])]
  rfl
end
section
open Go.RowKit Go.Lib
structure MayP (e:En):Prop where
 k1:1≤e.kind
 k2:e.kind≤12
 key:keyEn e=true
 tmp:e.temp=⟨#[]⟩∨e.kind≤2∧tempB e.temp.data.toList=true
 iff:e.iff≠0→3≤e.kind∧e.kind≤5∧0≤e.iff∧e.iff≤999999999
 num:e.num≠0→e.kind=7∧0≤e.num∧e.num≤999999999
 stamp:e.stamp≠0→9≤e.kind
 val:e.val≠[]→e.kind≤3
 mayv:mayB e.val=true
 eds:e.eds≠[]↔e.kind=4
 maye:mayE e.eds=0
 mayp:mayM e.pred=0
 srt:sortM e.pred=e.pred
 pred:e.pred≠[]→e.kind=2∨e.kind=8∨e.kind=12
theorem mayEn_parts {e:En} (h:mayEn e=true):MayP e:=by
 unfold mayEn at h
 simp only [Bool.and_eq_true,Bool.or_eq_true,decide_eq_true_eq] at h
 obtain ⟨⟨⟨⟨⟨⟨⟨⟨⟨⟨⟨⟨h1,h2⟩,h3⟩,h4⟩,h5⟩,h6⟩,h7⟩,h8⟩,h9⟩,h10⟩,h11⟩,⟨h12,h13⟩⟩,h14⟩:=h
 exact ⟨h1,h2,h3,h4,h5,h6,h7,h8,h9,h10,h11,h12,h13,h14⟩
theorem val_back {v:List Fld} (h:mayB v=true):valR (bytesL (wordsL v))=some v:=by
 unfold valR bytesL
 rw [words_back v fun f hf=>(fits_parts (may_fits h f hf)).2.2.2.2]
 simp only [Option.bind_some]
 rw [(norm_singles h).1,if_pos rfl,(norm_singles h).2]
theorem eds_back {p:List Ed} (h:mayE p=0):edsR (bytesL (p.map wordE))=some p:=by
 obtain ⟨_,h1,h2,_⟩:=mayE_zero h
 unfold edsR bytesL
 rw [edits_back p fun x hx=>⟨h1 x hx,h2 x hx⟩]
 have e:codeL (some p)=0:=h
 rw [if_pos e]
 show some (if mayE p=0 then p else [])=some p
 rw [if_pos h]
theorem prd_back {p:List Tm} (h:mayM p=0) (hs:sortM p=p):prdR (bytesL (p.map wordM))=some p:=by
 obtain ⟨_,h1,h2,_⟩:=mayM_zero h
 unfold prdR bytesL
 rw [terms_back p fun x hx=>⟨List.all_eq_true.1 h1 x hx,List.all_eq_true.1 h2 x hx⟩]
 have e:codeW (some p)=0:=h
 rw [if_pos e]
 show some (if mayM p=0 then sortM p else [])=some p
 rw [if_pos h,hs]
theorem field_pos {l:List UInt8} (h:fieldB l=true):0<l.length:=by
 cases l with
 | nil=>cases h
 | cons x r=>simp
theorem valW_is {v:List Fld} (h:mayB v=true):∀x∈bytesL (wordsL v),2≤x.length∧61∈x∧32 ∉ x:=by
 intro x hx
 obtain ⟨y,hy,rfl⟩:=List.mem_map.1 hx
 obtain ⟨f,hf,hy⟩:=List.mem_flatMap.1 hy
 obtain ⟨t,_,rfl⟩:=List.mem_map.1 hy
 have hn:=(fits_parts (may_fits h f hf)).2.2.2.2
 have:=field_pos hn
 refine ⟨?_,?_,noblank_mem (word_noblank hn)⟩
 ·simp only [word_data,List.length_append,List.length_cons,List.length_nil];omega
 ·simp [word_data]
theorem edsW_is {p:List Ed} (h:mayE p=0):∀x∈bytesL (p.map wordE),2≤x.length∧(61∈x∨126∈x)∧32 ∉ x:=by
 intro x hx
 obtain ⟨y,hy,rfl⟩:=List.mem_map.1 hx
 obtain ⟨z,hz,rfl⟩:=List.mem_map.1 hy
 have hn:=(mayE_zero h).2.1 z hz
 have:=field_pos hn
 have hs:=(sign_size z.1).2
 refine ⟨?_,?_,wordE_noblank hn⟩
 ·have e:(signS z.1).data.toList.length=(signS z.1).size:=by simp
  simp only [wordE_data,List.length_append]
  omega
 ·rw [wordE_data]
  have:61∈(signS z.1).data.toList∨126∈(signS z.1).data.toList:=by
   unfold signS
   repeat' split
   all_goals decide
  rcases this with h|h
  ·exact .inl (by simp [h])
  ·exact .inr (by simp [h])
theorem prdW_is {p:List Tm} (h:mayM p=0):∀x∈bytesL (p.map wordM),2≤x.length∧32 ∉ x:=by
 intro x hx
 obtain ⟨y,hy,rfl⟩:=List.mem_map.1 hx
 obtain ⟨z,hz,rfl⟩:=List.mem_map.1 hy
 have hn:=List.all_eq_true.1 (mayM_zero h).2.1 z hz
 have:=field_pos hn
 refine ⟨?_,wordM_noblank hn⟩
 simp only [wordM_data,List.length_append,List.length_cons];omega
theorem type_head {l:List UInt8} (h:typeB l=true):∃c r,l=c::r∧65≤c.toNat∧c.toNat≤90:=by
 cases l with
 | nil=>cases h
 | cons c r =>
  unfold typeB spell at h
  simp only [Bool.and_eq_true] at h
  have hb:=h.1.2
  unfold bigB at hb
  simp only [Bool.and_eq_true,decide_eq_true_eq] at hb
  exact ⟨c,r,rfl,by omega,by omega⟩
theorem type_no47 {l:List UInt8} (h:typeB l=true):(47:UInt8) ∉ l∧(32:UInt8) ∉ l:=by
 cases l with
 | nil=>cases h
 | cons c r =>
  unfold typeB spell at h
  simp only [Bool.and_eq_true,List.all_eq_true] at h
  have key:∀x:UInt8,x∈c::r→letB (x.toNat:Int)=true:=by
   intro x hx
   rcases List.mem_cons.1 hx with e|hx
   ·subst e;unfold letB;rw [h.1.2];rfl
   ·exact h.2 x hx
  exact ⟨fun hm=>absurd (key 47 hm) (by decide),fun hm=>absurd (key 32 hm) (by decide)⟩
theorem iden_is {l:List UInt8} (h:idenB l=true):l≠[]∧(32:UInt8) ∉ l:=by
 cases l with
 | nil=>cases h
 | cons c r =>
  unfold idenB spell at h
  simp only [Bool.and_eq_true,List.all_eq_true] at h
  have key:∀x:UInt8,x∈c::r→idB (x.toNat:Int)=true:=by
   intro x hx
   rcases List.mem_cons.1 hx with e|hx
   ·subst e;exact h.1.2
   ·exact h.2 x hx
  exact ⟨by simp,fun hm=>absurd (key 32 hm) (by decide)⟩
theorem temp_is {l:List UInt8} (h:tempB l=true):l≠[]∧(32:UInt8) ∉ l:=by
 cases l with
 | nil=>cases h
 | cons c r =>
  unfold tempB spell at h
  simp only [Bool.and_eq_true,List.all_eq_true] at h
  have key:∀x:UInt8,x∈c::r→lodB (x.toNat:Int)=true:=by
   intro x hx
   rcases List.mem_cons.1 hx with e|hx
   ·subst e;exact h.1.2
   ·exact h.2 x hx
  exact ⟨by simp,fun hm=>absurd (key 32 hm) (by decide)⟩
theorem ba_empty {b:ByteArray} (h:b.data.toList=[]):b=⟨#[]⟩:=by
 obtain ⟨⟨l⟩⟩:=b
 simp only at h
 subst h;rfl
theorem keyB_two {a b:ByteArray} (h:keyB a b=true):typeB a.data.toList=true∧idenB b.data.toList=true:=by
 unfold keyB at h;simpa only [Bool.and_eq_true] using h
theorem keyT_cons (f:En) (x:List UInt8) (w:List (List UInt8)) :
  keyT f (x::w)=if typedK f.kind=true then tailR { f with ka:=⟨x.toArray⟩ } w else (keyR x).bind fun k=>tailR { f with ka:=k.1,kb:=k.2 } w:=rfl
theorem key_back {e:En} (h:keyEn e=true) (w:List (List UInt8)) (f:En) (hk:f.kind=e.kind) (hb:f.kb=⟨#[]⟩) :
  keyT f (keyWd e::w)=tailR { f with ka:=e.ka,kb:=e.kb } w:=by
 unfold keyEn at h
 rw [keyT_cons,hk]
 unfold keyWd
 by_cases ht:typedK e.kind=true
 ·rw [if_pos ht] at h
  simp only [Bool.and_eq_true,decide_eq_true_eq] at h
  rw [if_pos ht,if_pos h.1,List.append_nil,ba_back,h.1,hb]
 ·rw [if_neg ht] at h
  obtain ⟨h1,h2⟩:=keyB_two h
  have hne:¬ e.kb=⟨#[]⟩:=fun q=>(iden_is h2).1 (by rw [q])
  have hx:=ix_here (b:=e.kb.data.toList) (type_no47 h1).1
  rw [if_neg ht,if_neg hne]
  have hr:keyR (e.ka.data.toList++47::e.kb.data.toList)=some (e.ka,e.kb):=by
   unfold keyR
   rw [hx,if_neg (by omega)]
   simp only [Int.toNat_natCast]
   rw [List.take_left' rfl,show e.ka.data.toList++47::e.kb.data.toList=(e.ka.data.toList++[47])++e.kb.data.toList by simp,List.drop_left' (by simp),ba_back,ba_back,if_pos h]
  rw [hr]
  rfl
theorem keyWd_is {e:En} (h:keyEn e=true):∃c r,keyWd e=c::r∧65≤c.toNat∧c.toNat≤90:=by
 have ht:typeB e.ka.data.toList=true:=by
  unfold keyEn at h
  split at h
  ·simp only [Bool.and_eq_true] at h;exact h.2
  ·exact (keyB_two h).1
 obtain ⟨c,r,h1,h2,h3⟩:=type_head ht
 unfold keyWd
 rw [h1]
 exact ⟨c,_,rfl,h2,h3⟩
theorem keyWd_noblank {e:En} (h:keyEn e=true):(32:UInt8) ∉ keyWd e:=by
 unfold keyEn at h
 unfold keyWd
 split at h
 ·simp only [Bool.and_eq_true,decide_eq_true_eq] at h
  rw [if_pos h.1,List.append_nil]
  exact (type_no47 h.2).2
 ·obtain ⟨h1,h2⟩:=keyB_two h
  rw [if_neg fun q=>(iden_is h2).1 (by rw [q])]
  intro hm
  rcases List.mem_append.1 hm with hm|hm
  ·exact (type_no47 h1).2 hm
  ·rcases List.mem_cons.1 hm with e|hm
   ·exact absurd e (by decide)
   ·exact (iden_is h2).2 hm
end
section
open Go.RowKit Go.Lib
theorem tailR_if (f:En) (n:Nat) (h1:3≤f.kind) (h2:f.kind≤5) (hn:0<n) (hm:n≤999999999) (w:List (List UInt8)) :
  tailR f ([105,102]::decL n::w)=restR { f with iff:=n } w:=by
 unfold tailR
 rw [if_neg (by omega),if_neg (by omega),if_neg (by omega),if_pos ⟨h1,h2,rfl⟩]
 show (smallR (some (decL n))).bind _=_
 unfold smallR
 simp only [Option.bind_some]
 rw [num_dec hm]
 simp only [Option.bind_some]
 rw [if_neg (by omega)]
 rfl
theorem tailR_no (f:En) (w:List (List UInt8)) (h6:f.kind≠6) (h7:f.kind≠7) (h9:f.kind≠9) (h10:f.kind≠10) (h11:f.kind≠11) (hw:3≤f.kind→f.kind≤5→w[0]?≠some [105,102]) :
  tailR f w=restR f w:=by
 unfold tailR
 rw [if_neg h7,if_neg (by omega),if_neg (by omega),if_neg (fun h=>hw h.1 h.2.1 h.2.2)]
theorem rest_val (f:En) {v:List Fld} (hv:mayB v=true) (hk:f.kind=1∨f.kind=3):restR f (bytesL (wordsL v))=some { f with val:=v }:=by
 unfold restR
 rw [if_pos hk,val_back hv]
 rfl
theorem rest_eds (f:En) {p:List Ed} (hp:mayE p=0) (hk:f.kind=4):restR f (bytesL (p.map wordE))=some { f with eds:=p }:=by
 unfold restR
 rw [if_neg (by omega),if_neg (by omega),if_pos hk,eds_back hp]
 rfl
theorem rest_del (f:En) (hk:f.kind=5):restR f []=some f:=by
 unfold restR
 rw [if_neg (by omega),if_neg (by omega),if_neg (by omega),if_pos hk,if_pos rfl]
theorem rest_prd (f:En) {p:List Tm} (hp:mayM p=0) (hs:sortM p=p) (hk:5<f.kind):restR f (bytesL (p.map wordM))=some { f with pred:=p }:=by
 unfold restR
 rw [if_neg (by omega),if_neg (by omega),if_neg (by omega),if_neg (by omega),prd_back hp hs]
 rfl
theorem while_to {a:List (List UInt8)} (b:List (List UInt8)) (h:∀x∈a,x≠[63]) :
  (a++[63]::b).takeWhile (fun x=>decide (x≠[63]))=a∧(a++[63]::b).dropWhile (fun x=>decide (x≠[63]))=[63]::b:=by
 induction a with
 | nil=>exact ⟨rfl,rfl⟩
 | cons x a ih =>
  have ih:=ih fun y hy=>h y (by simp [hy])
  have hx:decide (x≠[63])=true:=decide_eq_true (h x (by simp))
  simp only [List.cons_append,List.takeWhile_cons,List.dropWhile_cons,hx,if_true]
  exact ⟨by rw [ih.1],ih.2⟩
theorem rest_ens (f:En) {v:List Fld} {p:List Tm} (hv:mayB v=true) (hp:mayM p=0) (hs:sortM p=p) (hk:f.kind=2) :
  restR f (bytesL (wordsL v)++[63]::bytesL (p.map wordM))=some { f with val:=v,pred:=p }:=by
 have hq:=while_to (bytesL (p.map wordM)) fun x hx e=>by
  have:=(valW_is hv x hx).1
  rw [e] at this
  simp at this
 unfold restR
 rw [if_neg (by omega),if_pos hk,if_pos (by simp),hq.1,hq.2,val_back hv]
 simp only [Option.bind_some,List.drop_succ_cons,List.drop_zero]
 rw [prd_back hp hs]
 rfl
theorem tail_back {e:En} (h:MayP e) (hs0:0≤e.stamp) (hs1:e.stamp≤18446744073709551615) :
  tailR ⟨e.kind,e.temp,e.ka,e.kb,0,[],[],[],if e.kind=11∨e.kind=12 then e.stamp else 0,0⟩ (tailW e)=some e:=by
 obtain ⟨k,temp,ka,kb,iff,val,eds,pred,stamp,num⟩:=e
 obtain ⟨h1,h2,_,_,h5,h6,h7,h8,h9,h10,h11,h12,h13,h14⟩:=h
 simp only at h1 h2 h5 h6 h7 h8 h9 h10 h11 h12 h13 h14 hs0 hs1 ⊢
 have niff:¬ (3≤k∧k≤5)→iff=0:=fun q=>Classical.byContradiction fun p=>q ⟨(h5 p).1,(h5 p).2.1⟩
 have nnum:k≠7→num=0:=fun q=>Classical.byContradiction fun p=>q (h6 p).1
 have nst:¬ 9≤k→stamp=0:=fun q=>Classical.byContradiction fun p=>q (h7 p)
 have nval:¬ k≤3→val=[]:=fun q=>Classical.byContradiction fun p=>q (h8 p)
 have neds:k≠4→eds=[]:=fun q=>Classical.byContradiction fun p=>q (h10.1 p)
 have npred:¬ (k=2∨k=8∨k=12)→pred=[]:=fun q=>Classical.byContradiction fun p=>q (h14 p)
 have hiff:0≤iff∧iff≤999999999:=by
  by_cases q:iff=0
  ·omega
  ·exact ⟨(h5 q).2.2.1,(h5 q).2.2.2⟩
 have eiff:((iff.toNat:Nat):Int)=iff:=Int.toNat_of_nonneg hiff.1
 have est:((stamp.toNat:Nat):Int)=stamp:=Int.toNat_of_nonneg hs0
 unfold tailW
 simp only
 by_cases k2:k=2
 ·obtain rfl:=neds (by omega)
  obtain rfl:=niff (by omega)
  obtain rfl:=nnum (by omega)
  obtain rfl:=nst (by omega)
  rw [if_pos k2,if_neg (show ¬ (k=11∨k=12) by omega),tailR_no _ _ (by simp only;omega) (by simp only;omega) (by simp only;omega) (by simp only;omega) (by simp only;omega) (fun q=>by simp only at q;omega),rest_ens _ h9 h12 h13 k2]
 rw [if_neg k2]
 by_cases k7:k=7
 ·obtain rfl:=neds (by omega)
  obtain rfl:=niff (by omega)
  obtain rfl:=nval (by omega)
  obtain rfl:=npred (by omega)
  obtain rfl:=nst (by omega)
  have hn:0≤num∧num≤999999999:=by
   by_cases q:num=0
   ·omega
   ·exact (h6 q).2
  have en:((num.toNat:Nat):Int)=num:=Int.toNat_of_nonneg hn.1
  rw [if_pos k7,if_neg (show ¬ (k=11∨k=12) by omega)]
  unfold tailR
  rw [if_pos k7,if_pos (show [decL num.toNat].length=1 from rfl)]
  rw [List.getElem?_cons_zero]
  unfold smallR
  simp only [Option.bind_some]
  rw [num_dec (by omega)]
  exact congrArg (fun z:Int=>some (En.mk k temp ka kb 0 [] [] [] 0 z)) en
 rw [if_neg k7]
 obtain rfl:=nnum k7
 by_cases k9:k=9∨k=10
 ·obtain rfl:=neds (by omega)
  obtain rfl:=niff (by omega)
  obtain rfl:=nval (by omega)
  obtain rfl:=npred (by omega)
  rw [if_pos k9,if_neg (show ¬ (k=11∨k=12) by omega)]
  unfold tailR
  rw [if_neg k7,if_pos k9,if_pos (show [decL stamp.toNat].length=1 from rfl)]
  rw [List.getElem?_cons_zero]
  unfold stampR
  simp only [Option.bind_some]
  rw [num_dec (by omega)]
  exact congrArg (fun z:Int=>some (En.mk k temp ka kb 0 [] [] [] z 0)) est
 rw [if_neg k9]
 by_cases k6:k=6∨k=11
 ·obtain rfl:=neds (by omega)
  obtain rfl:=niff (by omega)
  obtain rfl:=nval (by omega)
  obtain rfl:=npred (by omega)
  rw [if_neg (show ¬ (0:Int)<0 by omega)]
  unfold tailR
  rw [if_neg k7,if_neg k9,if_pos k6,if_pos (show ([]++(bytesL (wordsL [])++(bytesL (List.map wordE [])++bytesL (List.map wordM []))):List (List UInt8))=[] from rfl)]
  by_cases q:k=6
  ·obtain rfl:=nst (by omega)
   rw [if_neg (show ¬ (k=11∨k=12) by omega)]
  ·rw [if_pos (show k=11∨k=12 by omega)]
 by_cases k8:5<k
 ·obtain rfl:=neds (by omega)
  obtain rfl:=niff (by omega)
  obtain rfl:=nval (by omega)
  rw [if_neg (show ¬ (0:Int)<0 by omega)]
  show tailR _ (bytesL (pred.map wordM))=_
  rw [tailR_no _ _ (by simp only;omega) (by simp only;omega) (by simp only;omega) (by simp only;omega) (by simp only;omega) (fun _ q=>by simp only at q;omega),rest_prd _ h12 h13 (by simp only;omega)]
  by_cases q:k=12
  ·rw [if_pos (show k=11∨k=12 by omega)]
  ·obtain rfl:=nst (by omega)
   rw [if_neg (show ¬ (k=11∨k=12) by omega)]
 obtain rfl:=npred (by omega)
 obtain rfl:=nst (by omega)
 rw [if_neg (show ¬ (k=11∨k=12) by omega)]
 have go:∀(f:En) (W:List (List UInt8)),f.kind=k→f.iff=0→(∀x∈W,x≠[105,102])→tailR f ((if 0<iff then [[105,102],decL iff.toNat] else [])++W)=restR { f with iff:=iff } W:=by
  intro f W hf h0 hW
  by_cases q:0<iff
  ·have:=h5 (by omega)
   rw [if_pos q]
   show tailR f ([105,102]::decL iff.toNat::W)=_
   rw [tailR_if f iff.toNat (by omega) (by omega) (by omega) (by omega),eiff]
  ·rw [if_neg q,List.nil_append,tailR_no f W (by omega) (by omega) (by omega) (by omega) (by omega) (fun _ _ p=>by
    cases W with
    | nil=>simp at p
    | cons x W=>exact hW x (by simp) (by simpa using p))]
   have:iff=f.iff:=by omega
   rw [this]
 by_cases k4:k=4
 ·obtain rfl:=nval (by omega)
  show tailR _ (_++(bytesL (eds.map wordE)++[]))=_
  rw [List.append_nil,go _ _ rfl rfl (fun x hx e=>by
   have:=(edsW_is h11 x hx).2.1
   rw [e] at this
   revert this;decide),rest_eds _ h11 k4]
 obtain rfl:=neds k4
 by_cases k5:k=5
 ·obtain rfl:=nval (by omega)
  show tailR _ (_++[])=_
  rw [go _ [] rfl rfl (by simp),rest_del _ k5]
 ·show tailR _ (_++(bytesL (wordsL val)++[]))=_
  rw [List.append_nil,go _ _ rfl rfl (fun x hx e=>by
   have:=(valW_is h9 x hx).2.1
   rw [e] at this
   revert this;decide),rest_val _ h9 (by simp only;omega)]
end
section
open Go.RowKit Go.Lib
theorem stampT_back (f:En) (k:Int) (st:Int) (hk:f.kind=k) (h12:k≤12) (h0:0≤st) (h1:st≤18446744073709551615) (W:List (List UInt8)) :
  stampT f ((if k=11∨k=12 then [decL st.toNat] else [])++W)=keyT { f with stamp:=if k=11∨k=12 then st else f.stamp } W:=by
 unfold stampT
 by_cases q:k=11∨k=12
 ·rw [if_pos q,if_pos q,if_pos (by omega)]
  have e0:([decL st.toNat]++W)[0]? = some (decL st.toNat):=by rw [List.singleton_append,List.getElem?_cons_zero]
  rw [e0]
  unfold stampR
  simp only [Option.bind_some]
  rw [num_dec (by omega)]
  have e1:((st.toNat:Nat):Int)=st:=Int.toNat_of_nonneg h0
  show keyT { f with stamp:=(st.toNat:Int) } W=_
  rw [e1]
 ·rw [if_neg q,if_neg q,if_neg (by omega),List.nil_append]
theorem entryR_cons (x:List UInt8) (w:List (List UInt8)):entryR (x::w)=if kindW x=0 then none else tempT (zeroEn (kindW x)) w:=rfl
theorem tempT_no (e:En) (w:List (List UInt8)) (h:e.kind≤2→∀t w',w≠(64::t)::w'):tempT e w=stampT e w:=by
 unfold tempT
 split
 ·next t w' =>
  rw [if_neg fun q=>h q t w' rfl]
 ·rfl
theorem entryR_plain (x:List UInt8) (w:List (List UInt8)) (hk:kindW x≠0) (h:kindW x≤2→∀t w',w≠(64::t)::w'):entryR (x::w)=stampT (zeroEn (kindW x)) w:=by
 rw [entryR_cons,if_neg hk,tempT_no _ _ fun q=>h (by simp only [zeroEn] at q;omega)]
theorem entryR_temp (x t:List UInt8) (w:List (List UInt8)) (hk:kindW x≠0) (h:kindW x≤2) (ht:t≠[]):entryR (x::(64::t)::w)=stampT { zeroEn (kindW x) with temp:=⟨t.toArray⟩ } w:=by
 rw [entryR_cons,if_neg hk]
 have:(zeroEn (kindW x)).kind≤2:=by simp only [zeroEn];omega
 show (if (zeroEn (kindW x)).kind≤2 then if t=[] then none else stampT { zeroEn (kindW x) with temp:=⟨t.toArray⟩ } w else _)=_
 rw [if_pos this,if_neg ht]
theorem entry_back {e:En} (h:MayP e) (hs0:0≤e.stamp) (hs1:e.stamp≤18446744073709551615):entryR (wordsEn e)=some e:=by
 have hn:kindW (nameK e.kind)=e.kind.toNat:=kind_name _ (by have:=h.k1;omega) (by have:=h.k2;omega)
 have hki:((e.kind.toNat:Nat):Int)=e.kind:=Int.toNat_of_nonneg (by have:=h.k1;omega)
 have h1:=h.k1
 have h2:=h.k2
 have fin:∀t:ByteArray,t=e.temp→stampT { zeroEn (kindW (nameK e.kind)) with temp:=t } ((if e.kind=11∨e.kind=12 then [decL e.stamp.toNat] else [])++keyWd e::tailW e)=some e:=by
  rintro t rfl
  rw [hn]
  unfold zeroEn
  simp only [hki]
  have q:=stampT_back ⟨e.kind,e.temp,⟨#[]⟩,⟨#[]⟩,0,[],[],[],0,0⟩ e.kind e.stamp rfl h2 hs0 hs1 (keyWd e::tailW e)
  exact q.trans ((key_back h.key (tailW e) ⟨e.kind,e.temp,⟨#[]⟩,⟨#[]⟩,0,[],[],[],if e.kind=11∨e.kind=12 then e.stamp else 0,0⟩ rfl rfl).trans (tail_back h hs0 hs1))
 unfold wordsEn
 by_cases ht:e.temp=⟨#[]⟩
 ·rw [if_pos ht,List.nil_append,entryR_plain _ _ (by rw [hn];omega)]
  ·exact fin _ ht.symm
  ·intro hk t w' q
   rw [hn] at hk
   rw [if_neg (show ¬ (e.kind=11∨e.kind=12) by omega),List.nil_append] at q
   obtain ⟨c,r,e1,e2,e3⟩:=keyWd_is h.key
   rw [e1] at q
   have q1:c=64:=by simp only [List.cons.injEq] at q;exact q.1.1
   rw [q1] at e2
   revert e2;decide
 ·have hte:=(h.tmp.resolve_left ht)
  rw [if_neg ht,List.singleton_append,entryR_temp _ _ _ (by rw [hn];omega) (by rw [hn];omega) (fun q=>ht (ba_empty q)),ba_back]
  exact fin _ rfl
theorem dec_is (n:Nat):∀x∈[decL n],x≠[59]∧32 ∉ x∧x≠[]:=by
 intro x hx
 rw [List.mem_singleton] at hx
 subst hx
 refine ⟨fun q=>?_,decL_noblank n,decL_ne n⟩
 have:=(decL_digit n 59 (by rw [q];simp)).2
 revert this;decide
theorem name_is (k:Int) (h1:1≤k) (h2:k≤12):nameK k≠[59]∧32 ∉ nameK k∧nameK k≠[]∧nameK k≠onceW:=by
 unfold nameK
 have:k=1∨k=2∨k=3∨k=4∨k=5∨k=6∨k=7∨k=8∨k=9∨k=10∨k=11∨k=12:=by omega
 rcases this with rfl|rfl|rfl|rfl|rfl|rfl|rfl|rfl|rfl|rfl|rfl|rfl<;>decide
theorem wordsEn_is {e:En} (h:MayP e):∀x∈wordsEn e,x≠[59]∧32 ∉ x∧x≠[]:=by
 have two:∀x:List UInt8,2≤x.length→x≠[59]∧x≠[]:=fun x hx=>⟨fun q=>by rw [q] at hx;simp at hx,fun q=>by rw [q] at hx;simp at hx⟩
 have hv:∀x∈bytesL (wordsL e.val),x≠[59]∧32 ∉ x∧x≠[]:=fun x hx=>⟨(two x (valW_is h.mayv x hx).1).1,(valW_is h.mayv x hx).2.2,(two x (valW_is h.mayv x hx).1).2⟩
 have hd:∀x∈bytesL (e.eds.map wordE),x≠[59]∧32 ∉ x∧x≠[]:=fun x hx=>⟨(two x (edsW_is h.maye x hx).1).1,(edsW_is h.maye x hx).2.2,(two x (edsW_is h.maye x hx).1).2⟩
 have hp:∀x∈bytesL (e.pred.map wordM),x≠[59]∧32 ∉ x∧x≠[]:=fun x hx=>⟨(two x (prdW_is h.mayp x hx).1).1,(prdW_is h.mayp x hx).2,(two x (prdW_is h.mayp x hx).1).2⟩
 have ht:∀x∈tailW e,x≠[59]∧32 ∉ x∧x≠[]:=by
  intro x hx
  unfold tailW at hx
  split at hx
  ·rcases List.mem_append.1 hx with hx|hx
   ·exact hv x hx
   ·rcases List.mem_cons.1 hx with rfl|hx
    ·decide
    ·exact hp x hx
  ·split at hx
   ·exact dec_is _ x hx
   ·split at hx
    ·exact dec_is _ x hx
    ·rcases List.mem_append.1 hx with hx|hx
     ·split at hx
      ·rcases List.mem_cons.1 hx with rfl|hx
       ·decide
       ·exact dec_is _ x hx
      ·cases hx
     ·rcases List.mem_append.1 hx with hx|hx
      ·exact hv x hx
      ·rcases List.mem_append.1 hx with hx|hx
       ·exact hd x hx
       ·exact hp x hx
 intro x hx
 unfold wordsEn at hx
 rcases List.mem_cons.1 hx with rfl|hx
 ·have:=name_is e.kind h.k1 h.k2
  exact ⟨this.1,this.2.1,this.2.2.1⟩
 rcases List.mem_append.1 hx with hx|hx
 ·split at hx
  ·cases hx
  ·next q =>
   rw [List.mem_singleton] at hx
   subst hx
   have hte:=(h.tmp.resolve_left q).2
   refine ⟨fun r=>absurd (List.cons.inj r).1 (by decide),fun r=>?_,by simp⟩
   rcases List.mem_cons.1 r with r|r
   ·exact absurd r (by decide)
   ·exact (temp_is hte).2 r
 rcases List.mem_append.1 hx with hx|hx
 ·split at hx
  ·exact dec_is _ x hx
  ·cases hx
 rcases List.mem_cons.1 hx with rfl|hx
 ·obtain ⟨c,r,e1,e2,e3⟩:=keyWd_is h.key
  refine ⟨fun q=>?_,keyWd_noblank h.key,by rw [e1];simp⟩
  rw [e1] at q
  have q1:=(List.cons.inj q).1
  rw [q1] at e2
  revert e2;decide
 ·exact ht x hx
theorem entriesW_is:∀{l:List En},(∀e∈l,MayP e)→∀x∈entriesW l,32 ∉ x∧x≠[]
 | [],_=>by intro x hx;cases hx
 | [e],h=>by
  intro x hx
  exact (wordsEn_is (h e (by simp)) x hx).2
 | e::f::l,h=>by
  intro x hx
  simp only [entriesW] at hx
  rcases List.mem_append.1 hx with hx|hx
  ·exact (wordsEn_is (h e (by simp)) x hx).2
  ·rcases List.mem_cons.1 hx with rfl|hx
   ·decide
   ·exact entriesW_is (fun g hg=>h g (by simp [hg])) x hx
theorem entriesW_head {l:List En} (h0:l≠[]) (h:∀e∈l,MayP e):(entriesW l).head?≠some onceW:=by
 have key:∀e:En,MayP e→∀W,(wordsEn e++W).head?≠some onceW:=by
  intro e he W q
  unfold wordsEn at q
  simp only [List.cons_append,List.head?_cons,Option.some.injEq] at q
  exact (name_is e.kind he.k1 he.k2).2.2.2 q
 match l,h0,h with
 | [e],_,h=>have:=key e (h e (by simp)) [];rwa [List.append_nil] at this
 | e::f::l,_,h=>exact key e (h e (by simp)) _
theorem rq_back {once:Bool} {l:List En} (h:mayRq l=true) (hs:∀e∈l,0≤e.stamp∧e.stamp≤18446744073709551615):readRq (wordsRq once l)=some (once,l):=by
 have hm:=h
 unfold mayRq at h
 simp only [Bool.and_eq_true,decide_eq_true_eq,List.all_eq_true] at h
 have hl:l≠[]:=fun q=>by rw [q] at h;simp at h
 have hp:∀e∈l,MayP e:=fun e he=>mayEn_parts (h.2 e he)
 have hcut:=cut_entries l hl fun e he x hx=>(wordsEn_is (hp e he) x hx).1
 have hre:=read_entries l fun e he=>entry_back (hp e he) (hs e he).1 (hs e he).2
 have hh:=entriesW_head hl hp
 unfold readRq wordsRq
 cases once with
 | true =>
  have q:decide (([onceW]++entriesW l).head? = some onceW)=true:=by simp
  simp only [if_true,q]
  rw [List.singleton_append,List.drop_succ_cons,List.drop_zero,hcut,hre]
  simp only [Option.bind_some,hm,if_true]
 | false =>
  have q:decide (([]++entriesW l).head? = some onceW)=false:=by rw [List.nil_append];exact decide_eq_false hh
  simp only [Bool.false_eq_true,if_false,q]
  rw [List.nil_append,hcut,hre]
  simp only [Option.bind_some,hm,if_true]
def lineRq (once:Bool) (l:List En):List UInt8:=Lib.join (wordsRq once l) [32]
theorem wordsRq_is {once:Bool} {l:List En} (h:mayRq l=true):wordsRq once l≠[]∧∀x∈wordsRq once l,32 ∉ x∧x≠[]:=by
 unfold mayRq at h
 simp only [Bool.and_eq_true,decide_eq_true_eq,List.all_eq_true] at h
 have hp:∀e∈l,MayP e:=fun e he=>mayEn_parts (h.2 e he)
 have hne:entriesW l≠[]:=by
  match l,h with
  | [],h=>simp at h
  | [e],_=>simp [entriesW,wordsEn]
  | e::f::l,_=>simp [entriesW]
 unfold wordsRq
 refine ⟨fun q=>hne (List.append_eq_nil_iff.1 q).2,fun x hx=>?_⟩
 rcases List.mem_append.1 hx with hx|hx
 ·split at hx
  ·rw [List.mem_singleton] at hx;subst hx;decide
  ·cases hx
 ·exact entriesW_is hp x hx
theorem line_words {once:Bool} {l:List En} (h:mayRq l=true):wordsAns (lineRq once l)=wordsRq once l:=by
 obtain ⟨h1,h2⟩:=wordsRq_is (once:=once) h
 unfold wordsAns lineRq
 have hs:=split_join (wordsRq once l) h1 fun x hx=>(h2 x hx).1
 rw [if_neg,hs]
 intro q
 rw [q] at hs
 have e:splitL ([]:List UInt8)=[[]]:=splitL_no rfl
 rw [e] at hs
 exact (h2 [] (by rw [←hs];simp)).2 rfl
end
section
open Go.RowKit Go.Lib
def shapeN:Nat→List Nat
 | 1=>[1,2,5]
 | 2=>[1,2,5,6,7]
 | 3=>[2,4,5]
 | 4=>[2,4,8]
 | 5=>[2,4]
 | 6=>[2]
 | 7=>[2,9]
 | 8=>[3,7]
 | 9=>[2,10]
 | 10=>[3,10]
 | 11=>[10,2]
 | 12=>[10,3,7]
 | _=>[]
def joinW (w:List (List UInt8)):List UInt8:=Lib.join w [32]
def spanP (w:List (List UInt8)) (p:Nat):Nat :=
 if p=1 then if w.head?.bind List.head? = some 64 then 1 else 0
 else if p=4 then if w.head? = some [105,102] then 2 else 0
 else if p=5 then (w.takeWhile fun x=>decide (x≠[63])).length
 else if p=7∨p=8 then w.length
 else 1
def untag (x:List UInt8):List UInt8:=if x.head? = some 64 then x.drop 1 else x
def unif (x:List UInt8):List UInt8:=if [105,102,32].isPrefixOf x then x.drop 3 else x
def condL (x:List UInt8):Option Nat:=if x=[] then some 0 else (numL 999999999 (unif x)).bind fun n=>if 0<n then some n else none
def readP (e:En) (p:Nat) (x:List UInt8):Option En :=
 if p=1 then if x=[]∨tempB (untag x)=true then some { e with temp:=⟨(untag x).toArray⟩ } else none
 else if p=2 then (keyR x).map fun k=>{ e with ka:=k.1,kb:=k.2 }
 else if p=3 then if typeB x=true then some { e with ka:=⟨x.toArray⟩ } else none
 else if p=4 then (condL x).map fun (n:Nat)=>{ e with iff:=(n:Int) }
 else if p=5 then (valR (wordsAns x)).map fun v=>{ e with val:=v }
 else if p=6 then if x=[63] then some e else none
 else if p=7 then (prdR (wordsAns x)).map fun v=>{ e with pred:=v }
 else if p=8 then (edsR (wordsAns x)).bind fun v=>if v=[] then none else some { e with eds:=v }
 else if p=9 then (numL 999999999 x).map fun (n:Nat)=>{ e with num:=(n:Int) }
 else (numL 18446744073709551615 x).map fun (n:Nat)=>{ e with stamp:=(n:Int) }
def partsR:List Nat→En→List (List UInt8)→Option (En × List (List UInt8))
 | [],e,w=>some (e,w)
 | p::ps,e,w=>if w.length<spanP w p then none else (readP e p (joinW (w.take (spanP w p)))).bind fun f=>partsR ps f (w.drop (spanP w p))
def entryO:List (List UInt8)→Option En
 | []=>none
 | x::w=>if kindW x=0 then none else (partsR (shapeN (kindW x)) (zeroEn (kindW x)) w).bind fun r=>if r.2=[] then some r.1 else none
theorem joinW_nil:joinW []=[]:=rfl
theorem joinW_one (x:List UInt8):joinW [x]=x:=by simp [joinW,Lib.join,List.intercalate]
theorem joinW_two (x y:List UInt8):joinW [x,y]=x++32::y:=by simp [joinW,Lib.join,List.intercalate]
theorem words_join {w:List (List UInt8)} (h:∀x∈w,x≠[]∧(32:UInt8) ∉ x):wordsAns (joinW w)=w:=by
 by_cases h0:w=[]
 ·subst h0;rfl
 ·have hs:=split_join w h0 fun x hx=>(h x hx).2
  unfold wordsAns joinW
  rw [if_neg,hs]
  intro q
  rw [q] at hs
  have e:splitL ([]:List UInt8)=[[]]:=splitL_no rfl
  rw [e] at hs
  exact (h [] (by rw [←hs];simp)).1 rfl
theorem val_may {w:List (List UInt8)} {v:List Fld} (h:valR w=some v):mayB v=true:=by
 unfold valR at h
 cases hf:fieldsW w with
 | none=>rw [hf] at h;cases h
 | some fs =>
  rw [hf] at h
  simp only [Option.bind_some] at h
  split at h
  ·rename_i hc
   simp only [Option.some.injEq] at h
   rw [←h,ansF,if_pos hc]
   exact (codeF_zero hc).2.2
  ·cases h
theorem eds_may {w:List (List UInt8)} {v:List Ed} (h:edsR w=some v):mayE v=0:=by
 unfold edsR at h
 split at h
 ·rename_i hc
  simp only [Option.some.injEq] at h
  cases ho:editsW w with
  | none=>rw [ho] at hc;exact absurd hc (by decide)
  | some p =>
   rw [ho] at hc h
   have hm:mayE p=0:=hc
   unfold ansL at h
   simp only at h
   rw [if_pos hm] at h
   rw [←h];exact hm
 ·cases h
theorem prd_may {w:List (List UInt8)} {v:List Tm} (h:prdR w=some v):mayM v=0∧sortM v=v:=by
 unfold prdR at h
 split at h
 ·rename_i hc
  simp only [Option.some.injEq] at h
  cases ho:termsW w with
  | none=>rw [ho] at hc;exact absurd hc (by decide)
  | some p =>
   rw [ho] at hc h
   have hm:mayM p=0:=hc
   obtain ⟨h1,h2⟩:=ansM_again hm
   have hv:ansM p=v:=h
   rw [hv] at h1 h2
   refine ⟨h1,?_⟩
   unfold ansM at h2
   rwa [if_pos h1] at h2
 ·cases h
theorem keyR_key {x:List UInt8} {k:ByteArray × ByteArray} (h:keyR x=some k):keyB k.1 k.2=true:=by
 unfold keyR at h
 split at h
 ·cases h
 ·simp only at h
  split at h
  ·rename_i hk
   simp only [Option.some.injEq] at h
   rw [←h];exact hk
  ·cases h
theorem fieldsW_ask:∀{w:List (List UInt8)},[63]∈w→fieldsW w=none
 | [],h=>by cases h
 | l::r,h=>by
  rw [fieldsW]
  cases hw:wordO l with
  | none=>rfl
  | some nt =>
   obtain ⟨n,t⟩:=nt
   simp only
   rcases List.mem_cons.1 h with h|h
   ·rw [←h] at hw
    have hz:wordO [63]=none:=by kernel_rfl
    rw [hz] at hw;cases hw
   ·rw [fieldsW_ask h];rfl
theorem valR_no {w:List (List UInt8)} (h:[63]∈w):valR w=none:=by
 unfold valR;rw [fieldsW_ask h];rfl
theorem while_all {w:List (List UInt8)} (h:[63] ∉ w):w.takeWhile (fun x=>decide (x≠[63]))=w:=by
 induction w with
 | nil=>rfl
 | cons x w ih =>
  have hx:x≠[63]:=fun q=>h (by rw [q];simp)
  rw [List.takeWhile_cons,if_pos (by simpa using hx),ih fun q=>h (by simp [q])]
theorem while_len_all {w:List (List UInt8)}:(w.takeWhile fun x=>decide (x≠[63])).length≤w.length:=(List.takeWhile_sublist _).length_le
theorem take_while (w:List (List UInt8)):w.take (w.takeWhile fun x=>decide (x≠[63])).length=w.takeWhile fun x=>decide (x≠[63]):=by
 induction w with
 | nil=>rfl
 | cons x w ih =>
  rw [List.takeWhile_cons]
  split
  ·rw [List.length_cons,List.take_succ_cons,ih]
  ·rfl
theorem drop_while (w:List (List UInt8)):w.drop (w.takeWhile fun x=>decide (x≠[63])).length=w.dropWhile fun x=>decide (x≠[63]):=by
 induction w with
 | nil=>rfl
 | cons x w ih =>
  rw [List.takeWhile_cons,List.dropWhile_cons]
  split
  ·rw [List.length_cons,List.drop_succ_cons,ih]
  ·rfl
theorem drop_while_at:∀{w:List (List UInt8)},[63]∈w→∃r,w.dropWhile (fun x=>decide (x≠[63]))=[63]::r
 | [],h=>by cases h
 | x::w,h=>by
  rw [List.dropWhile_cons]
  by_cases hx:x=[63]
  ·rw [if_neg (by simp [hx]),hx];exact ⟨w,rfl⟩
  ·rw [if_pos (by simp [hx])]
   rcases List.mem_cons.1 h with q|q
   ·exact absurd q.symm hx
   ·exact drop_while_at q
theorem drop_while_no {w:List (List UInt8)} (h:[63] ∉ w):w.dropWhile (fun x=>decide (x≠[63]))=[]:=by
 rw [←drop_while,while_all h,List.drop_length]
end
section
open Go.RowKit Go.Lib
def nameS (k:Int):ByteArray:=⟨(nameK k).toArray⟩
theorem rname16_no (k:Int) (w:World) (h:k<1∨12<k) :
  Calls Tryz.prog 41 #[.int .i64 k] w fun e w'=>e=.returned (.string ⟨#[]⟩)∧Below w.heap.size w w':=by
 have HB:=hid (Below.refl w.heap.size w)
 go_enter Tryz.func41,Tryz.ntmps41
 rcases h with h|h
 ·go_wp2_with fail
  go_ret
  exact ⟨rfl,(Below.refl _ _).alloc (Nat.le_refl _) _⟩
 ·have h1:¬ k<1:=by omega
  go_wp2_with fail
  go_ret
  exact ⟨rfl,(Below.refl _ _).alloc (Nat.le_refl _) _⟩
set_option maxHeartbeats 4000000 in
theorem rname16_yes (k:Int) (w:World) (h1:1≤k) (h2:k≤12) :
  Calls Tryz.prog 41 #[.int .i64 k] w fun e w'=>e=.returned (.string (nameS k))∧Below w.heap.size w w':=by
 have:k=1∨k=2∨k=3∨k=4∨k=5∨k=6∨k=7∨k=8∨k=9∨k=10∨k=11∨k=12:=by omega
 rcases this with rfl|rfl|rfl|rfl|rfl|rfl|rfl|rfl|rfl|rfl|rfl|rfl
 all_goals
  go_enter Tryz.func41,Tryz.ntmps41
  go_wp2_with fail
  go_ret
  exact ⟨rfl,(Below.refl _ _).alloc (Nat.le_refl _) _⟩
def wth16 (s x:ByteArray):ByteArray:=if x.data.toList=[] then s else s++⟨#[32]⟩++x
theorem rwith16_any (s x:ByteArray) (w:World) (hs:s.size≤100000000) (hx:x.size≤100000000) :
  Calls Tryz.prog 46 #[.string s,.string x] w fun e w'=>e=.returned (.string (wth16 s x))∧w'=w:=by
 by_cases h:x.data.toList=[]
 ·have HW:Hid (wth16 s x=s):=if_pos h
  have he:=ba_empty h
  subst he
  clear h
  go_enter Tryz.func46,Tryz.ntmps46
  go_wp2_with fail
  go_ret
  rw [HW.out]
  exact ⟨rfl,rfl⟩
 ·have HW:Hid (wth16 s x=s++⟨#[32]⟩++x):=if_neg h
  have hne:x.toList.isEmpty=false:=by
   rw [Lib.toList_data]
   cases hq:x.data.toList with
   | nil=>exact absurd hq h
   | cons _ _=>rfl
  clear h
  go_enter Tryz.func46,Tryz.ntmps46
  go_wp2_with fail
  go_ret
  rw [HW.out]
  exact ⟨rfl,rfl⟩
end
section
open Go.RowKit Go.Lib
def partsC (k:Nat):Array Value:=((shapeN k).map fun (p:Nat)=>Value.int .i64 (p:Int)).toArray
set_option maxHeartbeats 4000000 in
theorem shape_yes (k:Nat) (w:World) (h1:1≤k) (h2:k≤12) :
  Calls Tryz.prog 35 #[.int .i64 k] w fun e w'=>e=.returned (.tuple #[.string ⟨(nameN k).toArray⟩,.slice (some ⟨w.heap.size,0,none⟩) (shapeN k).length (shapeN k).length])∧w'=w.alloc (.cells (partsC k) 73):=by
 have:k=1∨k=2∨k=3∨k=4∨k=5∨k=6∨k=7∨k=8∨k=9∨k=10∨k=11∨k=12:=by omega
 rcases this with rfl|rfl|rfl|rfl|rfl|rfl|rfl|rfl|rfl|rfl|rfl|rfl
 all_goals
  go_enter Tryz.func35,Tryz.ntmps35
  go_wp2_with fail
  go_ret2
  exact ⟨rfl,rfl⟩
set_option maxHeartbeats 4000000 in
theorem shape_no (k:Int) (w:World) (h:k<1∨12<k) :
  Calls Tryz.prog 35 #[.int .i64 k] w fun e w'=>e=.returned (.tuple #[.string ⟨#[]⟩,.slice none 0 0])∧w'=w:=by
 have n1:(k==1)=false:=beq_eq_false_iff_ne.2 (by omega)
 have n2:(k==2)=false:=beq_eq_false_iff_ne.2 (by omega)
 have n3:(k==3)=false:=beq_eq_false_iff_ne.2 (by omega)
 have n4:(k==4)=false:=beq_eq_false_iff_ne.2 (by omega)
 have n5:(k==5)=false:=beq_eq_false_iff_ne.2 (by omega)
 have n6:(k==6)=false:=beq_eq_false_iff_ne.2 (by omega)
 have n7:(k==7)=false:=beq_eq_false_iff_ne.2 (by omega)
 have n8:(k==8)=false:=beq_eq_false_iff_ne.2 (by omega)
 have n9:(k==9)=false:=beq_eq_false_iff_ne.2 (by omega)
 have n10:(k==10)=false:=beq_eq_false_iff_ne.2 (by omega)
 have n11:(k==11)=false:=beq_eq_false_iff_ne.2 (by omega)
 have n12:(k==12)=false:=beq_eq_false_iff_ne.2 (by omega)
 clear h
 go_enter Tryz.func35,Tryz.ntmps35
 go_wp2_with fail
 go_ret2
 exact ⟨rfl,rfl⟩
theorem kindW_at {s:ByteArray} {k:Nat} (h1:1≤k) (h2:k≤12) (h:nameN k=s.data.toList):kindW s.data.toList=k:=by
 rw [←h];exact kind_name k h1 h2
theorem kindW_no {l:List UInt8} (h:∀k,1≤k→k≤12→nameN k≠l):kindW l=0:=by
 unfold kindW
 split
 ·rfl
 ·rename_i h0
  cases hf:(List.range 13).find? fun k=>decide (nameN k=l) with
  | none=>rfl
  | some k =>
   exfalso
   have hm:=List.mem_of_find?_eq_some hf
   have hp:=List.find?_some hf
   simp only [decide_eq_true_eq] at hp
   simp only [List.mem_range] at hm
   by_cases hk:k=0
   ·subst hk;exact h0 hp.symm
   ·exact h k (by omega) (by omega) hp
theorem kindW_le (l:List UInt8):kindW l≤12:=by
 unfold kindW
 split
 ·omega
 ·cases hf:(List.range 13).find? fun k=>decide (nameN k=l) with
  | none=>simp
  | some k =>
   have hm:=List.mem_of_find?_eq_some hf
   simp only [List.mem_range] at hm
   simp only [Option.getD_some];omega
set_option maxHeartbeats 2000000 in
theorem kind_any (s:ByteArray) (w:World) :
  Calls Tryz.prog 53 #[.string s] w fun e w'=>e=.returned (.int .i64 (kindW s.data.toList))∧Below w.heap.size w w':=by
 have HB0:=hid (Below.refl w.heap.size w)
 have HN0:Hid (∀j:Nat,1≤j→j<1→nameN j≠s.data.toList):=hid fun j h1 h2=>by omega
 go_enter Tryz.func53,Tryz.ntmps53
 go_wp2_with fail
 go_loopg [3] 14 (fun g v ws=>∃k:Nat,v=.int .i64 k∧1≤k∧k≤13∧13-k≤g∧Hid (∀j:Nat,1≤j→j<k→nameN j≠s.data.toList)∧Hid (Below w.heap.size w ws))
 case atStart=>exact ⟨1,rfl,by omega,by omega,by omega,HN0,HB0⟩
 case round =>
  obtain ⟨k,rfl,hk1,hk2,hkg,HN,HB⟩:=hrel
  by_cases hlt:k≤12
  ·have hz:(k:Int)≤12:=by omega
   by_cases he:nameN k=s.data.toList
   ·have hq:(nameN k==s.toList)=true:=by rw [he,toList_data];exact beq_self_eq_true _
    have HE:=hid he
    clear he
    go_wp2_with (go_at_call 35;refine (shape_yes k _ hk1 hlt).mono ?_;rintro e w1 ⟨rfl,rfl⟩)
    go_ret
    exact ⟨by rw [kindW_at hk1 hlt HE.out];rfl,HB.out.alloc HB.out.size _⟩
   ·have hq:(nameN k==s.toList)=false:=beq_eq_false_iff_ne.2 fun q=>he (by rw [q,toList_data])
    have HE:=hid he
    clear he
    go_wp2_with (go_at_call 35;refine (shape_yes k _ hk1 hlt).mono ?_;rintro e w1 ⟨rfl,rfl⟩)
    go_roundg (13-(k+1))
    case measure=>omega
    refine ⟨k+1,by go_num,by omega,by omega,by omega,hid fun j h1 h2=>?_,hid (HB.out.alloc HB.out.size _)⟩
    by_cases hj:j=k
    ·rw [hj];exact HE.out
    ·exact HN.out j h1 (by omega)
  ·have hz:¬ (k:Int)≤12:=by omega
   go_wp2_with fail
   go_ret
   exact ⟨by rw [kindW_no fun j h1 h2=>HN.out j h1 (by omega)];rfl,HB.out⟩
end
section
open Go.RowKit
structure Ex where
 kind:Int
 temp:ByteArray
 ka:ByteArray
 kb:ByteArray
 iff:Int
 vp:Option Addr
 vc:Nat
 vo:List Fx
 ep:Option Addr
 ec:Nat
 eo:List Ed
 pp:Option Addr
 pc:Nat
 po:List Tm
 stamp:Int
 num:Int
def Ex.vs (x:Ex):Value:=.slice x.vp x.vo.length x.vc
def Ex.es (x:Ex):Value:=.slice x.ep x.eo.length x.ec
def Ex.ps (x:Ex):Value:=.slice x.pp x.po.length x.pc
def encEx (x:Ex):List Value:=[.int .i64 x.kind,.string x.temp,.string x.ka,.string x.kb,.int .i64 x.iff,x.vs,x.es,x.ps,.int .u64 x.stamp,.int .i64 x.num]
def aggEx (x:Ex):Value:=.agg (encEx x).toArray
def Ex.en (x:Ex):En:=⟨x.kind,x.temp,x.ka,x.kb,x.iff,x.vo.map Fx.fld,x.eo,x.po,x.stamp,x.num⟩
def KEx:Kind Ex:=⟨41,10,encEx,fun _=>rfl,by decide,fun x u hu=>by simp [encEx,Ex.vs,Ex.es,Ex.ps] at hu;rcases hu with rfl|rfl|rfl|rfl|rfl|rfl|rfl|rfl|rfl|rfl<;>rfl⟩
structure ExIn (W:World) (x:Ex):Prop where
 val:IsXs W x.vs x.vo
 fit:FitX x.vo
 eds:KE.Is W x.es x.eo
 efit:FitE x.eo
 prd:KM.Is W x.ps x.po
 pfit:FitM x.po
 temp:x.temp.size≤maxLen
 ka:x.ka.size≤maxLen
 kb:x.kb.size≤maxLen
 k0:-9223372036854775808≤x.kind
 k1:x.kind≤9223372036854775807
 i0:-9223372036854775808≤x.iff
 i1:x.iff≤9223372036854775807
 t0:0≤x.stamp
 t1:x.stamp≤18446744073709551615
 n0:-9223372036854775808≤x.num
 n1:x.num≤9223372036854775807
theorem ExIn.on {W W':World} {x:Ex} (h:ExIn W x) (hb:Below W.heap.size W W'):ExIn W' x :=
 ⟨h.val.kept hb,h.fit,Kind.is_kept h.eds hb,h.efit,Kind.is_kept h.prd hb,h.pfit,h.temp,h.ka,h.kb,h.k0,h.k1,h.i0,h.i1,h.t0,h.t1,h.n0,h.n1⟩
end
section
open Go.RowKit
theorem own_same {w w':World} {n0:Nat} {e:TypeId} {size:Nat} {v:Value} {n:Nat} {xs:List Value} (h:w.ownsRow n0 e size v n xs) (hk:∀k,v.ownBlock=some k→w'.heap[k]? = w.heap[k]?):w'.ownsRow n0 e size v n xs:=by
 refine ⟨h.1,?_⟩
 rcases h.2 with h2|⟨g,cap,cur,hv,h3,h4,h5⟩
 ·exact Or.inl h2
 ·exact Or.inr ⟨g,cap,cur,hv,h3,(hk g (by rw [hv];rfl)).trans h4,h5⟩
structure Fr (P:Nat→Prop) (w W:World):Prop where
 os:W.os=w.os
 tape:W.tape=w.tape
 output:W.output=w.output
 size:w.heap.size≤W.heap.size
 block:∀k,k<w.heap.size→¬ P k→W.heap[k]? = w.heap[k]?
theorem Fr.refl (P:Nat→Prop) (w:World):Fr P w w:=⟨rfl,rfl,rfl,Nat.le_refl _,fun _ _ _=>rfl⟩
theorem Fr.then {P Q:Nat→Prop} {a b c:World} (h:Fr P a b) (k:Fr Q b c) (hQ:∀k,Q k→P k∨a.heap.size≤k):Fr P a c :=
 ⟨k.os.trans h.os,k.tape.trans h.tape,k.output.trans h.output,Nat.le_trans h.size k.size,fun j hj hn=>(k.block j (Nat.lt_of_lt_of_le hj h.size) fun hq=>by
  rcases hQ j hq with h1|h1
  ·exact hn h1
  ·omega).trans (h.block j hj hn)⟩
theorem Fr.of_below {P:Nat→Prop} {w W:World} (h:Below w.heap.size w W):Fr P w W:=⟨h.os,h.tape,h.output,h.size,fun k hk _=>h.block k hk⟩
theorem Fr.below {P:Nat→Prop} {w W:World} (h:Fr P w W) {N:Nat} (hN:N≤w.heap.size) (hP:∀k,P k→N≤k):Below N w W :=
 ⟨h.os,h.tape,h.output,h.size,fun k hk=>h.block k (by omega) fun hp=>by have:=hP k hp;omega⟩
theorem Fr.row {P:Nat→Prop} {w W:World} {n0:Nat} {e:TypeId} {size:Nat} {v:Value} {n:Nat} {xs:List Value} (f:Fr P w W) (h:w.ownsRow n0 e size v n xs) (hP:∀k,v.ownBlock=some k→¬ P k):W.ownsRow n0 e size v n xs :=
 own_same h fun k hk=>f.block k (World.ownsRow.lt h k hk).2 (hP k hk)
theorem Fr.cell {P:Nat→Prop} {w W:World} {a:Addr} {v:Value} (f:Fr P w W) (h:w.cell? a=some v) (hP:¬ P a.block):W.cell? a=some v :=
 (World.cell?_of_block (f.block a.block (cell_block h) hP)).trans h
end
section
open Go.RowKit Go.Sort Go.Lib
theorem Kind.cells_set {α:Type} (K:Kind α) (d:List α) (i:Nat) (h:i<d.length) (x:α) (j:Nat):(K.cells (d.set i x))[j]? = if i * K.k≤j∧j<i * K.k+K.k then (K.enc x)[j-i * K.k]? else (K.cells d)[j]?:=by
 by_cases hj:j<d.length * K.k
 ·have hkp:=K.pos
  have hq:j / K.k<d.length:=(Nat.div_lt_iff_lt_mul hkp).2 hj
  have hm:j % K.k<K.k:=Nat.mod_lt _ hkp
  have e:j / K.k * K.k+j % K.k=j:=by rw [Nat.mul_comm];exact Nat.div_add_mod j K.k
  have h1:=K.cells_get (d.set i x) (j / K.k) (by simpa using hq) (j % K.k) hm
  have h2:=K.cells_get d (j / K.k) hq (j % K.k) hm
  rw [e] at h1 h2
  rw [h1,h2,List.getElem_set]
  by_cases hi:i=j / K.k
  ·rw [if_pos hi,if_pos (by rw [hi];omega),hi]
   congr 1
   omega
  ·rw [if_neg hi,if_neg]
   intro hh
   exact hi ((blk_iff K.k i j hkp).1 hh).symm
 ·have h3:(i+1) * K.k≤d.length * K.k:=Nat.mul_le_mul_right _ h
  rw [Nat.add_mul,Nat.one_mul] at h3
  rw [if_neg (by omega),List.getElem?_eq_none (by rw [K.cells_len,List.length_set];omega),List.getElem?_eq_none (by rw [K.cells_len];omega)]
end
section
open Go.RowKit Go.Sort Go.Lib
theorem km_set (d:List Tm) (i:Nat) (h:i<d.length) (x:Tm):KM.cells (d.set i x)=(((KM.cells d).set (i * 3) (.string x.1)).set (i * 3+1) (.int .i64 x.2.1)).set (i * 3+2) (.string x.2.2):=by
 apply List.ext_getElem?
 intro j
 rw [KM.cells_set d i h x j]
 have hl:(KM.cells d).length=d.length * 3:=KM.cells_len d
 have hk:KM.k=3:=rfl
 rw [hk]
 simp only [List.getElem?_set,List.length_set,hl]
 by_cases h0:j=i * 3
 ·subst h0
  simp [KM,encM]
  omega
 ·by_cases h1:j=i * 3+1
  ·subst h1
   simp [KM,encM]
   omega
  ·by_cases h2:j=i * 3+2
   ·subst h2
    simp [KM,encM]
    omega
   ·rw [if_neg (by omega),if_neg (fun e=>h2 e.symm),if_neg (fun e=>h1 e.symm),if_neg (fun e=>h0 e.symm)]
theorem own_put {n0 g n cap:Nat} {w:World} {d:List Tm} (h:KM.Own n0 w (.slice (some ⟨g,0,none⟩) n cap) d) (hn:d.length=n) (i:Nat) (hi:i<d.length) (x:Tm) :
  KM.Own n0 (((w.setCell ⟨g,i * 3,none⟩ (.string x.1)).setCell ⟨g,i * 3+1,none⟩ (.int .i64 x.2.1)).setCell ⟨g,i * 3+2,none⟩ (.string x.2.2)) (.slice (some ⟨g,0,none⟩) n cap) (d.set i x):=by
 subst hn
 have h1:=World.ownsRow.stored h (i * 3) (.string x.1)
 have h2:=World.ownsRow.stored h1.1 (i * 3+1) (.int .i64 x.2.1)
 have h3:=World.ownsRow.stored h2.1 (i * 3+2) (.string x.2.2)
 unfold Kind.Own
 rw [km_set d i hi x,List.length_set]
 exact h3.1
theorem km_take (d:List Tm) (k:Nat):KM.cells (d.take k)=(KM.cells d).take (k * 3):=by
 apply List.ext_getElem?
 intro j
 by_cases hk:k≤d.length
 ·rw [List.getElem?_take]
  by_cases hj:j<k * 3
  ·rw [if_pos hj]
   have hq:j / 3<k:=by omega
   have hm:j % 3<3:=by omega
   have e:j / 3 * 3+j % 3=j:=by omega
   have h1:=KM.cells_get (d.take k) (j / 3) (by rw [List.length_take];omega) (j % 3) hm
   have h2:=KM.cells_get d (j / 3) (by omega) (j % 3) hm
   have hk3:KM.k=3:=rfl
   rw [hk3,e] at h1 h2
   rw [h1,h2,List.getElem_take]
  ·rw [if_neg hj,List.getElem?_eq_none]
   have:=KM.cells_len (d.take k)
   have hk3:KM.k=3:=rfl
   rw [this,hk3,List.length_take]
   omega
 ·rw [List.take_of_length_le (by omega),List.take_of_length_le (by rw [KM.cells_len];show d.length * 3≤_;omega)]
theorem own_cut {n0 g n cap:Nat} {w:World} {d:List Tm} (h:KM.Own n0 w (.slice (some ⟨g,0,none⟩) n cap) d) (k:Nat) (hk:k≤d.length) :
  KM.Own n0 w (.slice (some ⟨g,0,none⟩) k cap) (d.take k):=by
 have hl:(d.take k).length=k:=by rw [List.length_take];omega
 rcases h.2 with ⟨hv,_⟩|⟨g',cap',cur,hv,h1,h2,h3,h4,h5,h6⟩
 ·cases hv
 ·injection hv with e1 e2 e3
  injection e1 with e1
  injection e1 with e1 _ _
  subst e1 e3
  refine ⟨by rw [KM.cells_len],Or.inr ⟨g,cap,cur,by rw [hl],h1,h2,by rw [hl];omega,h4,h5,?_⟩⟩
  rw [hl,km_take,←h6,List.take_take]
  congr 1
  have hk3:KM.k=3:=rfl
  rw [hk3]
  omega
theorem own_past {n0 g n cap:Nat} {d:List Tm} (vs:List Value):∀(w:World) (o:Nat),KM.Own n0 w (.slice (some ⟨g,0,none⟩) n cap) d→d.length=n→n * 3≤o→KM.Own n0 (w.setCells g o vs) (.slice (some ⟨g,0,none⟩) n cap) d:=by
 induction vs with
 | nil=>intro w o h _ _;exact h
 | cons v vs ih =>
  intro w o h hn ho
  rw [World.setCells]
  refine ih _ _ ?_ hn (by omega)
  subst hn
  have h1:=(World.ownsRow.stored h o v).1
  rw [List.set_eq_of_length_le (by rw [KM.cells_len];exact ho)] at h1
  exact h1
theorem grown_sets {g:Nat} (vs:List Value):∀(w w0:World) (o:Nat),w0.grownBy w (some g)→w0.grownBy (w.setCells g o vs) (some g):=by
 induction vs with
 | nil=>intro w w0 o h;exact h
 | cons v vs ih=>intro w w0 o h;rw [World.setCells];exact ih _ _ _ (grown_trans h (grown_set w g o v))
theorem km_flat:∀(d:List Tm) (t:Nat),t<d.length * 3→(KM.cells d)[t]? = some (encM d[t / 3]!)[t % 3]!:=by
 intro d t h
 have hq:t / 3<d.length:=by omega
 have hm:t % 3<3:=by omega
 have e:t / 3 * 3+t % 3=t:=by omega
 have h1:=KM.cells_get d (t / 3) hq (t % 3) hm
 have hk3:KM.k=3:=rfl
 rw [hk3,e] at h1
 rw [h1,getElem!_pos d (t / 3) hq]
 have hl:(encM d[t / 3]).length=3:=rfl
 show (encM d[t / 3])[t % 3]? = _
 rw [List.getElem?_eq_getElem (by rw [hl];exact hm),getElem!_pos _ _ (by rw [hl];exact hm)]
theorem own_holds {n0 g n cap:Nat} {w:World} {d:List Tm} (h:KM.Own n0 w (.slice (some ⟨g,0,none⟩) n cap) d):HoldsK encM 3 w g 0 d.toArray:=by
 rcases h.2 with ⟨hv,_⟩|⟨g',cap',cur,hv,h1,h2,h3,h4,h5,h6⟩
 ·cases hv
 ·injection hv with e1 e2 e3
  injection e1 with e1
  injection e1 with e1 _ _
  subst e1
  intro j hj
  rw [size_flatK] at hj
  have hj':j<d.length * 3:=by simpa using hj
  have hg:=km_flat d j hj'
  have hk3:KM.k=3:=rfl
  rw [←h6,hk3,List.getElem?_take_of_lt hj'] at hg
  rw [get_flatK _ _ _ _ hj]
  constructor
  ·simp only [World.cell?,h2,Nat.zero_add]
   have he:d[j / 3]! = d.toArray[j / 3]!:=by
    rw [getElem!_pos d (j / 3) (by omega),getElem!_pos d.toArray (j / 3) (by simp;omega)];simp
   rw [←Array.getElem?_toList,hg,he]
   rfl
  ·simp [World.frozen?,h2]
theorem below_sortM {B:Nat} {w0 w:World} (h:Below B w0 w) (hB:B≤w.heap.size) (blk off n:Nat) (d:Array Tm) (os:Array Obj) (hb:B≤blk):Below B w0 (sortWorldK encM 3 w blk off n d os):=by
 refine h.trans ⟨rfl,rfl,rfl,?_,?_⟩
 ·simp [sortWorldK,putRowK]
 ·intro k hk
  have hks:k<w.heap.size:=by omega
  simp only [sortWorldK,Sort.grow,putRowK,putRow,mapBlock,Sort.ahead]
  rw [Array.getElem?_append_left (by simpa using hks),Array.getElem?_modify,if_neg (by omega)]
theorem own_sorted {n0 g n cap:Nat} {w:World} {d:List Tm} (h:KM.Own n0 w (.slice (some ⟨g,0,none⟩) n cap) d) (e:Array Tm) (he:e.size=d.length) (m:Nat) (os:Array Obj) :
  KM.Own n0 (sortWorldK encM 3 w g 0 m e os) (.slice (some ⟨g,0,none⟩) n cap) e.toList:=by
 have hH:=own_holds h
 rcases h.2 with ⟨hv,_⟩|⟨g',cap',cur,hv,h1,h2,h3,h4,h5,h6⟩
 ·cases hv
 ·injection hv with e1 e2 e3
  injection e1 with e1
  injection e1 with e1 _ _
  subst e1 e2 e3
  have hgl:=(Array.getElem?_eq_some_iff.1 h2).1
  have hl:e.toList.length=d.length:=by simpa using he
  have hheap:(sortWorldK encM 3 w g 0 m e os).heap[g]? = some (.cells (putCells id 0 (flatK encM 3 e) cur) KM.T (0,0)):=by
   simp only [sortWorldK,Sort.grow,putRowK,putRow,mapBlock,Sort.ahead]
   rw [Array.getElem?_append_left (by simpa using hgl),Array.getElem?_modify,if_pos rfl,h2]
   rfl
  have hH2:HoldsK encM 3 (sortWorldK encM 3 w g 0 m e os) g 0 e:=by
   exact holdsK_grow encM 3 _ os g 0 _ (by simpa [putRowK] using hgl) (holdsK_putRowK encM 3 (Sort.ahead w m) g 0 _ _ (holdsK_ahead encM 3 w m g 0 _ hH) (by simpa using he))
  have hsz:(putCells id 0 (flatK encM 3 e) cur).size=cur.size:=by simp [putCells]
  refine ⟨by rw [KM.cells_len],Or.inr ⟨g,cap,_,by rw [hl],h1,hheap,by rw [hl];exact h3,h4,by rw [hsz];exact h5,?_⟩⟩
  apply List.ext_getElem?
  intro j
  have hk3:KM.k=3:=rfl
  rw [hl,hk3,List.getElem?_take]
  by_cases hj:j<d.length * 3
  ·rw [if_pos hj,km_flat e.toList j (by omega)]
   have:=(hH2 j (by rw [size_flatK];omega)).1
   rw [get_flatK _ _ _ _ (by omega)] at this
   simp only [World.cell?,hheap,Nat.zero_add] at this
   simp only [Option.isSome_none,Bool.false_eq_true,if_false] at this
   rw [Array.getElem?_toList,this]
   have he2:e.toList[j / 3]! = e[j / 3]!:=by
    rw [getElem!_pos e (j / 3) (by omega),getElem!_pos e.toList (j / 3) (by simp;omega)];simp
   rw [he2]
   rfl
  ·rw [if_neg hj,List.getElem?_eq_none]
   rw [KM.cells_len,hk3,hl]
   omega
def cmpM (x y:Tm):Int:=pairI (Lib.compareBytes x.1.data.toList y.1.data.toList) (pairI (Lib.compareInt x.2.1 y.2.1) (Lib.compareBytes x.2.2.data.toList y.2.2.data.toList))
theorem pairI_zero (y:Int):pairI 0 y=y:=rfl
theorem pairI_ne {x:Int} (h:x≠0) (y:Int):pairI x y=x:=by unfold pairI;rw [if_neg h]
theorem cmpM_lt (x y:Tm):ltOf cmpM x y=ltM x y:=by
 obtain ⟨a1,a2,a3⟩:=x
 obtain ⟨b1,b2,b3⟩:=y
 show decide (pairI (Lib.compareBytes a1.data.toList b1.data.toList) (pairI (Lib.compareInt a2 b2) (Lib.compareBytes a3.data.toList b3.data.toList))<0)=if a1≠b1 then ltB a1 b1 else if a2≠b2 then decide (a2<b2) else ltB a3 b3
 by_cases h1:a1=b1
 ·subst h1
  rw [if_neg (show ¬ (a1≠a1) by simp),cb_self,pairI_zero]
  by_cases h2:a2=b2
  ·subst h2
   have hc:Lib.compareInt a2 a2=0:=by unfold Lib.compareInt;simp
   rw [if_neg (show ¬ (a2≠a2) by simp),hc,pairI_zero]
   rfl
  ·rw [if_pos h2]
   rcases Int.lt_or_gt_of_ne h2 with h|h
   ·have hc:Lib.compareInt a2 b2=-1:=by unfold Lib.compareInt;simp [h]
    rw [hc,pairI_ne (by decide)]
    simp [h]
   ·have hn:¬ a2<b2:=by omega
    have hc:Lib.compareInt a2 b2=1:=by unfold Lib.compareInt;simp [hn,h]
    rw [hc,pairI_ne (by decide)]
    simp [hn]
 ·have hc:Lib.compareBytes a1.data.toList b1.data.toList≠0:=fun e=>h1 (ba_eq ((cb_zero _ _).1 e))
  rw [if_pos h1,pairI_ne hc]
  rfl
theorem swoM:SWO (ltOf cmpM) where
 irrefl x:=by rw [cmpM_lt];exact ltM_irrefl x
 trans x y z h1 h2:=by rw [cmpM_lt] at *;exact ltM_trans h1 h2
 ntrans x y z h1 h2:=by
  rw [cmpM_lt] at *
  cases h:ltM x z with
  | false=>rfl
  | true =>
   rcases ltM_cases x y with h3|h3|h3
   ·rw [h1] at h3;cases h3
   ·rw [h3,h2] at h;cases h
   ·rw [ltM_trans h3 h] at h2;cases h2
theorem compact_sorted {d:Array Tm} (hs:SortedIn (ltOf cmpM) 0 d.size d):RisingM (compactUpTo d d.size)∧∀x,x∈compactUpTo d d.size↔x∈d.toList:=by
 have hle:∀i j,i≤j→j<d.size→ltM d[j]! d[i]! = false:=by
  intro i j hij hj
  rcases Nat.lt_or_ge i j with h|h
  ·have:=hs i j (Nat.zero_le _) h hj
   rwa [cmpM_lt] at this
  ·obtain rfl:i=j:=by omega
   exact ltM_irrefl _
 have key:∀m,m≤d.size→RisingM (compactUpTo d m)∧∀x,x∈compactUpTo d m↔∃j,j<m∧d[j]! = x:=by
  intro m
  induction m with
  | zero=>intro _;exact ⟨List.Pairwise.nil,fun x=>by simp [compactUpTo]⟩
  | succ m ih =>
   intro hm
   obtain ⟨h1,h2⟩:=ih (by omega)
   rw [compactUpTo_succ]
   cases hk:keeps d m with
   | true =>
    rw [if_pos rfl]
    constructor
    ·refine List.pairwise_append.2 ⟨h1,List.pairwise_singleton _ _,fun x hx y hy=>?_⟩
     rw [List.mem_singleton] at hy
     subst hy
     obtain ⟨j,hj,rfl⟩:=(h2 x).1 hx
     have hne:d[m]!≠d[m-1]!:=by
      unfold keeps at hk
      rcases of_decide_eq_true hk with h|h
      ·omega
      ·exact h
     have ha:=hle j (m-1) (by omega) (by omega)
     have hb:=hle (m-1) m (by omega) (by omega)
     rcases ltM_cases d[j]! d[m]! with h|h|h
     ·exact h
     ·rw [h] at ha
      rcases ltM_cases d[m-1]! d[m]! with h'|h'|h'
      ·rw [ha] at h';cases h'
      ·exact absurd h'.symm hne
      ·rw [hb] at h';cases h'
     ·rw [hle j m (by omega) (by omega)] at h;cases h
    ·intro x
     rw [List.mem_append,List.mem_singleton,h2]
     constructor
     ·rintro (⟨j,hj,e⟩|e)
      ·exact ⟨j,by omega,e⟩
      ·exact ⟨m,by omega,e.symm⟩
     ·rintro ⟨j,hj,e⟩
      by_cases hjm:j=m
      ·subst hjm;exact Or.inr e.symm
      ·exact Or.inl ⟨j,by omega,e⟩
   | false =>
    rw [if_neg (by simp),List.append_nil]
    refine ⟨h1,fun x=>?_⟩
    rw [h2]
    constructor
    ·rintro ⟨j,hj,e⟩
     exact ⟨j,by omega,e⟩
    ·rintro ⟨j,hj,e⟩
     by_cases hjm:j=m
     ·subst hjm
      have hh:¬ (j=0∨d[j]!≠d[j-1]!):=by unfold keeps at hk;exact of_decide_eq_false hk
      have h0:j≠0:=fun e=>hh (Or.inl e)
      have h3:d[j]! = d[j-1]!:=Classical.byContradiction fun e=>hh (Or.inr e)
      exact ⟨j-1,by omega,by rw [←h3];exact e⟩
     ·exact ⟨j,by omega,e⟩
 obtain ⟨h1,h2⟩:=key d.size (Nat.le_refl _)
 refine ⟨h1,fun x=>(h2 x).trans ?_⟩
 rw [List.mem_iff_getElem]
 constructor
 ·rintro ⟨j,hj,e⟩
  exact ⟨j,by simpa using hj,by rw [←e,getElem!_pos d j hj];simp⟩
 ·rintro ⟨j,hj,e⟩
  have hj':j<d.size:=by simpa using hj
  exact ⟨j,hj',by rw [getElem!_pos d j hj',←e];simp⟩
end
section
open Go.RowKit Go.Sort Go.Lib
set_option maxHeartbeats 1000000 in
theorem or_any (g:Nat) (a b c:Int) (w:World) (c0:w.cell? ⟨g,0,none⟩=some (.int .i64 a)) (c1:w.cell? ⟨g,1,none⟩=some (.int .i64 b)) (c2:w.cell? ⟨g,2,none⟩=some (.int .i64 c)) :
  Calls Tryz.prog 190 #[.slice (some ⟨g,0,none⟩) 3 3] w fun e w'=>e=.returned (.int .i64 (pairI a (pairI b c)))∧w'=w:=by
 by_cases ha:a=0
 ·subst ha
  rw [pairI_zero]
  by_cases hb:b=0
  ·subst hb
   rw [pairI_zero]
   by_cases hc:c=0
   ·subst hc
    go_enter Tryz.func190,Tryz.ntmps190
    go_wp2_with fail
    refine wp_loop_rounds 4 ?_
    rw [rounds_succ]
    go_wp2_with fail
    rw [rounds_succ]
    go_wp2_with fail
    rw [rounds_succ]
    go_wp2_with fail
    rw [rounds_succ]
    go_wp2_with fail
    go_ret
    exact ⟨rfl,rfl⟩
   ·have hcn:(c != 0)=true:=by simpa using hc
    go_enter Tryz.func190,Tryz.ntmps190
    go_wp2_with fail
    refine wp_loop_rounds 3 ?_
    rw [rounds_succ]
    go_wp2_with fail
    rw [rounds_succ]
    go_wp2_with fail
    rw [rounds_succ]
    go_wp2_with fail
    go_ret
    exact ⟨rfl,rfl⟩
  ·have hbn:(b != 0)=true:=by simpa using hb
   rw [pairI_ne hb]
   go_enter Tryz.func190,Tryz.ntmps190
   go_wp2_with fail
   refine wp_loop_rounds 2 ?_
   rw [rounds_succ]
   go_wp2_with fail
   rw [rounds_succ]
   go_wp2_with fail
   go_ret
   exact ⟨rfl,rfl⟩
 ·have han:(a != 0)=true:=by simpa using ha
  rw [pairI_ne ha]
  go_enter Tryz.func190,Tryz.ntmps190
  go_wp2_with fail
  refine wp_loop_rounds 1 ?_
  rw [rounds_succ]
  go_wp2_with fail
  go_ret
  exact ⟨rfl,rfl⟩
set_option maxHeartbeats 4000000 in
set_option maxRecDepth 100000 in
theorem compare_any (x y:Tm) (w:World):Calls Tryz.prog 155 #[.agg (encM x).toArray,.agg (encM y).toArray] w fun e w'=>e=.returned (.int .i64 (cmpM x y))∧Grown w w':=by
 obtain ⟨a1,a2,a3⟩:=x
 obtain ⟨b1,b2,b3⟩:=y
 simp only [encM]
 obtain ⟨p1,hp1⟩:∃p,Lib.compareBytes a1.data.toList b1.data.toList=p:=⟨_,rfl⟩
 obtain ⟨p2,hp2⟩:∃p,Lib.compareInt a2 b2=p:=⟨_,rfl⟩
 obtain ⟨p3,hp3⟩:∃p,Lib.compareBytes a3.data.toList b3.data.toList=p:=⟨_,rfl⟩
 have HC:Hid (cmpM (a1,a2,a3) (b1,b2,b3)=pairI p1 (pairI p2 p3)):=by show _=_;rw [←hp1,←hp2,←hp3];rfl
 have H1:Hid (∀w,Calls Tryz.prog 191 #[.string a1,.string b1] w fun e w'=>e=.returned (.int .i64 p1)∧w'=w):=fun w=>by rw [←hp1];exact Tryz.strings_Compare _ _ _
 have H2:Hid (∀w,Calls Tryz.prog 192 #[.int .i64 a2,.int .i64 b2] w fun e w'=>e=.returned (.int .i64 p2)∧w'=w):=fun w=>by rw [←hp2];exact Tryz.cmp_Compare_int _ _ _
 have H3:Hid (∀w,Calls Tryz.prog 191 #[.string a3,.string b3] w fun e w'=>e=.returned (.int .i64 p3)∧w'=w):=fun w=>by rw [←hp3];exact Tryz.strings_Compare _ _ _
 clear hp1 hp2 hp3
 go_enter Tryz.func155,Tryz.ntmps155
 go_wp2_with fail
 obtain ⟨W,hW⟩:∃W,(w.alloc (.cells #[.string a1,.int .i64 a2,.string a3] 51)).alloc (.cells #[.string b1,.int .i64 b2,.string b3] 51)=W:=⟨_,rfl⟩
 obtain ⟨N,hN⟩:∃N,w.heap.size=N:=⟨_,rfl⟩
 have hs:W.heap.size=N+2:=by rw [←hW,←hN];simp
 have hh0:W.heap[N]? = some (.cells #[.string a1,.int .i64 a2,.string a3] 51 (0,0)):=by
  rw [←hW,←hN];exact (Below.heap_alloc _ _ _ (by simp)).trans (heap_alloc_new w _)
 have hh1:W.heap[N+1]? = some (.cells #[.string b1,.int .i64 b2,.string b3] 51 (0,0)):=by
  rw [←hW,←hN];have:=heap_alloc_new (w.alloc (.cells #[.string a1,.int .i64 a2,.string a3] 51)) (.cells #[.string b1,.int .i64 b2,.string b3] 51);rwa [World.size_alloc] at this
 have HG:Hid (Grown w W):=by rw [←hW];exact ((Grown.refl _).alloc _).alloc _
 have KS:Hid (∀w':World,w'.heap[N]? = W.heap[N]?→w'.heap[N+1]? = W.heap[N+1]?→w'.cell? ⟨N,0,none⟩=some (.string a1)∧w'.cell? ⟨N,1,none⟩=some (.int .i64 a2)∧w'.cell? ⟨N,2,none⟩=some (.string a3)∧w'.cell? ⟨N+1,0,none⟩=some (.string b1)∧w'.cell? ⟨N+1,1,none⟩=some (.int .i64 b2)∧w'.cell? ⟨N+1,2,none⟩=some (.string b3)):=fun w' e e'=>by
  rw [Lib.cell_of_heap (e.trans hh0),Lib.cell_of_heap (e.trans hh0),Lib.cell_of_heap (e.trans hh0),Lib.cell_of_heap (e'.trans hh1),Lib.cell_of_heap (e'.trans hh1),Lib.cell_of_heap (e'.trans hh1)]
  exact ⟨rfl,rfl,rfl,rfl,rfl,rfl⟩
 have q0:=KS.out W.drew rfl rfl
 have q1:=KS.out (W.drew.alloc (.cells #[.int .i64 p1,.int .i64 p2,.int .i64 p3] 3)) (Below.heap_alloc _ _ _ (by show N<W.heap.size;omega)) (Below.heap_alloc _ _ _ (by show N+1<W.heap.size;omega))
 have HO:Hid (Calls Tryz.prog 190 #[.slice (some ⟨W.heap.size,0,none⟩) 3 3] (W.drew.alloc (.cells #[.int .i64 p1,.int .i64 p2,.int .i64 p3] 3)) fun e w'=>e=.returned (.int .i64 (pairI p1 (pairI p2 p3)))∧w'=W.drew.alloc (.cells #[.int .i64 p1,.int .i64 p2,.int .i64 p3] 3)) :=
  or_any W.drew.heap.size p1 p2 p3 _ (by rw [Lib.cell_of_heap (heap_alloc_new W.drew _)];rfl) (by rw [Lib.cell_of_heap (heap_alloc_new W.drew _)];rfl) (by rw [Lib.cell_of_heap (heap_alloc_new W.drew _)];rfl)
 clear hh0 hh1 hs
 rw [hN]
 rw [hW]
 clear hW hN
 go_region_held3 (fun w'=>w'.cell? ⟨N,0,none⟩=some (.string a1)∧w'.cell? ⟨N,1,none⟩=some (.int .i64 a2)∧w'.cell? ⟨N,2,none⟩=some (.string a3)∧w'.cell? ⟨N+1,0,none⟩=some (.string b1)∧w'.cell? ⟨N+1,1,none⟩=some (.int .i64 b2)∧w'.cell? ⟨N+1,2,none⟩=some (.string b3))
  (first|exact q0|exact q1)
  (first
   | (go_at_call 191;refine (H1.out _).mono ?_;rintro e w1 ⟨rfl,rfl⟩)
   | (go_at_call 191;refine (H3.out _).mono ?_;rintro e w1 ⟨rfl,rfl⟩)
   | (go_at_call 192;refine (H2.out _).mono ?_;rintro e w1 ⟨rfl,rfl⟩)
   | (go_at_call 190;refine HO.out.mono ?_;rintro e w1 ⟨rfl,rfl⟩))
 go_wp2_with fail
 go_ret
 exact ⟨ret_int HC.out.symm,(HG.out.drewN 1).alloc _⟩
theorem cmpLaysM (blk off size:Nat) (w:World):CmpLays Tryz.prog 155 #[] encM 3 cmpM blk off size w :=
 fun _ _ _ _ x y=>compare_any x y _
theorem enters_compare:∀args w,(callFunc 155 args).run Tryz.prog w=.ok (.enter 155 args) w:=enters_of Tryz.func155 (by kernel_rfl) rfl
theorem sortM_rows (n0 g n cap:Nat) (d:List Tm) (w:World) (h:KM.Own n0 w (.slice (some ⟨g,0,none⟩) n cap) d) (hn:d.length=n) (h0:n0≤w.heap.size) (h12:n≤12) :
  Calls Tryz.prog 154 #[.slice (some ⟨g,0,none⟩) n cap,.func (.func 155) #[] #[]] w fun e w' =>
   e=.returned (.tuple #[])∧∃d':Array Tm,d'.size=n∧d'.toList.Perm d∧SortedIn (ltOf cmpM) 0 d'.size d'∧KM.Own n0 w' (.slice (some ⟨g,0,none⟩) n cap) d'.toList∧Below n0 w w':=by
 subst hn
 have hg:g<w.heap.size∧n0≤g:=by
  rcases h.2 with ⟨hv,_⟩|⟨g',cap',cur,hv,h1,h2,_⟩
  ·cases hv
  ·injection hv with e1 e2 e3
   injection e1 with e1
   injection e1 with e1 _ _
   subst e1
   exact ⟨(Array.getElem?_eq_some_iff.1 h2).1,h1⟩
 have hs:d.toArray.size=d.length:=by simp
 have hc:=AnyQ.slices_SortFunc_small_sorted Tryz.sortTrm 3 Tryz.isAgg51 Tryz.sizeOf51 encM (fun _=>rfl) KM.one cmpM 155 #[] swoM g 0 cap d.toArray w enters_compare (cmpLaysM g 0 _ w) (own_holds h) hg.1 (by rw [hs];exact h12)
  (fun n W hn=>(Tryz.bits_Len (n:Int) W (by omega) (by omega)).mono fun e w' ⟨h1,h2⟩=>⟨⟨_,h1⟩,h2⟩)
 rw [hs] at hc
 change Calls Tryz.prog 154 _ _ _ at hc
 refine hc.mono ?_
 rintro e w' ⟨rfl,d',m,os,hp,hso,rfl⟩
 have hsz:d'.size=d.length:=by have:=hp.1;rwa [hs] at this
 refine ⟨rfl,d',hsz,?_,by rw [hsz];exact hso,own_sorted h d' hsz m os,below_sortM (Below.refl _ _) h0 g 0 m d' os hg.2⟩
 have:=hp.2.2
 have e1:d'.extract 0 d.length=d':=by rw [←hsz];simp
 have e2:d.toArray.extract 0 d.length=d.toArray:=by rw [←hs];simp
 rw [e1,e2] at this
 simpa using this
end
section
open Go.RowKit Go.Sort Go.Lib
theorem eql_term (a b:Tm) (w:World):(binOp .eql 51 (.agg #[.string a.1,.int .i64 a.2.1,.string a.2.2]) (.agg #[.string b.1,.int .i64 b.2.1,.string b.2.2])).run Tryz.prog w=.ok (.bool (decide (a=b))) w:=by
 obtain ⟨a1,a2,a3⟩:=a
 obtain ⟨b1,b2,b3⟩:=b
 have hS:Tryz.prog.underlying 51=some (.struct (Tryz.prog.fieldsOf 51)):=by kernel_rfl
 have hp:Tryz.prog.stoodInHeld 51=false:=by kernel_rfl
 have u9:=Tryz.underlying9
 have a9:=Tryz.isAgg9
 have z9:=Tryz.sizeOf9
 have u3:=Tryz.underlying3
 have a3':=Tryz.isAgg3
 have z3:=Tryz.sizeOf3
 rw [run_eql_struct,show (10000:Nat)=9999+1 from rfl,run_equalIn_agg w 9999 51 _ _ hS hp]
 simp only [Program.fieldsOf,Tryz.underlying51]
 go_simp
 by_cases h1:a1=b1
 ·subst h1
  by_cases h2:a2=b2
  ·subst h2
   by_cases h3:a3=b3
   ·subst h3;simp
   ·have e3:=beq_eq_false_iff_ne.1 (seq_false h3)
    simp [h3,e3]
  ·simp [h2]
 ·have e1:=beq_eq_false_iff_ne.1 (seq_false h1)
  simp [h1,e1]
theorem run_clearM (w:World) (ty:TypeId) (g o n c:Nat) (hn:0<n) (hc:∀j,j<n * 3→(w.cell? ⟨g,o+j,none⟩).isSome=true) (hf:∀j,j<n * 3→w.frozen? ⟨g,o+j,none⟩=false) :
  ∃zs:List Value,(Builtin.clear_ #[38] ty #[.slice (some ⟨g,o,none⟩) n c]).run Tryz.prog w=.ok (.tuple #[]) (w.setCells g o zs):=by
 have hv:∀w,(zeroValue 51).run Tryz.prog w=.ok (.agg #[.string ⟨#[]⟩,.int .i64 0,.string ⟨#[]⟩]) w:=Tryz.zeroValue51
 obtain ⟨zs,hzs⟩:∃zs,(Builtin.zeroCells (Value.agg #[.string ⟨#[]⟩,.int .i64 0,.string ⟨#[]⟩]).cells n).toList=zs:=⟨_,rfl⟩
 have hl:zs.length=n * 3:=by rw [←hzs,Array.length_toList,size_zeroCells];rfl
 have h1:∀v∈zs,v.oneCell'=true:=by
  intro v hm
  rw [←hzs] at hm
  simp only [Builtin.zeroCells,Array.toList_map,List.mem_map] at hm
  obtain ⟨i,_,rfl⟩:=hm
  have h3:i % (Value.agg #[.string ⟨#[]⟩,.int .i64 0,.string ⟨#[]⟩]).cells.size<3:=Nat.mod_lt _ (by decide)
  obtain ⟨m,hm⟩:∃m,i % (Value.agg #[.string ⟨#[]⟩,.int .i64 0,.string ⟨#[]⟩]).cells.size=m:=⟨_,rfl⟩
  rw [hm] at h3 ⊢
  rcases (show m=0∨m=1∨m=2 by omega) with rfl|rfl|rfl<;>rfl
 refine ⟨zs,?_⟩
 have hst:=run_storeCells_cells (P:=Tryz.prog) g o zs 0 w (by rw [hl];simpa using hc) (by rw [hl];simpa using hf) h1
 simp only [Nat.add_zero] at hst
 obtain ⟨m,rfl⟩:∃m,n=m+1:=⟨n-1,by omega⟩
 simp [Builtin.clear_,run_underlying Tryz.underlying38,hv,hzs,hst]
theorem own_cells {n0 g n cap:Nat} {w:World} {d:Array Tm} (h:KM.Own n0 w (.slice (some ⟨g,0,none⟩) n cap) d.toList) (i:Nat) (hi:i<d.size) :
  w.cell? ⟨g,i * 3,none⟩=some (.string (d[i]!).1)∧w.cell? ⟨g,i * 3+1,none⟩=some (.int .i64 (d[i]!).2.1)∧w.cell? ⟨g,i * 3+2,none⟩=some (.string (d[i]!).2.2) ∧
  w.frozen? ⟨g,i * 3,none⟩=false∧w.frozen? ⟨g,i * 3+1,none⟩=false∧w.frozen? ⟨g,i * 3+2,none⟩=false:=by
 have hH:=own_holds h
 have hi':i<d.toList.toArray.size:=by simpa using hi
 have k0:=hH.cell (i:=i) (c:=0) hi' (by decide)
 have k1:=hH.cell (i:=i) (c:=1) hi' (by decide)
 have k2:=hH.cell (i:=i) (c:=2) hi' (by decide)
 have he:d.toList.toArray[i]! = d[i]!:=by simp
 rw [he] at k0 k1 k2
 simp only [Nat.zero_add,Nat.add_zero] at k0 k1 k2
 exact ⟨k0.1,k1.1,k2.1,k0.2,k1.2,k2.2⟩
theorem own_some {n0 g n cap:Nat} {w:World} {d:Array Tm} (h:KM.Own n0 w (.slice (some ⟨g,0,none⟩) n cap) d.toList) (t:Nat) (ht:t<d.size * 3) :
  (w.cell? ⟨g,t,none⟩).isSome=true∧w.frozen? ⟨g,t,none⟩=false:=by
 have:=own_holds h t (by rw [size_flatK];simpa using ht)
 rw [Nat.zero_add] at this
 exact ⟨by rw [this.1];rfl,this.2⟩
theorem own_ge {n0 g n cap:Nat} {w:World} {d:List Tm} (h:KM.Own n0 w (.slice (some ⟨g,0,none⟩) n cap) d):n0≤g∧g<w.heap.size∧d.length≤cap∧cap≤maxLen:=by
 rcases h.2 with ⟨hv,_⟩|⟨g',cap',cur,hv,h1,h2,h3,h4,_⟩
 ·cases hv
 ·injection hv with e1 e2 e3
  injection e1 with e1
  injection e1 with e1 _ _
  subst e1 e3
  exact ⟨h1,(Array.getElem?_eq_some_iff.1 h2).1,h3,h4⟩
theorem own_drew {n0:Nat} {w:World} {v:Value} {d:List Tm} (h:KM.Own n0 w v d) (q:Nat):KM.Own n0 (w.drewN q) v d:=h
theorem compact_same {d:Array Tm} (h:∀j,j<d.size→keeps d j=true):compactUpTo d d.size=d.toList:=by
 rw [compactUpTo_all d _ h,range_map_get]
theorem comp_low {d dk:Array Tm} {m k:Nat} (h:CompInv d m k dk) (hk:k≤dk.size):dk.toList.take k=compactUpTo d m:=by
 apply List.ext_getElem?
 intro j
 rw [List.getElem?_take]
 by_cases hj:j<k
 ·rw [if_pos hj,h.low j hj,Array.getElem?_toList,Array.getElem?_eq_getElem (by omega),getElem!_pos dk j (by omega)]
 ·rw [if_neg hj,List.getElem?_eq_none (by rw [h.len];omega)]
def CompPost (n0 g cap:Nat) (d:Array Tm) (w:World) (e:Ending) (w':World):Prop :=
 e=.returned (.slice (some ⟨g,0,none⟩) (compactUpTo d d.size).length cap)∧KM.Own n0 w' (.slice (some ⟨g,0,none⟩) (compactUpTo d d.size).length cap) (compactUpTo d d.size)∧Below n0 w w'
theorem CompPost.same {n0 g n cap:Nat} {d:Array Tm} {w:World} (h:KM.Own n0 w (.slice (some ⟨g,0,none⟩) n cap) d.toList) (hn:d.size=n) (hk:∀j,j<d.size→keeps d j=true) (q:Nat) :
  CompPost n0 g cap d w (.returned (.slice (some ⟨g,0,none⟩) n cap)) (w.drewN q):=by
 subst hn
 unfold CompPost
 rw [compact_same hk]
 refine ⟨by simp,?_,bel_drewN (Below.refl _ _) q⟩
 have:d.toList.length=d.size:=by simp
 rw [this]
 exact own_drew h q
set_option maxHeartbeats 8000000 in
set_option maxRecDepth 100000 in
theorem compact_any (n0 g n cap:Nat) (d:Array Tm) (w:World) (h:KM.Own n0 w (.slice (some ⟨g,0,none⟩) n cap) d.toList) (hn:d.size=n) (hn0:n0≤w.heap.size) (h63:n≤1000) :
  Calls Tryz.prog 156 #[.slice (some ⟨g,0,none⟩) n cap] w fun e w'=>CompPost n0 g cap d w e w':=by
 obtain ⟨hng,hgl,hcap,hcm⟩:=own_ge h
 have hcap':n≤cap:=by rw [←hn];simpa using hcap
 unfold maxLen at hcm
 have HH:=hid h
 have HN:=hid hn
 clear h hn hcap
 by_cases h2:n<2
 ·have h2z:(n:Int)<2:=by omega
  have HP:=hid (CompPost.same HH.out HN.out (fun j hj=>keeps_lt_one d j (by rw [HN.out] at hj;omega)) 0)
  go_enter Tryz.func156,Tryz.ntmps156
  go_wp2_with fail
  go_ret
  exact HP.out
 ·have h2z:¬ (n:Int)<2:=by omega
  go_enter Tryz.func156,Tryz.ntmps156
  go_wp2_with fail
  go_loopg [3] n (fun g s3 wr=>∃k q:Nat,1≤k∧k≤n∧n-k≤g∧s3=.int .i64 k∧wr=w.drewN q∧Hid (∀j,j<k→keeps d j=true))
  case atStart=>exact ⟨1,0,Nat.le_refl _,by omega,by omega,rfl,rfl,keeps_lt_one d⟩
  case round =>
   obtain ⟨k,q,hk1,hk,hg,rfl,rfl,A⟩:=hrel
   by_cases hlt:k<n
   ·have hltz:(k:Int)<(n:Int):=by omega
    have hkz:(0:Int)≤k:=by omega
    have hkz1:(0:Int)≤(k:Int)-1:=by omega
    have hkz2:(k:Int)-1<(n:Int):=by omega
    have hkt:((k:Int)-1).toNat=k-1:=by omega
    obtain ⟨c0,c1,c2,_,_,_⟩:=own_cells HH.out k (by rw [HN.out];exact hlt)
    obtain ⟨y0,y1,y2,_,_,_⟩:=own_cells HH.out (k-1) (by rw [HN.out];omega)
    obtain ⟨x,hx⟩:∃x,d[k]! = x:=⟨_,rfl⟩
    obtain ⟨y,hy⟩:∃y,d[k-1]! = y:=⟨_,rfl⟩
    rw [hx] at c0 c1 c2
    rw [hy] at y0 y1 y2
    have B:Hid (d[k]! = x∧d[k-1]! = y):=⟨hx,hy⟩
    have heq:=fun W=>eql_term x y W
    clear hx hy
    by_cases hdup:x=y
    ·have hd:=decide_eq_true hdup
     rw [hd] at heq
     have HDUP:=hid hdup
     clear hdup hd
     go_wp2_with fail
     go_quiet (fail)
     go_wp2_with fail
     clear c0 c1 c2 y0 y1 y2
     have ST0:Hid (CompInv d (k+1) k d):=CompInv.start A.out (keeps_neg (by omega) (by rw [B.out.1,B.out.2];exact HDUP.out))
     go_loopg [3,5] n (fun gm s3 s5 wr=>∃(kk k2:Nat) (dk:Array Tm),s3=.int .i64 kk∧s5=.int .i64 k2∧1≤k2∧k+k2≤n∧n-(k+k2)≤gm∧kk<k+k2∧Hid (CompInv d (k+k2) kk dk)∧Hid (KM.Own n0 wr (.slice (some ⟨g,0,none⟩) n cap) dk.toList)∧Hid (Below n0 w wr))
     case atStart=>exact ⟨k,1,d,rfl,rfl,Nat.le_refl _,by omega,by omega,by omega,ST0,own_drew HH.out _,bel_drewN (Below.refl _ _) _⟩
     case round =>
      obtain ⟨kk,k2,dk,rfl,rfl,h1,hle,hg2,hkk,I2,HO,HB⟩:=hrel
      have hds:dk.size=n:=by rw [I2.out.size];exact HN.out
      have hkz':(0:Int)≤kk:=by omega
      have hkn':(kk:Int)<(n:Int):=by omega
      have hk2z:(0:Int)≤k2:=by omega
      have hk2m:(0:Int)≤(k2:Int)-1:=by omega
      have hk2t:((k2:Int)-1).toNat=k2-1:=by omega
      by_cases hlt2:k+k2<n
      ·have hl2:(k2:Int)<((n-k:Nat):Int):=by omega
       have hl3:(k2:Int)-1<((n-k:Nat):Int):=by omega
       obtain ⟨u0,u1,u2,_,_,_⟩:=own_cells HO.out (k+k2) (by omega)
       obtain ⟨v0,v1,v2,_,_,_⟩:=own_cells HO.out (k+k2-1) (by omega)
       obtain ⟨o0,o1,o2,f0,f1,f2⟩:=own_cells HO.out kk (by omega)
       rw [I2.out.high (k+k2) (by omega),show (k+k2) * 3=k * 3+k2 * 3 by omega] at u0 u1 u2
       rw [I2.out.high (k+k2-1) (by omega),show (k+k2-1) * 3=k * 3+(k2-1) * 3 by omega] at v0 v1 v2
       obtain ⟨u,hu⟩:∃u,d[k+k2]! = u:=⟨_,rfl⟩
       obtain ⟨v,hv⟩:∃v,d[k+k2-1]! = v:=⟨_,rfl⟩
       obtain ⟨old,hol⟩:∃old,dk[kk]! = old:=⟨_,rfl⟩
       rw [hu] at u0 u1 u2
       rw [hv] at v0 v1 v2
       rw [hol] at o0 o1 o2
       have C:Hid (d[k+k2]! = u∧d[k+k2-1]! = v):=⟨hu,hv⟩
       have hne:=fun W=>neq_term u v W
       clear hu hv hol
       by_cases huv:u=v
       ·have hd:=decide_eq_true huv
        rw [hd] at hne
        have HUV:=hid huv
        clear huv hd
        go_wp2_with fail
        go_quiet (fail)
        go_wp2_with fail
        go_roundg (n-(k+(k2+1)))
        case measure=>omega
        exact ⟨kk,k2+1,dk,rfl,by go_num,by omega,by omega,Nat.le_refl _,by omega,I2.out.skip (keeps_neg (by omega) (by rw [C.out.1,C.out.2];exact HUV.out)),own_drew HO.out _,bel_drewN HB.out _⟩
       ·have hd:=decide_eq_false huv
        rw [hd] at hne
        have HUV:=hid huv
        clear huv hd
        have HPUT:Hid (∀nq,KM.Own n0 ((((wr.drewN nq).setCell ⟨g,kk * 3,none⟩ (.string u.1)).setCell ⟨g,kk * 3+1,none⟩ (.int .i64 u.2.1)).setCell ⟨g,kk * 3+2,none⟩ (.string u.2.2)) (.slice (some ⟨g,0,none⟩) n cap) (dk.setIfInBounds kk u).toList):=fun nq=>by
         rw [Array.toList_setIfInBounds]
         exact own_put (own_drew HO.out nq) (by simpa using hds) kk (by rw [Array.length_toList];omega) u
        go_wp2_with fail
        go_quiet (fail)
        go_wp2_with fail
        go_roundg (n-(k+(k2+1)))
        case measure=>omega
        refine ⟨kk+1,k2+1,dk.setIfInBounds kk u,by go_num,by go_num,by omega,by omega,Nat.le_refl _,by omega,?_,HPUT.out _,(((bel_drewN HB.out _).setCell (p:=⟨g,kk * 3,none⟩) hng _).setCell (p:=⟨g,kk * 3+1,none⟩) hng _).setCell (p:=⟨g,kk * 3+2,none⟩) hng _⟩
        have:=I2.out.keep (by rw [HN.out];exact hlt2) (keeps_pos (by rw [C.out.1,C.out.2];exact HUV.out))
        rw [C.out.1] at this
        exact this
      ·have hend:k+k2=n:=by omega
       have hl2:¬ (k2:Int)<((n-k:Nat):Int):=by omega
       have hnk:0<n-kk:=by omega
       obtain ⟨zs,hcl⟩:∃zs:List Value,∀ty,(Builtin.clear_ #[38] ty #[.slice (some ⟨g,kk * 3,none⟩) (n-kk) (cap-kk)]).run Tryz.prog wr=.ok (.tuple #[]) (wr.setCells g (kk * 3) zs):=by
        obtain ⟨zs,hz⟩:=run_clearM wr 0 g (kk * 3) (n-kk) (cap-kk) hnk (fun j hj=>(own_some HO.out (kk * 3+j) (by omega)).1) (fun j hj=>(own_some HO.out (kk * 3+j) (by omega)).2)
        exact ⟨zs,fun ty=>hz⟩
       have HE:=hid hend
       clear hend
       go_wp2_with fail
       go_ret
       have hI:=I2.out
       rw [HE.out,←HN.out] at hI
       have hlow:=comp_low hI (by omega)
       have hln:=hI.len
       unfold CompPost
       rw [hln,←hlow]
       refine ⟨rfl,own_past zs wr (kk * 3) (own_cut HO.out kk (by rw [Array.length_toList];omega)) (by rw [List.length_take,Array.length_toList];omega) (Nat.le_refl _),?_⟩
       exact HB.out.grown (grown_sets zs wr wr (kk * 3) (by have:=grown_set wr g 0 (.int .i64 0);exact ⟨rfl,rfl,rfl,Nat.le_refl _,fun _ _ _=>rfl⟩)) (Nat.le_trans hn0 HB.out.size) (fun k e=>by cases e;exact hng)
    ·have hd:=decide_eq_false hdup
     rw [hd] at heq
     have HDUP:=hid hdup
     clear hdup hd
     go_wp2_with fail
     go_quiet (fail)
     go_wp2_with fail
     go_roundg (n-(k+1))
     case measure=>omega
     refine ⟨k+1,_,by omega,by omega,Nat.le_refl _,by go_num,rfl,fun j hj=>?_⟩
     by_cases e:j=k
     ·subst e
      exact keeps_pos (by rw [B.out.1,B.out.2];exact HDUP.out)
     ·exact A.out j (by omega)
   ·have hkn:k=n:=by omega
    subst hkn
    have HP:=hid (CompPost.same HH.out HN.out (fun j hj=>A.out j (by rw [HN.out] at hj;exact hj)) q)
    have hltz:¬ (k:Int)<(k:Int):=by omega
    go_wp2_with fail
    go_ret
    exact HP.out
end
section
open Go.RowKit Go.Sort Go.Lib
set_option maxHeartbeats 1000000 in
theorem pmis_any (x:Tm) (w:World) (hs:x.1.size≤maxLen):Calls Tryz.prog 186 #[.agg (encM x).toArray] w fun e w'=>e=.returned (.bool (!namedM x))∧Grown w w':=by
 obtain ⟨a,o,t⟩:=x
 simp only [encM,namedM] at hs ⊢
 go_enter Tryz.func186,Tryz.ntmps186
 go_wp2_with (go_at_call 168;refine (field_any _ _ hs).mono ?_;rintro e w' ⟨rfl,rfl⟩)
 go_ret
 exact ⟨rfl,(Grown.refl _).alloc _⟩
set_option maxHeartbeats 1000000 in
theorem plong_any (x:Tm) (w:World):Calls Tryz.prog 187 #[.agg (encM x).toArray] w fun e w'=>e=.returned (.bool (!shortM x))∧Grown w w':=by
 obtain ⟨a,o,t⟩:=x
 simp only [encM,shortM]
 have HE:Hid (decide ((128:Int)<t.size) = !decide (t.size≤128)):=by
  show _=_
  rw [Bool.eq_iff_iff];simp;omega
 go_enter Tryz.func187,Tryz.ntmps187
 go_wp2_with fail
 go_ret
 exact ⟨ret_bool HE.out,(Grown.refl _).alloc _⟩
set_option maxHeartbeats 2000000 in
theorem punm_any (x:Tm) (w:World):Calls Tryz.prog 181 #[.agg (encM x).toArray] w fun e w'=>e=.returned (.bool (!rightM x))∧Grown w w':=by
 obtain ⟨a,o,t⟩:=x
 simp only [encM]
 by_cases h6:o=6∨o=7
 ·have HE:Hid ((!t.toList.isEmpty) = !rightM (a,o,t)):=by
   show _=_
   unfold rightM
   have e1:decide (1≤o)=true:=decide_eq_true (by omega)
   have e2:decide (o≤7)=true:=decide_eq_true (by omega)
   have e3:decide (o<6)=false:=decide_eq_false (by omega)
   simp only [e1,e2,e3,Bool.true_and,Bool.false_or]
   congr 1
   by_cases hz:t.size=0
   ·rw [sempty_of hz,decide_eq_true hz]
   ·rw [sfull_of hz,decide_eq_false hz]
  rcases h6 with rfl|rfl
  ·go_enter Tryz.func181,Tryz.ntmps181
   go_wp2_with fail
   go_ret
   exact ⟨ret_bool HE.out,(Grown.refl _).alloc _⟩
  ·go_enter Tryz.func181,Tryz.ntmps181
   go_wp2_with fail
   go_ret
   exact ⟨ret_bool HE.out,(Grown.refl _).alloc _⟩
 ·by_cases h5:o=1∨o=2∨o=3∨o=4∨o=5
  ·have HE:Hid (false = !rightM (a,o,t)):=by
    show _=_
    unfold rightM
    have e1:decide (1≤o)=true:=decide_eq_true (by omega)
    have e2:decide (o≤7)=true:=decide_eq_true (by omega)
    have e3:decide (o<6)=true:=decide_eq_true (by omega)
    simp only [e1,e2,e3,Bool.true_and,Bool.true_or,Bool.not_true]
   rcases h5 with rfl|rfl|rfl|rfl|rfl <;>
   ·go_enter Tryz.func181,Tryz.ntmps181
    go_wp2_with fail
    go_ret
    exact ⟨ret_bool HE.out,(Grown.refl _).alloc _⟩
  ·have HE:Hid (true = !rightM (a,o,t)):=by
    show _=_
    unfold rightM
    by_cases e1:1≤o
    ·have e2:decide (o≤7)=false:=decide_eq_false (by omega)
     simp [e2]
    ·simp [e1]
   have n1:(o==1)=false:=by simp;omega
   have n2:(o==2)=false:=by simp;omega
   have n3:(o==3)=false:=by simp;omega
   have n4:(o==4)=false:=by simp;omega
   have n5:(o==5)=false:=by simp;omega
   have n6:(o==6)=false:=by simp;omega
   have n7:(o==7)=false:=by simp;omega
   clear h5 h6
   go_enter Tryz.func181,Tryz.ntmps181
   go_wp2_with fail
   go_ret
   exact ⟨ret_bool HE.out,(Grown.refl _).alloc _⟩
def Tf:Type:={ x:Tm // x.1.size≤maxLen∧x.2.2.size≤maxLen∧-9223372036854775808≤x.2.1∧x.2.1≤9223372036854775807 }
def tfNone:Tf:=⟨(⟨#[]⟩,0,⟨#[]⟩),Nat.zero_le _,Nat.zero_le _,by decide,by decide⟩
set_option maxHeartbeats 1000000 in
theorem hasM_none (p:Option Addr) (c:Nat) (fv:Value) (w:World) :
  Calls Tryz.prog 185 #[.slice p 0 c,fv] w fun e w'=>e=.returned (.bool false)∧w'=w:=by
 have hix:Calls Tryz.prog 217 #[.slice p 0 c,fv] w fun e w'=>e=.returned (.int .i64 (-1))∧w'=w:=by
  go_enter Tryz.func217,Tryz.ntmps217
  go_wp2_with fail
  refine wp_loop_rounds 1 ?_
  rw [rounds_succ]
  go_wp2_with fail
  go_ret
  exact ⟨rfl,rfl⟩
 have HX:=hid hix
 clear hix
 go_enter Tryz.func185,Tryz.ntmps185
 go_wp2_with (first|(go_at_call 217;refine HX.out.mono ?_;rintro e w1 ⟨rfl,rfl⟩))
 go_ret
 exact ⟨rfl,rfl⟩
theorem km_enc {w:World} {b off:Nat} {p:List Tm} (h:KM.At w b off p) (j:Nat) (hj:j<p.length) (i:Nat) (v:Value) (hv:(encM p[j])[i]? = some v):w.cell? ⟨b,off+j * 3+i,none⟩=some v:=h j hj i v hv
theorem hasM_any (f:Tm→Bool) (k:Nat) (lb:Array Value) (ent:∀args w,(callFunc k args).run Tryz.prog w=.ok (.enter k args) w) (v:Value) (p:List Tm) (w:World) (hv:KM.Is w v p) (hf:FitM p)
  (hk:∀(W:World) (x:Tm),Below w.heap.size w W→x.1.size≤maxLen→x.2.2.size≤maxLen→(-9223372036854775808≤x.2.1∧x.2.1≤9223372036854775807)→Calls Tryz.prog k (#[.agg (encM x).toArray]++lb) W fun e w'=>e=.returned (.bool (f x))∧Below w.heap.size w w') :
  Calls Tryz.prog 185 #[v,.func (.func k) #[] lb] w fun e w'=>e=.returned (.bool (p.any f))∧Below w.heap.size w w':=by
 obtain ⟨q,cap,rfl,hd⟩:=hv
 by_cases h0:p=[]
 ·subst h0
  refine (hasM_none q cap _ w).mono ?_
  rintro e w' ⟨rfl,rfl⟩
  exact ⟨rfl,Below.refl _ _⟩
 ·rcases hd with hd|⟨b,off,rfl,hx⟩
  ·exact absurd hd h0
  ·have hlen:0<p.length:=List.length_pos_iff.2 h0
   have hl:=hf.1
   unfold maxLen at hl
   have hfn:∀x∈p,x.1.size≤maxLen∧x.2.2.size≤maxLen∧-9223372036854775808≤x.2.1∧x.2.1≤9223372036854775807:=hf.2
   obtain ⟨zs,hzs⟩:∃zs:List Tf,zs.map (·.1)=p:=⟨p.attachWith _ hfn,List.attachWith_map_subtype_val ..⟩
   have hzl:zs.length=p.length:=by rw [←hzs,List.length_map]
   letI:Inhabited Tf:=⟨tfNone⟩
   have hc:=AnyQ.slices_ContainsFunc (α:=Tf) Tryz.hasTrm 3 Tryz.isAgg51 Tryz.sizeOf51 (fun x=>encM x.1) (fun _=>rfl) (fun x=>f x.1) k lb ent b off p.length cap zs w
    (fun W x hb=>hk W x.1 hb x.2.1 x.2.2.1 x.2.2.2) (by omega) (by omega) (cell_block (hx 0 hlen 0 _ rfl))
    (fun j hj i u hu=>by
     have hj':j<p.length:=by omega
     rw [getElem!_pos zs j hj] at hu
     have e:(zs[j]).1=p[j]:=by subst hzs;simp
     rw [e] at hu
     exact km_enc hx j hj' i u hu)
   change Calls Tryz.prog 185 _ _ _ at hc
   refine hc.mono ?_
   rintro e w' ⟨rfl,hb⟩
   refine ⟨ret_bool ?_,hb⟩
   rw [List.take_of_length_le (by omega),←hzs]
   simp [List.any_map,Function.comp_def]
theorem enters_pmis:∀args w,(callFunc 186 args).run Tryz.prog w=.ok (.enter 186 args) w:=enters_of Tryz.func186 (by kernel_rfl) rfl
theorem enters_punm:∀args w,(callFunc 181 args).run Tryz.prog w=.ok (.enter 181 args) w:=enters_of Tryz.func181 (by kernel_rfl) rfl
theorem enters_plong:∀args w,(callFunc 187 args).run Tryz.prog w=.ok (.enter 187 args) w:=enters_of Tryz.func187 (by kernel_rfl) rfl
theorem any_not (p:List Tm) (f:Tm→Bool):p.any (fun x=>!f x) = !p.all f:=by
 induction p with
 | nil=>rfl
 | cons x p ih=>simp only [List.any_cons,List.all_cons,ih,Bool.not_and]
theorem hasMis (v:Value) (p:List Tm) (w:World) (hv:KM.Is w v p) (hf:FitM p):Calls Tryz.prog 185 #[v,.func (.func 186) #[] #[]] w fun e w'=>e=.returned (.bool (!p.all namedM))∧Below w.heap.size w w':=by
 have:=hasM_any (fun x=>!namedM x) 186 #[] enters_pmis v p w hv hf (fun W x hb h1 _ _=>(pmis_any x W h1).mono fun _ _ ⟨h2,h3⟩=>⟨h2,hb.trans (h3.below.mono hb.size)⟩)
 rwa [any_not] at this
theorem hasUnm (v:Value) (p:List Tm) (w:World) (hv:KM.Is w v p) (hf:FitM p):Calls Tryz.prog 185 #[v,.func (.func 181) #[] #[]] w fun e w'=>e=.returned (.bool (!p.all rightM))∧Below w.heap.size w w':=by
 have:=hasM_any (fun x=>!rightM x) 181 #[] enters_punm v p w hv hf (fun W x hb _ _ _=>(punm_any x W).mono fun _ _ ⟨h2,h3⟩=>⟨h2,hb.trans (h3.below.mono hb.size)⟩)
 rwa [any_not] at this
theorem hasLng (v:Value) (p:List Tm) (w:World) (hv:KM.Is w v p) (hf:FitM p):Calls Tryz.prog 185 #[v,.func (.func 187) #[] #[]] w fun e w'=>e=.returned (.bool (!p.all shortM))∧Below w.heap.size w w':=by
 have:=hasM_any (fun x=>!shortM x) 187 #[] enters_plong v p w hv hf (fun W x hb _ _ _=>(plong_any x W).mono fun _ _ ⟨h2,h3⟩=>⟨h2,hb.trans (h3.below.mono hb.size)⟩)
 rwa [any_not] at this
set_option maxHeartbeats 2000000 in
set_option maxRecDepth 100000 in
theorem pmay_any (v:Value) (p:List Tm) (w:World) (hv:KM.Is w v p) (hf:FitM p) :
  Calls Tryz.prog 152 #[v] w fun e w'=>e=.returned (.int .i64 (mayM p))∧Below w.heap.size w w':=by
 obtain ⟨q,cap,hvv⟩:∃q cap,v=.slice q p.length cap:=by obtain ⟨q,cap,h,_⟩:=hv;exact ⟨q,cap,h⟩
 subst hvv
 have HV:=hid hv
 have HF:=hid hf
 have H1:=hid (hasMis _ p w hv hf)
 obtain ⟨m,hm⟩:∃m,mayM p=m:=⟨_,rfl⟩
 rw [hm]
 have HM:=hid hm
 clear hm hv hf
 unfold mayM at HM
 by_cases h8:8<p.length
 ·have h8z:(8:Int)<(p.length:Int):=by omega
  have HR:Hid (5=m):=by have:=HM.out;rw [if_pos h8] at this;exact this
  go_enter Tryz.func152,Tryz.ntmps152
  go_wp2_with fail
  go_ret
  exact ⟨ret_int HR.out,Below.refl _ _⟩
 ·have h8z:¬ (8:Int)<(p.length:Int):=by omega
  rw [if_neg h8] at HM
  cases a1:p.all namedM with
  | false =>
   rw [a1] at H1
   have HR:Hid (2=m):=by have:=HM.out;rw [if_pos a1] at this;exact this
   go_enter Tryz.func152,Tryz.ntmps152
   go_wp2_with (go_at_call 185;refine H1.out.mono ?_;rintro e w1 ⟨rfl,hb1⟩)
   go_ret
   exact ⟨ret_int HR.out,hb1⟩
  | true =>
   rw [a1] at H1
   rw [if_neg (by rw [a1];simp)] at HM
   have H2:Hid (∀W,Below w.heap.size w W→Calls Tryz.prog 185 #[.slice q p.length cap,.func (.func 181) #[] #[]] W fun e w'=>e=.returned (.bool (!p.all rightM))∧Below W.heap.size W w'):=fun W hb=>hasUnm _ p W (Kind.is_kept HV.out hb) HF.out
   have H3:Hid (∀W,Below w.heap.size w W→Calls Tryz.prog 185 #[.slice q p.length cap,.func (.func 187) #[] #[]] W fun e w'=>e=.returned (.bool (!p.all shortM))∧Below W.heap.size W w'):=fun W hb=>hasLng _ p W (Kind.is_kept HV.out hb) HF.out
   cases a2:p.all rightM with
   | false =>
    rw [a2] at H2
    have HR:Hid (1=m):=by have:=HM.out;rw [if_pos a2] at this;exact this
    go_enter Tryz.func152,Tryz.ntmps152
    go_wp2_with (first|(go_at_call 185;refine H1.out.mono ?_;rintro e w1 ⟨rfl,hb1⟩)|(go_at_call 185;refine (H2.out w1 hb1).mono ?_;rintro e w2 ⟨rfl,hb2⟩))
    go_ret
    exact ⟨ret_int HR.out,bel_then hb1 hb1.size hb2⟩
   | true =>
    rw [a2] at H2
    rw [if_neg (by rw [a2];simp)] at HM
    have h12:Hid (∀w1 w2,Below w.heap.size w w1→Below w1.heap.size w1 w2→Below w.heap.size w w2):=fun w1 w2 h k=>bel_then h h.size k
    cases a3:p.all shortM with
    | false =>
     rw [a3] at H3
     have HR:Hid (5=m):=by have:=HM.out;rw [if_pos a3] at this;exact this
     go_enter Tryz.func152,Tryz.ntmps152
     go_wp2_with (first|(go_at_call 185;refine H1.out.mono ?_;rintro e w1 ⟨rfl,hb1⟩)|(go_at_call 185;refine (H2.out w1 hb1).mono ?_;rintro e w2 ⟨rfl,hb2⟩;have hb12:=h12.out _ _ hb1 hb2)|(go_at_call 185;refine (H3.out w2 hb12).mono ?_;rintro e w3 ⟨rfl,hb3⟩))
     go_ret
     exact ⟨ret_int HR.out,bel_then hb12 hb12.size hb3⟩
    | true =>
     rw [a3] at H3
     have HR:Hid (0=m):=by have:=HM.out;rw [if_neg (by rw [a3];simp)] at this;exact this
     go_enter Tryz.func152,Tryz.ntmps152
     go_wp2_with (first|(go_at_call 185;refine H1.out.mono ?_;rintro e w1 ⟨rfl,hb1⟩)|(go_at_call 185;refine (H2.out w1 hb1).mono ?_;rintro e w2 ⟨rfl,hb2⟩;have hb12:=h12.out _ _ hb1 hb2)|(go_at_call 185;refine (H3.out w2 hb12).mono ?_;rintro e w3 ⟨rfl,hb3⟩))
     go_ret
     exact ⟨ret_int HR.out,bel_then hb12 hb12.size hb3⟩
theorem pcells {w:World} {b off:Nat} {p:List Tm} (h:KM.At w b off p) (j:Nat) (u:Value) (hu:(KM.cells p)[j]? = some u):w.cell? ⟨b,off+j,none⟩=some u:=by
 rcases Kind.src (K:=KM) (w:=w) (p:=some ⟨b,off,none⟩) (d:=p) (Or.inr ⟨b,off,rfl,h⟩) with h0|⟨ad,e,hc⟩
 ·obtain rfl:=List.length_eq_zero_iff.1 h0
  simp [Kind.cells] at hu
 ·cases e
  have:=hc j u hu
  rwa [addr_add] at this
set_option maxHeartbeats 2000000 in
set_option maxRecDepth 100000 in
theorem cloneM_any (v:Value) (p:List Tm) (w:World) (hv:KM.Is w v p) (hs:p.length * 40≤140737488355328) :
  Calls Tryz.prog 153 #[v] w fun e w'=>∃u,e=.returned u∧KM.Own w.heap.size w' u p∧Below w.heap.size w w':=by
 obtain ⟨i0,hi,hz0,hz1,hz2⟩:=info_parts Tryz.infoTrm
 obtain ⟨q,cap,rfl,hd⟩:=hv
 have q22:∀(w:World) (a:Option Addr) (n c n' c':Nat),(binOp .eql 38 (.slice a n c) (.slice none n' c')).run Tryz.prog w=.ok (.bool a.isNone) w:=fun w a n c n' c'=>Lib.run_eql_slice_nil w _ _ a n c n' c' Tryz.underlying38
 have HD:=hid hd
 clear hd
 cases q with
 | none =>
  have h0:p=[]:=by
   rcases HD.out with h|⟨b,off,h,_⟩
   ·exact h
   ·cases h
  subst h0
  go_enter Tryz.func153,Tryz.ntmps153
  go_wp2_with fail
  go_ret
  exact ⟨_,rfl,KM.own_nil _ _,Below.refl _ _⟩
 | some a =>
  have hcells:∀j u,(KM.cells p)[j]? = some u→(w.alloc (.cells #[] 51)).cell? (a.add j)=some u:=by
   rcases HD.out with h|⟨b,off,h,hx⟩
   ·subst h;intro j u hj;simp [Kind.cells] at hj
   ·intro j u hj
    obtain rfl:a=⟨b,off,none⟩:=by simpa using h
    rw [addr_add]
    have:=pcells hx j u hj
    rw [World.cell?_alloc_lt _ _ ⟨b,off+j,none⟩ (cell_block this)];exact this
  have HC:=hid hcells
  clear hcells
  go_enter Tryz.func153,Tryz.ntmps153
  go_wp2_with (at_builtin;refine wpList_append_own _ rfl _ _ 38 rfl w.heap.size 51 i0 (.agg #[.string ⟨#[]⟩,.int .i64 0,.string ⟨#[]⟩]) 3 40 Tryz.underlying38 hi hz0 hz1 hz2 rfl (by decide) _ _ _ rfl (World.ownsRow_made w #[] 0 (Nat.le_refl _) (Nat.zero_le _) (by simp)) a p.length cap (KM.cells p) rfl ?c0 ?c1 ?c2 ?c3 ?c4 ?c5 ?_)
  case c0=>exact KM.cells_len p
  case c1=>exact HC.out
  case c2=>exact KM.cells_ones p
  case c3=>unfold maxLen;omega
  case c4=>omega
  case c5=>simp
  intro v' w1 hown hgrow hnil
  have hb1:Below w.heap.size w w1:=((Below.refl _ w).alloc (Nat.le_refl _) _).grown hgrow (by simp) (by intro k hk;simp [Value.ownBlock] at hk;omega)
  have HO:Hid (KM.Own w.heap.size w1 v' p):=hid (by show w1.ownsRow w.heap.size 51 3 v' p.length (KM.cells p);simpa using hown)
  clear hown hgrow hnil
  go_wp2_with fail
  go_ret
  exact ⟨_,rfl,HO.out,hb1⟩
set_option maxHeartbeats 2000000 in
theorem sortM_none (fv:Value) (w:World) :
  Calls Tryz.prog 154 #[.slice none 0 0,fv] w fun e w'=>e=.returned (.tuple #[])∧w'=w:=by
 have hi:∀W,Calls Tryz.prog 218 #[.slice none 0 0,.int .i64 0,.int .i64 0,fv] W fun e w'=>e=.returned (.tuple #[])∧w'=W:=fun W=>by
  go_enter Tryz.func218,Tryz.ntmps218
  go_wp2_with fail
  refine wp_loop_rounds 1 ?_
  rw [rounds_succ]
  go_wp2_with fail
  go_end0
  exact ⟨rfl,rfl⟩
 have HI:=hid hi
 clear hi
 have hp:∀(l:Int) W,Calls Tryz.prog 188 #[.slice none 0 0,.int .i64 0,.int .i64 0,.int .i64 l,fv] W fun e w'=>e=.returned (.tuple #[])∧w'=W:=fun l W=>by
  go_enter Tryz.func188,Tryz.ntmps188
  go_wp2_with fail
  refine wp_loop_rounds 1 ?_
  rw [rounds_succ]
  go_wp2_with (first|(go_at_call 218;refine (HI.out _).mono ?_;rintro e w1 ⟨rfl,rfl⟩))
  refine bodyPost_ret (results_none (h:=Tryz.results188) _ _ _) rfl ?_
  exact ⟨rfl,rfl⟩
 have HP:=hid hp
 clear hp
 go_enter Tryz.func154,Tryz.ntmps154
 go_wp2_with (first|(go_at_call 189;refine (Tryz.bits_Len 0 _ (by omega) (by omega)).mono ?_;rintro e w1 ⟨rfl,rfl⟩)|(go_at_call 188;refine (HP.out _ _).mono ?_;rintro e w1 ⟨rfl,rfl⟩))
 go_end0
 exact ⟨rfl,rfl⟩
set_option maxHeartbeats 1000000 in
theorem compM_none (w:World) :
  Calls Tryz.prog 156 #[.slice none 0 0] w fun e w'=>e=.returned (.slice none 0 0)∧w'=w:=by
 go_enter Tryz.func156,Tryz.ntmps156
 go_wp2_with fail
 go_ret
 exact ⟨rfl,rfl⟩
theorem sort_own (n0:Nat) (u:Value) (p:List Tm) (w:World) (h:KM.Own n0 w u p) (h0:n0≤w.heap.size) (h12:p.length≤12) :
  Calls Tryz.prog 154 #[u,.func (.func 155) #[] #[]] w fun e w' =>
   e=.returned (.tuple #[])∧∃d':Array Tm,d'.toList.Perm p∧SortedIn (ltOf cmpM) 0 d'.size d'∧KM.Own n0 w' u d'.toList∧Below n0 w w':=by
 rcases h.2 with ⟨rfl,hl⟩|⟨g,cap,cur,rfl,_⟩
 ·obtain rfl:=List.length_eq_zero_iff.1 hl
  refine (sortM_none _ w).mono ?_
  rintro e w' ⟨rfl,rfl⟩
  exact ⟨rfl,#[],List.Perm.refl _,fun i j _ _ hj=>absurd hj (Nat.not_lt_zero _),KM.own_nil _ _,Below.refl _ _⟩
 ·refine (sortM_rows n0 g p.length cap p w h rfl h0 h12).mono ?_
  rintro e w' ⟨rfl,d',_,h2,h3,h4,h5⟩
  exact ⟨rfl,d',h2,h3,h4,h5⟩
theorem comp_own (n0:Nat) (u:Value) (d:Array Tm) (w:World) (h:KM.Own n0 w u d.toList) (h0:n0≤w.heap.size) (h12:d.size≤12) :
  Calls Tryz.prog 156 #[u] w fun e w'=>∃u',e=.returned u'∧KM.Own n0 w' u' (compactUpTo d d.size)∧Below n0 w w':=by
 rcases h.2 with ⟨rfl,hl⟩|⟨g,cap,cur,rfl,_⟩
 ·have hz:d.size=0:=by simpa using hl
  refine (compM_none w).mono ?_
  rintro e w' ⟨rfl,rfl⟩
  refine ⟨_,rfl,?_,Below.refl _ _⟩
  rw [hz]
  exact KM.own_nil _ _
 ·refine (compact_any n0 g d.toList.length cap d w h (by simp) h0 (by simp;omega)).mono ?_
  rintro e w' ⟨rfl,h1,h2⟩
  exact ⟨_,rfl,h1,h2⟩
set_option maxHeartbeats 2000000 in
set_option maxRecDepth 100000 in
theorem pnorm_any (v:Value) (p:List Tm) (w:World) (hv:KM.Is w v p) (hf:FitM p) :
  Calls Tryz.prog 110 #[v] w fun e w'=>NMPost w p e w':=by
 have HM:=hid (pmay_any v p w hv hf)
 by_cases hm:mayM p=0
 ·have h8:=(mayM_zero hm).1
  have HA:Hid (ansM p=sortM p):=by show _=_;unfold ansM;rw [if_pos hm]
  rw [hm] at HM
  have HM0:=hid hm
  have HC:Hid (∀W:World,Below w.heap.size w W→Calls Tryz.prog 153 #[v] W fun e w'=>∃u,e=.returned u∧KM.Own W.heap.size w' u p∧Below W.heap.size W w'):=fun W hb=>cloneM_any v p W (Kind.is_kept hv hb) (by omega)
  clear hv hf hm
  go_enter Tryz.func110,Tryz.ntmps110
  go_wp2_with (first
   | (go_at_call 152;refine HM.out.mono ?_;rintro e w1 ⟨rfl,hb1⟩)
   | (go_at_call 153;refine (HC.out w1 hb1).mono ?_;rintro e w2 ⟨u2,rfl,ho2,hb2⟩;have HO2:=hid ho2;clear ho2)
   | (go_at_call 154;refine (sort_own w1.heap.size u2 p w2 HO2.out hb2.size (by omega)).mono ?_;rintro e w3 ⟨rfl,d3,hp3,hs3,ho3,hb3⟩;have HO3:=hid ho3;have HP3:=hid hp3;have HS3:=hid hs3;have hl3:d3.size≤8:=(by have:=HP3.out.length_eq;rw [Array.length_toList] at this;omega);clear ho3 hp3 hs3)
   | (go_at_call 156;refine (comp_own w1.heap.size u2 d3 w3 HO3.out (Nat.le_trans hb2.size hb3.size) (by omega)).mono ?_;rintro e w4 ⟨u4,rfl,ho4,hb4⟩;have HO4:=hid ho4;clear ho4))
  go_ret2
  refine ⟨⟨u4,by rw [HM0.out];rfl,?_⟩,?_⟩
  ·rw [HA.out]
   obtain ⟨r1,r2⟩:=compact_sorted HS3.out
   have e:=sortM_unique (p:=p) r1 (fun x=>(r2 x).trans HP3.out.mem_iff)
   rw [←e]
   exact Kind.own_weak HO4.out hb1.size
  ·exact ((hb1.trans (hb2.mono hb1.size)).trans (hb3.mono hb1.size)).trans (hb4.mono hb1.size)
 ·have hne:(mayM p != 0)=true:=by rw [bne_iff_ne];exact hm
  have HA:Hid (ansM p=[]):=by show _=_;unfold ansM;rw [if_neg hm]
  obtain ⟨M,hM⟩:∃M,mayM p=M:=⟨_,rfl⟩
  rw [hM] at HM hne
  have HMM:=hid hM
  clear hv hf hm hM
  go_enter Tryz.func110,Tryz.ntmps110
  go_wp2_with (first|(go_at_call 152;refine HM.out.mono ?_;rintro e w1 ⟨rfl,hb1⟩))
  go_ret2
  refine ⟨⟨.slice none 0 0,by rw [HMM.out];rfl,?_⟩,hb1⟩
  rw [HA.out]
  exact KM.own_nil _ _
theorem neqM_at:NeqAt Tryz.prog 51 (fun x:Tm=>.agg (encM x).toArray) (fun x y=>decide (x=y)) :=
 ⟨fun x y w=>neq_term x y w,GuardAt.agg (fun x:Tm=>(encM x).toArray) (by kernel_rfl)⟩
theorem allEq_decide:∀(p q:List Tm),Lib.allEq (fun x y=>decide (x=y)) p q=decide (p=q)
 | [],[]=>rfl
 | [],y::q=>by simp [Lib.allEq]
 | x::p,[]=>by simp [Lib.allEq]
 | x::p,y::q=>by
  have:=allEq_decide p q
  unfold Lib.allEq
  rw [this]
  by_cases h1:x=y<;>by_cases h2:p=q<;>simp [h1,h2]
set_option maxHeartbeats 1000000 in
theorem eqM_none1 (q1 q2:Option Addr) (c1 c2 m:Nat) (hm:m≤maxLen) (w:World) :
  Calls Tryz.prog 103 #[.slice q1 0 c1,.slice q2 m c2] w fun e w'=>e=.returned (.bool (decide (m=0)))∧w'=w:=by
 unfold maxLen at hm
 by_cases h0:m=0
 ·subst h0
  go_enter Tryz.func103,Tryz.ntmps103
  go_wp2_with fail
  refine wp_loop_rounds 1 ?_
  rw [rounds_succ]
  go_wp2_with fail
  go_ret
  exact ⟨rfl,rfl⟩
 ·have hz:((0:Int) != (m:Int))=true:=by simp;omega
  have hd:=decide_eq_false h0
  rw [hd]
  go_enter Tryz.func103,Tryz.ntmps103
  go_wp2_with fail
  go_ret
  exact ⟨rfl,rfl⟩
set_option maxHeartbeats 1000000 in
theorem eqM_none2 (q1 q2:Option Addr) (c1 c2 m:Nat) (hm:m≠0) (w:World) :
  Calls Tryz.prog 103 #[.slice q1 m c1,.slice q2 0 c2] w fun e w'=>e=.returned (.bool false)∧w'=w:=by
 have hz:((m:Int) != 0)=true:=by simp;omega
 go_enter Tryz.func103,Tryz.ntmps103
 go_wp2_with fail
 go_ret
 exact ⟨rfl,rfl⟩
theorem eqM_any (v u:Value) (p q:List Tm) (w:World) (hv:KM.Is w v p) (hu:KM.Is w u q) (hl1:p.length≤maxLen) (hl2:q.length≤maxLen) :
  Calls Tryz.prog 103 #[v,u] w fun e w'=>e=.returned (.bool (decide (p=q)))∧∃n,w'=w.drewN n:=by
 obtain ⟨a1,k1,rfl,hd1⟩:=hv
 obtain ⟨a2,k2,rfl,hd2⟩:=hu
 by_cases h1:p=[]
 ·subst h1
  refine (eqM_none1 a1 a2 k1 k2 q.length hl2 w).mono ?_
  rintro e w' ⟨rfl,rfl⟩
  refine ⟨ret_bool ?_,0,rfl⟩
  cases q<;>simp
 ·by_cases h2:q=[]
  ·subst h2
   refine (eqM_none2 a1 a2 k1 k2 p.length (fun e=>h1 (List.length_eq_zero_iff.1 e)) w).mono ?_
   rintro e w' ⟨rfl,rfl⟩
   exact ⟨ret_bool (by rw [decide_eq_false h1]),0,rfl⟩
  ·rcases hd1 with hd1|⟨b1,o1,rfl,x1⟩
   ·exact absurd hd1 h1
   ·rcases hd2 with hd2|⟨b2,o2,rfl,x2⟩
    ·exact absurd hd2 h2
    ·unfold maxLen at hl1 hl2
     have hc:=AnyQ.slices_Equal (α:=Tm) Tryz.eqTrm 3 Tryz.isAgg51 Tryz.sizeOf51 encM (fun _=>rfl) (fun x y=>decide (x=y)) neqM_at b1 o1 p.length k1 b2 o2 q.length k2 p q w (Nat.le_refl _) (Nat.le_refl _) (by omega) (by omega)
      (fun j hj i v hv=>by rw [getElem!_pos p j hj] at hv;exact km_enc x1 j hj i v hv) (fun j hj i v hv=>by rw [getElem!_pos q j hj] at hv;exact km_enc x2 j hj i v hv)
     change Calls Tryz.prog 103 _ _ _ at hc
     refine hc.mono ?_
     rintro e w' ⟨rfl,n,rfl⟩
     exact ⟨ret_bool (by rw [List.take_length,List.take_length,allEq_decide]),n,rfl⟩
set_option maxHeartbeats 1000000 in
theorem pequal_any (v u:Value) (p q:List Tm) (w:World) (hv:KM.Is w v p) (hu:KM.Is w u q) (hl1:p.length≤maxLen) (hl2:q.length≤maxLen) :
  Calls Tryz.prog 58 #[v,u] w fun e w'=>e=.returned (.bool (decide (p=q)))∧Below w.heap.size w w':=by
 have HE:=hid (eqM_any v u p q w hv hu hl1 hl2)
 clear hv hu
 go_enter Tryz.func58,Tryz.ntmps58
 go_wp2_with (go_at_call 103;refine HE.out.mono ?_;rintro e w1 ⟨rfl,n,rfl⟩)
 go_ret
 exact ⟨rfl,bel_drewN (Below.refl _ _) n⟩
end
section
open Go.RowKit Go.Lib
def BoxM (w:World) (g:Nat) (x:Tm):Prop:=w.heap[g]? = some (.cells #[.string x.1,.int .i64 x.2.1,.string x.2.2] 51 (0,0))
theorem BoxM.cells {w:World} {g:Nat} {x:Tm} (h:BoxM w g x):w.cell? ⟨g,0,none⟩=some (.string x.1)∧w.cell? ⟨g,1,none⟩=some (.int .i64 x.2.1)∧w.cell? ⟨g,2,none⟩=some (.string x.2.2):=by
 rw [Lib.cell_of_heap h,Lib.cell_of_heap h,Lib.cell_of_heap h]
 exact ⟨rfl,rfl,rfl⟩
theorem BoxM.lt {w:World} {g:Nat} {x:Tm} (h:BoxM w g x):g<w.heap.size:=(Array.getElem?_eq_some_iff.1 h).1
theorem BoxM.on {w w':World} {g:Nat} {x:Tm} (h:BoxM w g x) (hb:Below w.heap.size w w'):BoxM w' g x:=(hb.block g h.lt).trans h
theorem boxM_new (w:World) (x:Tm):BoxM (w.alloc (.cells #[.string x.1,.int .i64 x.2.1,.string x.2.2] 51)) w.heap.size x:=heap_alloc_new w _
end
section
open Go.RowKit Go.Lib Go.ChangeMaps
def signsA:ByteArray:=⟨#[61,33,94,60,62,63,45]⟩
theorem signs_op (c:UInt8):signsA.data.toList.contains c=isOp c:=by
 rw [Bool.eq_iff_iff]
 constructor
 ·intro h
  have:c∈signsA.data.toList:=by simpa using h
  simp [signsA] at this
  rcases this with rfl|rfl|rfl|rfl|rfl|rfl|rfl<;>decide
 ·intro h
  rcases op_sign h with rfl|rfl|rfl|rfl|rfl|rfl|rfl<;>decide
def FirstOp (l:List UInt8) (k:Int):Prop:=(k=-1∧∀c∈l,isOp c=false)∨∃i:Nat,k=i∧∃h:i<l.length,isOp l[i]=true∧∀c∈l.take i,isOp c=false
theorem indexAny_first:∀l:List UInt8,FirstOp l (Lib.indexAny l signsA.data.toList)
 | []=>Or.inl ⟨rfl,fun c hc=>by simp at hc⟩
 | b::l=>by
  have ih:=indexAny_first l
  unfold Lib.indexAny
  rw [signs_op]
  cases hb:isOp b with
  | true =>
   rw [if_pos rfl]
   exact Or.inr ⟨0,rfl,by simp,hb,fun c hc=>by simp at hc⟩
  | false =>
   rw [if_neg (by simp)]
   rcases ih with ⟨h1,h2⟩|⟨i,h1,hi,h3,h4⟩
   ·rw [h1]
    refine Or.inl ⟨rfl,fun c hc=>?_⟩
    rcases List.mem_cons.1 hc with rfl|hc
    ·exact hb
    ·exact h2 c hc
   ·rw [h1]
    have:((i:Int) == -1)=false:=by simp
    rw [this,if_neg (by simp)]
    refine Or.inr ⟨i+1,rfl,by simpa using hi,by simpa using h3,fun c hc=>?_⟩
    rw [List.take_succ_cons] at hc
    rcases List.mem_cons.1 hc with rfl|hc
    ·exact hb
    ·exact h4 c hc
theorem get_at (s:ByteArray) (i:Nat) (h:i<s.size):s.get! i=s[i]'h:=by
 simp [ByteArray.get!,getElem!_pos,h]
 rfl
theorem dec_high (s:ByteArray) (pos:Nat) (h:pos<s.size) (hb:128≤(s[pos]'h).toNat) :
  128≤(Utf8.decode s pos).1∧(Utf8.decode s pos).1≤2097151∧1≤(Utf8.decode s pos).2∧pos+(Utf8.decode s pos).2≤s.size∧∀j,pos≤j→j<pos+(Utf8.decode s pos).2→128≤(s.get! j).toNat:=by
 have e0:(s.get! (pos+0)).toNat=(s[pos]'h).toNat:=by rw [Nat.add_zero,get_at s pos h]
 have hlt:∀k,(s.get! (pos+k)).toNat<256:=fun k=>UInt8.toNat_lt _
 have hcont:∀k,(decide (pos+k<s.size)&&(s.get! (pos+k)).toNat / 64==2)=true→pos+k<s.size∧128≤(s.get! (pos+k)).toNat:=fun k hk=>by
  rw [Bool.and_eq_true] at hk
  have h1:=of_decide_eq_true hk.1
  have h2:=beq_iff_eq.1 hk.2
  exact ⟨h1,by omega⟩
 have hp0:128≤(s.get! pos).toNat:=by rw [get_at s pos h];exact hb
 have hone:∀j,pos≤j→j<pos+1→128≤(s.get! j).toNat:=fun j h1 h2=>by
  have:j=pos:=by omega
  subst this;exact hp0
 have herr:(128≤Utf8.runeError)∧Utf8.runeError≤2097151:=by decide
 unfold Utf8.decode
 simp only [e0]
 have h80:¬ (s[pos]'h).toNat<128:=by omega
 rw [if_neg h80]
 have hbound:(s[pos]'h).toNat<256:=UInt8.toNat_lt _
 have l1:=hlt 1
 have l2:=hlt 2
 have l3:=hlt 3
 split
 ·rename_i h1
  rw [Bool.and_eq_true] at h1
  obtain ⟨c1,c2⟩:=hcont 1 h1.2
  split
  ·rename_i h2
   refine ⟨h2,by omega,by omega,by omega,fun j g1 g2=>?_⟩
   rcases (show j=pos∨j=pos+1 by omega) with rfl|rfl
   ·exact hp0
   ·exact c2
  ·exact ⟨herr.1,herr.2,by omega,by omega,hone⟩
 ·split
  ·rename_i h1
   rw [Bool.and_eq_true,Bool.and_eq_true] at h1
   obtain ⟨c1,c2⟩:=hcont 1 h1.1.2
   obtain ⟨d1,d2⟩:=hcont 2 h1.2
   split
   ·rename_i h2
    rw [Bool.and_eq_true] at h2
    have h3:=of_decide_eq_true h2.1
    refine ⟨by omega,by omega,by omega,by omega,fun j g1 g2=>?_⟩
    rcases (show j=pos∨j=pos+1∨j=pos+2 by omega) with rfl|rfl|rfl
    ·exact hp0
    ·exact c2
    ·exact d2
   ·exact ⟨herr.1,herr.2,by omega,by omega,hone⟩
  ·split
   ·rename_i h1
    rw [Bool.and_eq_true,Bool.and_eq_true,Bool.and_eq_true] at h1
    obtain ⟨c1,c2⟩:=hcont 1 h1.1.1.2
    obtain ⟨d1,d2⟩:=hcont 2 h1.1.2
    obtain ⟨f1,f2⟩:=hcont 3 h1.2
    split
    ·rename_i h2
     rw [Bool.and_eq_true] at h2
     have h3:=of_decide_eq_true h2.1
     refine ⟨by omega,by omega,by omega,by omega,fun j g1 g2=>?_⟩
     rcases (show j=pos∨j=pos+1∨j=pos+2∨j=pos+3 by omega) with rfl|rfl|rfl|rfl
     ·exact hp0
     ·exact c2
     ·exact d2
     ·exact f2
    ·exact ⟨herr.1,herr.2,by omega,by omega,hone⟩
   ·exact ⟨herr.1,herr.2,by omega,by omega,hone⟩
theorem enc_last (r:Int) (h:128≤r):∃m:Nat,1≤m∧m≤3∧∃hs:(Utf8.encode r).size=m+1,128≤((Utf8.encode r)[m]'(by omega)).toNat:=by
 have hof:∀n:Nat,128≤n→n<256→128≤(UInt8.ofNat n).toNat:=fun n h1 h2=>by
  rw [UInt8.toNat_ofNat_of_lt' (by simpa using h2)];exact h1
 unfold Utf8.encode
 obtain ⟨c,hc⟩:∃c,(if Utf8.valid r=true then r.toNat else Utf8.runeError)=c:=⟨_,rfl⟩
 have hc128:128≤c:=by
  rw [←hc]
  split
  ·omega
  ·decide
 simp only [hc]
 have h0:¬ c<128:=by omega
 simp only [if_neg h0]
 by_cases h1:c<2048
 ·simp only [if_pos h1]
  exact ⟨1,by omega,by omega,rfl,hof _ (by omega) (by omega)⟩
 ·simp only [if_neg h1]
  by_cases h2:c<65536
  ·simp only [if_pos h2]
   exact ⟨2,by omega,by omega,rfl,hof _ (by omega) (by omega)⟩
  ·simp only [if_neg h2]
   exact ⟨3,by omega,by omega,rfl,hof _ (by omega) (by omega)⟩
theorem run_next_at (W:World) (N:Nat) (s:ByteArray) (pos:Nat) (ty:TypeId) (hN:W.heap[N]? = some (.stringIter s pos)) (h:pos<s.size) :
  (Instr.next (.pointer (some ⟨N,0,none⟩)) true ty).run Tryz.prog W =
   .ok (.tuple #[.bool true,.int .i64 pos,.int .i32 (Utf8.decode s pos).1]) (setBlock W N (.stringIter s (pos+(Utf8.decode s pos).2))):=by
 have hlt:=(Array.getElem?_eq_some_iff.1 hN).1
 simp [Instr.next,getObj,setObj,Sem.run,hN,h,goInt,Result.andThen,setBlock]
theorem run_next_stop (W:World) (N:Nat) (s:ByteArray) (pos:Nat) (ty:TypeId) (hN:W.heap[N]? = some (.stringIter s pos)) (h:¬ pos<s.size) :
  (Instr.next (.pointer (some ⟨N,0,none⟩)) true ty).run Tryz.prog W=.ok (.tuple #[.bool false]) W:=by
 simp [Instr.next,getObj,Sem.run,hN,h,Result.andThen]
theorem signs_low (x:UInt8) (h:x∈(⟨#[61,33,94,60,62,63,45]⟩:ByteArray).data.toList):x.toNat<128:=by
 simp at h
 rcases h with rfl|rfl|rfl|rfl|rfl|rfl|rfl<;>decide
set_option maxHeartbeats 4000000 in
set_option maxRecDepth 100000 in
theorem ixrune_err (w:World) :
  Calls Tryz.prog 207 #[.string ⟨#[61,33,94,60,62,63,45]⟩,.int .i32 65533] w fun e w'=>e=.returned (.int .i64 (-1))∧Grown w w':=by
 obtain ⟨s,hs⟩:∃s:ByteArray,⟨#[61,33,94,60,62,63,45]⟩=s:=⟨_,rfl⟩
 have h7:s.size=7:=by rw [←hs];rfl
 have hlow:∀(i:Nat) (h:i<s.size),(s[i]'h).toNat<128:=by
  subst hs
  intro i h
  exact signs_low _ (List.getElem_mem (l:=(⟨#[61,33,94,60,62,63,45]⟩:ByteArray).data.toList) (n:=i) h)
 rw [hs]
 clear hs
 go_enter Tryz.func207,Tryz.ntmps207
 go_wp2_with fail
 go_loopg [5,6] 7 (fun g _ _ wx=>∃i:Nat,i+g=7∧wx=w.iter s i)
 case atStart=>exact ⟨0,by omega,rfl⟩
 case round =>
  obtain ⟨i,hig,rfl⟩:=hrel
  cases gk with
  | zero =>
   have hnx:=fun ty=>run_next_end (P:=Tryz.prog) w s i ty (by omega)
   go_wp2_with fail
   go_ret
   exact ⟨rfl,(Grown.refl _).alloc _⟩
  | succ g =>
   have hi:i<s.size:=by omega
   have hx:=hlow i hi
   have hnx:=fun ty=>run_next_ascii (P:=Tryz.prog) w s i ty hi hx
   have hne:(((s[i]'hi).toNat:Int)==65533)=false:=by simp;omega
   clear hlow
   go_wp2_with fail
   go_roundg g
   case measure=>omega
   case rel=>exact ⟨i+1,by omega,rfl⟩
set_option maxHeartbeats 4000000 in
set_option maxRecDepth 100000 in
theorem ixrune_valid (r:Int) (h1:128≤r) (h2:r≤2097151) (hv:Lib.validRune r=true) (hne:r≠65533) (w:World) :
  Calls Tryz.prog 207 #[.string ⟨#[61,33,94,60,62,63,45]⟩,.int .i32 r] w fun e w'=>e=.returned (.int .i64 (-1))∧Grown w w':=by
 obtain ⟨m,hm1,hm3,hs,hb⟩:=enc_last r h1
 obtain ⟨pat,hpat⟩:∃pat,Utf8.encode r=pat:=⟨_,rfl⟩
 simp only [hpat] at hs hb
 obtain ⟨b,hbe⟩:∃b,pat[m]'(by omega)=b:=⟨_,rfl⟩
 rw [hbe] at hb
 have hz:(0:Int)≤r:=by omega
 have h128:decide (r<128)=false:=decide_eq_false (by omega)
 have hne':(r==65533)=false:=by simpa using hne
 have HV:=hid hv
 obtain ⟨s,hse⟩:∃s:ByteArray,⟨#[61,33,94,60,62,63,45]⟩=s:=⟨_,rfl⟩
 have h7:s.size=7:=by rw [←hse];rfl
 have hlow:∀x∈s.data.toList,x.toNat<128:=by subst hse;exact signs_low
 rw [hse]
 clear hv hne hse
 have hback:((b.toNat:Int)).toNat.toUInt8=b:=by simp
 have HIX:Hid (∀W k,Calls Tryz.prog 180 #[.string (s.extract k s.size),.int .u8 b.toNat] W fun e w'=>e=.returned (.int .i64 (-1))∧w'=W):=fun W k=>by
  have:=Tryz.strings_IndexByte (s.extract k s.size) b.toNat W
  rw [hback,ix_none (fun hc=>by
   have hm:b∈s.data.toList:=by
    have e:(s.extract k s.size).data.toList=s.data.toList.drop k:=by
     have:=ext_drop s k
     exact this
    rw [e] at hc
    exact List.mem_of_mem_drop hc
   have:=hlow b hm
   omega)] at this
  exact this
 have hsm:m<s.size:=by omega
 obtain ⟨c,hce⟩:∃c,s[m]'hsm=c:=⟨_,rfl⟩
 have hc:c.toNat<128:=by
  rw [←hce]
  exact hlow _ (List.getElem_mem (l:=s.data.toList) (n:=m) (by simpa using hsm))
 have hx:((c.toNat:Int) != (b.toNat:Int))=true:=by simp;omega
 have hmz:(0:Int)≤m:=by omega
 have hms:(m:Int)<(s.size:Int):=by omega
 have hmp:(m:Int)<(pat.size:Int):=by omega
 have hpz:(pat.size:Int)-1=(m:Int):=by omega
 have hww:IntKind.i64.wrap ((m:Int)+1)=(m:Int)+1:=wrap_i64 _ (by omega) (by omega)
 have hm1s:(m:Int)+1≤(s.size:Int):=by omega
 have hm0z:(0:Int)≤(m:Int)+1:=by omega
 have hmt:((m:Int)+1).toNat=m+1:=by omega
 have hmp2:m<pat.size:=by omega
 have hbe2:pat[m]'hmp2=b:=hbe
 clear hbe
 clear h7 hs
 clear hlow
 go_enter Tryz.func207,Tryz.ntmps207
 go_wp2_with (first|(go_at_call 232;refine (Tryz.utf8_ValidRune _ _).mono ?_;rintro e w1 ⟨rfl,rfl⟩;rw [HV.out]))
 go_step3
 go_wp2_with fail
 refine wp_loop_rounds 1 ?_
 rw [rounds_succ]
 go_wp2_with fail
 go_step3
 go_wp2_with fail
 go_quiet (fail)
 go_wp2_with fail
 have hG2:=Grown.draws w1 nq
 generalize w1.drewN nq=W2 at hG2 ⊢
 go_quiet (first|(go_at_call 180;refine Calls.quiet_of_same (HIX.out _ _)))
 go_wp2_with fail
 repeat (first|rw [Exit.noGoto_ret]|simp only [Exit.inBlock,Exit.then])
 go_ret
 exact ⟨rfl,hG2.drewN _⟩
set_option maxHeartbeats 2000000 in
set_option maxRecDepth 100000 in
theorem ixrune_none (r:Int) (h1:128≤r) (h2:r≤2097151) (w:World) :
  Calls Tryz.prog 207 #[.string ⟨#[61,33,94,60,62,63,45]⟩,.int .i32 r] w fun e w'=>e=.returned (.int .i64 (-1))∧Grown w w':=by
 by_cases hne:r=65533
 ·subst hne;exact ixrune_err w
 ·cases hv:Lib.validRune r with
  | true=>exact ixrune_valid r h1 h2 hv hne w
  | false =>
   have h128:decide (r<128)=false:=decide_eq_false (by omega)
   have hz:(0:Int)≤r:=by omega
   have hne':(r==65533)=false:=by simpa using hne
   have HV:=hid hv
   clear hv hne
   go_enter Tryz.func207,Tryz.ntmps207
   go_wp2_with (first|(go_at_call 232;refine (Tryz.utf8_ValidRune _ _).mono ?_;rintro e w1 ⟨rfl,rfl⟩;rw [HV.out]))
   repeat (first|rw [Exit.noGoto_ret]|simp only [Exit.inBlock,Exit.then])
   go_ret
   exact ⟨rfl,Grown.refl _⟩
def ItAt (W:World) (N:Nat) (s:ByteArray) (pos:Nat):Prop:=W.heap[N]? = some (.stringIter s pos)
theorem it_step {w W:World} {s:ByteArray} {pos:Nat} (h:ItAt W w.heap.size s pos) (hb:Below w.heap.size w W) (p':Nat) :
  ItAt (setBlock W w.heap.size (.stringIter s p')) w.heap.size s p'∧Below w.heap.size w (setBlock W w.heap.size (.stringIter s p')):=by
 have hlt:=(Array.getElem?_eq_some_iff.1 h).1
 refine ⟨by unfold ItAt setBlock;simp [hlt],hb.os,hb.tape,hb.output,by simpa [setBlock] using hb.size,fun k hk=>?_⟩
 refine Eq.trans ?_ (hb.block k hk)
 show (W.heap.setIfInBounds w.heap.size _)[k]? = _
 rw [Array.getElem?_setIfInBounds,if_neg (by omega)]
set_option maxHeartbeats 4000000 in
set_option maxRecDepth 100000 in
theorem ixany_short (s:ByteArray) (w:World) (h8:s.size≤8) :
  Calls Tryz.prog 179 #[.string s,.string ⟨#[61,33,94,60,62,63,45]⟩] w fun e w'=>(∃k,e=.returned (.int .i64 k)∧FirstOp s.data.toList k)∧Below w.heap.size w w':=by
 have h8z:decide ((8:Int)<(s.size:Int))=false:=decide_eq_false (by omega)
 obtain ⟨cs,hcs⟩:∃cs:ByteArray,⟨#[61,33,94,60,62,63,45]⟩=cs:=⟨_,rfl⟩
 have HCS:=hid hcs
 have hemp:cs.toList.isEmpty=false:=sfull_of (by rw [←hcs];decide)
 have hn1:((cs.size:Int)==1)=false:=by rw [←hcs];rfl
 rw [hcs]
 clear hcs
 go_enter Tryz.func179,Tryz.ntmps179
 go_wp2_with (go_at_call 208;refine (Tryz.strings_shouldUseASCIISet _ _).mono ?_;rintro e w' ⟨rfl,hw⟩;rw [hw,h8z])
 go_loopg [9,10] s.size (fun g _ _ wx=>∃i:Nat,i≤s.size∧s.size-i≤g∧Hid (ItAt wx w.heap.size s i)∧Hid (Below w.heap.size w wx)∧Hid (∀c∈s.data.toList.take i,isOp c=false))
 case atStart=>exact ⟨0,by omega,by omega,World.iter_heap _ _ _,(Below.refl _ _).alloc (Nat.le_refl _) _,fun c hc=>by simp at hc⟩
 case round =>
  obtain ⟨i,hi,hg,HI,HB,HN⟩:=hrel
  by_cases hlt:i<s.size
  ·have hil:i<s.data.toList.length:=by simpa using hlt
   have hnx:=fun ty=>run_next_at wr w.heap.size s i ty HI.out hlt
   obtain ⟨x,hx⟩:∃x:UInt8,s[i]'hlt=x:=⟨_,rfl⟩
   have hxl:s.data.toList[i]=x:=hx
   by_cases hx128:x.toNat<128
   ·have hdec:=decode_ascii s i hlt (by rw [hx];exact hx128)
    rw [hx] at hdec
    rw [hdec] at hnx
    obtain ⟨hi2,hb2⟩:=it_step HI.out HB.out (i+1)
    simp only at hnx
    obtain ⟨W1,hW1⟩:∃W1,setBlock wr w.heap.size (.stringIter s (i+1))=W1:=⟨_,rfl⟩
    rw [hW1] at hnx hi2 hb2
    have HI2:=hid hi2
    have HB2:=hid hb2
    have HXL:=hid hxl
    have hback:((x.toNat:Int)).toNat.toUInt8=x:=by simp
    have hcon:=Lib.contains_iff_indexByte cs.data.toList x
    have e1:cs.data.toList.contains x=isOp x:=by rw [←HCS.out];exact signs_op x
    rw [e1] at hcon
    cases hop:isOp x with
    | true =>
     rw [hop] at hcon
     have hge:(0:Int)≤Lib.indexByte cs.data.toList x:=of_decide_eq_true hcon.symm
     have HF:Hid (FirstOp s.data.toList (i:Int)):=Or.inr ⟨i,rfl,hil,by rw [hxl];exact hop,HN.out⟩
     clear hcon e1 hxl hx hW1 hi2 hb2 hdec hop
     go_wp2_with (go_at_call 207;refine (Tryz.strings_IndexRune_ascii _ _ _ (by omega) (by omega)).mono ?_;rintro e w' ⟨rfl,hw⟩;rw [hw,hback])
     go_ret
     exact ⟨⟨_,rfl,HF.out⟩,HB2.out⟩
    | false =>
     rw [hop] at hcon
     have hge:¬ ((0:Int)≤Lib.indexByte cs.data.toList x):=of_decide_eq_false hcon.symm
     have HF:Hid (∀c∈s.data.toList.take (i+1),isOp c=false):=fun c hc=>by
      rw [List.take_succ_eq_append_getElem hil,List.mem_append,List.mem_singleton] at hc
      rcases hc with hc|hc
      ·exact HN.out c hc
      ·rw [hc,hxl];exact hop
     clear hcon e1 hxl hx hW1 hi2 hb2 hdec hop
     go_wp2_with (go_at_call 207;refine (Tryz.strings_IndexRune_ascii _ _ _ (by omega) (by omega)).mono ?_;rintro e w' ⟨rfl,hw⟩;rw [hw,hback])
     go_roundg (s.size-(i+1))
     case measure=>omega
     case rel=>exact ⟨i+1,by omega,by omega,HI2,HB2,HF⟩
   ·obtain ⟨r1,r2,r3,r4,r5⟩:=dec_high s i hlt (by rw [hx];omega)
    obtain ⟨hi2,hb2⟩:=it_step HI.out HB.out (i+(Utf8.decode s i).2)
    obtain ⟨r,hr⟩:∃r,(Utf8.decode s i).1=r:=⟨_,rfl⟩
    obtain ⟨k,hk⟩:∃k,(Utf8.decode s i).2=k:=⟨_,rfl⟩
    rw [hr,hk] at hnx
    rw [hr] at r1 r2
    rw [hk] at r3 r4 r5 hi2 hb2
    obtain ⟨W1,hW1⟩:∃W1,setBlock wr w.heap.size (.stringIter s (i+k))=W1:=⟨_,rfl⟩
    rw [hW1] at hnx hi2 hb2
    have HF:Hid (∀c∈s.data.toList.take (i+k),isOp c=false):=fun c hc=>by
     obtain ⟨j,hj,rfl⟩:=List.mem_iff_getElem.1 hc
     rw [List.length_take] at hj
     rw [List.getElem_take]
     by_cases hji:j<i
     ·exact HN.out _ (List.mem_iff_getElem.2 ⟨j,by rw [List.length_take];omega,by rw [List.getElem_take]⟩)
     ·have hjs:j<s.size:=by have:=hj;simp at this;omega
      have h128:=r5 j (by omega) (by omega)
      rw [get_at s j hjs] at h128
      have e:s.data.toList[j]'(by simpa using hjs)=s[j]'hjs:=rfl
      rw [e]
      cases hop:isOp (s[j]'hjs) with
      | false=>rfl
      | true=>rcases op_sign hop with h|h|h|h|h|h|h<;>(rw [h] at h128;exact absurd h128 (by decide))
    have HIR:Hid (Calls Tryz.prog 207 #[.string cs,.int .i32 r] W1 fun e w'=>e=.returned (.int .i64 (-1))∧Grown W1 w'):=by
     show Calls _ _ _ _ _
     rw [←HCS.out]
     exact ixrune_none r (by omega) (by omega) W1
    have HI2:=hid hi2
    have HB2:=hid hb2
    clear hxl hx hW1 hi2 hb2 hr hk r5
    go_wp2_with (go_at_call 207;refine HIR.out.mono ?_;rintro e w2 ⟨rfl,hg2⟩)
    go_roundg (s.size-(i+k))
    case measure=>omega
    case rel=>exact ⟨i+k,by omega,by omega,(hg2.below.block _ (Array.getElem?_eq_some_iff.1 HI2.out).1).trans HI2.out,bel_then HB2.out HB2.out.size hg2.below,HF⟩
  ·have hi':i=s.size:=by omega
   have hnx:=fun ty=>run_next_stop wr w.heap.size s i ty HI.out hlt
   have HF:Hid (FirstOp s.data.toList (-1)):=Or.inl ⟨rfl,fun c hc=>HN.out c (by rw [List.take_of_length_le (by simp;omega)];exact hc)⟩
   go_wp2_with fail
   go_ret
   exact ⟨⟨_,rfl,HF.out⟩,HB.out⟩
theorem ixany_any (s:ByteArray) (w:World) (hs:s.size≤4294967000) :
  Calls Tryz.prog 179 #[.string s,.string ⟨#[61,33,94,60,62,63,45]⟩] w fun e w'=>(∃k,e=.returned (.int .i64 k)∧FirstOp s.data.toList k)∧Below w.heap.size w w':=by
 by_cases h8:s.size≤8
 ·exact ixany_short s w h8
 ·refine (Tryz.strings_IndexAny_long (fun _=>by kernel_rfl) s ⟨#[61,33,94,60,62,63,45]⟩ w (by decide) (by omega) (by omega) (by decide) (fun j b hb=>signs_low b (List.mem_of_getElem? hb))).mono ?_
  rintro e w' ⟨rfl,rfl⟩
  exact ⟨⟨_,rfl,indexAny_first _⟩,((Below.refl _ _).alloc (Nat.le_refl _) _).alloc (by simp) _⟩
end
end Go.Proofs.YtpdccbeeoapplaaGreatDoor
