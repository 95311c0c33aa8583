/-
  Texts of this claim, one behind the other: Rp2 Rp5 Txr Txh Renc Byt Rwr Sze0 Rpr Rp6 Nms Rrd Txs Lin0 Rwd Rp7 Rp8 Rs0 Edm Edd Re0 Edl Opm Opb Opc Ope Oph Opn Opo Oqs Opx Zve Frm Ksu Pc0 Pc1 Pc2 Pc3 Tok Rtok App Rp3 Pc5.
-/
import Derived.Test.YtjeogllmpjihaaaGreatDoorPb
import Derived.Laws.Runes
import Derived.Shelf.GgSortFunc.RowK
import Derived.Lib.SlicesCompact
import Derived.Lib.SliceRun
set_option maxHeartbeats 20000000
set_option maxRecDepth 100000
namespace Go.Proofs.YtjeogllmpjihaaaGreatDoor
section
open Go.RowKit
def zKd (w:World) (p:List Tm) (e:Ending) (w':World):Prop :=
 (∃u,e=.returned (.tuple #[u,.int .i64 (wA p)])/\KM.Own w.heap.size w' u (wB p))/\Below w.heap.size w w'
theorem zBB {w W:World} {b off:Nat} {p:List Tm} (h:KM.At w b off p) (hb:Below w.heap.size w W) (i:Nat) (hi:i<p.length) (n:Nat) (os:Array Obj) :
  (Sort.grow (W.drewN n) os).cell? ⟨b,off+i * 3,none⟩=some (.string (p[i]).1)/\(Sort.grow (W.drewN n) os).cell? ⟨b,off+i * 3+1,none⟩=some (.int .i64 (p[i]).2.1)/\(Sort.grow (W.drewN n) os).cell? ⟨b,off+i * 3+2,none⟩=some (.string (p[i]).2.2):=by
 have hg:=(zK.refl W).on (q:=n) (os:=os);exact qR (zE.at_kept (zE.at_kept h hb) hg.below) i hi
theorem zLw {N:Nat} {W:World} {p5:Option Addr} {c5 k:Nat} {d:List Tm} (h:KM.Own N W (.slice p5 (k+1) c5) d) (hk:d.length=k+1) :
  ∃g,p5=some ⟨g,0,none⟩/\∀n os,(Sort.grow (W.drewN n) os).cell? ⟨g,k * 3,none⟩=some (.string (d.getD k default).1)/\(Sort.grow (W.drewN n) os).cell? ⟨g,k * 3+1,none⟩=some (.int .i64 (d.getD k default).2.1)/\(Sort.grow (W.drewN n) os).cell? ⟨g,k * 3+2,none⟩=some (.string (d.getD k default).2.2):=by
 obtain ⟨p',c',hv,hd⟩:=zE.own_is h
 rcases h.2 with ⟨_,h0⟩|⟨g,c,cur,hv2,_⟩
 ·omega
 ·injection hv2 with e1 _ _
  injection hv with e2 _ _
  rw [e1] at e2;refine ⟨g,e1,fun n os=>?_⟩
  rcases hd with hd|⟨b,off,hp,hat⟩
  ·rw [hd] at hk;simp at hk
  ·rw [<-e2] at hp
   cases hp;have:=zBB hat (Below.refl _ _) k (by omega) n os;rw [Nat.zero_add] at this;rw [List.getD_eq_getElem?_getD,List.getElem?_eq_getElem (show k<d.length by omega)];exact this
theorem fS (v:Value) (p:List Tm) (w:World) (hv:KM.Is w v p) (hf:pY p) :
  Calls Tryz.prog 86 #[v] w fun e w'=>zKd w p e w':=by
 obtain ⟨j0,hj0,hy0,hy1,hy2⟩:=info_parts Tryz.infoTrm;have HJ:=hid hj0;have HM:=hid (zIl v p w hv hf);obtain ⟨q,cap,rfl,hd⟩:=hv;have hl:=hf.1;unfold maxLen at hl;have HD:=hid hd;clear hd hf hj0
 by_cases hm0:wA p=0
 ·have h8:=(tE hm0).1;have HA:Hid (wB p=uS p):=by show _=_;unfold wB;rw [if_pos hm0]
  rw [hm0] at HM;have HM0:=hid hm0;obtain ⟨s1,s2⟩:=nC p;have hsl:=jA p;obtain ⟨G,hG⟩:∃G,uS p=G:=⟨_,rfl⟩;rw [hG] at s1 s2 hsl HA;have S1:=hid s1;have S2:=hid s2;clear hm0 hG s1 s2;go_enter Tryz.func86,Tryz.ntmps86;go_wp2_with (first|(go_at_call 127;refine HM.out.mono ?_;rintro e w1 ⟨rfl,rfl⟩));have ST0:Hid (KM.Own w1.heap.size w1 (sc none 0 0) (G.take 0)/\Below w1.heap.size w1 w1):=⟨KM.own_nil _ _,Below.refl _ _⟩
  go_loopg [5] G.length (fun g v5 ws=>∃k:Nat,k<=G.length/\G.length-k<=g/\Hid (KM.Own w1.heap.size ws v5 (G.take k))/\Hid (Below w1.heap.size w1 ws))
  case atStart=>exact ⟨0,by omega,by omega,ST0.out.1,ST0.out.2⟩
  case round =>
  clear ST0;obtain ⟨k,hk,hgk,HO,HB⟩:=hrel;have hszk:=HB.out.size;obtain ⟨p5,c5,hv5⟩:=zE.own_shape HO.out;have hlk:(G.take k).length=k:=by rw [List.length_take];omega
  rw [hlk] at hv5;subst hv5;have HLK:=hid hlk;clear hlk;have mixed:=Tryz.mixed;obtain ⟨W0,rfl⟩:∃W0,W0=wr:=⟨_,rfl⟩;have G0:Hid (zK W0 W0):=zK.refl _;have SC0:=hid (zIu G p k);go_wp2_with fail
  go_loopg [6,7] p.length (fun g va vi ws=>∃(i:Nat) (a:Int),vi=ii i/\va=ii a/\i<=p.length/\p.length-i<=g/\Hid (nH G p k i a)/\Hid (zK W0 ws))
  case atStart=>exact ⟨0,-1,rfl,rfl,by omega,by omega,SC0,G0⟩
  case round =>
  clear SC0 G0;obtain ⟨i,a,rfl,rfl,hi,hgi,HSC,HGW⟩:=hrel;have HBW:Hid (Below w1.heap.size w1 wr):=zQ HB.out hszk HGW.out.below
  by_cases hlt:i<p.length
  ·have hltz:(i:Int)<(p.length:Int):=by omega
   have hiz:(0:Int)<=(i:Int):=by omega
   obtain ⟨b,off,rfl,hat⟩:∃b off,q=some (aa b off)/\KM.At w1 b off p:=by
    rcases HD.out with h|h
    ·subst h;simp at hlt
    ·exact h
   have kg:=fun n os=>zBB hat HBW.out i hlt n os
   have HKG:Hid (∀m,(hm:m<p.length)->∀n os,(Sort.grow (wr.drewN n) os).cell? (aa b (off+m * 3))=some (tq (p[m]).1)/\(Sort.grow (wr.drewN n) os).cell? (aa b (off+m * 3+1))=some (ii (p[m]).2.1)/\(Sort.grow (wr.drewN n) os).cell? (aa b (off+m * 3+2))=some (tq (p[m]).2.2)):=fun m hm n os=>zBB hat HBW.out m hm n os
   have HSK:=hid (fun he=>zJx HSC.out hlt he);have HSF:Hid (a=-1->kG G k p[i]=true->nH G p k (i+1) (i:Int)):=fun e he=>by have:=HSC.out;rw [e] at this;exact zG4 this hlt he
   have HSL:Hid (∀m:Nat,(hm:m<p.length)->a=m->kG G k p[i]=true->ltM p[i] p[m]=true->nH G p k (i+1) (i:Int)):=fun m hm e he hl=>by have:=HSC.out;rw [e] at this;exact zJH this hlt hm he hl
   have HSP:Hid (∀m:Nat,(hm:m<p.length)->a=m->ltM p[i] p[m]=false->nH G p k (i+1) a):=fun m hm e hl=>by have:=HSC.out;rw [e] at this ⊢;exact zJc this hlt hm hl
   have HLE:Hid (∀m,(hm:m<p.length)->∀W,Calls Tryz.prog 128 #[.agg #[tq (p[i]).1,ii (p[i]).2.1,tq (p[i]).2.2],.agg #[tq (p[m]).1,ii (p[m]).2.1,tq (p[m]).2.2]] W fun e w'=>e=.returned (.bool (ltM p[i] p[m]))/\∃q os',w'=Sort.grow (W.drewN q) os'):=fun m hm W=>bX _ _ W
   have HLA:Hid (∀a1 a2 a3 b1 b2 b3 c W,ltM (a1,a2,a3) (b1,b2,b3)=c->Calls Tryz.prog 128 #[.agg #[tq a1,ii a2,tq a3],.agg #[tq b1,ii b2,tq b3]] W fun e w'=>e=.returned (.bool c)/\∃q os',w'=Sort.grow (W.drewN q) os'):=fun a1 a2 a3 b1 b2 b3 c W h=>by rw [<-h];exact bX (a1,a2,a3) (b1,b2,b3) W
   have HLG:Hid (∀l:Tm,∀W,Calls Tryz.prog 128 #[.agg #[tq l.1,ii l.2.1,tq l.2.2],.agg #[tq (p[i]).1,ii (p[i]).2.1,tq (p[i]).2.2]] W fun e w'=>e=.returned (.bool (ltM l p[i]))/\∃q os',w'=Sort.grow (W.drewN q) os'):=fun l W=>bX _ _ W
   obtain ⟨x,hx⟩:∃x,p[i]=x:=⟨_,rfl⟩;rw [hx] at kg HSK HSF HSL HSP HLE HLG;obtain ⟨xf,xo,xt⟩:=x;simp only at kg HLE HLG;have q0:=fun n os=>(kg n os).1
   have q1:=fun n os=>(kg n os).2.1
   have q2:=fun n os=>(kg n os).2.2
   have ha:=zMv HSC.out;clear kg hat hx
   cases k with
   | zero =>
    have HE:Hid (kG G 0 (xf,xo,xt)=true):=rfl
    rcases ha with rfl|⟨m,rfl,hm⟩
    ·have HS2:=hid (HSF.out rfl HE.out);go_wp2_with fail;refine wp_region_quiet_grown mixed (by kernel_rfl) ?_
     repeat (go_big_quiet_step (fail))
     refine wpQuiet_nil ?_;intro _ hw';obtain ⟨⟨nq,osq⟩,hw''⟩:=hw';subst hw'';go_wp2_with fail;go_roundg (p.length-(i+1))
     case measure=>omega
     case rel=>exact ⟨i+1,i,by go_num,rfl,by omega,by omega,HS2,HGW.out.on⟩
    ·have hmd:decide ((m:Int)<0)=false:=decide_eq_false (by omega);have hm0:(0:Int)<=(m:Int):=by omega
     have hml:(m:Int)<(p.length:Int):=by omega
     have km:=HKG.out m hm;have HLm:=hid (HLE.out m hm);have HT:=hid (HSL.out m hm rfl HE.out);have HK:=hid (HSP.out m hm rfl);obtain ⟨y,hy⟩:∃y,p[m]=y:=⟨_,rfl⟩;rw [hy] at km HLm HT HK;obtain ⟨yf,yo,yt⟩:=y;simp only at km HLm;have r0:=fun n os=>(km n os).1
     have r1:=fun n os=>(km n os).2.1
     have r2:=fun n os=>(km n os).2.2
     clear km hy
     cases hL:ltM (xf,xo,xt) (yf,yo,yt) with
     | true =>
      rw [hL] at HLm;have HS2:=hid (HT.out hL);clear hL;go_wp2_with fail;refine wp_region_quiet_grown mixed (by kernel_rfl) ?_
      repeat (go_big_quiet_step (first|(go_at_call 128;refine Calls.grown_of (HLm.out _))))
      refine wpQuiet_nil ?_;intro _ hw';obtain ⟨⟨nq,osq⟩,hw''⟩:=hw';subst hw'';go_wp2_with fail;go_roundg (p.length-(i+1))
      case measure=>omega
      case rel=>exact ⟨i+1,i,by go_num,rfl,by omega,by omega,HS2,HGW.out.on⟩
     | false =>
      rw [hL] at HLm;have HS2:=hid (HK.out hL);clear hL;go_wp2_with fail;refine wp_region_quiet_grown mixed (by kernel_rfl) ?_
      repeat (go_big_quiet_step (first|(go_at_call 128;refine Calls.grown_of (HLm.out _))))
      refine wpQuiet_nil ?_;intro _ hw';obtain ⟨⟨nq,osq⟩,hw''⟩:=hw';subst hw'';go_wp2_with fail;go_roundg (p.length-(i+1))
      case measure=>omega
      case rel=>exact ⟨i+1,m,by go_num,rfl,by omega,by omega,HS2,HGW.out.on⟩
   | succ k =>
    obtain ⟨g5,rfl,kl⟩:=zLw (zE.own_on HO.out HGW.out.below) HLK.out
    have hgd:(G.take (k+1)).getD k default=G.getD k default:=by
     rw [List.getD_eq_getElem?_getD,List.getD_eq_getElem?_getD,List.getElem?_take,if_pos (by omega)]
    rw [hgd] at kl;have HEL:Hid (kG G (k+1) (xf,xo,xt)=ltM (G.getD k default) (xf,xo,xt)):=rfl;have HLl:=hid (HLG.out (G.getD k default));obtain ⟨l,hl5⟩:∃l,G.getD k default=l:=⟨_,rfl⟩;rw [hl5] at kl HEL HLl;obtain ⟨lf,lo,lt⟩:=l;simp only at kl HLl;have l0:=fun n os=>(kl n os).1
    have l1:=fun n os=>(kl n os).2.1
    have l2:=fun n os=>(kl n os).2.2
    have hk0:(((k:Int)+1)==0)=false:=beq_eq_false_iff_ne.2 (by omega);have hk1:(0:Int)<=(k:Int):=by omega
    have hk2:(k:Int)<(k:Int)+1:=by omega
    clear kl hgd hl5
    cases hE:ltM (lf,lo,lt) (xf,xo,xt) with
    | false =>
     rw [hE] at HLl;have HS2:=hid (HSK.out (HEL.out.trans hE));clear hE;go_wp2_with fail;refine wp_region_quiet_grown mixed (by kernel_rfl) ?_
     repeat (go_big_quiet_step (first|(go_at_call 128;refine Calls.grown_of (HLl.out _))))
     refine wpQuiet_nil ?_;intro _ hw';obtain ⟨⟨nq,osq⟩,hw''⟩:=hw';subst hw'';go_wp2_with fail;go_roundg (p.length-(i+1))
     case measure=>omega
     case rel=>exact ⟨i+1,a,by go_num,rfl,by omega,by omega,HS2,HGW.out.on⟩
    | true =>
     rw [hE] at HLl;have HE:=hid (HEL.out.trans hE)
     rcases ha with rfl|⟨m,rfl,hm⟩
     ·have HS2:=hid (HSF.out rfl HE.out);go_wp2_with fail;refine wp_region_quiet_grown mixed (by kernel_rfl) ?_
      repeat (go_big_quiet_step (first|(go_at_call 128;refine Calls.grown_of (HLl.out _))))
      refine wpQuiet_nil ?_;intro _ hw';obtain ⟨⟨nq,osq⟩,hw''⟩:=hw';subst hw'';go_wp2_with fail;go_roundg (p.length-(i+1))
      case measure=>omega
      case rel=>exact ⟨i+1,i,by go_num,rfl,by omega,by omega,HS2,HGW.out.on⟩
     ·have hmd:decide ((m:Int)<0)=false:=decide_eq_false (by omega);have hm0:(0:Int)<=(m:Int):=by omega
      have hml:(m:Int)<(p.length:Int):=by omega
      have km:=HKG.out m hm;have HLm:=hid (HLE.out m hm);have HT:=hid (HSL.out m hm rfl HE.out);have HK:=hid (HSP.out m hm rfl);obtain ⟨y,hy⟩:∃y,p[m]=y:=⟨_,rfl⟩;rw [hy] at km HLm HT HK;obtain ⟨yf,yo,yt⟩:=y;simp only at km HLm;have r0:=fun n os=>(km n os).1
      have r1:=fun n os=>(km n os).2.1
      have r2:=fun n os=>(km n os).2.2
      clear km hy
      cases hL:ltM (xf,xo,xt) (yf,yo,yt) with
      | true =>
       rw [hL] at HLm;have HS2:=hid (HT.out hL);go_wp2_with fail;refine wp_region_quiet_grown mixed (by kernel_rfl) ?_
       repeat (go_big_quiet_step (first|(go_at_call 128;refine Calls.grown_of (HLA.out _ _ _ _ _ _ _ _ (by assumption)))))
       refine wpQuiet_nil ?_;intro _ hw';obtain ⟨⟨nq,osq⟩,hw''⟩:=hw';subst hw'';go_wp2_with fail;go_roundg (p.length-(i+1))
       case measure=>omega
       case rel=>exact ⟨i+1,i,by go_num,rfl,by omega,by omega,HS2,HGW.out.on⟩
      | false =>
       rw [hL] at HLm;have HS2:=hid (HK.out hL);go_wp2_with fail;refine wp_region_quiet_grown mixed (by kernel_rfl) ?_
       repeat (go_big_quiet_step (first|(go_at_call 128;refine Calls.grown_of (HLA.out _ _ _ _ _ _ _ _ (by assumption)))))
       refine wpQuiet_nil ?_;intro _ hw';obtain ⟨⟨nq,osq⟩,hw''⟩:=hw';subst hw'';go_wp2_with fail;go_roundg (p.length-(i+1))
       case measure=>omega
       case rel=>exact ⟨i+1,m,by go_num,rfl,by omega,by omega,HS2,HGW.out.on⟩
  ·have hltz:¬ (i:Int)<(p.length:Int):=by omega
   obtain rfl:i=p.length:=by omega
   have HOW:=hid (zE.own_on HO.out HGW.out.below)
   rcases zLr S1.out S2.out hk HSC.out with ⟨rfl,hkG⟩|⟨m,rfl,hm,hg,hmk⟩
   ·have HRT:Hid (KM.Own w1.heap.size wr (sc p5 k c5) (wB p)):=by
     show KM.Own _ _ _ _
     rw [HA.out];have:=HOW.out
     rwa [List.take_of_length_le (by omega)] at this
    clear hkG;go_wp2_with fail
    go_ret2
    exact ⟨⟨sc p5 k c5,by rw [HM0.out];rfl,HRT.out⟩,HBW.out⟩
   ·have hmd:¬ ((m:Int)<0):=by omega
    have hm0:(0:Int)<=(m:Int):=by omega
    have hml:(m:Int)<(p.length:Int):=by omega
    obtain ⟨b,off,rfl,hat⟩:∃b off,q=some (aa b off)/\KM.At w1 b off p:=by
     rcases HD.out with h|h
     ·rw [h] at hm;simp at hm
     ·exact h
    obtain ⟨c0,c1,c2⟩:=qR (zE.at_kept hat HBW.out) m hm;rw [hmk] at c0 c1 c2;have htk:G.take (k+1)=G.take k++[G[k]]:=List.take_succ_eq_append_getElem hg;obtain ⟨x,hx⟩:∃x,G[k]=x:=⟨_,rfl⟩;rw [hx] at c0 c1 c2 htk;have HTK:=hid htk;have hbw:=HBW.out.size;obtain ⟨xf,xo,xt⟩:=x;simp only at c0 c1 c2
    have HOA:Hid ((wr.alloc (.cells #[tq xf,ii xo,tq xt] 49)).ownsRow w1.heap.size 49 3 (sc p5 k c5) k (KM.cells (G.take k))):=by
     have:=World.ownsRow.alloc HOW.out (.cells #[tq xf,ii xo,tq xt] 49);rw [HLK.out] at this;exact this
    clear hat hmk hx htk;go_wp2_with (first|(at_builtin;refine wpList_append_own _ rfl _ _ 39 rfl w1.heap.size 49 j0 (.agg #[tq ⟨#[]⟩,ii 0,tq ⟨#[]⟩]) 3 40 Tryz.underlying39 HJ.out hy0 hy1 hy2 rfl (by decide) _ _ _ rfl HOA.out (aa wr.heap.size 0) 1 1 (KM.cells [(xf,xo,xt)]) rfl rfl (KM.news wr (xf,xo,xt)) (KM.cells_ones _) (by unfold maxLen;omega) (by omega) (by simp;omega) ?_));intro v4 w4 hown4 hg4 _
    have HO4:Hid (KM.Own w1.heap.size w4 v4 (G.take (k+1))):=by
     show KM.Own _ _ _ _
     rw [HTK.out];exact zE.own_snoc hown4 (by rw [HLK.out]) rfl
    have HB4:Hid (Below w1.heap.size w1 w4):=(HBW.out.alloc hbw _).grown hg4 (by simp;omega) (fun z hz=>(World.ownsRow.lt HOA.out z hz).1);clear hown4 hg4;go_wp2_with fail;go_roundg (G.length-(k+1))
    case measure=>omega
    case rel=>exact ⟨k+1,by omega,by omega,HO4,HB4⟩
 ·have hne:(wA p != 0)=true:=by rw [bne_iff_ne];exact hm0
  have HA:Hid (wB p=[]):=by show _=_;unfold wB;rw [if_neg hm0]
  obtain ⟨r,hr⟩:∃r,wA p=r:=⟨_,rfl⟩;rw [hr] at HM hne;have HR:=hid hr;clear hm0 hr;go_enter Tryz.func86,Tryz.ntmps86;go_wp2_with (first|(go_at_call 127;refine HM.out.mono ?_;rintro e w1 ⟨rfl,rfl⟩))
  go_ret2
  refine ⟨⟨sc none 0 0,by rw [HR.out];rfl,?_⟩,Below.refl _ _⟩;rw [HA.out];exact KM.own_nil _ _
end
section
open Go.RowKit
def opN (c:Int):Int:=if 61=c then 1 else if 33=c then 2 else if 94=c then 3 else if 60=c then 4 else if 62=c then 5 else if 63=c then 6 else if 45=c then 7 else 0
def opC (o:Int):UInt8:=if o=1 then 61 else if o=2 then 33 else if o=3 then 94 else if o=4 then 60 else if o=5 then 62 else if o=6 then 63 else 45
theorem bA (c:Int):0<=opN c/\opN c<=7:=by
 unfold opN
 repeat' split
 all_goals omega
theorem zHt {o:Int} (h1:1<=o) (h2:o<=7):opN ((opC o).toNat:Int)=o:=by
 have:o=1∨o=2∨o=3∨o=4∨o=5∨o=6∨o=7:=by omega
 rcases this with rfl|rfl|rfl|rfl|rfl|rfl|rfl<;>decide
theorem zMw (n:Int) (w:World):Calls Tryz.prog 123 #[.int .u8 n] w fun e w'=>e=.returned (.int .i64 (opN n))/\w'=w:=by
 by_cases h:∃k:Nat,k<7/\([61,33,94,60,62,63,45]:List Int)[k]? = some n
 ·obtain ⟨k,hk,hn⟩:=h;have:k=0∨k=1∨k=2∨k=3∨k=4∨k=5∨k=6:=by omega
  rcases this with rfl|rfl|rfl|rfl|rfl|rfl|rfl
  all_goals
   simp only [List.getElem?_cons_zero,List.getElem?_cons_succ,Option.some.injEq] at hn;subst hn;go_enter Tryz.func123,Tryz.ntmps123;go_wp2;refine wp_loop_rounds 8 ?_
   repeat (rw [rounds_succ];go_wp2)
   go_ret;exact ⟨rfl,rfl⟩
 ·have hne:∀k:Nat,k<7->∀c:Int,([61,33,94,60,62,63,45]:List Int)[k]? = some c->(c==n)=false:=fun k hk c hc=>by
   rw [beq_eq_false_iff_ne];intro e;subst e;exact h ⟨k,hk,hc⟩
  have g0:=hne 0 (by decide) 61 rfl;have g1:=hne 1 (by decide) 33 rfl;have g2:=hne 2 (by decide) 94 rfl;have g3:=hne 3 (by decide) 60 rfl;have g4:=hne 4 (by decide) 62 rfl;have g5:=hne 5 (by decide) 63 rfl;have g6:=hne 6 (by decide) 45 rfl
  have HR:Hid (opN n=0):=by
   show _=_
   rw [beq_eq_false_iff_ne] at g0 g1 g2 g3 g4 g5 g6;unfold opN;rw [if_neg g0,if_neg g1,if_neg g2,if_neg g3,if_neg g4,if_neg g5,if_neg g6]
  clear hne h;have z0:((⟨#[61,33,94,60,62,63,45]⟩:ByteArray)[0]'(by decide)).toNat=61:=rfl;have z1:((⟨#[61,33,94,60,62,63,45]⟩:ByteArray)[1]'(by decide)).toNat=33:=rfl;have z2:((⟨#[61,33,94,60,62,63,45]⟩:ByteArray)[2]'(by decide)).toNat=94:=rfl;have z3:((⟨#[61,33,94,60,62,63,45]⟩:ByteArray)[3]'(by decide)).toNat=60:=rfl;have z4:((⟨#[61,33,94,60,62,63,45]⟩:ByteArray)[4]'(by decide)).toNat=62:=rfl;have z5:((⟨#[61,33,94,60,62,63,45]⟩:ByteArray)[5]'(by decide)).toNat=63:=rfl;have z6:((⟨#[61,33,94,60,62,63,45]⟩:ByteArray)[6]'(by decide)).toNat=45:=rfl;go_enter Tryz.func123,Tryz.ntmps123;go_wp2;refine wp_loop_rounds 8 ?_
  repeat (rw [rounds_succ];go_wp2)
  all_goals go_ret
  all_goals exact ⟨by rw [HR.out];rfl,rfl⟩
end
section
open Go.RowKit
theorem zDs (n:Int) (g0:(45==n)=false) (g1:(46==n)=false) (g2:(95==n)=false) (g3:(124==n)=false) (g4:(42==n)=false) (g5:(64==n)=false) (g6:(47==n)=false) (g7:(58==n)=false) (g8:(43==n)=false) (g9:(44==n)=false) :
  xA n=(decide (48<=n)&&decide (n<=57)||decide (65<=n)&&decide (n<=90)||decide (97<=n)&&decide (n<=122)):=by
 rw [beq_eq_false_iff_ne] at *;unfold xA qB;simp only [List.any_cons,List.any_nil,Bool.or_false]
 have e:∀k:Int,k≠n->(decide (k<=n)&&decide (n<=k))=false:=fun k hk=>by
  rw [Bool.and_eq_false_iff,decide_eq_false_iff_not,decide_eq_false_iff_not];omega
 rw [e 45 g0,e 46 g1,e 95 g2,e 124 g3,e 42 g4,e 64 g5,e 47 g6,e 58 g7,e 43 g8,e 44 g9];simp only [Bool.or_false]
 generalize (decide (97<=n)&&decide (n<=122))=a
 generalize (decide (65<=n)&&decide (n<=90))=b
 generalize (decide (48<=n)&&decide (n<=57))=c
 cases a<;>cases b<;>cases c<;>rfl
theorem vO (n:Int) (w:World):Calls Tryz.prog 136 #[.int .u8 n] w fun e w'=>e=.returned (.bool (xA n))/\w'=w:=by
 have sign:∀k:Nat,k<10->∀c:Int,([45,46,95,124,42,64,47,58,43,44]:List Int)[k]? = some c->xA c=true:=by
  intro k hk c hc;have:∀c∈([45,46,95,124,42,64,47,58,43,44]:List Int),xA c=true:=by decide
  exact this c (List.mem_of_getElem? hc)
 by_cases h:∃k:Nat,k<10/\([45,46,95,124,42,64,47,58,43,44]:List Int)[k]? = some n
 ·obtain ⟨k,hk,hn⟩:=h;have HP:=hid (sign k hk n hn);clear sign;have:k=0∨k=1∨k=2∨k=3∨k=4∨k=5∨k=6∨k=7∨k=8∨k=9:=by omega
  rcases this with rfl|rfl|rfl|rfl|rfl|rfl|rfl|rfl|rfl|rfl
  all_goals
   simp only [List.getElem?_cons_zero,List.getElem?_cons_succ,Option.some.injEq] at hn;subst hn;go_enter Tryz.func136,Tryz.ntmps136;go_wp2;refine wp_loop_rounds 11 ?_
   repeat (rw [rounds_succ];go_wp2)
   go_ret;exact ⟨zA HP.out.symm,rfl⟩
 ·have hne:∀k:Nat,k<10->∀c:Int,([45,46,95,124,42,64,47,58,43,44]:List Int)[k]? = some c->(c==n)=false:=fun k hk c hc=>by
   rw [beq_eq_false_iff_ne];intro e;subst e;exact h ⟨k,hk,hc⟩
  have g0:=hne 0 (by decide) 45 rfl;have g1:=hne 1 (by decide) 46 rfl;have g2:=hne 2 (by decide) 95 rfl;have g3:=hne 3 (by decide) 124 rfl;have g4:=hne 4 (by decide) 42 rfl;have g5:=hne 5 (by decide) 64 rfl;have g6:=hne 6 (by decide) 47 rfl;have g7:=hne 7 (by decide) 58 rfl;have g8:=hne 8 (by decide) 43 rfl;have g9:=hne 9 (by decide) 44 rfl;have HR:=hid (zDs n g0 g1 g2 g3 g4 g5 g6 g7 g8 g9);clear hne h sign;have z0:((⟨#[45,46,95,124,42,64,47,58,43,44]⟩:ByteArray)[0]'(by decide)).toNat=45:=rfl;have z1:((⟨#[45,46,95,124,42,64,47,58,43,44]⟩:ByteArray)[1]'(by decide)).toNat=46:=rfl;have z2:((⟨#[45,46,95,124,42,64,47,58,43,44]⟩:ByteArray)[2]'(by decide)).toNat=95:=rfl;have z3:((⟨#[45,46,95,124,42,64,47,58,43,44]⟩:ByteArray)[3]'(by decide)).toNat=124:=rfl;have z4:((⟨#[45,46,95,124,42,64,47,58,43,44]⟩:ByteArray)[4]'(by decide)).toNat=42:=rfl;have z5:((⟨#[45,46,95,124,42,64,47,58,43,44]⟩:ByteArray)[5]'(by decide)).toNat=64:=rfl;have z6:((⟨#[45,46,95,124,42,64,47,58,43,44]⟩:ByteArray)[6]'(by decide)).toNat=47:=rfl;have z7:((⟨#[45,46,95,124,42,64,47,58,43,44]⟩:ByteArray)[7]'(by decide)).toNat=58:=rfl;have z8:((⟨#[45,46,95,124,42,64,47,58,43,44]⟩:ByteArray)[8]'(by decide)).toNat=43:=rfl;have z9:((⟨#[45,46,95,124,42,64,47,58,43,44]⟩:ByteArray)[9]'(by decide)).toNat=44:=rfl;go_enter Tryz.func136,Tryz.ntmps136;go_wp2;refine wp_loop_rounds 11 ?_
  repeat (rw [rounds_succ];go_wp2)
  all_goals go_ret
  all_goals refine ⟨zA ?_,rfl⟩
  all_goals (rw [HR.out,Bool.eq_iff_iff];first|(simp;omega)|simp|omega)
end
section
open Go.RowKit
theorem zGP (k:Nat) (hk:k<16) (w:World):Calls Tryz.prog 137 #[.int .u8 (k:Nat)] w fun e w'=>e=.returned (.int .u8 ((sE k).toNat:Nat))/\w'=w:=by
 have:k=0∨k=1∨k=2∨k=3∨k=4∨k=5∨k=6∨k=7∨k=8∨k=9∨k=10∨k=11∨k=12∨k=13∨k=14∨k=15:=by omega
 rcases this with rfl|rfl|rfl|rfl|rfl|rfl|rfl|rfl|rfl|rfl|rfl|rfl|rfl|rfl|rfl|rfl
 all_goals
  go_enter Tryz.func137,Tryz.ntmps137
  go_wp2
  go_ret;exact ⟨rfl,rfl⟩
def wF (c:UInt8):Nat:=if 48<=c.toNat/\c.toNat<=57 then c.toNat-48 else if 97<=c.toNat/\c.toNat<=102 then c.toNat-87 else 16
theorem zG3:((List.range 256).all fun n=>decide (tU (UInt8.ofNat n)=if wF (UInt8.ofNat n)=16 then -1 else (wF (UInt8.ofNat n):Int)))=true:=by kernel_rfl
theorem zI0 (c:UInt8):tU c=if wF c=16 then -1 else (wF c:Int):=by
 have h:=List.all_eq_true.1 zG3 c.toNat (List.mem_range.2 c.toNat_lt);rw [decide_eq_true_eq,UInt8.ofNat_toNat] at h;exact h
theorem zIW (c:UInt8):wF c<=16:=by unfold wF;split<;>(try split)<;>omega
theorem nL (c:UInt8) (w:World):Calls Tryz.prog 168 #[.int .u8 (c.toNat:Nat)] w fun e w'=>e=.returned (.int .u8 (wF c:Nat))/\w'=w:=by
 have hc:=c.toNat_lt;have HN:Hid (wF c=if 48<=c.toNat/\c.toNat<=57 then c.toNat-48 else if 97<=c.toNat/\c.toNat<=102 then c.toNat-87 else 16):=rfl;obtain ⟨r,hr⟩:∃r,wF c=r:=⟨_,rfl⟩;rw [hr];rw [hr] at HN;clear hr
 by_cases h1:48<=c.toNat/\c.toNat<=57
 ·have a1:decide ((48:Int)<=(c.toNat:Int))=true:=decide_eq_true (by omega);have a2:decide ((c.toNat:Int)<=57)=true:=decide_eq_true (by omega);have H:Hid ((c.toNat:Int)-48=(r:Int)):=by show _=_;rw [HN.out,if_pos h1];omega
  go_enter Tryz.func168,Tryz.ntmps168
  go_wp2
  go_ret;exact ⟨congrArg (fun z=>Ending.returned (.int .u8 z)) H.out,rfl⟩
 ·by_cases h2:97<=c.toNat/\c.toNat<=102
  ·have a0:decide ((48:Int)<=(c.toNat:Int))=true:=decide_eq_true (by omega);have a00:decide ((c.toNat:Int)<=57)=false:=decide_eq_false (by omega);have a1:decide ((97:Int)<=(c.toNat:Int))=true:=decide_eq_true (by omega);have a2:decide ((c.toNat:Int)<=102)=true:=decide_eq_true (by omega);have H:Hid ((c.toNat:Int)-87=(r:Int)):=by show _=_;rw [HN.out,if_neg h1,if_pos h2];omega
   go_enter Tryz.func168,Tryz.ntmps168
   go_wp2
   go_ret;exact ⟨congrArg (fun z=>Ending.returned (.int .u8 z)) H.out,rfl⟩
  ·have H:Hid ((16:Int)=(r:Int)):=by show _=_;rw [HN.out,if_neg h1,if_neg h2];rfl
   clear HN
   by_cases h3:c.toNat<48
   ·have a1:decide ((48:Int)<=(c.toNat:Int))=false:=decide_eq_false (by omega);have a2:decide ((97:Int)<=(c.toNat:Int))=false:=decide_eq_false (by omega);go_enter Tryz.func168,Tryz.ntmps168;go_wp2;go_ret;exact ⟨congrArg (fun z=>Ending.returned (.int .u8 z)) H.out,rfl⟩
   ·have a1:decide ((48:Int)<=(c.toNat:Int))=true:=decide_eq_true (by omega);have a2:decide ((c.toNat:Int)<=57)=false:=decide_eq_false (by omega)
    by_cases h4:c.toNat<97
    ·have a3:decide ((97:Int)<=(c.toNat:Int))=false:=decide_eq_false (by omega);go_enter Tryz.func168,Tryz.ntmps168;go_wp2;go_ret;exact ⟨congrArg (fun z=>Ending.returned (.int .u8 z)) H.out,rfl⟩
    ·have a3:decide ((97:Int)<=(c.toNat:Int))=true:=decide_eq_true (by omega);have a4:decide ((c.toNat:Int)<=102)=false:=decide_eq_false (by omega);go_enter Tryz.func168,Tryz.ntmps168;go_wp2;go_ret;exact ⟨congrArg (fun z=>Ending.returned (.int .u8 z)) H.out,rfl⟩
end
section
open Go.RowKit
theorem cF (w:World) (c:Int):∀j u,([.int .u8 c]:List Value)[j]? = some u->(w.alloc (.cells #[.int .u8 c] 5)).cell? ((⟨w.heap.size,0,none⟩:Addr).add j)=some u:=by
 intro j u hj
 match j,hj with
 | 0,hj=>simp at hj;subst hj;simp [Addr.add]
theorem zBZ (c:Int):∀u∈([.int .u8 c]:List Value),u.oneCell'=true:=by intro u hu;simp at hu;subst hu;rfl
theorem zBw {n0:Nat} {w:World} {v:Value} {bs:List UInt8} {c:UInt8} {k:Int} {n:Nat} (h:w.ownsRow n0 5 1 v n (Lib.byteCells bs++[.int .u8 k])) (hn:n=bs.length+1) (hk:(c.toNat:Int)=k):bW n0 w v (bs++[c]):=by
 subst hn;unfold bW;have e2:Lib.byteCells (bs++[c])=Lib.byteCells bs++[.int .u8 k]:=by simp [Lib.byteCells,hk]
 rw [e2,List.length_append];exact h
end
section
open Go.RowKit
theorem zCc {n0:Nat} {w:World} {u:Value} {l:List UInt8} (h:bW n0 w u l):zHM w.heap.size w u l:=by
 rcases h.2 with ⟨rfl,h0⟩|⟨g',cap,cur,rfl,_⟩
 ·obtain rfl:=List.length_eq_zero_iff.1 h0;exact ⟨none,0,rfl,by simp,by unfold maxLen;omega,Or.inl rfl⟩
 ·exact zLq h
end
section
open Go.RowKit
theorem zGY (w:World) (a b c:Int):∀j u,([.int .u8 a,.int .u8 b,.int .u8 c]:List Value)[j]? = some u->(w.alloc (.cells #[.int .u8 a,.int .u8 b,.int .u8 c] 5)).cell? ((⟨w.heap.size,0,none⟩:Addr).add j)=some u:=by
 intro j u hj
 match j,hj with
 | 0,hj=>simp at hj;subst hj;simp [Addr.add]
 | 1,hj=>simp at hj;subst hj;rw [addr_add];simp
 | 2,hj=>simp at hj;subst hj;rw [addr_add];simp
theorem zGl (a b c:Int):∀u∈([.int .u8 a,.int .u8 b,.int .u8 c]:List Value),u.oneCell'=true:=by
 intro u hu;simp at hu;rcases hu with rfl|rfl|rfl<;>rfl
theorem zI5 {n0:Nat} {w:World} {v:Value} {bs cs:List UInt8} {n:Nat} {xs:List Value} (h:w.ownsRow n0 5 1 v n (Lib.byteCells bs++xs)) (hn:n=bs.length+cs.length) (hx:Lib.byteCells cs=xs):bW n0 w v (bs++cs):=by
 subst hn hx;unfold bW;rw [List.length_append];have:Lib.byteCells (bs++cs)=Lib.byteCells bs++Lib.byteCells cs:=by simp [Lib.byteCells]
 rw [this];exact h
theorem zMS (n:Int) (w:World) (h:0<=n/\n<16):Calls Tryz.prog 137 #[.int .u8 n] w fun e w'=>e=.returned (.int .u8 ((sE n.toNat).toNat:Nat))/\w'=w:=by
 have:=zGP n.toNat (by omega) w;rw [show ((n.toNat:Nat):Int)=n by omega] at this;exact this
theorem fD (n:Int) (h:0<=n/\n<256):IntKind.u8.wrap n=n:=by
 simp [IntKind.wrap,IntKind.signed,IntKind.bits];omega
theorem fV (s:ByteArray) (w:World) (hs:s.size * 3<=140737488355328) :
  Calls Tryz.prog 95 #[.string s] w fun e w'=>e=.returned (.string ⟨(zI s.data.toList).toArray⟩)/\Below w.heap.size w w':=by
 obtain ⟨i0,hi0,hz0,hz1,hz2⟩:=info_parts Tryz.infoByte;have HI:=hid hi0;clear hi0;have mixed:=Tryz.mixed;go_enter Tryz.func95,Tryz.ntmps95;go_wp2_with fail
 go_loopg [3,4] s.size (fun g vb vi wr=>∃i:Nat,vi=ii i/\i<=s.size/\s.size-i<=g/\Below w.heap.size w wr/\bW w.heap.size wr vb (zI (s.data.toList.take i)))
 case atStart=>exact ⟨0,rfl,by omega,by omega,Below.refl _ _,World.ownsRow_nil _ _ _ _⟩
 case round =>
  obtain ⟨i,rfl,hi,hgk,hb,hob⟩:=hrel;have hszr:=hb.size
  by_cases hlt:i<s.size
  ·have hltz:(i:Int)<(s.size:Int):=by omega
   have hiz:(0:Int)<=i:=by omega
   have hst:=zBY s i hlt;have hal:=wX (s.data.toList.take i);rw [List.length_take] at hal;obtain ⟨acc,hacc⟩:∃acc,zI (s.data.toList.take i)=acc:=⟨_,rfl⟩;rw [hacc] at hob hst hal;have hal2:acc.length<=3 * i:=Nat.le_trans hal (Nat.mul_le_mul_left _ (Nat.min_le_left _ _));obtain ⟨c,hc⟩:∃c,s[i]=c:=⟨_,rfl⟩;have hcc:=hc;rw [hc] at hst;have HST:=hid hst;have HOB:=hid hob;have HB:=hid hb;have hc256:=c.toNat_lt;clear hst hob hb hal hacc
   cases hp:xA (c.toNat:Int) with
   | true =>
    have HW:Hid (vU c=[c]):=by show _=_;unfold vU;rw [if_pos hp]
    have HPL:Hid (∀W,Calls Tryz.prog 136 #[.int .u8 (c.toNat:Nat)] W fun e w'=>e=.returned (.bool true)/\w'=W):=fun W=>by have:=vO (c.toNat:Int) W;rw [hp] at this;exact this
    clear hp;go_wp2_with (first|(go_at_call 136;refine (HPL.out _).mono ?_;rintro e w1 ⟨rfl,rfl⟩)|(at_builtin;refine wpList_append_own _ rfl _ _ 89 rfl w.heap.size 5 i0 (.int .u8 0) 1 1 Tryz.underlying89 HI.out hz0 hz1 hz2 rfl (by decide) _ _ _ rfl (World.ownsRow.alloc HOB.out _) (aa w1.heap.size 0) 1 1 [.int .u8 (c.toNat:Int)] rfl rfl (cF _ _) (zBZ _) (by unfold maxLen;omega) (by omega) (by simp;omega) ?_));intro v3 w3 hown3 hg3 _;have hob3:bW w.heap.size w3 v3 (acc++[c]):=zBw hown3 (by omega) rfl;have hb3:Below w.heap.size w w3:=(HB.out.alloc (by omega) _).grown hg3 (by simp;omega) (fun k hk=>(World.ownsRow.lt HOB.out k hk).1);have HOB3:=hid hob3;have HB3:=hid hb3;clear hown3 hg3 hob3 hb3;go_wp2_with fail;go_roundg (s.size-(i+1))
    case measure=>omega
    refine ⟨i+1,by go_num,by omega,by omega,HB3.out,?_⟩;rw [HST.out,HW.out];exact HOB3.out
   | false =>
    have HW:Hid (vU c=[37,sE (c.toNat / 16),sE (c.toNat % 16)]):=by show _=_;unfold vU;rw [hp];rfl
    have HPL:Hid (∀W,Calls Tryz.prog 136 #[.int .u8 (c.toNat:Nat)] W fun e w'=>e=.returned (.bool false)/\w'=W):=fun W=>by have:=vO (c.toNat:Int) W;rw [hp] at this;exact this
    clear hp;go_wp2_with (first|(go_at_call 136;refine (HPL.out _).mono ?_;rintro e w1 ⟨rfl,rfl⟩));have HQ:Hid ((IntKind.u8.wrap ((c.toNat:Int) / 16)).toNat=c.toNat / 16/\((c.toNat:Int).tmod 16).toNat=c.toNat % 16):=⟨by rw [fD _ (by omega)];omega,by rw [Int.tmod_eq_emod_of_nonneg (by omega)];omega⟩
    go_region_law (first
     | (refine step_append_lies _ (by rfl) (.tmp 21) (.tmp 32) 89 (by rfl) w.heap.size 5 i0 (.int .u8 0) 1 1 Tryz.underlying89 HI.out hz0 hz1 hz2 rfl (by decide) u3 acc.length (Lib.byteCells acc) (by rfl) (World.ownsRow.alloc (w:=w1.drew) HOB.out _) _ 3 3 [.int .u8 37,.int .u8 ((sE (IntKind.u8.wrap ((c.toNat:Int) / 16)).toNat).toNat:Nat),.int .u8 ((sE ((c.toNat:Int).tmod 16).toNat).toNat:Nat)] (by rfl) rfl (zGY _ _ _ _) (zGl _ _ _) (by decide) (by unfold maxLen;omega) (by omega) (by simp;omega) _ rfl ?_;intro g4 cap4 w4 hown4 hg4 _ _)
     | (go_simp;go_at_call 137;refine (zMS _ _ (by first|(rw [fD _ (by omega)];omega)|(rw [Int.tmod_eq_emod_of_nonneg (by omega)];omega))).mono ?_;rintro o w2 ⟨rfl,rfl⟩))
    all_goals
     have hob4:bW w.heap.size w4 (sc (some (aa g4 0)) (acc.length+3) cap4) (acc++[37,sE (c.toNat / 16),sE (c.toNat % 16)]):=zI5 hown4 rfl (by rw [HQ.out.1,HQ.out.2];rfl);have hb4:Below w.heap.size w w4:=((zP HB.out 1).alloc hszr _).grown hg4 (by have h1:w.heap.size<=(w1.drewN 1).heap.size:=hszr;simp;omega) (fun k hk=>(World.ownsRow.lt HOB.out k hk).1);have HOB4:=hid hob4;have HB4:=hid hb4;clear hown4 hg4 hob4 hb4;go_wp2_with fail;go_roundg (s.size-(i+1))
     case measure=>omega
     refine ⟨i+1,by go_num,by omega,by omega,HB4.out,?_⟩;rw [HST.out,HW.out];exact HOB4.out
  ·have hltz:¬ (i:Int)<(s.size:Int):=by omega
   have htk2:s.data.toList.take i=s.data.toList:=List.take_of_length_le (by simp;omega);rw [htk2] at hob;have kc:=zFD (zCc hob);have HOJ:=hid hob;clear hob htk2;go_wp2_with fail;go_ret;exact ⟨rfl,hb⟩
end
section
open Go.RowKit Go.Lib
def mN (l:List UInt8):Nat:=l.countP fun c=>c==32
theorem mO (a b:List UInt8):mN (a++b)=mN a+mN b:=List.countP_append ..
theorem mL {l:List UInt8} (h:yU l=true):mN l=0:=by
 unfold mN;rw [List.countP_eq_zero];intro c hc;unfold yU xD at h
 cases l with
 | nil=>simp at hc
 | cons x r =>
  simp only [Bool.and_eq_true,List.all_eq_true] at h
  have key:yL (c.toNat:Int)=true∨yW (c.toNat:Int)=true:=by
   rcases List.mem_cons.1 hc with rfl|hc
   ·exact Or.inr h.1.2
   ·exact Or.inl (h.2 c hc)
  intro e;have e:c=32:=by simpa using e
  subst e
  rcases key with k|k
  ·revert k;decide
  ·revert k;decide
theorem dW (k:Nat) (h:k<16):(sE k==32)=false:=by
 have t:((List.range 16).all fun k=>!(sE k==32))=true:=by decide
 have:=List.all_eq_true.1 t k (List.mem_range.2 h)
 simpa using this
theorem mH (l:List UInt8):mN (zI l)=0:=by
 induction l with
 | nil=>rfl
 | cons c l ih =>
  rw [gI,mO,ih];unfold vU
  cases hp:xA (c.toNat:Int) with
  | true =>
   have:(c==32)=false:=by
    rw [beq_eq_false_iff_ne];intro e;subst e
    revert hp;decide
   simp [mN,this]
  | false =>
   have hc:=c.toNat_lt;simp [mN,dW (c.toNat / 16) (by omega),dW (c.toNat % 16) (by omega)]
theorem jL (n t:ByteArray):(xE n t).data.toList=n.data.toList++[61]++zI t.data.toList:=by
 unfold xE;obtain ⟨⟨n⟩⟩:=n;simp
theorem zEA {n t:ByteArray} (h:yU n.data.toList=true):mN (xE n t).data.toList=0:=by
 rw [jL,mO,mO,mL h,mH];rfl
theorem mV (c:Nat):∀ws:List (List UInt8),(∀w∈ws,w.length<=c)->(Lib.join ws [32]).length<=ws.length * (c+1)
 | [],_=>by simp [Lib.join,List.intercalate]
 | [w],h=>by
  have:=h w (by simp);rw [Lib.join_one];simp;omega
 | w::v::ws,h=>by
  have h1:=h w (by simp);have ih:=mV c (v::ws) (fun x hx=>h x (by simp [hx]));have e:Lib.join (w::v::ws) [32]=w++[32]++Lib.join (v::ws) [32]:=by simp [Lib.join]
  have e2:(w::v::ws).length * (c+1)=(v::ws).length * (c+1)+(c+1):=by rw [List.length_cons,Nat.add_mul,Nat.one_mul]
  have e3:([32]:List UInt8).length=1:=rfl;rw [e,List.length_append,List.length_append,e2,e3];omega
theorem zCg {fs:List Fld} (h:xU fs=true):(mG fs).size<=53504:=by
 have e:(mG fs).size=(Lib.join ((yM fs).map (·.L)) [32]).length:=by
  show (Lib.join ((yM fs).map (·.L)) [32]).toArray.size=_
  simp
 have h1:=mV 417 ((yM fs).map (·.L)) (fun w hw=>by
  obtain ⟨x,hx,rfl⟩:=List.mem_map.1 hw;obtain ⟨f,hf,hx⟩:=List.mem_flatMap.1 hx;obtain ⟨t,ht,rfl⟩:=List.mem_map.1 hx
  simpa using cP (wE h f hf) ht)
 have h2:=kD (fun f hf=>wE h f hf) (qC h).1;rw [List.length_map] at h1;have h3:(yM fs).length * (417+1)<=128 * (417+1):=Nat.mul_le_mul_right _ h2;omega
end
section
open Go.RowKit Go.Lib
def xT (ws:List ByteArray):ByteArray:=⟨(Lib.join (ws.map (·.data.toList)) [32]).toArray⟩
theorem wH (ws:List ByteArray):(xT ws).data.toList=Lib.join (ws.map (·.data.toList)) [32]:=by
 unfold xT;rw [List.toList_toArray]
theorem gT:∀(ws:List (List UInt8)) (x:List UInt8),ws≠[]->Lib.join (ws++[x]) [32]=Lib.join ws [32]++32::x
 | [],_,h=>absurd rfl h
 | [w],x,_=>by rw [List.singleton_append,jD,Lib.join_one,Lib.join_one]
 | w::v::ws,x,_=>by
  have ih:=gT (v::ws) x (by simp);rw [List.cons_append,List.cons_append,jD,<-List.cons_append,ih,jD];simp
theorem data_append (a b:ByteArray):(a++b).data.toList=a.data.toList++b.data.toList:=by
 simp
theorem zFq (n t:ByteArray):xT [xE n t]=⟨#[]⟩++n++⟨#[61]⟩++⟨(zI t.data.toList).toArray⟩:=by
 refine nN ?_;rw [wH,List.map_cons,List.map_nil,Lib.join_one];unfold xE;simp only [data_append];simp
theorem zGg {ws:List ByteArray} (h:ws≠[]) (n t:ByteArray):xT (ws++[xE n t])=xT ws++⟨#[32]⟩++n++⟨#[61]⟩++⟨(zI t.data.toList).toArray⟩:=by
 refine nN ?_;rw [wH,List.map_append,List.map_cons,List.map_nil,gT _ _ (by simpa using h)];simp only [data_append,wH];unfold xE;simp only [data_append];simp
theorem dE {ws:List ByteArray} (hn:ws.length<=200) (hs:∀x∈ws,x.size<=417):(xT ws).size<=83600:=by
 have e:(xT ws).size=(Lib.join (ws.map (·.L)) [32]).length:=by rw [<-wH];simp
 have h1:=mV 417 (ws.map (·.L)) (fun w hw=>by
  obtain ⟨x,hx,rfl⟩:=List.mem_map.1 hw
  simpa using hs x hx)
 rw [List.length_map] at h1;have h3:ws.length * (417+1)<=200 * (417+1):=Nat.mul_le_mul_right _ hn;omega
theorem zLn {ws:List ByteArray} (h:ws≠[]) (hs:∀x∈ws,0<x.size):(xT ws).toList.isEmpty=false:=by
 rw [Lib.toList_data,wH]
 match ws,h with
 | [x],_ =>
  have:=hs x (by simp);rw [List.map_cons,List.map_nil,Lib.join_one]
  cases hx:x.data.toList with
  | nil =>
   have h3:x.data.toList.length=x.size:=by simp
   rw [hx] at h3;simp at h3;omega
  | cons _ _=>rfl
 | x::y::ws,_ =>
  rw [List.map_cons,List.map_cons,jD]
  cases x.data.toList with
  | nil=>rfl
  | cons _ _=>rfl
theorem zEZ (n t:ByteArray):0<(xE n t).size:=by
 have:0<(xE n t).data.toList.length:=by rw [jL];simp;omega
 simpa using this
theorem zGx (v:Value) (d:List Fx) (w:World) (hv:qZ w v d) (hf:sD d) (hm:xU (d.map Fx.fld)=true) :
  Calls Tryz.prog 50 #[v] w fun e w'=>e=.returned (.tuple #[.string (mG (d.map Fx.fld)),.int .i64 0])/\Below w.heap.size w w':=by
 have HM:=hid (zB9 v d w hv hf);rw [hm] at HM;obtain ⟨p,cap,rfl,hd,ht⟩:=hv;have HT:=hid ht;have hl:=hf.1;unfold maxLen at hl;have HD:=hid hd;have HMM:=hid hm;clear ht hf hd hm;go_enter Tryz.func50,Tryz.ntmps50;go_wp2_with (first|(go_at_call 84;refine HM.out.mono ?_;rintro e w1 ⟨rfl,hg⟩))
 go_loopg [4,5] d.length (fun g vs vi wr=>∃i:Nat,vi=ii i/\i<=d.length/\d.length-i<=g/\Below w.heap.size w wr/\vs=tq (xT (yM ((d.map Fx.fld).take i))))
 case atStart=>exact ⟨0,rfl,by omega,by omega,hg.below,rfl⟩
 case round =>
  obtain ⟨i,rfl,hi,hgk,hb,rfl⟩:=hrel
  by_cases hlt:i<d.length
  ·have hltz:(i:Int)<(d.length:Int):=by omega
   have hiz:(0:Int)<=i:=by omega
   obtain ⟨b,off,rfl,hxs⟩:∃b off,p=some (aa b off)/\kL w b off d:=by
    rcases HD.out with h|h
    ·subst h;simp at hlt
    ·exact h
   have hkc:∀W,Below w.heap.size w W->W.cell? (aa b (off+i * 2))=some (tq (d[i]).name)/\W.cell? (aa b (off+i * 2+1))=some (sc (d[i]).p (d[i]).txt.length (d[i]).cap):=fun W hW=>hxs.kept hW i hlt
   have hxi:(d[i]).at w:=HT.out _ (List.getElem_mem hlt);have hfi:tG (d[i]).fld=true:=wE HMM.out _ (List.mem_map.2 ⟨_,List.getElem_mem hlt,rfl⟩)
   have htk:yM ((d.map Fx.fld).take (i+1))=yM ((d.map Fx.fld).take i)++gA (d[i]).fld:=by
    unfold yM;rw [List.take_succ_eq_append_getElem (by rw [List.length_map];exact hlt),List.flatMap_append];simp
   obtain ⟨x,hx⟩:∃x,d[i]=x:=⟨_,rfl⟩;rw [hx] at hkc hxi hfi htk
   obtain ⟨b2,off2,hp2,ht2⟩:∃b off,x.p=some (aa b off)/\∀i,(h:i<x.txt.length)->w.cell? (aa b (off+i))=some (tq x.txt[i]):=by
    rcases hxi with h|h
    ·have:=(xO hfi).2.1;simp only [Fx.fld] at this;rw [h] at this;simp at this
    ·exact h
   have hal:(yM ((d.map Fx.fld).take i)).length<=128:=kD (fun f hf=>wE HMM.out f (List.mem_of_mem_take hf)) (by rw [List.length_take];have:=(qC HMM.out).1;omega)
   have has:∀y∈yM ((d.map Fx.fld).take i),y.size<=417/\0<y.size:=fun y hy=>by
    obtain ⟨f,hf,hy⟩:=List.mem_flatMap.1 hy;obtain ⟨t,ht,rfl⟩:=List.mem_map.1 hy;exact ⟨cP (wE HMM.out f (List.mem_of_mem_take hf)) ht,zEZ _ _⟩
   obtain ⟨acc,hacc⟩:∃acc,yM ((d.map Fx.fld).take i)=acc:=⟨_,rfl⟩;rw [hacc] at htk hal has ⊢;obtain ⟨hn32,_,hn8,hn128,_⟩:=xO hfi
   have HAS:Hid (∀j,∀y∈acc++(x.txt.take j).map (xE x.name),y.size<=417/\0<y.size):=fun j y hy=>by
    rw [List.mem_append] at hy
    rcases hy with hy|hy
    ·exact has y hy
    ·obtain ⟨t,ht,rfl⟩:=List.mem_map.1 hy;exact ⟨cP hfi (List.mem_of_mem_take ht),zEZ _ _⟩
   rw [hp2] at hkc;have HKC:=hid hkc;have HT2:=hid ht2;have HTK:=hid htk;have H128:=hid hn128;have HB:=hid hb;clear hxs hxi hx htk hacc hfi ht2 hkc hp2 has hb hn128;simp only [Fx.fld] at hn32 hn8;go_wp2_with fail
   go_loopg [4,6] x.txt.length (fun g vs vj wr2=>∃j:Nat,vj=ii j/\j<=x.txt.length/\x.txt.length-j<=g/\Hid (Below w.heap.size w wr2)/\vs=tq (xT (acc++(x.txt.take j).map (xE x.name))))
   case atStart=>exact ⟨0,rfl,by omega,by omega,HB,by simp⟩
   case round =>
    obtain ⟨j,rfl,hj,hgj,HBJ,rfl⟩:=hrel;obtain ⟨c0,c1⟩:=HKC.out _ HBJ.out
    by_cases hlj:j<x.txt.length
    ·have hljz:(j:Int)<(x.txt.length:Int):=by omega
     have hjz:(0:Int)<=j:=by omega
     have hkt:∀W,Below w.heap.size w W->W.cell? (aa b2 (off2+j))=some (tq x.txt[j]):=fun W hW=>(hW.cell (p:=(aa b2 (off2+j))) (zJ (HT2.out j hlj))).trans (HT2.out j hlj)
     have hts:x.txt[j].size<=128:=H128.out _ (List.getElem_mem hlj)
     have hstep:(x.txt.take (j+1)).map (xE x.name)=(x.txt.take j).map (xE x.name)++[xE x.name x.txt[j]]:=by
      rw [List.take_succ_eq_append_getElem hlj,List.map_append];simp
     obtain ⟨t,hte⟩:∃t,x.txt[j]=t:=⟨_,rfl⟩;rw [hte] at hkt hts hstep;have hal2:(acc++(x.txt.take j).map (xE x.name)).length<=200:=by simp;omega
     have has2:=HAS.out j;have hls:=dE hal2 fun y hy=>(has2 y hy).1
     have hnx:acc++(x.txt.take (j+1)).map (xE x.name)=(acc++(x.txt.take j).map (xE x.name))++[xE x.name t]:=by rw [hstep,List.append_assoc]
     obtain ⟨ac2,hac2⟩:∃ac2,acc++(x.txt.take j).map (xE x.name)=ac2:=⟨_,rfl⟩;rw [hac2] at has2 hls hnx ⊢
     obtain ⟨S1,hS1,hS1s,hkey⟩:∃S1:ByteArray,S1=(if ac2=[] then ⟨#[]⟩ else xT ac2++⟨#[32]⟩)/\S1.size<=83601/\xT (ac2++[xE x.name t])=S1++x.name++⟨#[61]⟩++⟨(zI t.data.toList).toArray⟩:=by
      refine ⟨_,rfl,?_,?_⟩
      ·split
       ·exact Nat.zero_le _
       ·rw [ByteArray.size_append];show _+1<=_;omega
      ·split
       ·rename_i h;subst h;exact zFq _ _
       ·rename_i h;exact zGg h _ _
     have HKT:=hid hkt;have HNX:Hid (xT (acc++(x.txt.take (j+1)).map (xE x.name))=S1++x.name++⟨#[61]⟩++⟨(zI t.data.toList).toArray⟩):=by show _=_;rw [hnx,hkey]
     have HA2:=hid has2;have HS1:=hid hS1;clear hte hstep hac2 hkt hnx has2 hkey hS1 hal2;obtain ⟨S,hS⟩:∃S,xT ac2=S:=⟨_,rfl⟩;have HSE:=hid hS;rw [hS] at hls ⊢;obtain ⟨B,hB⟩:∃B,S.toList.isEmpty=B:=⟨_,rfl⟩;have HSB:=hid hB;clear hS;go_upto_if 27 with fail
     clear hB
     go_cut [4] from 16 to 47 (fun vs wx=>wr=wx/\vs=tq S1)
     case first =>
      cases B with
      | true =>
       have E1:Hid (S=S1):=by
        show _=_
        by_cases h0:ac2=[]
        ·rw [HS1.out,if_pos h0,<-HSE.out,h0];rfl
        ·have:=zLn h0 fun y hy=>(HA2.out y hy).2
         rw [HSE.out,HSB.out] at this
         cases this
       go_wp2_with fail
       go_meet
       case rel=>exact ⟨rfl,by rw [E1.out]⟩
      | false =>
       have e1:S1=S++⟨#[32]⟩:=by
        by_cases h0:ac2=[]
        ·have:=HSB.out;rw [<-HSE.out,h0,show (xT []).toList.isEmpty=true by rw [Lib.toList_data];rfl] at this
         cases this
        ·rw [HS1.out,if_neg h0,HSE.out]
       have hA:∀w,Sem.run Tryz.prog (Op.stringOp .add S ⟨#[32]⟩) w=.ok (tq S1) w:=fun w=>by rw [e1];exact run_string_add_sum _ _ _ (by show S.size+1<=_;omega)
       clear e1;go_wp2_with fail;go_meet
       case rel=>exact ⟨rfl,rfl⟩
     case rest =>
      obtain ⟨rfl,rfl⟩:=hcut;have hwl2:=wX t.data.toList;have hwl3:t.data.toList.length=t.size:=by simp
      have HW:=hid (fun W=>fV t W (by omega));obtain ⟨wt,hwt⟩:∃wt:ByteArray,⟨(zI t.data.toList).toArray⟩=wt:=⟨_,rfl⟩;have hwts:wt.size<=384:=by rw [<-hwt];show (zI t.data.toList).toArray.size<=384;rw [List.size_toArray];omega
      rw [hwt] at HW HNX;obtain ⟨S2,hS2⟩:∃S2:ByteArray,S1++x.name=S2:=⟨_,rfl⟩;have hS2s:S2.size<=83633:=by rw [<-hS2,ByteArray.size_append];omega
      obtain ⟨S3,hS3⟩:∃S3:ByteArray,S2++⟨#[61]⟩=S3:=⟨_,rfl⟩;have hS3s:S3.size<=83634:=by rw [<-hS3,ByteArray.size_append];show _+1<=_;omega
      obtain ⟨S4,hS4⟩:∃S4:ByteArray,S3++wt=S4:=⟨_,rfl⟩;rw [hS2,hS3,hS4] at HNX;have hA:∀w,Sem.run Tryz.prog (Op.stringOp .add S1 x.name) w=.ok (tq S2) w:=fun w=>by rw [<-hS2];exact run_string_add_sum _ _ _ (by omega)
      have hB:∀w,Sem.run Tryz.prog (Op.stringOp .add S2 ⟨#[61]⟩) w=.ok (tq S3) w:=fun w=>by rw [<-hS3];exact run_string_add_sum _ _ _ (by show S2.size+1<=_;omega)
      have hC:∀w,Sem.run Tryz.prog (Op.stringOp .add S3 wt) w=.ok (tq S4) w:=fun w=>by rw [<-hS4];exact run_string_add_sum _ _ _ (by omega)
      have ct:=HKT.out _ HBJ.out;have KS:Hid (∀W,Below w.heap.size w W->W.cell? (aa b (off+i * 2))=some (tq x.name)/\W.cell? (aa b (off+i * 2+1))=some (sc (some (aa b2 off2)) x.txt.length x.cap)/\W.cell? (aa b2 (off2+j))=some (tq t)):=fun W hW=>⟨(HKC.out W hW).1,(HKC.out W hW).2,HKT.out W hW⟩
      clear hwl2 hwl3 hwt hS2 hS3 hS4 hwts hS2s hS3s hS1s hls;go_wp2_with fail
      go_region_held3 (fun W=>Below w.heap.size w W/\W.cell? (aa b (off+i * 2))=some (tq x.name)/\W.cell? (aa b (off+i * 2+1))=some (sc (some (aa b2 off2)) x.txt.length x.cap)/\W.cell? (aa b2 (off2+j))=some (tq t))
       (first|exact ⟨HBJ.out.drew,KS.out _ HBJ.out.drew⟩|exact ⟨bw2,KS.out _ bw2⟩)
       (first|(go_at_call 95;refine (HW.out _).mono ?_;rintro o w2 ⟨rfl,hb2⟩;have bw2:Below w.heap.size w w2:=zQ HBJ.out.drew HBJ.out.drew.size hb2))
      go_wp2_with fail
      go_roundg (x.txt.length-(j+1))
      case measure=>omega
      exact ⟨j+1,by go_num,by omega,by omega,bw2,by rw [HNX.out]⟩
    ·have hljz:¬ (j:Int)<(x.txt.length:Int):=by omega
     have htk2:x.txt.take j=x.txt:=List.take_of_length_le (by omega);rw [htk2];have HTK2:Hid (yM ((d.map Fx.fld).take (i+1))=acc++x.txt.map (xE x.name)):=HTK.out;clear htk2;go_wp2_with fail;go_roundg (d.length-(i+1))
     case measure=>omega
     exact ⟨i+1,by go_num,by omega,by omega,HBJ.out,by rw [HTK2.out]⟩
  ·have hltz:¬ (i:Int)<(d.length:Int):=by omega
   have htk2:(d.map Fx.fld).take i=d.map Fx.fld:=List.take_of_length_le (by rw [List.length_map];omega);rw [htk2];clear htk2;have HLN:Hid (mG (d.map Fx.fld)=xT (yM (d.map Fx.fld))):=rfl;go_wp2_with fail
   go_ret2
   rw [HLN.out];exact ⟨rfl,hb⟩
end
section
open Go.RowKit Go.Lib
def xG (x:Tm):ByteArray:=x.1++⟨#[opC x.2.1]⟩++⟨(zI x.2.2.data.toList).toArray⟩
def zDG (p:List Tm):ByteArray:=xT (p.map xG)
theorem sY (x:Tm):(xG x).data.toList=x.1.data.toList++opC x.2.1::zI x.2.2.data.toList:=by
 unfold xG;simp only [data_append];simp
theorem zFM (x:Tm):xT [xG x]=⟨#[]⟩++x.1++⟨#[opC x.2.1]⟩++⟨(zI x.2.2.data.toList).toArray⟩:=by
 refine nN ?_;rw [wH,List.map_cons,List.map_nil,Lib.join_one,sY];simp only [data_append];simp
theorem zGh {ws:List ByteArray} (h:ws≠[]) (x:Tm):xT (ws++[xG x])=xT ws++⟨#[32]⟩++x.1++⟨#[opC x.2.1]⟩++⟨(zI x.2.2.data.toList).toArray⟩:=by
 refine nN ?_;rw [wH,List.map_append,List.map_cons,List.map_nil,gT _ _ (by simpa using h)];simp only [data_append,wH,sY];simp
theorem zAG {x:Tm} (h1:uG x=true) (h2:vR x=true):(xG x).size<=417:=by
 have e:(xG x).size=(xG x).data.toList.length:=by simp
 have h3:=vY h1;have h4:=wX x.2.2.data.toList;have h5:x.2.2.data.toList.length=x.2.2.size:=by simp
 have h6:=of_decide_eq_true h2;rw [e,sY,List.length_append,List.length_cons];omega
theorem dV {p:List Tm} (x:Tm) (h:x∈wB p):uG x=true/\yP x=true/\vR x=true:=by
 unfold wB at h
 by_cases hm:wA p=0
 ·rw [if_pos hm] at h;obtain ⟨_,h1,h2,h3⟩:=tE hm;have hx:=((nC p).2 x).1 h;exact ⟨List.all_eq_true.1 h1 x hx,List.all_eq_true.1 h2 x hx,List.all_eq_true.1 h3 x hx⟩
 ·rw [if_neg hm] at h;simp at h
theorem zBM (p:List Tm):(wB p).length<=8:=by
 unfold wB
 by_cases hm:wA p=0
 ·rw [if_pos hm];have:=jA p;have:=(tE hm).1;omega
 ·rw [if_neg hm];simp
theorem kB {x:Tm} (h:yP x=true):1<=x.2.1/\x.2.1<=7:=by
 unfold yP at h;rw [Bool.and_eq_true,Bool.and_eq_true] at h;exact ⟨of_decide_eq_true h.1.1,of_decide_eq_true h.1.2⟩
theorem zIV (m:Nat) (h:m<7):Utf8.encode (((⟨#[61,33,94,60,62,63,45]⟩:ByteArray)[m]'h).toNat:Int)=⟨#[opC ((m:Int)+1)]⟩:=by
 have:m=0∨m=1∨m=2∨m=3∨m=4∨m=5∨m=6:=by omega
 rcases this with rfl|rfl|rfl|rfl|rfl|rfl|rfl<;>decide +revert
theorem wrap_i64 (n:Int) (h1:-9223372036854775808<=n) (h2:n<=9223372036854775807):IntKind.i64.wrap n=n:=by
 simp [IntKind.wrap,IntKind.signed,IntKind.bits];omega
theorem zEk (v:Value) (p:List Tm) (w:World) (hv:KM.Is w v p) (hf:pY p) :
  Calls Tryz.prog 51 #[v] w fun e w'=>e=.returned (.tuple #[.string (zDG (wB p)),.int .i64 (wA p)])/\Below w.heap.size w w':=by
 have HN:=hid (fS v p w hv hf);clear hv hf
 by_cases hm:wA p=0
 ·have HAL:=hid (fun x hx=>dV (p:=p) x hx);have hal:=zBM p;have HM:=hid hm;obtain ⟨G,hG⟩:∃G,wB p=G:=⟨_,rfl⟩;rw [hG] at HAL hal;have HG:=hid hG;clear hm hG;go_enter Tryz.func51,Tryz.ntmps51;go_wp2_with (first|(go_at_call 86;refine HN.out.mono ?_;rintro e w1 ⟨⟨u,he,ho⟩,hb1⟩;rw [HM.out] at he;subst he;rw [HG.out] at ho;obtain ⟨p5,c5,hu,hd⟩:=zE.own_is ho;subst hu;have HD:=hid hd;have HB1:=hid hb1;clear ho hd hb1))
  go_loopg [6,7] G.length (fun g vs vi wr=>∃i:Nat,vi=ii i/\i<=G.length/\G.length-i<=g/\Hid (Below w1.heap.size w1 wr)/\vs=tq (xT ((G.take i).map xG)))
  case atStart=>exact ⟨0,rfl,by omega,by omega,Below.refl _ _,rfl⟩
  case round =>
   obtain ⟨i,rfl,hi,hgk,HB,rfl⟩:=hrel
   by_cases hlt:i<G.length
   ·have hltz:(i:Int)<(G.length:Int):=by omega
    have hiz:(0:Int)<=i:=by omega
    obtain ⟨b,off,rfl,hat⟩:∃b off,p5=some (aa b off)/\KM.At w1 b off G:=by
     rcases HD.out with h|h
     ·subst h;simp at hlt
     ·exact h
    have hkc:∀W,Below w1.heap.size w1 W->W.cell? (aa b (off+i * 3))=some (tq (G[i]).1)/\W.cell? (aa b (off+i * 3+1))=some (ii (G[i]).2.1)/\W.cell? (aa b (off+i * 3+2))=some (tq (G[i]).2.2):=fun W hW=>qR (zE.at_kept hat hW) i hlt
    obtain ⟨hn,hr,hs⟩:=HAL.out _ (List.getElem_mem hlt);have hor:=kB hr;have hns:=vY hn;have hss:=of_decide_eq_true hs
    have htk:(G.take (i+1)).map xG=(G.take i).map xG++[xG G[i]]:=by
     rw [List.take_succ_eq_append_getElem hlt,List.map_append];simp
    have has:∀y∈(G.take i).map xG,y.size<=417:=fun y hy=>by
     obtain ⟨t,ht,rfl⟩:=List.mem_map.1 hy;obtain ⟨a,_,c⟩:=HAL.out t (List.mem_of_mem_take ht);exact zAG a c
    have hls:=dE (ws:=(G.take i).map xG) (by simp;omega) has;obtain ⟨x,hx⟩:∃x,G[i]=x:=⟨_,rfl⟩;rw [hx] at hkc hor hns hss htk;obtain ⟨xf,xo,xt⟩:=x;simp only at hkc hor hns hss;have hns2:xf.size<=32:=by simpa using hns
    obtain ⟨S1,hS1,hS1s,hkey⟩:∃S1:ByteArray,S1=(if i=0 then ⟨#[]⟩ else xT ((G.take i).map xG)++⟨#[32]⟩)/\S1.size<=83601/\xT ((G.take (i+1)).map xG)=S1++xf++⟨#[opC xo]⟩++⟨(zI xt.data.toList).toArray⟩:=by
     refine ⟨_,rfl,?_,?_⟩
     ·split
      ·exact Nat.zero_le _
      ·rw [ByteArray.size_append];show _+1<=_;omega
     ·rw [htk]
      split
      ·rename_i h;subst h;exact zFM _
      ·rename_i h
       refine zGh (fun e=>h ?_) _;have:=congrArg List.length e;rw [List.length_map,List.length_take,List.length_nil] at this;omega
    have HKC:=hid hkc;have HS1:=hid hS1;have HNX:=hid hkey;have HZ:Hid (i=0->xT ((G.take i).map xG)=⟨#[]⟩):=fun e=>by rw [e];rfl
    clear hat hn hr hs hx htk has hkey hS1 hkc hns;obtain ⟨S,hS⟩:∃S,xT ((G.take i).map xG)=S:=⟨_,rfl⟩;rw [hS] at hls HS1 HZ ⊢;clear hS;go_upto_if 23 with fail
    go_cut [6] from 16 to 48 (fun vs wx=>wr=wx/\vs=tq S1)
    case first =>
     by_cases h0:i=0
     ·have E1:Hid (S=S1):=by show _=_;rw [HS1.out,if_pos h0,HZ.out h0]
      have hz:¬ ((0:Int)<(i:Int)):=by omega
      clear h0;go_wp2_with fail;go_meet
      case rel=>exact ⟨rfl,by rw [E1.out]⟩
     ·have e1:S1=S++⟨#[32]⟩:=by rw [HS1.out,if_neg h0]
      have hz:(0:Int)<(i:Int):=by omega
      have hA:∀w,Sem.run Tryz.prog (Op.stringOp .add S ⟨#[32]⟩) w=.ok (tq S1) w:=fun w=>by rw [e1];exact run_string_add_sum _ _ _ (by show S.size+1<=_;omega)
      clear e1 h0;go_wp2_with fail;go_meet
      case rel=>exact ⟨rfl,rfl⟩
    case rest =>
     obtain ⟨rfl,rfl⟩:=hcut;have hwl2:=wX xt.data.toList;have hwl3:xt.data.toList.length=xt.size:=by simp
     have HW:=hid (fun W=>fV xt W (by omega));obtain ⟨wt,hwt⟩:∃wt:ByteArray,⟨(zI xt.data.toList).toArray⟩=wt:=⟨_,rfl⟩;have hwts:wt.size<=384:=by rw [<-hwt];show (zI xt.data.toList).toArray.size<=384;rw [List.size_toArray];omega
     rw [hwt] at HW HNX;obtain ⟨S2,hS2⟩:∃S2:ByteArray,S1++xf=S2:=⟨_,rfl⟩;have hS2s:S2.size<=83633:=by rw [<-hS2,ByteArray.size_append];omega
     obtain ⟨S3,hS3⟩:∃S3:ByteArray,S2++⟨#[opC xo]⟩=S3:=⟨_,rfl⟩;have hS3s:S3.size<=83634:=by rw [<-hS3,ByteArray.size_append];show _+1<=_;omega
     obtain ⟨S4,hS4⟩:∃S4:ByteArray,S3++wt=S4:=⟨_,rfl⟩;rw [hS2,hS3,hS4] at HNX;have hA:∀w,Sem.run Tryz.prog (Op.stringOp .add S1 xf) w=.ok (tq S2) w:=fun w=>by rw [<-hS2];exact run_string_add_sum _ _ _ (by omega)
     have hB:∀w,Sem.run Tryz.prog (Op.stringOp .add S2 ⟨#[opC xo]⟩) w=.ok (tq S3) w:=fun w=>by rw [<-hS3];exact run_string_add_sum _ _ _ (by show S2.size+1<=_;omega)
     have hC:∀w,Sem.run Tryz.prog (Op.stringOp .add S3 wt) w=.ok (tq S4) w:=fun w=>by rw [<-hS4];exact run_string_add_sum _ _ _ (by omega)
     clear hwl2 hwl3 hwt hS2 hS3 hS4 hwts hS2s hS3s hS1s hls hss hns2;obtain ⟨m,hm7,hxo⟩:∃m:Nat,m<7/\xo=m+1:=⟨(xo-1).toNat,by omega,by omega⟩;have hw:IntKind.i64.wrap (xo-1)=(m:Int):=by rw [hxo];rw [show (m:Int)+1-1=m by omega];exact wrap_i64 _ (by omega) (by omega)
     have hm0:(0:Int)<=m:=by omega
     have hm7z:(m:Int)<7:=by omega
     have hsg:=zIV m hm7;rw [<-hxo] at hsg;have hB2:∀w,Sem.run Tryz.prog (Op.stringOp .add S2 (Utf8.encode (((⟨#[61,33,94,60,62,63,45]⟩:ByteArray)[m]'hm7).toNat:Int))) w=.ok (tq S3) w:=by rw [hsg];exact hB
     clear hor hxo hsg hB;obtain ⟨c0,c1,c2⟩:=HKC.out _ HB.out;go_wp2_with fail
     go_region_held3 (fun W=>Below w1.heap.size w1 W/\W.cell? (aa b (off+i * 3))=some (tq xf)/\W.cell? (aa b (off+i * 3+1))=some (ii xo)/\W.cell? (aa b (off+i * 3+2))=some (tq xt))
      (first|exact ⟨HB.out.drew,HKC.out _ HB.out.drew⟩|exact ⟨bw2,HKC.out _ bw2⟩)
      (first|(go_at_call 95;refine (HW.out _).mono ?_;rintro o w2 ⟨rfl,hb2⟩;have bw2:Below w1.heap.size w1 w2:=zQ HB.out.drew HB.out.drew.size hb2))
     all_goals
      go_wp2_with fail
      go_roundg (G.length-(i+1))
      case measure=>omega
      case rel=>exact ⟨i+1,by go_num,by omega,by omega,bw2,by rw [HNX.out]⟩
   ·have hltz:¬ (i:Int)<(G.length:Int):=by omega
    have htk2:G.take i=G:=List.take_of_length_le (by omega);rw [htk2];clear htk2;go_wp2_with fail
    go_ret2
    exact ⟨by rw [HM.out,HG.out];rfl,zQ HB1.out HB1.out.size HB.out⟩
 ·have hne:(wA p != 0)=true:=by rw [bne_iff_ne];exact hm
  have HA:Hid (wB p=[]):=by show _=_;unfold wB;rw [if_neg hm]
  obtain ⟨r,hr⟩:∃r,wA p=r:=⟨_,rfl⟩;rw [hr] at hne;have HR:=hid hr;clear hm hr;go_enter Tryz.func51,Tryz.ntmps51;go_wp2_with (first|(go_at_call 86;refine HN.out.mono ?_;rintro e w1 ⟨⟨u,he,ho⟩,hb1⟩;rw [HR.out] at he;subst he;clear ho))
  go_ret2
  exact ⟨by rw [HR.out,HA.out];rfl,hb1⟩
end
section
open Go.RowKit
theorem dO {c:UInt8} {r:List UInt8} (h:xA (c.toNat:Int)=true):xK (c::r)=some (c,1):=by
 simp [xK,h]
theorem zFE {c:UInt8} {r:List UInt8} (h:xA (c.toNat:Int)=false) (h2:c≠37):xK (c::r)=none:=by
 simp [xK,h,h2]
theorem zAA:xA 37=false:=by decide
theorem zDu {r:List UInt8} (h:r.length<2):xK (37::r)=none:=by
 match r,h with
 | [],_=>simp [xK,zAA]
 | [_],_=>simp [xK,zAA]
theorem jT {a b:UInt8} {r:List UInt8}:xK (37::a::b::r)=if wF a=16∨wF b=16 then none else if xA ((UInt8.ofNat (16 * wF a+wF b)).toNat:Int) then none else some (UInt8.ofNat (16 * wF a+wF b),3):=by
 have e:xK (37::a::b::r)=if tU a<0∨tU b<0 then none else
   if xA ((UInt8.ofNat (16 * (tU a).toNat+(tU b).toNat)).toNat:Int) then none else some (UInt8.ofNat (16 * (tU a).toNat+(tU b).toNat),3):=by
  simp [xK,zAA]
 rw [e,zI0 a,zI0 b]
 by_cases ha:wF a=16
 ·rw [if_pos (Or.inl (by rw [if_pos ha];decide)),if_pos (Or.inl ha)]
 ·by_cases hb:wF b=16
  ·rw [if_pos (Or.inr (by rw [if_pos hb];decide)),if_pos (Or.inr hb)]
  ·rw [if_neg (show ¬ (wF a=16∨wF b=16) by omega),if_neg (show ¬ ((if wF a=16 then (-1:Int) else (wF a:Int))<0∨(if wF b=16 then (-1:Int) else (wF b:Int))<0) by rw [if_neg ha,if_neg hb];omega),if_neg ha,if_neg hb,Int.toNat_natCast,Int.toNat_natCast]
theorem zAn (s:ByteArray) (i:Nat) (h:i<s.size):s.data.toList.drop i=s[i]::s.data.toList.drop (i+1):=by
 rw [List.drop_eq_getElem_cons (by simpa using h)];rfl
def zOe (w:World) (s:ByteArray) (i:Nat) (vb:Value) (wr:World):Prop :=
 ∃acc,bW w.heap.size wr vb acc/\acc.length<=i/\yJ s.data.toList=(yJ (s.data.toList.drop i)).map (acc ++ ·)/\Below w.heap.size w wr
theorem zIC {s:ByteArray} {i n:Nat} {c:UInt8} {acc:List UInt8} (h:yJ s.data.toList=(yJ (s.data.toList.drop i)).map (acc ++ ·)) (hf:xK (s.data.toList.drop i)=some (c,n)) :
  yJ s.data.toList=(yJ (s.data.toList.drop (i+n))).map ((acc++[c]) ++ ·):=by
 rw [h,qH hf,List.drop_drop,Option.map_map]
 congr 1
 funext x
 simp
theorem zFg {s:ByteArray} {i:Nat} {acc:List UInt8} (hi:i<s.size) (h:yJ s.data.toList=(yJ (s.data.toList.drop i)).map (acc ++ ·)) (hf:xK (s.data.toList.drop i)=none):yJ s.data.toList=none:=by
 rw [h,jP (by rw [zAn s i hi];simp) hf];rfl
theorem bV (s:ByteArray) (w:World) (hs:s.size<=140737488355327) :
  Calls Tryz.prog 121 #[.string s] w fun e w'=>e=.returned (nX (yJ s.data.toList))/\Below w.heap.size w w':=by
 obtain ⟨i0,hi0,hz0,hz1,hz2⟩:=info_parts Tryz.infoByte;have HI:=hid hi0;clear hi0;have mixed:=Tryz.mixed;obtain ⟨res,hres⟩:∃res,yJ s.data.toList=res:=⟨_,rfl⟩;rw [hres];have HRES:=hid hres;clear hres;go_enter Tryz.func121,Tryz.ntmps121;go_wp2_with fail
 go_loopg [4,5] s.size (fun g vb vi wr=>∃i:Nat,vi=ii i/\i<=s.size/\s.size-i<=g/\zOe w s i vb wr)
 case atStart=>exact ⟨0,rfl,by omega,by omega,[],World.ownsRow_nil _ _ _ _,by simp,by simp,Below.refl _ _⟩
 case round =>
  obtain ⟨i,rfl,hi,hgk,acc,hob,hal,hrd,hb⟩:=hrel;have hszr:=hb.size;have HOB:=hid hob;have HB:=hid hb;have HRD:=hid hrd
  by_cases hlt:i<s.size
  ·have hltz:(i:Int)<(s.size:Int):=by omega
   have hiz:(0:Int)<=i:=by omega
   have hdr:=zAn s i hlt;obtain ⟨c,hc⟩:∃c,s[i]=c:=⟨_,rfl⟩;rw [hc] at hdr;have HDR:=hid hdr;have hc256:=c.toNat_lt;clear hob hb hrd hdr
   cases hp:xA (c.toNat:Int) with
   | true =>
    have HN:Hid (yJ s.data.toList=(yJ (s.data.toList.drop (i+1))).map ((acc++[c]) ++ ·)):=zIC HRD.out (by rw [HDR.out];exact dO hp);have HPL:Hid (∀W,Calls Tryz.prog 136 #[.int .u8 (c.toNat:Nat)] W fun e w'=>e=.returned (.bool true)/\w'=W):=fun W=>by have:=vO (c.toNat:Int) W;rw [hp] at this;exact this
    clear hp;go_wp2_with (first|(go_at_call 136;refine (HPL.out _).mono ?_;rintro e w1 ⟨rfl,rfl⟩)|(at_builtin;refine wpList_append_own _ rfl _ _ 89 rfl w.heap.size 5 i0 (.int .u8 0) 1 1 Tryz.underlying89 HI.out hz0 hz1 hz2 rfl (by decide) _ _ _ rfl (World.ownsRow.alloc HOB.out _) (aa w1.heap.size 0) 1 1 [.int .u8 (c.toNat:Int)] rfl rfl (cF _ _) (zBZ _) (by unfold maxLen;omega) (by omega) (by simp;omega) ?_));intro v3 w3 hown3 hg3 _;have hob3:bW w.heap.size w3 v3 (acc++[c]):=zBw hown3 rfl rfl;have hb3:Below w.heap.size w w3:=(HB.out.alloc (by omega) _).grown hg3 (by simp;omega) (fun k hk=>(World.ownsRow.lt HOB.out k hk).1);have HOB3:=hid hob3;have HB3:=hid hb3;clear hown3 hg3 hob3 hb3;go_wp2_with fail;go_roundg (s.size-(i+1))
    case measure=>omega
    exact ⟨i+1,by go_num,by omega,by omega,acc++[c],HOB3.out,by simp;omega,HN.out,HB3.out⟩
   | false =>
    have HPL:Hid (∀W,Calls Tryz.prog 136 #[.int .u8 (c.toNat:Nat)] W fun e w'=>e=.returned (.bool false)/\w'=W):=fun W=>by have:=vO (c.toNat:Int) W;rw [hp] at this;exact this
    by_cases h37:c=37
    ·subst h37
     by_cases hsh:s.size-i<3
     ·have hshz:decide ((s.size:Int)-(i:Int)<3)=true:=decide_eq_true (by omega);have HN:Hid (res=none):=HRES.out.symm.trans (zFg hlt HRD.out (by rw [HDR.out];exact zDu (by simp;omega)));go_wp2_with (first|(go_at_call 136;refine (HPL.out _).mono ?_;rintro e w1 ⟨rfl,rfl⟩));refine wp_region_quiet_lit mixed (by kernel_rfl) ?_
      repeat (go_big_quiet_step (first|(go_at_call 168;refine Calls.quiet_of_same (nL _ _))|(go_at_call 136;refine Calls.quiet_of_same (vO _ _))))
      refine wpQuiet_nil ?_;intro _ hw';obtain ⟨nq,hw''⟩:=hw';subst hw'';go_wp2_with fail
      go_ret2
      rw [HN.out];exact ⟨rfl,zP HB.out _⟩
     ·have hshz:decide ((s.size:Int)-(i:Int)<3)=false:=decide_eq_false (by omega);have hd1:=zAn s (i+1) (by omega);have hd2:=zAn s (i+1+1) (by omega);obtain ⟨a,ha⟩:∃a,s[i+1]'(by omega)=a:=⟨_,rfl⟩;obtain ⟨b,hb⟩:∃b,s[i+1+1]'(by omega)=b:=⟨_,rfl⟩;rw [ha] at hd1;rw [hb] at hd2;have hb2:s[i+2]'(by omega)=b:=hb;have i1:(0:Int)<=(i:Int)+1:=by omega
      have i2:(i:Int)+1<(s.size:Int):=by omega
      have i3:(0:Int)<=(i:Int)+2:=by omega
      have i4:(i:Int)+2<(s.size:Int):=by omega
      have hal16:=zIW a;have hbl16:=zIW b;have hdd:s.data.toList.drop i=37::a::b::s.data.toList.drop (i+3):=by rw [HDR.out,hd1,hd2]
      have HDD:=hid hdd;clear hd1 hd2 hdd
      by_cases hxa:wF a=16
      ·have da:decide ((15:Int)<(wF a:Int))=true:=decide_eq_true (by omega);have HN:Hid (res=none):=HRES.out.symm.trans (zFg hlt HRD.out (by rw [HDD.out,jT,if_pos (Or.inl hxa)]));clear hxa;go_wp2_with (first|(go_at_call 136;refine (HPL.out _).mono ?_;rintro e w1 ⟨rfl,rfl⟩));refine wp_region_quiet_lit mixed (by kernel_rfl) ?_
       repeat (go_big_quiet_step (first|(go_at_call 168;refine Calls.quiet_of_same (nL _ _))|(go_at_call 136;refine Calls.quiet_of_same (vO _ _))))
       refine wpQuiet_nil ?_;intro _ hw';obtain ⟨nq,hw''⟩:=hw';subst hw'';go_wp2_with fail
       go_ret2
       rw [HN.out];exact ⟨rfl,zP HB.out _⟩
      have da:decide ((15:Int)<(wF a:Int))=false:=decide_eq_false (by omega)
      by_cases hxb:wF b=16
      ·have db:decide ((15:Int)<(wF b:Int))=true:=decide_eq_true (by omega);have HN:Hid (res=none):=HRES.out.symm.trans (zFg hlt HRD.out (by rw [HDD.out,jT,if_pos (Or.inr hxb)]));clear hxb;go_wp2_with (first|(go_at_call 136;refine (HPL.out _).mono ?_;rintro e w1 ⟨rfl,rfl⟩));refine wp_region_quiet_lit mixed (by kernel_rfl) ?_
       repeat (go_big_quiet_step (first|(go_at_call 168;refine Calls.quiet_of_same (nL _ _))|(go_at_call 136;refine Calls.quiet_of_same (vO _ _))))
       refine wpQuiet_nil ?_;intro _ hw';obtain ⟨nq,hw''⟩:=hw';subst hw'';go_wp2_with fail
       go_ret2
       rw [HN.out];exact ⟨rfl,zP HB.out _⟩
      have db:decide ((15:Int)<(wF b:Int))=false:=decide_eq_false (by omega)
      have hsum:((UInt8.ofNat (16 * wF a+wF b)).toNat:Int)=(wF a:Int) * 16+(wF b:Int):=by
       rw [UInt8.toNat_ofNat'];omega
      have HSU:=hid hsum
      have HFP:Hid (xK (s.data.toList.drop i)=if xA ((wF a:Int) * 16+(wF b:Int))=true then none else some (UInt8.ofNat (16 * wF a+wF b),3)):=by
       show _=_
       rw [HDD.out,jT,if_neg (by omega),hsum]
      clear hsum
      cases hq:xA ((wF a:Int) * 16+(wF b:Int)) with
      | true =>
       have HN:Hid (res=none):=HRES.out.symm.trans (zFg hlt HRD.out (by rw [HFP.out,if_pos hq]));go_wp2_with (first|(go_at_call 136;refine (HPL.out _).mono ?_;rintro e w1 ⟨rfl,rfl⟩));refine wp_region_quiet_lit mixed (by kernel_rfl) ?_
       repeat (go_big_quiet_step (first|(go_at_call 168;refine Calls.quiet_of_same (nL _ _))|(go_at_call 136;refine Calls.quiet_of_same (vO _ _))))
       refine wpQuiet_nil ?_;intro _ hw';obtain ⟨nq,hw''⟩:=hw';subst hw'';go_wp2_with fail
       go_ret2
       rw [HN.out];exact ⟨rfl,zP HB.out _⟩
      | false =>
       have HN:Hid (yJ s.data.toList=(yJ (s.data.toList.drop (i+3))).map ((acc++[UInt8.ofNat (16 * wF a+wF b)]) ++ ·)):=zIC HRD.out (by rw [HFP.out,hq];rfl);go_wp2_with (first|(go_at_call 136;refine (HPL.out _).mono ?_;rintro e w1 ⟨rfl,rfl⟩));refine wp_region_quiet_lit mixed (by kernel_rfl) ?_
       repeat (go_big_quiet_step (first|(go_at_call 168;refine Calls.quiet_of_same (nL _ _))|(go_at_call 136;refine Calls.quiet_of_same (vO _ _))))
       refine wpQuiet_nil ?_;intro _ hw';obtain ⟨nq,hw''⟩:=hw';subst hw'';go_wp2_with fail;obtain ⟨W2,hW2⟩:∃W2,w1.drewN nq=W2:=⟨_,rfl⟩;have hb2W:Below w.heap.size w W2:=by rw [<-hW2];exact zP HB.out _
       have hob2:bW w.heap.size W2 u4 acc:=by rw [<-hW2];exact HOB.out
       have hszW:=hb2W.size;have HBW:=hid hb2W;have HOW:=hid hob2;rw [hW2];clear hW2 hb2W hob2;have x1:IntKind.i64.wrap ((i:Int)+1)=(i:Int)+1:=by simp [IntKind.wrap,IntKind.signed,IntKind.bits];omega
       have x2:IntKind.i64.wrap ((i:Int)+2)=(i:Int)+2:=by simp [IntKind.wrap,IntKind.signed,IntKind.bits];omega
       have x3:((i:Int)+1).toNat=i+1:=by omega
       have x4:((i:Int)+2).toNat=i+2:=by omega
       have x5:IntKind.u8.wrap ((wF a:Int) * 16)=(wF a:Int) * 16:=fD _ (by omega);have x6:IntKind.u8.wrap ((wF a:Int) * 16+(wF b:Int))=(wF a:Int) * 16+(wF b:Int):=fD _ (by omega)
       go_region_law (first
        | (refine step_append_lies _ (by rfl) (.tmp 12) (.tmp 25) 89 (by rfl) w.heap.size 5 i0 (.int .u8 0) 1 1 Tryz.underlying89 HI.out hz0 hz1 hz2 rfl (by decide) u4 acc.length (Lib.byteCells acc) (by rfl) (World.ownsRow.alloc (w:=W2.drew) HOW.out _) _ 1 1 [.int .u8 ((wF a:Int) * 16+(wF b:Int))] (by rfl) rfl (cF _ _) (zBZ _) (by decide) (by unfold maxLen;omega) (by omega) (by simp;omega) _ rfl ?_;intro g4 cap4 w4 hown4 hg4 _ _)
        | (go_simp;go_at_call 168;refine (nL _ _).mono ?_;rintro o w2 ⟨rfl,rfl⟩))
       all_goals
        have hob4:bW w.heap.size w4 (sc (some (aa g4 0)) (acc.length+1) cap4) (acc++[UInt8.ofNat (16 * wF a+wF b)]):=zBw hown4 rfl HSU.out;have hb4:Below w.heap.size w w4:=((zP HBW.out 1).alloc hszW _).grown hg4 (by have h1:w.heap.size<=(W2.drewN 1).heap.size:=hszW;simp;omega) (fun k hk=>(World.ownsRow.lt HOW.out k hk).1);have HOB4:=hid hob4;have HB4:=hid hb4;clear hown4 hg4 hob4 hb4;go_wp2_with fail;go_roundg (s.size-(i+3))
        case measure=>omega
        exact ⟨i+3,by go_num,by omega,by omega,_,HOB4.out,by simp;omega,HN.out,HB4.out⟩
    ·have hcne:((c.toNat:Int) != 37)=true:=by
      rw [bne_iff_ne];intro e;apply h37;have:c.toNat=37:=by omega
      exact UInt8.toNat_inj.1 this
     have HN:Hid (res=none):=HRES.out.symm.trans (zFg hlt HRD.out (by rw [HDR.out];exact zFE hp h37));go_wp2_with (first|(go_at_call 136;refine (HPL.out _).mono ?_;rintro e w1 ⟨rfl,rfl⟩));refine wp_region_quiet_lit mixed (by kernel_rfl) ?_
     repeat (go_big_quiet_step (first|(go_at_call 168;refine Calls.quiet_of_same (nL _ _))|(go_at_call 136;refine Calls.quiet_of_same (vO _ _))))
     refine wpQuiet_nil ?_;intro _ hw';obtain ⟨nq,hw''⟩:=hw';subst hw'';go_wp2_with fail
     go_ret2
     rw [HN.out];exact ⟨rfl,zP HB.out _⟩
  ·have hltz:¬ (i:Int)<(s.size:Int):=by omega
   have hres2:res=some acc:=by
    rw [<-HRES.out,hrd,List.drop_of_length_le (by simp;omega),sB];simp
   have HR2:=hid hres2;have kc:=zFD (zCc hob);clear hob hrd hres2;go_wp2_with fail
   go_ret2
   rw [HR2.out];exact ⟨rfl,hb⟩
end
section
open Go.RowKit
theorem zHh:((List.range 16).all fun k=>decide (wF (sE k)=k))=true:=by decide
theorem zDA {k:Nat} (h:k<16):wF (sE k)=k:=by
 have:=List.all_eq_true.1 zHh k (List.mem_range.2 h);exact of_decide_eq_true this
theorem sZ (l:List UInt8):yJ (zI l)=some l:=by
 induction l with
 | nil=>exact sB
 | cons c l ih =>
  rw [gI]
  cases hp:xA (c.toNat:Int) with
  | true =>
   have e:vU c=[c]:=by unfold vU;rw [if_pos hp]
   rw [e,List.cons_append,List.nil_append,qH (dO hp)];show (yJ (zI l)).map _=_;rw [ih];rfl
  | false =>
   have e:vU c=[37,sE (c.toNat / 16),sE (c.toNat % 16)]:=by unfold vU;rw [hp];rfl
   have hc:=c.toNat_lt;have h1:wF (sE (c.toNat / 16))=c.toNat / 16:=zDA (by omega);have h2:wF (sE (c.toNat % 16))=c.toNat % 16:=zDA (by omega)
   have hs:UInt8.ofNat (16 * (c.toNat / 16)+c.toNat % 16)=c:=by
    rw [show 16 * (c.toNat / 16)+c.toNat % 16=c.toNat by omega,UInt8.ofNat_toNat]
   have hf:xK (37::sE (c.toNat / 16)::sE (c.toNat % 16)::zI l)=some (c,3):=by
    rw [jT,h1,h2,if_neg (by omega),hs,if_neg (by rw [hp];simp)]
   rw [e];show yJ (37::sE (c.toNat / 16)::sE (c.toNat % 16)::zI l)=_;rw [qH hf];show (yJ (zI l)).map _=_;rw [ih];rfl
end
section
open Go.RowKit Go.Lib
theorem cB {a b:List UInt8} {c:UInt8} (h:c ∉ a):Lib.indexByte (a++c::b) c=(a.length:Int):=by
 rcases vL (a++c::b) c with ⟨_,h2⟩|⟨i,h1,h2,h3,h4⟩
 ·exact absurd (by simp) h2
 ·have h5:=zBI _ c i h2 h3;have:=(zNH h5 h h4).1;rw [h1,this,List.length_take];omega
theorem dP {a:List UInt8} {c:UInt8} (h:c ∉ a):Lib.indexByte a c=-1:=by
 rcases vL a c with ⟨h1,_⟩|⟨i,_,h2,h3,_⟩
 ·exact h1
 ·exact absurd (List.mem_of_getElem? h3) h
theorem fN:∀ws:List (List UInt8),ws≠[]->(∀w∈ws,(32:UInt8) ∉ w)->zG (Lib.join ws [32])=ws
 | [],h,_=>absurd rfl h
 | [w],_,h=>by
  rw [Lib.join_one];exact wG (dP (h w (by simp)))
 | w::v::ws,_,h=>by
  have ih:=fN (v::ws) (by simp) (fun x hx=>h x (by simp [hx]));rw [jD,wO (cB (h w (by simp)))];rw [List.take_left' rfl]
  congr 1
  rw [show w++32::Lib.join (v::ws) [32]=(w++[32])++Lib.join (v::ws) [32] by simp,List.drop_left' (by simp)];exact ih
theorem qP {l:List UInt8} (h:mN l=0):(32:UInt8) ∉ l:=by
 intro hm;have:=List.countP_eq_zero.1 h 32 hm;simp at this
theorem zHO {l:List UInt8} (h:yU l=true):(61:UInt8) ∉ l:=by
 intro hc;unfold yU xD at h
 cases l with
 | nil=>simp at hc
 | cons x r =>
  simp only [Bool.and_eq_true,List.all_eq_true] at h
  have key:yL ((61:UInt8).toNat:Int)=true∨yW ((61:UInt8).toNat:Int)=true:=by
   rcases List.mem_cons.1 hc with e|hc
   ·exact Or.inr (by rw [e];exact h.1.2)
   ·exact Or.inl (h.2 _ hc)
  rcases key with k|k
  ·revert k;decide
  ·revert k;decide
theorem zJC {n t:ByteArray} (h:yU n.data.toList=true):vM (xE n t).data.toList=some (n.data.toList,t.data.toList):=by
 rw [jL,List.append_assoc,List.singleton_append];have e:=cB (b:=zI t.L) (zHO h);unfold vM;rw [e,if_neg (by omega),Int.toNat_natCast,List.take_left' rfl];rw [show n.L++61::zI t.L=(n.L++[61])++zI t.L by simp,List.drop_left' (by simp),sZ];rfl
def pK (fs:List Fld):List Fld:=fs.flatMap fun f=>f.2.map fun t=>(f.1,[t])
theorem qO (b:ByteArray):(⟨b.data.toList.toArray⟩:ByteArray)=b:=by obtain ⟨⟨l⟩⟩:=b;rfl
theorem zGo (fs:List Fld) (h:∀f∈fs,yU f.1.data.toList=true):zV ((yM fs).map (·.data.toList))=some (pK fs):=by
 induction fs with
 | nil=>rfl
 | cons f fs ih =>
  have hf:=h f (by simp);have ih:=ih fun g hg=>h g (by simp [hg])
  have e1:zV ((gA f).map (·.data.toList))=some (f.2.map fun t=>(f.1,[t])):=by
   unfold gA
   generalize f.2=ts
   induction ts with
   | nil=>rfl
   | cons t ts iht =>
    simp only [List.map_cons,zV];rw [zJC hf];simp only;rw [iht,qO,qO];rfl
  unfold yM at ih ⊢;rw [List.flatMap_cons,List.map_append,vS,e1,ih];rfl
theorem zCS (f:Fld) (c:ByteArray):((f.2.map fun t=>((f.1,[t]):Fld)).filter fun x=>decide (x.1=c)).flatMap (·.2)=if f.1=c then f.2 else []:=by
 obtain ⟨n,ts⟩:=f;simp only
 by_cases e:n=c
 ·rw [if_pos e,List.filter_eq_self.2 (fun x hx=>by obtain ⟨t,_,rfl⟩:=List.mem_map.1 hx;simp [e])]
  induction ts with
  | nil=>rfl
  | cons t ts ih=>rw [List.map_cons,List.flatMap_cons,ih];rfl
 ·rw [if_neg e,List.filter_eq_nil_iff.2 (fun x hx=>by obtain ⟨t,_,rfl⟩:=List.mem_map.1 hx;simp [e])];rfl
theorem zEG (fs:List Fld) (c:ByteArray):vC (pK fs) c=vC fs c:=by
 induction fs with
 | nil=>rfl
 | cons f fs ih =>
  unfold vC pK at *;rw [List.flatMap_cons,List.filter_append,List.flatMap_append,zCS,ih]
  by_cases e:f.1=c
  ·rw [if_pos e,List.filter_cons_of_pos (by simp [e]),List.flatMap_cons]
  ·rw [if_neg e,List.filter_cons_of_neg (by simp [e]),List.nil_append]
theorem zGJ {fs:List Fld} (h:xU fs=true):zAC fs:=by
 have hs:=(qC h).2
 have step:∀i,(hi:i+1<fs.length)->ltB (fs[i]).1 (fs[i+1]).1=true:=fun i hi=>by
  have:=hs (i+1) hi;unfold wW at this;rw [Bool.and_eq_true,Bool.or_eq_true] at this
  rcases this.2 with h|h
  ·have:=of_decide_eq_true h;omega
  ·rw [zLc,Nat.add_sub_cancel,List.getD_eq_getElem?_getD,List.getD_eq_getElem?_getD,List.getElem?_eq_getElem hi,List.getElem?_eq_getElem (show i<fs.length by omega)] at h;exact h
 refine List.pairwise_iff_getElem.2 fun i j hi hj hij=>?_
 induction j with
 | zero=>omega
 | succ j ih =>
  by_cases e:i=j
  ·subst e;exact step i hj
  ·exact qG (ih (by omega) (by omega)) (step j hj)
theorem zGv {fs:List Fld} (h:zAC fs):∀f∈fs,f.2=vC fs f.1:=by
 intro f hf;obtain ⟨a,b,rfl⟩:=List.append_of_mem hf;have hr:=List.pairwise_append.1 h;have hr2:=List.pairwise_cons.1 hr.2.1;have ha:a.filter (fun x=>decide (x.1=f.1))=[]:=List.filter_eq_nil_iff.2 fun x hx e=>kX (hr.2.2 x hx f (by simp)) (by simpa using e)
 have hb:b.filter (fun x=>decide (x.1=f.1))=[]:=List.filter_eq_nil_iff.2 fun x hx e=>kX (hr2.1 x hx) (Eq.symm (of_decide_eq_true e))
 unfold vC;rw [List.filter_append,ha,List.filter_cons_of_pos (by simp),hb];simp
theorem zBx {fs:List Fld} (h:zAC fs) (hne:∀f∈fs,f.2≠[]):pD (pK fs) fs:=by
 refine ⟨h,fun c=>⟨?_,?_⟩,fun f hf=>?_⟩
 ·rintro ⟨f,hf,rfl⟩
  cases ht:f.2 with
  | nil=>exact absurd ht (hne f hf)
  | cons t ts=>exact ⟨(f.1,[t]),List.mem_flatMap.2 ⟨f,hf,List.mem_map.2 ⟨t,by rw [ht];simp,rfl⟩⟩,rfl⟩
 ·rintro ⟨x,hx,rfl⟩;obtain ⟨f,hf,hx⟩:=List.mem_flatMap.1 hx;obtain ⟨t,_,rfl⟩:=List.mem_map.1 hx;exact ⟨f,hf,rfl⟩
 ·rw [zEG];exact zGv h f hf
theorem zHz {f:Fld} (h:tG f=true):f.2≠[]:=fun e=>by
 have:=(xO h).2.1;rw [e] at this;simp at this
theorem zHN {fs:List Fld} (h:xU fs=true):fs.any wZ=false:=by
 rw [List.any_eq_false];intro f hf hb;exact zHz (wE h f hf) (List.isEmpty_iff.1 hb)
def tO (l:List UInt8):Option (List Fld):=if l=[] then some [] else zV (zG l)
def zAS (l:List UInt8):Int:=match tO l with
 | none=>4
 | some fs=>tM fs
def zDW (l:List UInt8):List Fld:=match tO l with
 | none=>[]
 | some fs=>dK fs
theorem cR {fs:List Fld} (h:xU fs=true):tM (pK fs)=0/\dK (pK fs)=fs:=by
 have hn:vH (pK fs)=fs:=zCJ (jN _) (zBx (zGJ h) fun f hf=>zHz (wE h f hf))
 have hm:(pK fs).any nQ=false:=by
  rw [List.any_eq_false];intro x hx;obtain ⟨f,hf,hx⟩:=List.mem_flatMap.1 hx;obtain ⟨t,_,rfl⟩:=List.mem_map.1 hx;have:=(xO (wE h f hf)).2.2.2.2;simp [nQ,this]
 have hc:tM (pK fs)=0:=by unfold tM;rw [hm,hn,zHN h,h];rfl
 exact ⟨hc,by unfold dK;rw [hc,hn];rfl⟩
theorem zJg:tM []=0:=by decide
theorem zK6:dK []=[]:=by decide
def zOT (w:World) (l:List UInt8) (e:Ending) (w':World):Prop :=
 (∃u o,e=.returned (.tuple #[u,.int .i64 (zAS l)])/\vQ w.heap.size w' u o/\o.map Fx.fld=zDW l)/\Below w.heap.size w w'
theorem zLN {d:List Fx} {l:List UInt8} (hm:d.map Fx.fld=zDW l):sD d:=by
 unfold zDW at hm
 cases h:tO l with
 | none =>
  rw [h] at hm;rw [List.map_eq_nil_iff] at hm;subst hm;exact ⟨by unfold maxLen;simp,fun x hx=>by simp at hx⟩
 | some fs=>rw [h] at hm;exact zIO hm
theorem zFW (s:ByteArray) (w:World) (hp:zY w) (hs:s.size<=3000000000000) :
  Calls Tryz.prog 72 #[.string s] w fun e w'=>zOT w s.data.toList e w':=by
 refine (zIe s w hp hs).mono fun e w' h=>⟨?_,h.2⟩
 rcases h.1 with ⟨h0,rfl⟩|⟨h0,h1,rfl⟩|⟨h0,fs,d,h1,h2,h3⟩
 ·have hf:tO s.data.toList=some []:=by unfold tO;rw [if_pos h0]
  exact ⟨_,[],by unfold zAS;rw [hf];simp only [zJg],jB _ _,by unfold zDW;rw [hf];simp only [zK6];rfl⟩
 ·have hf:tO s.data.toList=none:=by unfold tO;rw [if_neg h0];exact h1
  exact ⟨_,[],by unfold zAS;rw [hf],jB _ _,by unfold zDW;rw [hf];rfl⟩
 ·have hf:tO s.data.toList=some fs:=by unfold tO;rw [if_neg h0];exact h1
  unfold zAS zDW;rw [hf];subst h2;refine zF6 ?_
  rcases h3.plain with h|⟨h1,h|h|⟨h2,h3,u,o,h4,h5,h6⟩⟩
  ·exact Or.inl h
  ·exact Or.inr ⟨h1,Or.inl h⟩
  ·exact Or.inr ⟨h1,Or.inr (Or.inl h)⟩
  ·exact Or.inr ⟨h1,Or.inr (Or.inr ⟨h2,h3,u,o,h4,h5.1,h6⟩)⟩
end
section
open Go.RowKit Go.Lib
def zO (l:List UInt8):List (List UInt8):=if l=[] then [] else zG l
def zNd (w:World) (l:List UInt8) (e:Ending) (w':World):Prop :=
 (∃v ws,e=.returned v/\yV w.heap.size w' v ws/\ws.map (·.data.toList)=zO l/\ws.length<=l.length+1/\∀x∈ws,x.size<=l.length)/\Below w.heap.size w w'
def zOS (w:World) (s:ByteArray) (i f:Nat) (v:Value) (wr:World):Prop :=
 ∃ws:List ByteArray,yV w.heap.size wr v ws/\ws.length<=i/\(∀x∈ws,x.size<=s.size)/\Below w.heap.size w wr /\
  ((i<=s.size/\f<=i/\zG s.data.toList=ws.map (·.data.toList)++zG (s.data.toList.drop f)/\(32:UInt8) ∉ (s.data.toList.drop f).take (i-f))∨(i=s.size+1/\zG s.data.toList=ws.map (·.data.toList)))
theorem zD8 (s:ByteArray) (a b:Nat):(s.extract a b).data.toList=(s.data.toList.drop a).take (b-a):=by
 rw [Lib.extract_data]
theorem zEp (s:ByteArray) (a b:Nat):(s.extract a b).size<=s.size:=by
 simp;omega
theorem zL9 {l:List UInt8} {f i:Nat} (hf:f<=i):l.drop f=(l.drop f).take (i-f)++l.drop i:=by
 have h:l.drop i=(l.drop f).drop (i-f):=by rw [List.drop_drop];congr 1;omega
 rw [h,List.take_append_drop]
theorem zL2 {l:List UInt8} {f i:Nat} (hf:f<=i) (hi:i<l.length) (hc:l[i]=32) (hn:(32:UInt8) ∉ (l.drop f).take (i-f)):zG (l.drop f)=(l.drop f).take (i-f)::zG (l.drop (i+1)):=by
 have e:l.drop f=(l.drop f).take (i-f)++32::l.drop (i+1):=by
  conv=>lhs;rw [zL9 hf,List.drop_eq_getElem_cons hi,hc]
 have hx:Lib.indexByte (l.drop f) 32=(((l.drop f).take (i-f)).length:Int):=by
  conv=>lhs;rw [e]
  exact cB hn
 have hlen:((l.drop f).take (i-f)).length=i-f:=by rw [List.length_take,List.length_drop];omega
 rw [hlen] at hx;rw [wO hx,List.drop_drop]
 congr 3
 omega
theorem zG8 {l:List UInt8} {f:Nat} (hn:(32:UInt8) ∉ (l.drop f).take (l.length-f)):zG (l.drop f)=[l.drop f]:=by
 rw [List.take_of_length_le (by rw [List.length_drop];omega)] at hn;exact wG (dP hn)
theorem zJp {l:List UInt8} {f i:Nat} (hf:f<=i) (hi:i<l.length) (hc:l[i]≠32) (hn:(32:UInt8) ∉ (l.drop f).take (i-f)):(32:UInt8) ∉ (l.drop f).take (i+1-f):=by
 have hl:i-f<(l.drop f).length:=by rw [List.length_drop];omega
 rw [show i+1-f=(i-f)+1 by omega,List.take_succ_eq_append_getElem hl,List.mem_append,List.mem_singleton,List.getElem_drop];rintro (h|h)
 ·exact hn h
 ·apply hc
  rw [h]
  congr 1
  omega
theorem zIX (w:World) (t:ByteArray):∀m u,([.string t]:List Value)[m]? = some u->(w.alloc (.cells #[.string t] 9)).cell? ((⟨w.heap.size,0,none⟩:Addr).add m)=some u:=by
 intro m u hm
 match m,hm with
 | 0,hm=>simp at hm;subst hm;simp [Addr.add]
theorem zIL (t:ByteArray):∀u∈([.string t]:List Value),u.oneCell'=true:=by
 intro u hu;simp at hu;subst hu;rfl
theorem own_snoc {n0:Nat} {w:World} {v:Value} {ts:List ByteArray} {t:ByteArray} (h:w.ownsRow n0 9 1 v (ts.length+1) (ts.map Value.string++[.string t])):yV n0 w v (ts++[t]):=by
 unfold yV;simp only [List.length_append,List.length_cons,List.length_nil,List.map_append,List.map_cons,List.map_nil];exact h
theorem zHS (s:ByteArray) (w:World) (hs:s.size<=1000000000000) :
  Calls Tryz.prog 18 #[.string s] w fun e w'=>zNd w s.data.toList e w':=by
 by_cases h0:s.data.toList=[]
 ·have e:s=⟨#[]⟩:=nN h0;subst e;go_enter Tryz.func18,Tryz.ntmps18;go_wp2_with fail;go_ret;exact ⟨⟨_,[],rfl,World.ownsRow_nil _ _ _ _,rfl,by simp,fun x hx=>by simp at hx⟩,Below.refl _ _⟩
 obtain ⟨i0,hi0,hz0,hz1,hz2⟩:=info_parts Tryz.infoStr;have HI:=hid hi0;have hne:=gM (a:=s) (fun e=>h0 (List.length_eq_zero_iff.1 (by simpa using e)));have HAN:Hid (zO s.data.toList=zG s.data.toList):=by show _=_;unfold zO;rw [if_neg h0]
 have hlen:s.data.toList.length=s.size:=by simp
 have HLEN:=hid hlen;clear hi0 h0 hlen;go_enter Tryz.func18,Tryz.ntmps18;go_wp2_with fail;have ST0:Hid (zOS w s 0 0 (sc none 0 0) w):=⟨[],World.ownsRow_nil _ _ _ _,by simp,fun x hx=>by simp at hx,Below.refl _ _,Or.inl ⟨by omega,by omega,by simp,by simp⟩⟩
 go_loopg [3,4,5] (s.size+1) (fun g vl vf vi wr=>∃i f:Nat,vi=ii i/\vf=ii f/\i<=s.size+1/\s.size+1-i<=g/\f<=s.size+1/\zOS w s i f vl wr)
 case atStart=>exact ⟨0,0,rfl,rfl,by omega,by omega,by omega,ST0.out⟩
 case round =>
  clear ST0;obtain ⟨i,f,rfl,rfl,hi,hgk,hf,ws,hot,hwl,hws,hb,hst⟩:=hrel;have HOT:=hid hot;have HWS:=hid hws;have HB:=hid hb;have hsz:=hb.size;clear hot hws hb
  by_cases hlt:i<=s.size
  ·obtain ⟨hfi,hsp,hno⟩:f<=i/\zG s.data.toList=ws.map (·.data.toList)++zG (s.data.toList.drop f)/\(32:UInt8) ∉ (s.data.toList.drop f).take (i-f):=by
    rcases hst with h|h
    ·exact h.2
    ·omega
   have HSP:=hid hsp;have HNO:=hid hno;have hlez:(i:Int)<=(s.size:Int):=by omega
   have hfz:(0:Int)<=(f:Int):=by omega
   have hiz:(0:Int)<=(i:Int):=by omega
   have hfiz:(f:Int)<=(i:Int):=by omega
   clear hst hsp hno
   by_cases he:i=s.size
   ·have hez:((i:Int)==(s.size:Int))=true:=beq_iff_eq.2 (by omega);have hl1:zG (s.data.toList.drop f)=[s.data.toList.drop f]:=zG8 (by rw [HLEN.out,<-he];exact HNO.out)
    have hex:(s.extract f i).data.toList=s.data.toList.drop f:=by
     rw [zD8,List.take_of_length_le (by rw [List.length_drop,HLEN.out];omega)]
    have hxs:=zEp s f i;have hnw:zG s.data.toList=(ws++[s.extract f i]).map (·.data.toList):=by rw [HSP.out,hl1,List.map_append,List.map_cons,List.map_nil,hex]
    have HXS:=hid hxs;have HNW:=hid hnw;have HE:=hid he;clear he hl1 hex hxs hnw;go_wp2_with (first|(at_builtin;refine wpList_append_own _ rfl _ _ 43 rfl w.heap.size 9 i0 (tq ⟨#[]⟩) 1 16 Tryz.underlying43 HI.out hz0 hz1 hz2 rfl (by decide) _ _ _ rfl (World.ownsRow.alloc HOT.out _) (aa wr.heap.size 0) 1 1 [tq (s.extract f i)] rfl rfl (zIX _ _) (zIL _) (by unfold maxLen;omega) (by omega) (by simp;omega) ?_));intro v4 w4 hown4 hg4 _;have HO4:=hid (own_snoc hown4);have HB4:Hid (Below w.heap.size w w4):=(HB.out.alloc hsz _).grown hg4 (by simp;omega) (fun q hq=>(World.ownsRow.lt HOT.out q hq).1);clear hown4 hg4;go_wp2_with fail;go_roundg (s.size+1-(i+1))
    case measure=>omega
    refine ⟨i+1,i+1,by go_num,by go_num,by omega,by omega,by omega,ws++[s.extract f i],HO4.out,by simp;omega,fun x hx=>?_,HB4.out,Or.inr ⟨by rw [HE.out],HNW.out⟩⟩;rw [List.mem_append,List.mem_singleton] at hx
    rcases hx with hx|rfl
    ·exact HWS.out x hx
    ·exact HXS.out
   ·have hez:((i:Int)==(s.size:Int))=false:=beq_eq_false_iff_ne.2 (by omega);have hlt2:i<s.size:=by omega
    have hltz:(i:Int)<(s.size:Int):=by omega
    have hll:i<s.data.toList.length:=by rw [HLEN.out];exact hlt2
    have hby:s.data.toList[i]=s[i]:=rfl;obtain ⟨c,hc⟩:∃c,s[i]=c:=⟨_,rfl⟩;rw [hc] at hby;have HBY:=hid hby;clear he hby
    by_cases h32:c=32
    ·subst h32;have hl1:=zL2 hfi hll HBY.out HNO.out;have hex:(s.extract f i).data.toList=(s.data.toList.drop f).take (i-f):=zD8 _ _ _;have hxs:=zEp s f i;have hnw:zG s.data.toList=(ws++[s.extract f i]).map (·.data.toList)++zG (s.data.toList.drop (i+1)):=by rw [HSP.out,hl1,List.map_append,List.map_cons,List.map_nil,hex];simp
     have HXS:=hid hxs;have HNW:=hid hnw;clear hl1 hex hxs hnw;go_wp2_with (first|(at_builtin;refine wpList_append_own _ rfl _ _ 43 rfl w.heap.size 9 i0 (tq ⟨#[]⟩) 1 16 Tryz.underlying43 HI.out hz0 hz1 hz2 rfl (by decide) _ _ _ rfl (World.ownsRow.alloc HOT.out _) (aa wr.heap.size 0) 1 1 [tq (s.extract f i)] rfl rfl (zIX _ _) (zIL _) (by unfold maxLen;omega) (by omega) (by simp;omega) ?_));intro v4 w4 hown4 hg4 _;have HO4:=hid (own_snoc hown4);have HB4:Hid (Below w.heap.size w w4):=(HB.out.alloc hsz _).grown hg4 (by simp;omega) (fun q hq=>(World.ownsRow.lt HOT.out q hq).1);clear hown4 hg4;go_wp2_with fail;go_roundg (s.size+1-(i+1))
     case measure=>omega
     refine ⟨i+1,i+1,by go_num,by go_num,by omega,by omega,by omega,ws++[s.extract f i],HO4.out,by simp;omega,fun x hx=>?_,HB4.out,Or.inl ⟨by omega,by omega,HNW.out,by simp⟩⟩;rw [List.mem_append,List.mem_singleton] at hx
     rcases hx with hx|rfl
     ·exact HWS.out x hx
     ·exact HXS.out
    ·have h32z:((c.toNat:Int)==32)=false:=beq_eq_false_iff_ne.2 (fun e=>h32 (UInt8.toNat_inj.1 (by show c.toNat=32;omega)));have HN2:=hid (zJp hfi hll (by rw [HBY.out];exact h32) HNO.out);clear h32;go_wp2_with fail;go_roundg (s.size+1-(i+1))
     case measure=>omega
     exact ⟨i+1,f,by go_num,rfl,by omega,by omega,by omega,ws,HOT.out,by omega,HWS.out,HB.out,Or.inl ⟨by omega,by omega,HSP.out,HN2.out⟩⟩
  ·have hlez:¬ (i:Int)<=(s.size:Int):=by omega
   have hsp:zG s.data.toList=ws.map (·.data.toList):=by
    rcases hst with h|h
    ·omega
    ·exact h.2
   have HSP:=hid hsp;clear hst hsp;go_wp2_with fail;go_ret;refine ⟨⟨_,ws,rfl,HOT.out,by rw [HAN.out,HSP.out],by rw [HLEN.out];omega,fun x hx=>by rw [HLEN.out];exact HWS.out x hx⟩,HB.out⟩
def zDk (w : World) (ls : List (List UInt8)) (e : Ending) (w' : World) : Prop :=
  ((zV ls = none /\ e = .returned (.tuple #[.slice none 0 0, .int .i64 4])) ∨
   ∃ fs, zV ls = some fs /\ ∃ u o, e = .returned (.tuple #[u, .int .i64 (tM fs)]) /\ vQ w.heap.size w' u o /\ o.map Fx.fld = dK fs) /\ Below w.heap.size w w'
def zOE (w:World) (ls:List (List UInt8)) (i:Nat) (v:Value) (wr:World):Prop :=
 ∃d fs,vQ w.heap.size wr v d/\d.map Fx.fld=fs/\zV (ls.take i)=some fs/\d.length=i/\Below w.heap.size w wr
theorem zB6 {a b:List (List UInt8)} {l:List UInt8} (h:vM l=none):zV (a++l::b)=none:=by
 rw [vS]
 cases zV a with
 | none=>rfl
 | some x=>simp [zV,h]
theorem zDe {a:List (List UInt8)} {l n t:List UInt8} {fs:List Fld} (ha:zV a=some fs) (h:vM l=some (n,t)):zV (a++[l])=some (fs++[(⟨n.toArray⟩,[⟨t.toArray⟩])]):=by
 rw [vS,ha];simp [zV,h]
theorem zIS (p:Option Addr) (cap:Nat) (ws:List ByteArray) (w:World) (ht:wJ w p ws) (hl:ws.length<=1000000000000) (hs:∀x∈ws,x.size<=1000000000000) :
  Calls Tryz.prog 79 #[.slice p ws.length cap] w fun e w'=>zDk w (ws.map (·.data.toList)) e w':=by
 obtain ⟨j0,hj0,hy0,hy1,hy2⟩:=info_parts Tryz.infoFld;have HJ:=hid hj0;have HT:=hid ht;have HS:=hid hs;clear hj0 ht hs;have ST0:Hid (zOE w (ws.map (·.data.toList)) 0 (sc none 0 0) w):=⟨[],[],jB _ _,rfl,by simp [zV],rfl,Below.refl _ _⟩;go_enter Tryz.func79,Tryz.ntmps79;go_wp2_with fail
 go_loopg [4,5] ws.length (fun g vv vi wr=>∃i:Nat,vi=ii i/\i<=ws.length/\ws.length-i<=g/\zOE w (ws.map (·.data.toList)) i vv wr)
 case atStart=>exact ⟨0,rfl,by omega,by omega,ST0.out⟩
 case round =>
 clear ST0;obtain ⟨i,rfl,hi,hgk,d,fs,hox,hdm,hfw,hdl,hb⟩:=hrel;have HOX:=hid hox;have HDM:=hid hdm;have HFW:=hid hfw;have HDL:=hid hdl;have HB:=hid hb;have hsz:=hb.size;clear hox hdm hfw hdl
 by_cases hlt:i<ws.length
 ·have hltz:(i:Int)<(ws.length:Int):=by omega
  have hiz:(0:Int)<=(i:Int):=by omega
  rcases HT.out with hn|⟨b,off,rfl,hc⟩
  ·rw [hn] at hlt;simp at hlt
  have c0:wr.cell? (aa b (off+i))=some (tq ws[i]):=(hb.cell (p:=(aa b (off+i))) (zJ (hc i hlt))).trans (hc i hlt);have hts:=HS.out _ (List.getElem_mem hlt)
  have hsplit:ws.map (·.data.toList)=(ws.map (·.data.toList)).take i++(ws[i]).data.toList::(ws.map (·.data.toList)).drop (i+1):=by
   have h1:i<(ws.map (·.data.toList)).length:=by simpa using hlt
   have h2:(ws.map (·.data.toList))[i]=(ws[i]).data.toList:=by simp
   rw [<-h2,<-List.drop_eq_getElem_cons h1,List.take_append_drop]
  have htk:(ws.map (·.data.toList)).take (i+1)=(ws.map (·.data.toList)).take i++[(ws[i]).data.toList]:=by
   rw [List.take_succ_eq_append_getElem (by simpa using hlt)];simp
  obtain ⟨x,hx⟩:∃x,ws[i]=x:=⟨_,rfl⟩;rw [hx] at c0 hts hsplit htk;have HSPL:=hid hsplit;have HTK:=hid htk;have hxl:x.data.toList.length=x.size:=by simp
  have HXL:=hid hxl;clear hx hsplit htk hc hb hxl;go_wp2_with fail
  go_loopg [7] x.size (fun g vk ws=>∃k:Nat,vk=ii k/\k<=x.size/\x.size-k<=g/\wr=ws/\Hid ((61:UInt8) ∉ x.data.toList.take k))
  case atStart=>exact ⟨0,rfl,by omega,by omega,rfl,(show Hid _ from by simp [Hid])⟩
  case round =>
  obtain ⟨k,rfl,hk,hgk2,rfl,HNK⟩:=hrel
  by_cases hkl:k<x.size
  ·have hkz:(k:Int)<(x.size:Int):=by omega
   have hkd:decide ((k:Int)<(x.size:Int))=true:=decide_eq_true hkz;have hk0:(0:Int)<=(k:Int):=by omega
   have hkll:k<x.data.toList.length:=by rw [HXL.out];exact hkl
   have hby:x.data.toList[k]=x[k]:=rfl;obtain ⟨c,hc⟩:∃c,x[k]=c:=⟨_,rfl⟩;rw [hc] at hby;have HBY:=hid hby;clear hby
   by_cases h61:c=61
   ·subst h61
    have hsp:x.data.toList=x.data.toList.take k++61::x.data.toList.drop (k+1):=by
     conv=>lhs;rw [<-List.take_append_drop k x.data.toList,List.drop_eq_getElem_cons hkll,HBY.out]
    have hix:Lib.indexByte x.data.toList 61=(k:Int):=by
     have h1:=cB (b:=x.data.toList.drop (k+1)) HNK.out;rw [<-hsp,List.length_take] at h1;rw [h1]
     congr 1
     omega
    have hk1:(0:Int)<=(k:Int)+1:=by omega
    have hk2:(k:Int)+1<=(x.size:Int):=by omega
    have hne:((k:Int)==(x.size:Int))=false:=beq_eq_false_iff_ne.2 (by omega);have hrs:(x.extract (k+1) x.size).size<=140737488355327:=by simp;omega
    have HRR:=hid (bV (x.extract (k+1) x.size) wr hrs);rw [jH] at HRR;have HIX:=hid hix;clear hsp hix hrs
    cases hrd:yJ (x.data.toList.drop (k+1)) with
    | none =>
     rw [hrd] at HRR;simp only [nX] at HRR
     have HO:Hid (vM x.data.toList=none):=by
      show _=_;unfold vM;rw [if_neg (by rw [HIX.out];omega),HIX.out,Int.toNat_natCast,hrd];rfl
     clear hrd;go_wp2_with (first|(go_at_call 121;refine HRR.out.mono ?_;rintro e w2 ⟨rfl,hb2⟩))
     go_ret2
     exact ⟨Or.inl ⟨by rw [HSPL.out];exact zB6 HO.out,rfl⟩,zQ HB.out HB.out.size hb2⟩
    | some t =>
     rw [hrd] at HRR;simp only [nX] at HRR
     have HO:Hid (vM x.data.toList=some (x.data.toList.take k,t)):=by
      show _=_;unfold vM;rw [if_neg (by rw [HIX.out];omega),HIX.out,Int.toNat_natCast,hrd];rfl
     clear hrd;have HE:=hid (jC x k);go_wp2_with (first|(go_at_call 121;refine HRR.out.mono ?_;rintro e w2 ⟨rfl,hb2⟩;have hb2s:=hb2.size;have HXA:=hid ((HOX.out.on hb2).on (((Below.refl _ w2).alloc (Nat.le_refl _) (.cells #[tq ⟨t.toArray⟩] 9)).alloc (by simp) (.cells #[tq (x.extract 0 k),sc (some (aa w2.heap.size 0)) 1 1] 45)));have HC:=hid (zBe (w2.alloc (.cells #[tq ⟨t.toArray⟩] 9)) ⟨x.extract 0 k,some (aa w2.heap.size 0),1,[⟨t.toArray⟩]⟩);rw [World.size_alloc] at HC)|(at_builtin;refine wpList_append_own _ rfl _ _ 37 rfl w.heap.size 45 j0 (.agg #[tq ⟨#[]⟩,sc none 0 0]) 2 40 Tryz.underlying37 HJ.out hy0 hy1 hy2 rfl (by decide) _ _ _ rfl HXA.out.1 (aa (w2.heap.size+1) 0) 1 1 (yN [⟨x.extract 0 k,some (aa w2.heap.size 0),1,[⟨t.toArray⟩]⟩]) rfl rfl HC.out (tS _) (by rw [HDL.out];unfold maxLen;omega) (by rw [HDL.out];omega) (by simp;omega) ?_));intro v4 w4 hown4 hg4 _;have hot0:yV w2.heap.size (w2.alloc (.cells #[tq ⟨t.toArray⟩] 9)) (sc (some (aa w2.heap.size 0)) 1 1) [⟨t.toArray⟩]:=World.ownsRow_lit w2 #[tq ⟨t.toArray⟩] 1 (Nat.le_refl _) (by decide) rfl;have hot1:yV w.heap.size ((w2.alloc (.cells #[tq ⟨t.toArray⟩] 9)).alloc (.cells #[tq (x.extract 0 k),sc (some (aa w2.heap.size 0)) 1 1] 45)) (sc (some (aa w2.heap.size 0)) 1 1) [⟨t.toArray⟩]:=own_weak (yV.on hot0 ((Below.refl _ _).alloc (Nat.le_refl _) _)) (Nat.le_trans hsz hb2s);have HX4:=hid (HXA.out.put (x:=⟨x.extract 0 k,some (aa w2.heap.size 0),1,[⟨t.toArray⟩]⟩) hot1 hown4 hg4);have hb3:Below w.heap.size w w2:=zQ HB.out HB.out.size hb2;have HB4:Hid (Below w.heap.size w w4):=((hb3.alloc (by omega) _).alloc (by simp;omega) _).grown hg4 (by simp;omega) (fun q hq=>(World.ownsRow.lt HXA.out.1 q hq).1);clear hown4 hg4 hot0 hot1 hb3;go_wp2_with fail;go_roundg (ws.length-(i+1))
     case measure=>omega
     refine ⟨i+1,by go_num,by omega,by omega,_,_,HX4.out,rfl,?_,by rw [List.length_append,HDL.out];rfl,HB4.out⟩;rw [HTK.out,zDe HFW.out HO.out,List.map_append,HDM.out];simp only [List.map_cons,List.map_nil,Fx.fld,HE.out]
   ·have h61z:((c.toNat:Int) != 61)=true:=by
     rw [bne_iff_ne];exact fun e=>h61 (UInt8.toNat_inj.1 (by show c.toNat=61;omega))
    have HN2:Hid ((61:UInt8) ∉ x.data.toList.take (k+1)):=by
     show _ ∉ _
     rw [List.take_succ_eq_append_getElem hkll,List.mem_append,List.mem_singleton,HBY.out];rintro (h|h)
     ·exact HNK.out h
     ·exact h61 h.symm
    clear h61;go_wp2_with fail;go_roundg (x.size-(k+1))
    case measure=>omega
    case rel=>exact ⟨k+1,by go_num,by omega,by omega,rfl,HN2⟩
  ·have hkz:¬ (k:Int)<(x.size:Int):=by omega
   have hkd:decide ((k:Int)<(x.size:Int))=false:=decide_eq_false hkz;have hke:((k:Int)==(x.size:Int))=true:=beq_iff_eq.2 (by omega)
   have HO:Hid (vM x.data.toList=none):=by
    show _=_
    have h1:=HNK.out;rw [List.take_of_length_le (by rw [HXL.out];omega)] at h1;unfold vM;rw [if_pos (dP h1)]
   go_wp2_with fail
   go_ret2
   exact ⟨Or.inl ⟨by rw [HSPL.out];exact zB6 HO.out,rfl⟩,HB.out⟩
 have hltz:¬ (i:Int)<(ws.length:Int):=by omega
 have hfw2:zV (ws.map (·.data.toList))=some fs:=by
  have h1:=HFW.out;rw [List.take_of_length_le (by rw [List.length_map];omega)] at h1;exact h1
 obtain ⟨f1,f2,f3⟩:=zAW (B:=1000000000000) (ws.map (·.data.toList)) (fun l hl=>by
  obtain ⟨x,hx,rfl⟩:=List.mem_map.1 hl
  simpa using HS.out x hx) fs hfw2
 rw [List.length_map] at f1 f2
 have hfit:sD d:=⟨by rw [HDL.out];unfold maxLen;omega,fun x hx=>by
  have:=f3 x.fld (by rw [<-HDM.out];exact List.mem_map.2 ⟨x,hx,rfl⟩);refine ⟨?_,?_,fun t ht=>?_⟩
  ·unfold maxLen;omega
  ·rw [this.2.1];unfold maxLen;omega
  ·have:=this.2.2 t ht;unfold maxLen;omega⟩
 have HNM:=hid (zEm u4 d wr HOX.out.is hfit (by rw [HDL.out];omega) (by rw [HDM.out,f2];omega));rw [HDM.out] at HNM;have HF2:=hid hfw2;clear f1 f2 f3 hfit hfw2;go_wp2_with (first|(go_at_call 122;refine HNM.out.mono ?_;rintro e w2 ⟨⟨u2,o2,rfl,ho2,hm2⟩,hb2⟩))
 go_ret2
 exact ⟨Or.inr ⟨fs,HF2.out,u2,o2,rfl,⟨own_weak ho2.1 hsz,fun x hx=>own_weak (ho2.2 x hx) hsz⟩,hm2⟩,zQ HB.out HB.out.size hb2⟩
theorem zCV (l:List UInt8):zV (zO l)=tO l:=by
 unfold zO tO
 split
 ·rfl
 ·rfl
end
section
open Go.RowKit Go.Lib
def uF (c:UInt8):Bool:=opN (c.toNat:Int) != 0
def uL (l:List UInt8):Option Tm :=
 match l.dropWhile (fun c=>!uF c) with
 | []=>none
 | c::r=>match yJ r with
  | none=>none
  | some t=>if 5<opN (c.toNat:Int)/\r≠[] then none else some (⟨(l.takeWhile (fun c=>!uF c)).toArray⟩,opN (c.toNat:Int),⟨t.toArray⟩)
def yA:List (List UInt8)->Option (List Tm)
 | []=>some []
 | l::ls=>match uL l with
  | none=>none
  | some x=>(yA ls).map (x :: ·)
theorem mJ (a b:List (List UInt8)):yA (a++b)=(yA a).bind fun xs=>(yA b).map (xs ++ ·):=by
 induction a with
 | nil=>simp [yA]
 | cons l a ih =>
  simp only [List.cons_append,yA,ih]
  cases uL l with
  | none=>rfl
  | some x =>
   cases yA a with
   | none=>rfl
   | some xs=>cases yA b<;>rfl
theorem zDF {a b:List (List UInt8)} {l:List UInt8} (h:uL l=none):yA (a++l::b)=none:=by
 rw [mJ]
 cases yA a with
 | none=>rfl
 | some x=>simp [yA,h]
theorem zA3 {a:List (List UInt8)} {l:List UInt8} {xs:List Tm} {x:Tm} (ha:yA a=some xs) (h:uL l=some x):yA (a++[l])=some (xs++[x]):=by
 rw [mJ,ha];simp [yA,h]
theorem zBU {l:List UInt8} {k:Nat} (hk:k<l.length) (h:∀d∈l.take k,uF d=false) (h2:uF l[k]=true) :
  l.takeWhile (fun c=>!uF c)=l.take k/\l.dropWhile (fun c=>!uF c)=l[k]::l.drop (k+1):=by
 have e:l=l.take k++l[k]::l.drop (k+1):=by
  conv=>lhs;rw [<-List.take_append_drop k l,List.drop_eq_getElem_cons hk]
 have hp:∀d∈l.take k,(!uF d)=true:=fun d hd=>by rw [h d hd];rfl
 constructor
 ·conv=>lhs;rw [e]
  rw [List.takeWhile_append_of_pos hp,List.takeWhile_cons,h2];simp
 ·conv=>lhs;rw [e]
  rw [List.dropWhile_append_of_pos hp,List.dropWhile_cons,h2];simp
theorem zII {l:List UInt8} (h:∀d∈l,uF d=false):uL l=none:=by
 have:l.dropWhile (fun c=>!uF c)=[]:=by
  induction l with
  | nil=>rfl
  | cons c l ih =>
   rw [List.dropWhile_cons,h c (by simp)]
   simpa using ih fun d hd=>h d (by simp [hd])
 unfold uL;rw [this]
def zOG (x:Tm):Prop:=x.1.size<=1000000000000/\x.2.2.size<=1000000000000/\0<=x.2.1/\x.2.1<=7
def zBN (o:Option (List Tm)):Int:=match o with|none=>4|some p=>wA p
def zG1 (o:Option (List Tm)):List Tm:=match o with|none=>[]|some p=>wB p
def fX (w:World) (o:Option (List Tm)) (e:Ending) (w':World):Prop :=
 (∃u,e=.returned (.tuple #[u,.int .i64 (zBN o)])/\KM.Own w.heap.size w' u (zG1 o))/\Below w.heap.size w w'
def zO2 (w:World) (ls:List (List UInt8)) (i:Nat) (v:Value) (wr:World):Prop :=
 ∃d,KM.Own w.heap.size wr v d/\yA (ls.take i)=some d/\d.length=i/\(∀x∈d,zOG x)/\Below w.heap.size w wr
theorem zEJ (p:Option Addr) (cap:Nat) (ws:List ByteArray) (w:World) (ht:wJ w p ws) (hl:ws.length<=1000000000000) (hs:∀x∈ws,x.size<=1000000000000) :
  Calls Tryz.prog 80 #[.slice p ws.length cap] w fun e w'=>fX w (yA (ws.map (·.data.toList))) e w':=by
 obtain ⟨j0,hj0,hy0,hy1,hy2⟩:=info_parts Tryz.infoTrm;have HJ:=hid hj0;have HT:=hid ht;have HS:=hid hs;clear hj0 ht hs;have ST0:Hid (zO2 w (ws.map (·.data.toList)) 0 (sc none 0 0) w):=⟨[],KM.own_nil _ _,by simp [yA],rfl,fun x hx=>by simp at hx,Below.refl _ _⟩;go_enter Tryz.func80,Tryz.ntmps80;go_wp2_with fail
 go_loopg [4,5] ws.length (fun g vv vi wr=>∃i:Nat,vi=ii i/\i<=ws.length/\ws.length-i<=g/\zO2 w (ws.map (·.data.toList)) i vv wr)
 case atStart=>exact ⟨0,rfl,by omega,by omega,ST0.out⟩
 case round =>
 clear ST0;obtain ⟨i,rfl,hi,hgk,d,hox,hfw,hdl,hft,hb⟩:=hrel;have HOX:=hid hox;have HFW:=hid hfw;have HDL:=hid hdl;have HFT:=hid hft;have HB:=hid hb;have hsz:=hb.size;clear hox hfw hdl hft
 by_cases hlt:i<ws.length
 ·have hltz:(i:Int)<(ws.length:Int):=by omega
  have hiz:(0:Int)<=(i:Int):=by omega
  rcases HT.out with hn|⟨b,off,rfl,hc⟩
  ·rw [hn] at hlt;simp at hlt
  have c0:wr.cell? (aa b (off+i))=some (tq ws[i]):=(hb.cell (p:=(aa b (off+i))) (zJ (hc i hlt))).trans (hc i hlt);have hts:=HS.out _ (List.getElem_mem hlt)
  have hsplit:ws.map (·.data.toList)=(ws.map (·.data.toList)).take i++(ws[i]).data.toList::(ws.map (·.data.toList)).drop (i+1):=by
   have h1:i<(ws.map (·.data.toList)).length:=by simpa using hlt
   have h2:(ws.map (·.data.toList))[i]=(ws[i]).data.toList:=by simp
   rw [<-h2,<-List.drop_eq_getElem_cons h1,List.take_append_drop]
  have htk:(ws.map (·.data.toList)).take (i+1)=(ws.map (·.data.toList)).take i++[(ws[i]).data.toList]:=by
   rw [List.take_succ_eq_append_getElem (by simpa using hlt)];simp
  obtain ⟨x,hx⟩:∃x,ws[i]=x:=⟨_,rfl⟩;rw [hx] at c0 hts hsplit htk;have HSPL:=hid hsplit;have HTK:=hid htk;have hxl:x.data.toList.length=x.size:=by simp
  have HXL:=hid hxl;have HNO:Hid (uL x.data.toList=none->yA (ws.map (·.data.toList))=none):=fun h=>by rw [HSPL.out];exact zDF h
  clear hx hsplit htk hc hb hxl HSPL;go_wp2_with fail
  go_loopg [7] x.size (fun g vk ws=>∃k:Nat,vk=ii k/\k<=x.size/\x.size-k<=g/\wr=ws/\Hid (∀d∈x.data.toList.take k,uF d=false))
  case atStart=>exact ⟨0,rfl,by omega,by omega,rfl,(show Hid _ from by simp [Hid])⟩
  case round =>
  obtain ⟨k,rfl,hk,hgk2,rfl,HNK⟩:=hrel
  by_cases hkl:k<x.size
  ·have hkz:(k:Int)<(x.size:Int):=by omega
   have hkd:decide ((k:Int)<(x.size:Int))=true:=decide_eq_true hkz;have hk0:(0:Int)<=(k:Int):=by omega
   have hkll:k<x.data.toList.length:=by rw [HXL.out];exact hkl
   have hby:x.data.toList[k]=x[k]:=rfl;obtain ⟨c,hc⟩:∃c,x[k]=c:=⟨_,rfl⟩;rw [hc] at hby;have HBY:=hid hby;clear hby;have hor:=bA (c.toNat:Int);have HIS:Hid (uF c=(opN (c.toNat:Int) != 0)):=rfl;have HOC:Hid (∀W,Calls Tryz.prog 123 #[.int .u8 (c.toNat:Int)] W fun e w'=>e=.returned (ii (opN (c.toNat:Int)))/\W=w'):=fun W=>(zMw (c.toNat:Int) W).mono fun e w' h=>⟨h.1,h.2.symm⟩
   have HTO:Hid (uF c=true->uL x.data.toList=match yJ (x.data.toList.drop (k+1)) with
     | none=>none
     | some t=>if 5<opN (c.toNat:Int)/\x.data.toList.drop (k+1)≠[] then none else some (⟨(x.data.toList.take k).toArray⟩,opN (c.toNat:Int),⟨t.toArray⟩)):=fun h=>by
    obtain ⟨e1,e2⟩:=zBU hkll HNK.out (by rw [HBY.out];exact h);unfold uL;rw [e2,e1,HBY.out]
   obtain ⟨o,ho⟩:∃o,opN (c.toNat:Int)=o:=⟨_,rfl⟩;rw [ho] at HIS HOC hor HTO;clear ho;obtain ⟨ho0,ho7⟩:=hor
   by_cases hz:o=0
   ·have HN2:Hid (∀d∈x.data.toList.take (k+1),uF d=false):=by
     intro d hd;rw [List.take_succ_eq_append_getElem hkll,List.mem_append,List.mem_singleton,HBY.out] at hd
     rcases hd with h|h
     ·exact HNK.out d h
     ·rw [h,HIS.out,hz];rfl
    clear HTO HIS;subst hz;go_wp2_with (first|(go_at_call 123;refine (HOC.out _).mono ?_;rintro e w2 ⟨rfl,rfl⟩));go_roundg (x.size-(k+1))
    case measure=>omega
    case rel=>exact ⟨k+1,by go_num,by omega,by omega,rfl,HN2⟩
   ·have HT2:=hid (HTO.out (by rw [HIS.out,bne_iff_ne];exact hz));have hzb:(o==0)=false:=beq_eq_false_iff_ne.2 hz;have hk1:(0:Int)<=(k:Int)+1:=by omega
    have hk2:(k:Int)+1<=(x.size:Int):=by omega
    have hne:((k:Int)==(x.size:Int))=false:=beq_eq_false_iff_ne.2 (by omega);have hrs:(x.extract (k+1) x.size).size<=140737488355327:=by simp;omega
    have HRR:=hid (fun W=>bV (x.extract (k+1) x.size) W hrs);rw [jH] at HRR
    have hdr:x.data.toList.drop (k+1)=[]↔¬ ((k:Int)<(x.size:Int)-1):=by
     rw [List.drop_eq_nil_iff,HXL.out];omega
    have HDR:=hid hdr;clear HTO HIS hz hdr hrs
    cases hrd:yJ (x.data.toList.drop (k+1)) with
    | none =>
     have HO:Hid (yA (ws.map (·.data.toList))=none):=by
      refine HNO.out ?_;rw [HT2.out,hrd]
     simp only [hrd,nX] at HRR;clear hrd HT2;go_wp2_with (first|(go_at_call 123;refine (HOC.out _).mono ?_;rintro e w2 ⟨rfl,rfl⟩)|(go_at_call 121;refine (HRR.out _).mono ?_;rintro e w2 ⟨rfl,hb2⟩))
     go_ret2
     exact ⟨⟨_,by rw [HO.out];rfl,by rw [HO.out];exact KM.own_nil _ _⟩,zQ HB.out HB.out.size hb2⟩
    | some t =>
     have htl:t.length<=x.size:=by
      have h1:=pQ _ _ _ (Nat.le_refl _) hrd;rw [List.length_drop,HXL.out] at h1;omega
     simp only [hrd,nX] at HRR
     have HTT:Hid (uL x.data.toList=if 5<o/\x.data.toList.drop (k+1)≠[] then none else some (⟨(x.data.toList.take k).toArray⟩,o,⟨t.toArray⟩)):=by
      show _=_
      rw [HT2.out,hrd]
     clear hrd HT2
     by_cases hbad:5<o/\(k:Int)<(x.size:Int)-1
     ·obtain ⟨h5,hkn⟩:=hbad;have h5d:decide (5<o)=true:=decide_eq_true h5;have hknd:decide ((k:Int)<(x.size:Int)-1)=true:=decide_eq_true hkn
      have HO:Hid (yA (ws.map (·.data.toList))=none):=by
       refine HNO.out ?_;rw [HTT.out,if_pos ⟨h5,fun e=>(HDR.out.1 e) hkn⟩]
      clear HTT;go_wp2_with (first|(go_at_call 123;refine (HOC.out _).mono ?_;rintro e w9 ⟨rfl,rfl⟩)|(go_at_call 121;refine (HRR.out _).mono ?_;rintro e w2 ⟨rfl,hb2⟩))
      go_ret2
      exact ⟨⟨_,by rw [HO.out];rfl,by rw [HO.out];exact KM.own_nil _ _⟩,zQ HB.out HB.out.size hb2⟩
     ·have HO:Hid (uL x.data.toList=some (x.extract 0 k,o,⟨t.toArray⟩)):=by
       show _=_
       rw [HTT.out,if_neg (fun h=>hbad ⟨h.1,Decidable.byContradiction fun h2=>h.2 (HDR.out.2 h2)⟩),jC]
      have HF1:Hid (zOG (x.extract 0 k,o,⟨t.toArray⟩)):=by
       refine ⟨?_,?_,ho0,ho7⟩
       ·simp;omega
       ·show t.toArray.size<=_
        rw [List.size_toArray];omega
      clear HTT
      have hcs:(5<o/\decide (5<o)=true/\¬ (k:Int)<(x.size:Int)-1/\decide ((k:Int)<(x.size:Int)-1)=false)∨(¬ 5<o/\decide (5<o)=false/\True/\True):=by
       by_cases h5:5<o
       ·have h6:¬ (k:Int)<(x.size:Int)-1:=fun h=>hbad ⟨h5,h⟩
        exact Or.inl ⟨h5,decide_eq_true h5,h6,decide_eq_false h6⟩
       ·exact Or.inr ⟨h5,decide_eq_false h5,trivial,trivial⟩
      clear hbad;obtain ⟨nm,hnm⟩:∃nm,x.extract 0 k=nm:=⟨_,rfl⟩;have HNM:=hid hnm;rw [hnm] at HO HF1;obtain ⟨tt,htt⟩:∃tt:ByteArray,⟨t.toArray⟩=tt:=⟨_,rfl⟩;rw [htt] at HO HF1 HRR;clear htt htl;have hdl2:d.length<=1000000000000:=by rw [HDL.out];omega
      rcases hcs with ⟨h5,h5d,hkn,hknd⟩|⟨h5,h5d,hkn,hknd⟩
      all_goals
       go_wp2_with (first|(go_at_call 123;refine (HOC.out _).mono ?_;rintro e w9 ⟨rfl,rfl⟩)|(go_at_call 121;refine (HRR.out _).mono ?_;rintro e w2 ⟨rfl,hb2⟩;have HO2:=hid (zE.own_on HOX.out hb2);have HB2:Hid (Below w.heap.size w w2):=zQ HB.out HB.out.size hb2;clear hb2))
       have hszW:=HB2.out.size
       go_region_law (first
        | (refine step_append_lies _ (by rfl) (.tmp 61) (.tmp 71) 39 (by rfl) w.heap.size 49 j0 (.agg #[tq ⟨#[]⟩,ii 0,tq ⟨#[]⟩]) 3 40 Tryz.underlying39 HJ.out hy0 hy1 hy2 rfl (by decide) u4 d.length (KM.cells d) (by rfl) (World.ownsRow.alloc (w:=w2.drew) HO2.out _) _ 1 1 (KM.cells [(nm,o,tt)]) (by rfl) rfl (KM.news w2.drew (nm,o,tt)) (KM.cells_ones _) (by decide) (by unfold maxLen;omega) (by omega) (by simp;omega) _ rfl ?_;intro g4 cap4 w4 hown4 hg4 _ _)
        | (go_simp;go_at_call 123;refine (HOC.out _).mono ?_;rintro e w9 ⟨rfl,rfl⟩))
       all_goals
        have HO4:Hid (KM.Own w.heap.size w4 (sc (some (aa g4 0)) (d.length+1) cap4) (d++[(nm,o,tt)])):=zE.own_snoc hown4 rfl rfl;have HB4:Hid (Below w.heap.size w w4):=((zP HB2.out 1).alloc hszW _).grown hg4 (by have h1:w.heap.size<=(w2.drewN 1).heap.size:=hszW;simp;omega) (fun z hz=>(World.ownsRow.lt HO2.out z hz).1);clear hown4 hg4;go_wp2_with fail;go_roundg (ws.length-(i+1))
        case measure=>omega
        case rel =>
         refine ⟨i+1,by go_num,by omega,by omega,_,HO4.out,by rw [HTK.out];exact zA3 HFW.out HO.out,by rw [List.length_append,HDL.out];rfl,fun y hy=>?_,HB4.out⟩
         rcases List.mem_append.1 hy with h|h
         ·exact HFT.out y h
         ·rw [List.mem_singleton.1 h];exact HF1.out
  ·have hkz:¬ (k:Int)<(x.size:Int):=by omega
   have hkd:decide ((k:Int)<(x.size:Int))=false:=decide_eq_false hkz;have hke:((k:Int)==(x.size:Int))=true:=beq_iff_eq.2 (by omega)
   have HO:Hid (yA (ws.map (·.data.toList))=none):=by
    refine HNO.out ?_;have h1:=HNK.out;rw [List.take_of_length_le (by rw [HXL.out];omega)] at h1;exact zII h1
   go_wp2_with fail
   go_ret2
   exact ⟨⟨_,by rw [HO.out];rfl,by rw [HO.out];exact KM.own_nil _ _⟩,HB.out⟩
 have hltz:¬ (i:Int)<(ws.length:Int):=by omega
 have hfw2:yA (ws.map (·.data.toList))=some d:=by
  have h1:=HFW.out;rw [List.take_of_length_le (by rw [List.length_map];omega)] at h1;exact h1
 have hfit:pY d:=⟨by rw [HDL.out];unfold maxLen;omega,fun x hx=>by
  obtain ⟨a,b,c,d⟩:=HFT.out x hx;unfold maxLen;exact ⟨by omega,by omega,by omega,by omega⟩⟩
 have HNM:=hid (fS u4 d wr (zE.own_is HOX.out) hfit);have HF2:=hid hfw2;clear hfit hfw2;go_wp2_with (first|(go_at_call 86;refine HNM.out.mono ?_;rintro e w2 ⟨⟨u2,rfl,ho2⟩,hb2⟩))
 go_ret2
 exact ⟨⟨u2,by rw [HF2.out];rfl,by rw [HF2.out];exact zE.own_weak ho2 hsz⟩,zQ HB.out HB.out.size hb2⟩
end
section
open Go.RowKit Go.Lib
theorem zAb {c:UInt8} (h:uF c=true):c=61∨c=33∨c=94∨c=60∨c=62∨c=63∨c=45:=by
 unfold uF at h;rw [bne_iff_ne] at h;unfold opN at h;have key:∀k:UInt8,(k.toNat:Int)=(c.toNat:Int)->c=k:=fun k e=>UInt8.toNat_inj.1 (by omega)
 by_cases h1:(61:Int)=c.toNat
 ·exact Or.inl (key 61 h1)
 by_cases h2:(33:Int)=c.toNat
 ·exact Or.inr (Or.inl (key 33 h2))
 by_cases h3:(94:Int)=c.toNat
 ·exact Or.inr (Or.inr (Or.inl (key 94 h3)))
 by_cases h4:(60:Int)=c.toNat
 ·exact Or.inr (Or.inr (Or.inr (Or.inl (key 60 h4))))
 by_cases h5:(62:Int)=c.toNat
 ·exact Or.inr (Or.inr (Or.inr (Or.inr (Or.inl (key 62 h5)))))
 by_cases h6:(63:Int)=c.toNat
 ·exact Or.inr (Or.inr (Or.inr (Or.inr (Or.inr (Or.inl (key 63 h6))))))
 by_cases h7:(45:Int)=c.toNat
 ·exact Or.inr (Or.inr (Or.inr (Or.inr (Or.inr (Or.inr (key 45 h7))))))
 rw [if_neg h1,if_neg h2,if_neg h3,if_neg h4,if_neg h5,if_neg h6,if_neg h7] at h;exact absurd rfl h
theorem zGR {l:List UInt8} (h:yU l=true):∀c∈l,uF c=false:=by
 intro c hc;unfold yU xD at h
 cases l with
 | nil=>simp at hc
 | cons x r =>
  simp only [Bool.and_eq_true,List.all_eq_true] at h
  have key:yL (c.toNat:Int)=true∨yW (c.toNat:Int)=true:=by
   rcases List.mem_cons.1 hc with e|hc
   ·exact Or.inr (by rw [e];exact h.1.2)
   ·exact Or.inl (h.2 _ hc)
  cases ho:uF c with
  | false=>rfl
  | true =>
   rcases zAb ho with rfl|rfl|rfl|rfl|rfl|rfl|rfl<;>(rcases key with k|k<;>(revert k;decide))
theorem zNa {o:Int} (h1:1<=o) (h2:o<=7):uF (opC o)=true:=by
 unfold uF;rw [zHt h1 h2,bne_iff_ne];omega
theorem zFJ (o:Int):opC o≠32:=by
 unfold opC
 repeat' split
 all_goals decide
theorem zHg {x:Tm} (h1:uG x=true) (h2:yP x=true):uL (xG x).data.toList=some x:=by
 obtain ⟨n,o,t⟩:=x;have hr:=kB h2;simp only at hr;have hno:=zGR h1;simp only at hno;rw [sY];simp only;have hk:n.data.toList.length<(n.data.toList++opC o::zI t.data.toList).length:=by simp
 have hg:(n.data.toList++opC o::zI t.data.toList)[n.data.toList.length]=opC o:=by simp
 obtain ⟨e1,e2⟩:=zBU hk (by rw [List.take_left' rfl];exact hno) (by rw [hg];exact zNa hr.1 hr.2);rw [List.take_left' rfl] at e1;rw [hg,show n.data.toList++opC o::zI t.data.toList=(n.data.toList++[opC o])++zI t.data.toList by simp,List.drop_left' (by simp)] at e2;unfold uL;rw [e1,show n.data.toList++opC o::zI t.data.toList=(n.data.toList++[opC o])++zI t.data.toList by simp,e2];simp only;rw [sZ];simp only;rw [zHt hr.1 hr.2,if_neg,qO,qO];rintro ⟨h5,hne⟩;apply hne;unfold yP at h2;simp only [Bool.and_eq_true,Bool.or_eq_true,decide_eq_true_eq] at h2
 have h0:t.size=0:=by
  rcases h2.2 with h|h
  ·omega
  ·exact h
 have:t.data.toList=[]:=List.length_eq_zero_iff.1 (by simpa using h0);rw [this];rfl
theorem zH8 (p:List Tm) (h:∀x∈p,uG x=true/\yP x=true):yA ((p.map xG).map (·.data.toList))=some p:=by
 induction p with
 | nil=>rfl
 | cons x p ih =>
  have hx:=h x (by simp);simp only [List.map_cons,yA];rw [zHg hx.1 hx.2,ih fun y hy=>h y (by simp [hy])];rfl
theorem zC3 {x:Tm} (h1:uG x=true):(32:UInt8) ∉ (xG x).data.toList:=by
 rw [sY,List.mem_append,List.mem_cons];rintro (h|h|h)
 ·exact qP (mL h1) h
 ·exact zFJ _ h.symm
 ·exact qP (mH _) h
theorem zBv {p:List Tm} (h:wA p=0):wA (wB p)=0/\wB (wB p)=wB p:=by
 have e:wB p=uS p:=by unfold wB;rw [if_pos h]
 have h8:=(tE h).1;have hl:=jA p;obtain ⟨s1,s2⟩:=nC p;rw [e];have hm:wA (uS p)=0:=(zJw s2 (by omega) h8).trans h;refine ⟨hm,?_⟩;unfold wB;rw [if_pos hm];exact (dY s1 (fun _=>Iff.rfl)).symm
end
section
open Go.RowKit Go.Lib
abbrev Ky:=ByteArray × ByteArray
end
section
open Go.RowKit
abbrev Ed:=Int × ByteArray × ByteArray
def kV (x:Ed):List Value:=[.int .i64 x.1,.string x.2.1,.string x.2.2]
def KE:zE Ed:=⟨47,3,kV,fun _=>rfl,by decide,fun x u hu=>by simp [kV] at hu;rcases hu with rfl|rfl|rfl<;>rfl⟩
def jF (l:List Ed):Prop:=l.length<=maxLen/\∀x∈l,x.2.1.size<=maxLen/\x.2.2.size<=maxLen/\-9223372036854775808<=x.1/\x.1<=9223372036854775807
def tI (x:Ed):Bool:=yU x.2.1.data.toList
def xN (x:Ed):Bool:=decide (1<=x.1)&&decide (x.1<=5)&&(decide (x.1≠4)||decide (x.2.2.size=0))
def uH (x:Ed):Bool:=decide (x.2.2.size<=128)
def wK (l:List Ed):Int:=if 16<l.length then 5 else if l.all tI=false then 2 else if l.all xN=false then 1 else if l.all uH=false then 5 else 0
theorem sV {l:List Ed} (h:wK l=0):l.length<=16/\(∀x∈l,tI x=true)/\(∀x∈l,xN x=true)/\∀x∈l,uH x=true:=by
 unfold wK at h
 split at h
 ·omega
 ·rename_i h1
  split at h
  ·omega
  ·rename_i h2
   split at h
   ·omega
   ·rename_i h3
    split at h
    ·omega
    ·rename_i h4
     exact ⟨by omega,List.all_eq_true.1 (by simpa using h2),List.all_eq_true.1 (by simpa using h3),List.all_eq_true.1 (by simpa using h4)⟩
end
section
open Go.RowKit
theorem mX {w:World} {b off:Nat} {p:List Ed} (h:KE.At w b off p) (i:Nat) (hi:i<p.length) :
  w.cell? ⟨b,off+i * 3,none⟩=some (.int .i64 (p[i]).1)/\w.cell? ⟨b,off+i * 3+1,none⟩=some (.string (p[i]).2.1)/\w.cell? ⟨b,off+i * 3+2,none⟩=some (.string (p[i]).2.2) :=
 ⟨h i hi 0 _ rfl,h i hi 1 _ rfl,h i hi 2 _ rfl⟩
theorem cZ {p:List Ed} {f:Ed->Bool} {i:Nat} (h:i<p.length):(p.take (i+1)).all f=((p.take i).all f&&f p[i]):=by
 rw [List.take_succ_eq_append_getElem h,List.all_append];simp
theorem zAE (v:Value) (p:List Ed) (w:World) (hv:KE.Is w v p) (hf:jF p) :
  Calls Tryz.prog 85 #[v] w fun e w'=>e=.returned (.int .i64 (wK p))/\w'=w:=by
 obtain ⟨q,cap,rfl,hd⟩:=hv;have hl:=hf.1;unfold maxLen at hl;have HD:=hid hd;have HF:=hid hf.2;obtain ⟨r,hr⟩:∃r,wK p=r:=⟨_,rfl⟩;rw [hr];have HR:=hid hr;clear hd hf hr
 by_cases h8:16<p.length
 ·have h8z:(16:Int)<(p.length:Int):=by omega
  have H0:Hid (r=5):=by show _=_;rw [<-HR.out];unfold wK;rw [if_pos h8]
  clear h8;go_enter Tryz.func85,Tryz.ntmps85;go_wp2_with fail;go_ret;exact ⟨yY H0.out.symm,rfl⟩
 ·have h8z:¬ (16:Int)<(p.length:Int):=by omega
  have HR2:Hid (r=if p.all tI=false then 2 else if p.all xN=false then 1 else if p.all uH=false then 5 else 0):=by show _=_;rw [<-HR.out];unfold wK;rw [if_neg h8]
  clear h8;go_enter Tryz.func85,Tryz.ntmps85;go_wp2_with fail
  go_loopg [3,4,5,6] p.length (fun g v3 v4 v5 vi wr=>∃i:Nat,vi=ii i/\i<=p.length/\p.length-i<=g/\v3=.bool ((p.take i).all tI)/\v4=.bool ((p.take i).all xN)/\v5=.bool ((p.take i).all uH)/\w=wr)
  case atStart=>exact ⟨0,rfl,by omega,by omega,by simp,by simp,by simp,rfl⟩
  case round =>
  obtain ⟨i,rfl,hi,hgk,rfl,rfl,rfl,rfl⟩:=hrel
  by_cases hlt:i<p.length
  ·have hltz:(i:Int)<(p.length:Int):=by omega
   have hiz:(0:Int)<=(i:Int):=by omega
   obtain ⟨b,off,rfl,hat⟩:∃b off,q=some (aa b off)/\KE.At w b off p:=by
    rcases HD.out with h|h
    ·subst h;simp at hlt
    ·exact h
   obtain ⟨c0,c1,c2⟩:=mX hat i hlt;have hfx:=HF.out _ (List.getElem_mem hlt);have HN:=hid (cZ (f:=tI) hlt);have HG:=hid (cZ (f:=xN) hlt);have HS:=hid (cZ (f:=uH) hlt);obtain ⟨x,hx⟩:∃x,p[i]=x:=⟨_,rfl⟩;rw [hx] at c0 c1 c2 hfx HN HG HS;obtain ⟨xo,xf,xt⟩:=x;simp only at c0 c1 c2;obtain ⟨B1,hB1⟩:∃B,(p.take i).all tI=B:=⟨_,rfl⟩;obtain ⟨B2,hB2⟩:∃B,(p.take i).all xN=B:=⟨_,rfl⟩;obtain ⟨B3,hB3⟩:∃B,(p.take i).all uH=B:=⟨_,rfl⟩;rw [hB1] at HN ⊢;rw [hB2] at HG ⊢;rw [hB3] at HS ⊢;obtain ⟨hs1,hs2,hs3,hs4⟩:=hfx;simp only at hs1 hs2 hs3 hs4;have HFC:Hid (∀W,Calls Tryz.prog 126 #[tq xf] W fun e w'=>e=.returned (.bool (yU xf.data.toList))/\w'=W):=fun W=>jM xf W hs1
   unfold maxLen at hs2;clear hat hx hB1 hB2 hB3 hs1;go_upto_region 7 with fail
   go_cut [3] from 10 to 67 (fun v wx=>w=wx/\v=.bool (B1&&yU xf.data.toList))
   case first =>
    cases B1 with
    | false =>
     go_wp2_with fail
     go_meet
     case rel=>exact ⟨rfl,rfl⟩
    | true =>
     go_wp2_with (first|(go_at_call 126;refine (HFC.out _).mono ?_;rintro e w1 ⟨rfl,rfl⟩))
     go_meet
     case rel=>exact ⟨rfl,rfl⟩
   case rest =>
   obtain ⟨rfl,rfl⟩:=hcut;go_upto_region 8 with fail
   go_cut [4] from 10 to 67 (fun v wx=>w=wx/\v=.bool (B2&&xN (xo,xf,xt)))
   case first =>
    have HRM:Hid (xN (xo,xf,xt)=(decide (1<=xo)&&decide (xo<=5)&&(decide (xo≠4)||decide (xt.size=0)))):=rfl
    cases B2 with
    | false =>
     go_wp2_with fail
     go_meet
     case rel=>exact ⟨rfl,rfl⟩
    | true =>
     by_cases g1:1<=xo
     ·have d1:decide (1<=xo)=true:=decide_eq_true g1
      by_cases g2:xo<=5
      ·have d2:decide (xo<=5)=true:=decide_eq_true g2
       by_cases g3:xo=4
       ·have d3:(xo != 4)=false:=by simp [g3]
        by_cases g4:xt.size=0
        ·have e4:=fB g4;have HV:Hid (xN (xo,xf,xt)=true):=by show _=_;rw [HRM.out,d1,d2,decide_eq_true g4];simp
         clear g4 g3;go_wp2_with fail;go_meet
         case rel=>exact ⟨rfl,by rw [HV.out];rfl⟩
        ·have e4:=mZ g4;have HV:Hid (xN (xo,xf,xt)=false):=by show _=_;rw [HRM.out,d1,d2,decide_eq_false g4,decide_eq_false (by simp [g3])];rfl
         clear g4 g3;go_wp2_with fail;go_meet
         case rel=>exact ⟨rfl,by rw [HV.out];rfl⟩
       ·have d3:(xo != 4)=true:=by simp [g3]
        have HV:Hid (xN (xo,xf,xt)=true):=by show _=_;rw [HRM.out,d1,d2,decide_eq_true (by simpa using g3)];rfl
        clear g3;go_wp2_with fail;go_meet
        case rel=>exact ⟨rfl,by rw [HV.out];rfl⟩
      ·have d2:decide (xo<=5)=false:=decide_eq_false g2;have HV:Hid (xN (xo,xf,xt)=false):=by show _=_;rw [HRM.out,d1,d2];rfl
       go_wp2_with fail
       go_meet
       case rel=>exact ⟨rfl,by rw [HV.out];rfl⟩
     ·have d1:decide (1<=xo)=false:=decide_eq_false g1;have HV:Hid (xN (xo,xf,xt)=false):=by show _=_;rw [HRM.out,d1];rfl
      go_wp2_with fail
      go_meet
      case rel=>exact ⟨rfl,by rw [HV.out];rfl⟩
   case rest =>
   obtain ⟨rfl,rfl⟩:=hcut;have HSM:Hid (uH (xo,xf,xt)=decide (xt.size<=128)):=rfl
   cases B3 with
   | false =>
    go_wp2_with fail
    go_roundg (p.length-(i+1))
    case measure=>omega
    case rel=>exact ⟨i+1,by go_num,by omega,by omega,by rw [HN.out];rfl,by rw [HG.out],by rw [HS.out];rfl,rfl⟩
   | true =>
    by_cases g1:xt.size<=128
    ·have g1z:(xt.size:Int)<=128:=by omega
     have HV:Hid (uH (xo,xf,xt)=true):=by show _=_;rw [HSM.out];exact decide_eq_true g1
     go_wp2_with fail
     go_roundg (p.length-(i+1))
     case measure=>omega
     case rel=>exact ⟨i+1,by go_num,by omega,by omega,by rw [HN.out];rfl,by rw [HG.out],by rw [HS.out,HV.out];rfl,rfl⟩
    ·have g1z:¬ (xt.size:Int)<=128:=by omega
     have HV:Hid (uH (xo,xf,xt)=false):=by show _=_;rw [HSM.out];exact decide_eq_false g1
     go_wp2_with fail
     go_roundg (p.length-(i+1))
     case measure=>omega
     case rel=>exact ⟨i+1,by go_num,by omega,by omega,by rw [HN.out];rfl,by rw [HG.out],by rw [HS.out,HV.out];rfl,rfl⟩
  ·have hltz:¬ (i:Int)<(p.length:Int):=by omega
   rw [List.take_of_length_le (by omega)]
   cases h1:p.all tI with
   | false =>
    have H0:Hid (r=2):=by show _=_;rw [HR2.out,h1];rfl
    clear h1;go_wp2_with fail;go_ret;exact ⟨yY H0.out.symm,rfl⟩
   | true =>
    cases h2:p.all xN with
    | false =>
     have H0:Hid (r=1):=by show _=_;rw [HR2.out,h1,h2];rfl
     clear h1 h2;go_wp2_with fail;go_ret;exact ⟨yY H0.out.symm,rfl⟩
    | true =>
     cases h3:p.all uH with
     | false =>
      have H0:Hid (r=5):=by show _=_;rw [HR2.out,h1,h2,h3];rfl
      clear h1 h2 h3;go_wp2_with fail;go_ret;exact ⟨yY H0.out.symm,rfl⟩
     | true =>
      have H0:Hid (r=0):=by show _=_;rw [HR2.out,h1,h2,h3];rfl
      clear h1 h2 h3;go_wp2_with fail;go_ret;exact ⟨yY H0.out.symm,rfl⟩
theorem Tryz.infoEd:(Tryz.prog.info? 47).map (fun i=>(i.zero,i.size,i.bytes))=some (some (.agg #[.int .i64 0,.string ⟨#[]⟩,.string ⟨#[]⟩]),3,40):=by kernel_rfl
theorem zFY (a b:Ed) (w:World):(binOp .neq 47 (.agg #[.int .i64 a.1,.string a.2.1,.string a.2.2]) (.agg #[.int .i64 b.1,.string b.2.1,.string b.2.2])).run Tryz.prog w=.ok (.bool (!decide (a=b))) w:=by
 obtain ⟨a1,a2,a3⟩:=a;obtain ⟨b1,b2,b3⟩:=b;have hS:Tryz.prog.underlying 47=some (.struct (Tryz.prog.fieldsOf 47)):=by kernel_rfl
 have hp:Tryz.prog.stoodInHeld 47=false:=by kernel_rfl
 have u9:=Tryz.underlying9;have a9:=Tryz.isAgg9;have z9:=Tryz.sizeOf9;have u3:=Tryz.underlying3;have a3':=Tryz.isAgg3;have z3:=Tryz.sizeOf3;rw [run_neq_struct,show (10000:Nat)=9999+1 from rfl,run_equalIn_agg w 9999 47 _ _ hS hp];simp only [Program.fieldsOf,Tryz.underlying47]
 go_simp
 by_cases h1:a1=b1
 ·subst h1
  by_cases h2:a2=b2
  ·subst h2
   by_cases h3:a3=b3
   ·subst h3;simp
   ·have e3:=beq_eq_false_iff_ne.1 (wI h3);simp [h3,e3]
  ·have e2:=beq_eq_false_iff_ne.1 (wI h2);simp [h2,e2]
 ·simp [h1]
theorem zGf (v u:Value) (p q:List Ed) (w:World) (hv:KE.Is w v p) (hu:KE.Is w u q) (hl1:p.length<=maxLen) :
  Calls Tryz.prog 22 #[v,u] w fun e w'=>e=.returned (.bool (decide (p=q)))/\∃n,w'=w.drewN n:=by
 unfold maxLen at hl1;obtain ⟨a1,k1,rfl,hd1⟩:=hv;obtain ⟨a2,k2,rfl,hd2⟩:=hu;obtain ⟨r,hr⟩:∃r,decide (p=q)=r:=⟨_,rfl⟩;rw [hr];have HR:=hid hr;have HD1:=hid hd1;have HD2:=hid hd2;clear hr hd1 hd2
 by_cases hl:p.length=q.length
 ·have hb:((p.length:Int) != (q.length:Int))=false:=by simp [hl]
  have HL:=hid hl;clear hl;go_enter Tryz.func22,Tryz.ntmps22;go_wp2_with fail
  go_loopg [5] p.length (fun g vi wr=>∃i m:Nat,vi=ii i/\i<=p.length/\p.length-i<=g/\wr=w.drewN m/\Hid (∀j,j<i->p[j]? = q[j]?))
  case atStart=>exact ⟨0,0,rfl,by omega,by omega,rfl,fun j h=>by omega⟩
  case round =>
   obtain ⟨i,m,rfl,hi,hg,rfl,HJ⟩:=hrel
   by_cases hlt:i<p.length
   ·have hlt2:i<q.length:=by rw [<-HL.out];exact hlt
    have i1:(0:Int)<=↑i:=by omega
    have i2:(↑i:Int) < ↑p.length:=by omega
    have i3:(↑i:Int) < ↑q.length:=by omega
    rcases HD1.out with hn|⟨b1,o1,rfl,k1⟩
    ·rw [hn] at hlt;simp at hlt
    rcases HD2.out with hn|⟨b2,o2,rfl,k2⟩
    ·rw [hn] at hlt2;simp at hlt2
    obtain ⟨x0,x1,x2⟩:=mX k1 i hlt;obtain ⟨y0,y1,y2⟩:=mX k2 i hlt2;have hne:=fun W=>zFY p[i] q[i] W
    have G1:=hid (List.getElem?_eq_getElem hlt);have G2:=hid (List.getElem?_eq_getElem hlt2);obtain ⟨x,hx⟩:∃x,p[i]=x:=⟨_,rfl⟩;obtain ⟨y,hy⟩:∃y,q[i]=y:=⟨_,rfl⟩;rw [hx] at x0 x1 x2 hne G1;rw [hy] at y0 y1 y2 hne G2;clear k1 k2 hx hy
    by_cases hst:x=y
    ·have hd:=decide_eq_true hst;rw [hd] at hne;have HS:=hid hst;clear hst hd;go_wp2_with fail
     go_quiet (fail)
     go_wp2_with fail
     go_roundg (p.length-(i+1))
     case measure=>omega
     refine ⟨i+1,_,by go_num,by omega,by omega,rfl,fun j hj=>?_⟩
     by_cases e:j=i
     ·subst e;rw [G1.out,G2.out,HS.out]
     ·exact HJ.out j (by omega)
    ·have hd:=decide_eq_false hst;rw [hd] at hne
     have H0:Hid (r=false):=HR.out.symm.trans (decide_eq_false fun e=>hst (by
      have:=G1.out;rw [e,G2.out] at this;exact (Option.some.inj this).symm))
     clear hst hd;go_wp2_with fail
     go_quiet (fail)
     go_wp2_with fail
     go_ret;exact ⟨zA H0.out.symm,_,by rw [World.drewN_drewN]⟩
   ·have hltz:¬ (i:Int)<(p.length:Int):=by omega
    have H0:Hid (r=true):=HR.out.symm.trans (decide_eq_true (List.ext_getElem? fun j=>by
     by_cases hj:j<p.length
     ·exact HJ.out j (by omega)
     ·rw [List.getElem?_eq_none (by omega),List.getElem?_eq_none (by have:=HL.out;omega)]))
    go_wp2_with fail
    go_ret;exact ⟨zA H0.out.symm,_,rfl⟩
 ·have hb:((p.length:Int) != (q.length:Int))=true:=by simp;omega
  have H0:Hid (r=false):=HR.out.symm.trans (decide_eq_false fun e=>hl (by rw [e]));clear hl;go_enter Tryz.func22,Tryz.ntmps22;go_wp2_with fail;go_ret;exact ⟨zA H0.out.symm,0,rfl⟩
def xL (k:Int):ByteArray:=if k=1 then ⟨#[58,61]⟩ else if k=2 then ⟨#[43,61]⟩ else if k=3 then ⟨#[45,61]⟩ else if k=4 then ⟨#[126]⟩ else ⟨#[61,61]⟩
theorem qA (k:Int) (w:World):Calls Tryz.prog 96 #[.int .i64 k] w fun e w'=>e=.returned (.string (xL k))/\w'=w:=by
 by_cases h1:k=1
 ·subst h1;go_enter Tryz.func96,Tryz.ntmps96;go_wp2_with fail;go_ret;exact ⟨rfl,rfl⟩
 ·by_cases h2:k=2
  ·subst h2;go_enter Tryz.func96,Tryz.ntmps96;go_wp2_with fail;go_ret;exact ⟨rfl,rfl⟩
  ·by_cases h3:k=3
   ·subst h3;go_enter Tryz.func96,Tryz.ntmps96;go_wp2_with fail;go_ret;exact ⟨rfl,rfl⟩
   ·by_cases h4:k=4
    ·subst h4;go_enter Tryz.func96,Tryz.ntmps96;go_wp2_with fail;go_ret;exact ⟨rfl,rfl⟩
    ·have b1:(k==1)=false:=beq_eq_false_iff_ne.2 h1;have b2:(k==2)=false:=beq_eq_false_iff_ne.2 h2;have b3:(k==3)=false:=beq_eq_false_iff_ne.2 h3;have b4:(k==4)=false:=beq_eq_false_iff_ne.2 h4;have H0:Hid (xL k=⟨#[61,61]⟩):=by show _=_;unfold xL;rw [if_neg h1,if_neg h2,if_neg h3,if_neg h4]
     clear h1 h2 h3 h4;go_enter Tryz.func96,Tryz.ntmps96;go_wp2_with fail;go_ret;rw [H0.out];exact ⟨rfl,rfl⟩
def wS (c:Int):Int:=if c=58 then 1 else if c=43 then 2 else if c=45 then 3 else if c=126 then 4 else if c=61 then 5 else 0
theorem zAR (c:Int):0<=wS c/\wS c<=5:=by
 unfold wS
 repeat' split
 all_goals omega
end
section
open Go.RowKit Go.Lib
def xB (x:Ed):ByteArray:=x.2.1++xL x.1++⟨(zI x.2.2.data.toList).toArray⟩
def zLt (l:List Ed):ByteArray:=xT (l.map xB)
theorem sU (x:Ed):(xB x).data.toList=x.2.1.data.toList++((xL x.1).data.toList++zI x.2.2.data.toList):=by
 unfold xB;simp only [data_append];simp
theorem zFp (x:Ed):xT [xB x]=⟨#[]⟩++x.2.1++xL x.1++⟨(zI x.2.2.data.toList).toArray⟩:=by
 refine nN ?_;rw [wH,List.map_cons,List.map_nil,Lib.join_one,sU];simp only [data_append];simp
theorem zH4 {ws:List ByteArray} (h:ws≠[]) (x:Ed):xT (ws++[xB x])=xT ws++⟨#[32]⟩++x.2.1++xL x.1++⟨(zI x.2.2.data.toList).toArray⟩:=by
 refine nN ?_;rw [wH,List.map_append,List.map_cons,List.map_nil,gT _ _ (by simpa using h)];simp only [data_append,wH,sU];simp
theorem gU (k:Int):(xL k).size<=2/\1<=(xL k).size:=by
 unfold xL
 repeat' split
 all_goals exact ⟨by decide,by decide⟩
theorem zAD {x:Ed} (h1:tI x=true) (h2:uH x=true):(xB x).size<=418:=by
 have h3:x.2.1.size<=32:=by simpa using vY h1
 have h4:=wX x.2.2.L;have h5:x.2.2.L.length=x.2.2.size:=by simp
 have h6:=of_decide_eq_true h2;have h7:=gU x.1;have h8:(⟨(zI x.2.2.L).toArray⟩:ByteArray).size=(zI x.2.2.L).length:=by show (zI x.2.2.L).toArray.size=_;simp
 unfold xB;rw [ByteArray.size_append,ByteArray.size_append,h8];omega
theorem zBA {ws:List ByteArray} (hn:ws.length<=16) (hs:∀x∈ws,x.size<=418):(xT ws).size<=6704:=by
 have e:(xT ws).size=(Lib.join (ws.map (·.L)) [32]).length:=by rw [<-wH];simp
 have h1:=mV 418 (ws.map (·.L)) (fun w hw=>by
  obtain ⟨x,hx,rfl⟩:=List.mem_map.1 hw
  simpa using hs x hx)
 rw [List.length_map] at h1;have h3:ws.length * (418+1)<=16 * (418+1):=Nat.mul_le_mul_right _ hn;omega
theorem mR (n:Int) (h1:-9223372036854775808<=n) (h2:n<=9223372036854775807):IntKind.i64.wrap n=n:=by
 simp [IntKind.wrap,IntKind.signed,IntKind.bits];omega
def isK (c:UInt8):Bool:=wS (c.toNat:Int) != 0
def vK (l:List UInt8):Option Ed :=
 match l.dropWhile (fun c=>!isK c) with
 | []=>none
 | c::r =>
  if wS (c.toNat:Int)=4 then (if r=[] then some (4,⟨(l.takeWhile (fun c=>!isK c)).toArray⟩,⟨#[]⟩) else none)
  else match r with
   | []=>none
   | d::r2=>if d=61 then (match yJ r2 with
    | none=>none
    | some t=>some (wS (c.toNat:Int),⟨(l.takeWhile (fun c=>!isK c)).toArray⟩,⟨t.toArray⟩)) else none
def yC:List (List UInt8)->Option (List Ed)
 | []=>some []
 | l::ls=>match vK l with
  | none=>none
  | some x=>(yC ls).map (x :: ·)
theorem mK (a b:List (List UInt8)):yC (a++b)=(yC a).bind fun xs=>(yC b).map (xs ++ ·):=by
 induction a with
 | nil=>simp [yC]
 | cons l a ih =>
  simp only [List.cons_append,yC,ih]
  cases vK l with
  | none=>rfl
  | some x =>
   cases yC a with
   | none=>rfl
   | some xs=>cases yC b<;>rfl
theorem zCz {a b:List (List UInt8)} {l:List UInt8} (h:vK l=none):yC (a++l::b)=none:=by
 rw [mK]
 cases yC a with
 | none=>rfl
 | some x=>simp [yC,h]
theorem zAP {a:List (List UInt8)} {l:List UInt8} {xs:List Ed} {x:Ed} (ha:yC a=some xs) (h:vK l=some x):yC (a++[l])=some (xs++[x]):=by
 rw [mK,ha];simp [yC,h]
theorem zDI {l:List UInt8} {k:Nat} (hk:k<l.length) (h:∀d∈l.take k,isK d=false) (h2:isK l[k]=true) :
  l.takeWhile (fun c=>!isK c)=l.take k/\l.dropWhile (fun c=>!isK c)=l[k]::l.drop (k+1):=by
 have e:l=l.take k++l[k]::l.drop (k+1):=by
  conv=>lhs;rw [<-List.take_append_drop k l,List.drop_eq_getElem_cons hk]
 have hp:∀d∈l.take k,(!isK d)=true:=fun d hd=>by rw [h d hd];rfl
 constructor
 ·conv=>lhs;rw [e]
  rw [List.takeWhile_append_of_pos hp,List.takeWhile_cons,h2];simp
 ·conv=>lhs;rw [e]
  rw [List.dropWhile_append_of_pos hp,List.dropWhile_cons,h2];simp
theorem zLH {l:List UInt8} (h:∀d∈l,isK d=false):vK l=none:=by
 have:l.dropWhile (fun c=>!isK c)=[]:=by
  induction l with
  | nil=>rfl
  | cons c l ih =>
   rw [List.dropWhile_cons,h c (by simp)]
   simpa using ih fun d hd=>h d (by simp [hd])
 unfold vK;rw [this]
theorem pS {c:UInt8} (h:isK c=true):c=58∨c=43∨c=45∨c=126∨c=61:=by
 unfold isK at h;rw [bne_iff_ne] at h;unfold wS at h;have key:∀k:UInt8,(c.toNat:Int)=(k.toNat:Int)->c=k:=fun k e=>UInt8.toNat_inj.1 (by omega)
 by_cases h1:(c.toNat:Int)=58
 ·exact Or.inl (key 58 h1)
 by_cases h2:(c.toNat:Int)=43
 ·exact Or.inr (Or.inl (key 43 h2))
 by_cases h3:(c.toNat:Int)=45
 ·exact Or.inr (Or.inr (Or.inl (key 45 h3)))
 by_cases h4:(c.toNat:Int)=126
 ·exact Or.inr (Or.inr (Or.inr (Or.inl (key 126 h4))))
 by_cases h5:(c.toNat:Int)=61
 ·exact Or.inr (Or.inr (Or.inr (Or.inr (key 61 h5))))
 rw [if_neg h1,if_neg h2,if_neg h3,if_neg h4,if_neg h5] at h;exact absurd rfl h
def okW (x:ByteArray) (A:Nat) (k:Int):Bool:=decide ((xL k).size<=x.size-A)&&decide (x.extract A (A+(xL k).size)=xL k)&&(decide (k≠4)||decide (x.size-A<=1))
theorem zMN (x:ByteArray) (A n:Nat):(x.extract A (A+n)).data.toList=(x.data.toList.drop A).take n:=by
 have:=zD8 x A (A+n);rw [this]
 congr 1
 omega
theorem zM3 {x:ByteArray} {A:Nat} (hA:A<x.size) (hno:∀d∈x.data.toList.take A,isK d=false) (hc:isK x[A]=true) :
  vK x.data.toList=if okW x A (wS (x[A].toNat:Int)) then (match yJ (x.data.toList.drop (A+(xL (wS (x[A].toNat:Int))).size)) with
   | none=>none
   | some t=>some (wS (x[A].toNat:Int),⟨(x.data.toList.take A).toArray⟩,⟨t.toArray⟩)) else none:=by
 have hl:x.data.toList.length=x.size:=by simp
 have hAl:A<x.data.toList.length:=by omega
 have hb:x.data.toList[A]=x[A]:=rfl;obtain ⟨e1,e2⟩:=zDI hAl hno (by rw [hb];exact hc);rw [hb] at e2;have hdr:x.data.toList.drop A=x[A]::x.data.toList.drop (A+1):=by rw [List.drop_eq_getElem_cons hAl,hb]
 have hlr:(x.data.toList.drop (A+1)).length=x.size-A-1:=by rw [List.length_drop,hl];omega
 have hd2:x.data.toList.drop (A+2)=(x.data.toList.drop (A+1)).tail:=by rw [List.tail_drop]
 unfold vK;rw [e2,e1];simp only
 generalize hr:x.data.toList.drop (A+1)=r at *
 have hex:∀n,(x.extract A (A+n)).data.toList=(x[A]::r).take n:=fun n=>by rw [zMN,hdr]
 have heq:∀s:ByteArray,x.extract A (A+s.size)=s↔(x[A]::r).take s.size=s.data.toList:=fun s=>by
  rw [<-hex];exact ⟨fun h=>by rw [h],fun h=>nN h⟩
 generalize x[A]=c at *
 rcases pS hc with rfl|rfl|rfl|rfl|rfl
 all_goals
  unfold okW
 ·have hk:wS ((58:UInt8).toNat:Int)=1:=rfl;have hs:xL 1=⟨#[58,61]⟩:=rfl;have hs2:(⟨#[58,61]⟩:ByteArray).size=2:=rfl;have h2:=heq ⟨#[58,61]⟩;rw [hs2] at h2;simp only [hk,hs,hs2,h2,hd2]
  cases r with
  | nil=>simp at hlr ⊢
  | cons d r =>
   have h1:2<=x.size-A:=by simp at hlr;omega
   by_cases e:d=61<;>simp [e,h1]
 ·have hk:wS ((43:UInt8).toNat:Int)=2:=rfl;have hs:xL 2=⟨#[43,61]⟩:=rfl;have hs2:(⟨#[43,61]⟩:ByteArray).size=2:=rfl;have h2:=heq ⟨#[43,61]⟩;rw [hs2] at h2;simp only [hk,hs,hs2,h2,hd2]
  cases r with
  | nil=>simp at hlr ⊢
  | cons d r =>
   have h1:2<=x.size-A:=by simp at hlr;omega
   by_cases e:d=61<;>simp [e,h1]
 ·have hk:wS ((45:UInt8).toNat:Int)=3:=rfl;have hs:xL 3=⟨#[45,61]⟩:=rfl;have hs2:(⟨#[45,61]⟩:ByteArray).size=2:=rfl;have h2:=heq ⟨#[45,61]⟩;rw [hs2] at h2;simp only [hk,hs,hs2,h2,hd2]
  cases r with
  | nil=>simp at hlr ⊢
  | cons d r =>
   have h1:2<=x.size-A:=by simp at hlr;omega
   by_cases e:d=61<;>simp [e,h1]
 ·have hk:wS ((126:UInt8).toNat:Int)=4:=rfl;have hs:xL 4=⟨#[126]⟩:=rfl;have hs2:(⟨#[126]⟩:ByteArray).size=1:=rfl;have h2:=heq ⟨#[126]⟩;rw [hs2] at h2;simp only [hk,hs,hs2,h2,hr];have h1:1<=x.size-A:=by omega
  cases r with
  | nil =>
   have h3:x.size-A<=1:=by simp at hlr;omega
   simp [h1,h3,sB]
  | cons d r =>
   have h3:¬ x.size-A<=1:=by simp at hlr;omega
   simp [h3]
 ·have hk:wS ((61:UInt8).toNat:Int)=5:=rfl;have hs:xL 5=⟨#[61,61]⟩:=rfl;have hs2:(⟨#[61,61]⟩:ByteArray).size=2:=rfl;have h2:=heq ⟨#[61,61]⟩;rw [hs2] at h2;simp only [hk,hs,hs2,h2,hd2]
  cases r with
  | nil=>simp at hlr ⊢
  | cons d r =>
   have h1:2<=x.size-A:=by simp at hlr;omega
   by_cases e:d=61<;>simp [e,h1]
theorem zDZ {l:List UInt8} (h:yU l=true):∀c∈l,isK c=false:=by
 intro c hc;unfold yU xD at h
 cases l with
 | nil=>simp at hc
 | cons x r =>
  simp only [Bool.and_eq_true,List.all_eq_true] at h
  have key:yL (c.toNat:Int)=true∨yW (c.toNat:Int)=true:=by
   rcases List.mem_cons.1 hc with e|hc
   ·exact Or.inr (by rw [e];exact h.1.2)
   ·exact Or.inl (h.2 _ hc)
  cases ho:isK c with
  | false=>rfl
  | true =>
   rcases pS ho with rfl|rfl|rfl|rfl|rfl<;>(rcases key with k|k<;>(revert k;decide))
theorem zH9 {x:Ed} (h1:tI x=true) (h2:xN x=true):vK (xB x).data.toList=some x:=by
 obtain ⟨k,n,t⟩:=x
 have hr:(1<=k/\k<=5)/\(k≠4∨t.size=0):=by
  unfold xN at h2;simp only [Bool.and_eq_true,Bool.or_eq_true,decide_eq_true_eq] at h2;exact h2
 obtain ⟨⟨hk1,hk5⟩,hk4⟩:=hr;have hno:=zDZ h1;simp only at hno
 have key:∀(c:UInt8) (r:List UInt8),isK c=true->(n.data.toList++c::r).takeWhile (fun c=>!isK c)=n.data.toList/\(n.data.toList++c::r).dropWhile (fun c=>!isK c)=c::r:=fun c r hc=>by
  have hkl:n.data.toList.length<(n.data.toList++c::r).length:=by simp
  have hg:(n.data.toList++c::r)[n.data.toList.length]=c:=by simp
  obtain ⟨e1,e2⟩:=zDI hkl (by rw [List.take_left' rfl];exact hno) (by rw [hg];exact hc);rw [List.take_left' rfl] at e1;rw [hg,show n.data.toList++c::r=(n.data.toList++[c])++r by simp,List.drop_left' (by simp)] at e2;refine ⟨e1,?_⟩;rw [show n.data.toList++c::r=(n.data.toList++[c])++r by simp];exact e2
 have hcs:k=1∨k=2∨k=3∨k=4∨k=5:=by omega
 have hback:(⟨n.data.toList.toArray⟩:ByteArray)=n:=qO n;have htb:(⟨t.data.toList.toArray⟩:ByteArray)=t:=qO t;rw [sU];simp only
 rcases hcs with rfl|rfl|rfl|rfl|rfl
 ·obtain ⟨e1,e2⟩:=key 58 (61::zI t.data.toList) rfl;rw [show (xL 1).data.toList++zI t.data.toList=58::61::zI t.data.toList from rfl];unfold vK;rw [e1,e2];simp only;rw [if_neg (by decide),if_pos trivial,sZ];simp only;rw [hback,htb];rfl
 ·obtain ⟨e1,e2⟩:=key 43 (61::zI t.data.toList) rfl;rw [show (xL 2).data.toList++zI t.data.toList=43::61::zI t.data.toList from rfl];unfold vK;rw [e1,e2];simp only;rw [if_neg (by decide),if_pos trivial,sZ];simp only;rw [hback,htb];rfl
 ·obtain ⟨e1,e2⟩:=key 45 (61::zI t.data.toList) rfl;rw [show (xL 3).data.toList++zI t.data.toList=45::61::zI t.data.toList from rfl];unfold vK;rw [e1,e2];simp only;rw [if_neg (by decide),if_pos trivial,sZ];simp only;rw [hback,htb];rfl
 ·have h0:t.size=0:=by
   rcases hk4 with h|h
   ·exact absurd rfl h
   ·exact h
  have ht:t=⟨#[]⟩:=nN (List.length_eq_zero_iff.1 (by simpa using h0));subst ht;obtain ⟨e1,e2⟩:=key 126 [] rfl;rw [show (xL 4).data.toList++zI (⟨#[]⟩:ByteArray).data.toList=[126] from rfl];unfold vK;rw [e1,e2];simp only;rw [if_pos (by decide),if_pos trivial,hback]
 ·obtain ⟨e1,e2⟩:=key 61 (61::zI t.data.toList) rfl;rw [show (xL 5).data.toList++zI t.data.toList=61::61::zI t.data.toList from rfl];unfold vK;rw [e1,e2];simp only;rw [if_neg (by decide),if_pos trivial,sZ];simp only;rw [hback,htb];rfl
theorem zG5 (p:List Ed) (h:∀x∈p,tI x=true/\xN x=true):yC ((p.map xB).map (·.data.toList))=some p:=by
 induction p with
 | nil=>rfl
 | cons x p ih =>
  have hx:=h x (by simp);simp only [List.map_cons,yC];rw [zH9 hx.1 hx.2,ih fun y hy=>h y (by simp [hy])];rfl
theorem zDY (k:Int):(32:UInt8) ∉ (xL k).data.toList:=by
 unfold xL
 repeat' split
 all_goals decide
theorem zCU {x:Ed} (h1:tI x=true):(32:UInt8) ∉ (xB x).data.toList:=by
 rw [sU,List.mem_append,List.mem_append];rintro (h|h|h)
 ·exact qP (mL h1) h
 ·exact zDY _ h
 ·exact qP (mH _) h
def prE (l:List Ed):ByteArray:=if wK l=0 then zLt l else ⟨#[]⟩
def zBh (o:Option (List Ed)):Int:=match o with|none=>4|some p=>wK p
def zDc (o:Option (List Ed)):List Ed:=match o with|none=>[]|some p=>if wK p=0 then p else []
end
section
open Go.RowKit Go.Lib
structure En where
 kind:Int
 temp:ByteArray
 ka:ByteArray
 kb:ByteArray
 iff:Int
 val:List Fld
 eds:List Ed
 pred:List Tm
 stamp:Int
 num:Int
def xP:Nat->List UInt8
 | 1=>[99,114,101,97,116,101]
 | 2=>[101,110,115,117,114,101]
 | 3=>[117,112,100,97,116,101]
 | 4=>[112,97,116,99,104]
 | 5=>[100,101,108,101,116,101]
 | 6=>[114,101,97,100]
 | 7=>[110,117,109,98,101,114]
 | 8=>[115,101,97,114,99,104]
 | 9=>[104,105,115,116,111,114,121]
 | 10=>[115,105,110,99,101]
 | 11=>[97,116]
 | 12=>[102,105,110,100]
 | _=>[]
def pH (k:Int):List UInt8:=xP k.toNat
def yQ (k:Int):Bool:=decide (k=8)||decide (k=10)||decide (k=12)
def xQ (e:En):Bool:=if yQ e.kind=true then decide (e.kb=⟨#[]⟩)&&xM e.ka.data.toList else tR e.ka e.kb
def vB (e:En):Bool :=
 decide (1<=e.kind/\e.kind<=12)&&xQ e &&
 (decide (e.temp=⟨#[]⟩)||decide (e.kind<=2)&&vI e.temp.data.toList) &&
 decide (e.iff≠0->3<=e.kind/\e.kind<=5/\0<=e.iff/\e.iff<=999999999) &&
 decide (e.num≠0->e.kind=7/\0<=e.num/\e.num<=999999999) &&
 decide (e.stamp≠0->9<=e.kind) &&
 decide (e.val≠[]->e.kind<=3)&&xU e.val &&
 decide (e.eds≠[]↔e.kind=4)&&decide (wK e.eds=0) &&
 (decide (wA e.pred=0)&&decide (uS e.pred=e.pred))&&decide (e.pred≠[]->e.kind=2∨e.kind=8∨e.kind=12)
def uD (l:List En):Bool:=decide (0<l.length)&&decide (l.length<=16)&&l.all vB
def zB (l:List ByteArray):List (List UInt8):=l.map (·.data.toList)
def pG (e:En):List UInt8:=e.ka.data.toList++(if e.kb=⟨#[]⟩ then [] else 47::e.kb.data.toList)
def sR (e:En):List (List UInt8) :=
 if e.kind=2 then zB (yM e.val)++[63]::zB (e.pred.map xG)
 else if e.kind=7 then [yH e.num.toNat]
 else if e.kind=9∨e.kind=10 then [yH e.stamp.toNat]
 else (if 0<e.iff then [[105,102],yH e.iff.toNat] else [])++(zB (yM e.val)++(zB (e.eds.map xB)++zB (e.pred.map xG)))
def xS (e:En):List (List UInt8) :=
 pH e.kind::((if e.temp=⟨#[]⟩ then [] else [64::e.temp.data.toList])++((if e.kind=11∨e.kind=12 then [yH e.stamp.toNat] else [])++pG e::sR e))
def yX (x:List UInt8):Nat:=if x=[] then 0 else ((List.range 13).find? fun k=>decide (xP k=x)).getD 0
def tJ (x:List UInt8):Option (ByteArray × ByteArray) :=
 if Lib.indexByte x 47=-1 then none
 else
  let i:=(Lib.indexByte x 47).toNat
  if tR ⟨(x.take i).toArray⟩ ⟨(x.drop (i+1)).toArray⟩=true then some (⟨(x.take i).toArray⟩,⟨(x.drop (i+1)).toArray⟩) else none
def uY (w:List (List UInt8)):Option (List Fld):=(zV w).bind fun fs=>if tM fs=0 then some (dK fs) else none
def kI (w:List (List UInt8)):Option (List Ed):=if zBh (yC w)=0 then some (zDc (yC w)) else none
def pC (w:List (List UInt8)):Option (List Tm):=if zBN (yA w)=0 then some (zG1 (yA w)) else none
def yO (e:En) (w:List (List UInt8)):Option En :=
 if e.kind=1∨e.kind=3 then (uY w).map fun v=>{ e with val:=v }
 else if e.kind=2 then
  if [63]∈w then (uY (w.takeWhile fun x=>decide (x≠[63]))).bind fun v=>(pC ((w.dropWhile fun x=>decide (x≠[63])).drop 1)).map fun p=>{ e with val:=v,pred:=p }
  else none
 else if e.kind=4 then (kI w).map fun d=>{ e with eds:=d }
 else if e.kind=5 then if w=[] then some e else none
 else (pC w).map fun p=>{ e with pred:=p }
def xX (x:Option (List UInt8)):Option Nat:=x.bind (xH 999999999)
def xY (x:Option (List UInt8)):Option Nat:=x.bind (xH 18446744073709551615)
def zX (e:En) (w:List (List UInt8)):Option En :=
 if e.kind=7 then if w.length=1 then (xX w[0]?).map fun n=>{ e with num:=n } else none
 else if e.kind=9∨e.kind=10 then if w.length=1 then (xY w[0]?).map fun n=>{ e with stamp:=n } else none
 else if e.kind=6∨e.kind=11 then if w=[] then some e else none
 else if 3<=e.kind/\e.kind<=5/\w[0]? = some [105,102] then (xX w[1]?).bind fun n=>if n=0 then none else yO { e with iff:=n } (w.drop 2)
 else yO e w
def qY (e:En):List (List UInt8)->Option En
 | []=>none
 | x::w =>
  if yQ e.kind=true then zX { e with ka:=⟨x.toArray⟩ } w
  else (tJ x).bind fun k=>zX { e with ka:=k.1,kb:=k.2 } w
def yS (e:En) (w:List (List UInt8)):Option En :=
 if 10<e.kind then (xY w[0]?).bind fun n=>qY { e with stamp:=n } (w.drop 1) else qY e w
def zC (k:Int):En:=⟨k,⟨#[]⟩,⟨#[]⟩,⟨#[]⟩,0,[],[],[],0,0⟩
def uP (e:En):List (List UInt8)->Option En
 | (64::t)::w=>if e.kind<=2 then if t=[] then none else yS { e with temp:=⟨t.toArray⟩ } w else yS e ((64::t)::w)
 | w=>yS e w
def xZ:List (List UInt8)->Option En
 | []=>none
 | x::w=>if yX x=0 then none else uP (zC (yX x)) w
def xF:List En->List (List UInt8)
 | []=>[]
 | [e]=>xS e
 | e::f::l=>xS e++[59]::xF (f::l)
def zW:List (List UInt8)->List (List (List UInt8))
 | []=>[[]]
 | x::w=>if x=[59] then []::zW w else match zW w with
  | []=>[[x]]
  | c::cs=>(x::c)::cs
def zS:List (List (List UInt8))->Option (List En)
 | []=>some []
 | c::cs=>(xZ c).bind fun e=>(zS cs).map (e :: ·)
def sG:List UInt8:=[111,110,99,101]
def qK (once:Bool) (l:List En):List (List UInt8):=(if once=true then [sG] else [])++xF l
def zAI (w:List (List UInt8)):Option (Bool × List En) :=
 let once:=decide (w.head? = some sG)
 (zS (zW (if once=true then w.drop 1 else w))).bind fun l=>if uD l=true then some (once,l) else none
theorem bS:∀k:Nat,1<=k->k<=12->yX (xP k)=k:=by
 intro k h1 h2
 match k with
 | 1|2|3|4|5|6|7|8|9|10|11|12=>decide
 | 0=>omega
 | n+13=>omega
theorem kE:∀w:List (List UInt8),(∀x∈w,x≠[59])->zW w=[w]
 | [],_=>rfl
 | x::w,h=>by
  have ih:=kE w fun y hy=>h y (by simp [hy])
  simp only [zW,ih];rw [if_neg (h x (by simp))]
theorem jQ:∀(w v:List (List UInt8)),(∀x∈w,x≠[59])->zW (w++[59]::v)=w::zW v
 | [],v,_=>by simp only [List.nil_append,zW];rfl
 | x::w,v,h=>by
  have ih:=jQ w v fun y hy=>h y (by simp [hy])
  simp only [List.cons_append,zW,ih];rw [if_neg (h x (by simp))]
theorem zAV:∀l:List En,l≠[]->(∀e∈l,∀x∈xS e,x≠[59])->zW (xF l)=l.map xS
 | [],h,_=>absurd rfl h
 | [e],_,h=>by
  simp only [xF,List.map_cons,List.map_nil];exact kE _ (h e (by simp))
 | e::f::l,_,h=>by
  have ih:=zAV (f::l) (by simp) fun g hg=>h g (by simp [hg])
  simp only [xF];rw [jQ _ _ (h e (by simp)),ih];rfl
theorem zDQ (l:List En) (h:∀e∈l,xZ (xS e)=some e):zS (l.map xS)=some l:=by
 induction l with
 | nil=>rfl
 | cons e l ih =>
  simp only [List.map_cons,zS];rw [h e (by simp),ih fun g hg=>h g (by simp [hg])];rfl
end
section
open Go.RowKit Go.Lib
structure nG (e:En):Prop where
 k1:1<=e.kind
 k2:e.kind<=12
 key:xQ e=true
 tmp:e.temp=⟨#[]⟩∨e.kind<=2/\vI e.temp.data.toList=true
 iff:e.iff≠0->3<=e.kind/\e.kind<=5/\0<=e.iff/\e.iff<=999999999
 num:e.num≠0->e.kind=7/\0<=e.num/\e.num<=999999999
 stamp:e.stamp≠0->9<=e.kind
 val:e.val≠[]->e.kind<=3
 mayv:xU e.val=true
 eds:e.eds≠[]↔e.kind=4
 maye:wK e.eds=0
 mayp:wA e.pred=0
 srt:uS e.pred=e.pred
 pred:e.pred≠[]->e.kind=2∨e.kind=8∨e.kind=12
theorem xW {e:En} (h:vB e=true):nG e:=by
 unfold vB at h;simp only [Bool.and_eq_true,Bool.or_eq_true,decide_eq_true_eq] at h;obtain ⟨⟨⟨⟨⟨⟨⟨⟨⟨⟨⟨⟨h1,h2⟩,h3⟩,h4⟩,h5⟩,h6⟩,h7⟩,h8⟩,h9⟩,h10⟩,h11⟩,⟨h12,h13⟩⟩,h14⟩:=h;exact ⟨h1,h2,h3,h4,h5,h6,h7,h8,h9,h10,h11,h12,h13,h14⟩
theorem zEK {v:List Fld} (h:xU v=true):uY (zB (yM v))=some v:=by
 unfold uY zB;rw [zGo v fun f hf=>(xO (wE h f hf)).2.2.2.2];simp only [Option.bind_some];rw [(cR h).1,if_pos rfl,(cR h).2]
theorem zKG {p:List Ed} (h:wK p=0):kI (zB (p.map xB))=some p:=by
 obtain ⟨_,h1,h2,_⟩:=sV h;unfold kI zB;rw [zG5 p fun x hx=>⟨h1 x hx,h2 x hx⟩];have e:zBh (some p)=0:=h;rw [if_pos e];show some (if wK p=0 then p else [])=some p;rw [if_pos h]
theorem zF2 {p:List Tm} (h:wA p=0) (hs:uS p=p):pC (zB (p.map xG))=some p:=by
 obtain ⟨_,h1,h2,_⟩:=tE h;unfold pC zB;rw [zH8 p fun x hx=>⟨List.all_eq_true.1 h1 x hx,List.all_eq_true.1 h2 x hx⟩];have e:zBN (some p)=0:=h;rw [if_pos e];show some (if wA p=0 then uS p else [])=some p;rw [if_pos h,hs]
theorem zAK {l:List UInt8} (h:yU l=true):0<l.length:=by
 cases l with
 | nil=>cases h
 | cons x r=>simp
theorem gZ {v:List Fld} (h:xU v=true):∀x∈zB (yM v),2<=x.length/\61∈x/\32 ∉ x:=by
 intro x hx;obtain ⟨y,hy,rfl⟩:=List.mem_map.1 hx;obtain ⟨f,hf,hy⟩:=List.mem_flatMap.1 hy;obtain ⟨t,_,rfl⟩:=List.mem_map.1 hy;have hn:=(xO (wE h f hf)).2.2.2.2;have:=zAK hn;refine ⟨?_,?_,qP (zEA hn)⟩
 ·simp only [jL,List.length_append,List.length_cons,List.length_nil];omega
 ·simp [jL]
theorem cQ {p:List Ed} (h:wK p=0):∀x∈zB (p.map xB),2<=x.length/\(61∈x∨126∈x)/\32 ∉ x:=by
 intro x hx;obtain ⟨y,hy,rfl⟩:=List.mem_map.1 hx;obtain ⟨z,hz,rfl⟩:=List.mem_map.1 hy;have hn:=(sV h).2.1 z hz;have:=zAK hn;have hs:=(gU z.1).2;refine ⟨?_,?_,zCU hn⟩
 ·have e:(xL z.1).data.toList.length=(xL z.1).size:=by simp
  simp only [sU,List.length_append];omega
 ·rw [sU]
  have:61∈(xL z.1).data.toList∨126∈(xL z.1).data.toList:=by
   unfold xL
   repeat' split
   all_goals decide
  rcases this with h|h
  ·exact .inl (by simp [h])
  ·exact .inr (by simp [h])
theorem zAi {p:List Tm} (h:wA p=0):∀x∈zB (p.map xG),2<=x.length/\32 ∉ x:=by
 intro x hx;obtain ⟨y,hy,rfl⟩:=List.mem_map.1 hx;obtain ⟨z,hz,rfl⟩:=List.mem_map.1 hy;have hn:=List.all_eq_true.1 (tE h).2.1 z hz;have:=zAK hn;refine ⟨?_,zC3 hn⟩;simp only [sY,List.length_append,List.length_cons];omega
theorem zIp {l:List UInt8} (h:xM l=true):∃c r,l=c::r/\65<=c.toNat/\c.toNat<=90:=by
 cases l with
 | nil=>cases h
 | cons c r =>
  unfold xM xD at h;simp only [Bool.and_eq_true] at h;have hb:=h.1.2;unfold uI at hb;simp only [Bool.and_eq_true,decide_eq_true_eq] at hb;exact ⟨c,r,rfl,by omega,by omega⟩
theorem bR {l:List UInt8} (h:xM l=true):(47:UInt8) ∉ l/\(32:UInt8) ∉ l:=by
 cases l with
 | nil=>cases h
 | cons c r =>
  unfold xM xD at h;simp only [Bool.and_eq_true,List.all_eq_true] at h
  have key:∀x:UInt8,x∈c::r->wV (x.toNat:Int)=true:=by
   intro x hx
   rcases List.mem_cons.1 hx with e|hx
   ·subst e;unfold wV;rw [h.1.2];rfl
   ·exact h.2 x hx
  exact ⟨fun hm=>absurd (key 47 hm) (by decide),fun hm=>absurd (key 32 hm) (by decide)⟩
theorem zDj {l:List UInt8} (h:nY l=true):l≠[]/\(32:UInt8) ∉ l:=by
 cases l with
 | nil=>cases h
 | cons c r =>
  unfold nY xD at h;simp only [Bool.and_eq_true,List.all_eq_true] at h
  have key:∀x:UInt8,x∈c::r->idB (x.toNat:Int)=true:=by
   intro x hx
   rcases List.mem_cons.1 hx with e|hx
   ·subst e;exact h.1.2
   ·exact h.2 x hx
  exact ⟨by simp,fun hm=>absurd (key 32 hm) (by decide)⟩
theorem zM9 {l:List UInt8} (h:vI l=true):l≠[]/\(32:UInt8) ∉ l:=by
 cases l with
 | nil=>cases h
 | cons c r =>
  unfold vI xD at h;simp only [Bool.and_eq_true,List.all_eq_true] at h
  have key:∀x:UInt8,x∈c::r->yL (x.toNat:Int)=true:=by
   intro x hx
   rcases List.mem_cons.1 hx with e|hx
   ·subst e;exact h.1.2
   ·exact h.2 x hx
  exact ⟨by simp,fun hm=>absurd (key 32 hm) (by decide)⟩
theorem dR {b:ByteArray} (h:b.data.toList=[]):b=⟨#[]⟩:=by
 obtain ⟨⟨l⟩⟩:=b;simp only at h;subst h;rfl
theorem gJ {a b:ByteArray} (h:tR a b=true):xM a.data.toList=true/\nY b.data.toList=true:=by
 unfold tR at h;simpa only [Bool.and_eq_true] using h
theorem pR (f:En) (x:List UInt8) (w:List (List UInt8)) :
  qY f (x::w)=if yQ f.kind=true then zX { f with ka:=⟨x.toArray⟩ } w else (tJ x).bind fun k=>zX { f with ka:=k.1,kb:=k.2 } w:=rfl
theorem zLW {e:En} (h:xQ e=true) (w:List (List UInt8)) (f:En) (hk:f.kind=e.kind) (hb:f.kb=⟨#[]⟩) :
  qY f (pG e::w)=zX { f with ka:=e.ka,kb:=e.kb } w:=by
 unfold xQ at h;rw [pR,hk];unfold pG
 by_cases ht:yQ e.kind=true
 ·rw [if_pos ht] at h;simp only [Bool.and_eq_true,decide_eq_true_eq] at h;rw [if_pos ht,if_pos h.1,List.append_nil,qO,h.1,hb]
 ·rw [if_neg ht] at h;obtain ⟨h1,h2⟩:=gJ h;have hne:¬ e.kb=⟨#[]⟩:=fun q=>(zDj h2).1 (by rw [q])
  have hx:=cB (b:=e.kb.data.toList) (bR h1).1;rw [if_neg ht,if_neg hne]
  have hr:tJ (e.ka.data.toList++47::e.kb.data.toList)=some (e.ka,e.kb):=by
   unfold tJ;rw [hx,if_neg (by omega)];simp only [Int.toNat_natCast];rw [List.take_left' rfl,show e.ka.data.toList++47::e.kb.data.toList=(e.ka.data.toList++[47])++e.kb.data.toList by simp,List.drop_left' (by simp),qO,qO,if_pos h]
  rw [hr];rfl
theorem zFy {e:En} (h:xQ e=true):∃c r,pG e=c::r/\65<=c.toNat/\c.toNat<=90:=by
 have ht:xM e.ka.data.toList=true:=by
  unfold xQ at h
  split at h
  ·simp only [Bool.and_eq_true] at h;exact h.2
  ·exact (gJ h).1
 obtain ⟨c,r,h1,h2,h3⟩:=zIp ht;unfold pG;rw [h1];exact ⟨c,_,rfl,h2,h3⟩
theorem zC1 {e:En} (h:xQ e=true):(32:UInt8) ∉ pG e:=by
 unfold xQ at h;unfold pG
 split at h
 ·simp only [Bool.and_eq_true,decide_eq_true_eq] at h;rw [if_pos h.1,List.append_nil];exact (bR h.2).2
 ·obtain ⟨h1,h2⟩:=gJ h;rw [if_neg fun q=>(zDj h2).1 (by rw [q])];intro hm
  rcases List.mem_append.1 hm with hm|hm
  ·exact (bR h1).2 hm
  ·rcases List.mem_cons.1 hm with e|hm
   ·exact absurd e (by decide)
   ·exact (zDj h2).2 hm
end
section
open Go.RowKit Go.Lib
theorem zKq (f:En) (n:Nat) (h1:3<=f.kind) (h2:f.kind<=5) (hn:0<n) (hm:n<=999999999) (w:List (List UInt8)) :
  zX f ([105,102]::yH n::w)=yO { f with iff:=n } w:=by
 unfold zX;rw [if_neg (by omega),if_neg (by omega),if_neg (by omega),if_pos ⟨h1,h2,rfl⟩];show (xX (some (yH n))).bind _=_;unfold xX;simp only [Option.bind_some];rw [nV hm];simp only [Option.bind_some];rw [if_neg (by omega)];rfl
theorem zBs (f:En) (w:List (List UInt8)) (h6:f.kind≠6) (h7:f.kind≠7) (h9:f.kind≠9) (h10:f.kind≠10) (h11:f.kind≠11) (hw:3<=f.kind->f.kind<=5->w[0]?≠some [105,102]) :
  zX f w=yO f w:=by
 unfold zX;rw [if_neg h7,if_neg (by omega),if_neg (by omega),if_neg (fun h=>hw h.1 h.2.1 h.2.2)]
theorem zKQ (f:En) {v:List Fld} (hv:xU v=true) (hk:f.kind=1∨f.kind=3):yO f (zB (yM v))=some { f with val:=v }:=by
 unfold yO;rw [if_pos hk,zEK hv];rfl
theorem zKo (f:En) {p:List Ed} (hp:wK p=0) (hk:f.kind=4):yO f (zB (p.map xB))=some { f with eds:=p }:=by
 unfold yO;rw [if_neg (by omega),if_neg (by omega),if_pos hk,zKG hp];rfl
theorem zLO (f:En) (hk:f.kind=5):yO f []=some f:=by
 unfold yO;rw [if_neg (by omega),if_neg (by omega),if_neg (by omega),if_pos hk,if_pos rfl]
theorem zKM (f:En) {p:List Tm} (hp:wA p=0) (hs:uS p=p) (hk:5<f.kind):yO f (zB (p.map xG))=some { f with pred:=p }:=by
 unfold yO;rw [if_neg (by omega),if_neg (by omega),if_neg (by omega),if_neg (by omega),zF2 hp hs];rfl
theorem zKp {a:List (List UInt8)} (b:List (List UInt8)) (h:∀x∈a,x≠[63]) :
  (a++[63]::b).takeWhile (fun x=>decide (x≠[63]))=a/\(a++[63]::b).dropWhile (fun x=>decide (x≠[63]))=[63]::b:=by
 induction a with
 | nil=>exact ⟨rfl,rfl⟩
 | cons x a ih =>
  have ih:=ih fun y hy=>h y (by simp [hy])
  have hx:decide (x≠[63])=true:=decide_eq_true (h x (by simp));simp only [List.cons_append,List.takeWhile_cons,List.dropWhile_cons,hx,if_true];exact ⟨by rw [ih.1],ih.2⟩
theorem zLF (f:En) {v:List Fld} {p:List Tm} (hv:xU v=true) (hp:wA p=0) (hs:uS p=p) (hk:f.kind=2) :
  yO f (zB (yM v)++[63]::zB (p.map xG))=some { f with val:=v,pred:=p }:=by
 have hq:=zKp (zB (p.map xG)) fun x hx e=>by
  have:=(gZ hv x hx).1;rw [e] at this;simp at this
 unfold yO;rw [if_neg (by omega),if_pos hk,if_pos (by simp),hq.1,hq.2,zEK hv];simp only [Option.bind_some,List.drop_succ_cons,List.drop_zero];rw [zF2 hp hs];rfl
theorem zI3 {e:En} (h:nG e) (hs0:0<=e.stamp) (hs1:e.stamp<=18446744073709551615) :
  zX ⟨e.kind,e.temp,e.ka,e.kb,0,[],[],[],if e.kind=11∨e.kind=12 then e.stamp else 0,0⟩ (sR e)=some e:=by
 obtain ⟨k,temp,ka,kb,iff,val,eds,pred,stamp,num⟩:=e;obtain ⟨h1,h2,_,_,h5,h6,h7,h8,h9,h10,h11,h12,h13,h14⟩:=h;simp only at h1 h2 h5 h6 h7 h8 h9 h10 h11 h12 h13 h14 hs0 hs1 ⊢;have niff:¬ (3<=k/\k<=5)->iff=0:=fun q=>Classical.byContradiction fun p=>q ⟨(h5 p).1,(h5 p).2.1⟩
 have nnum:k≠7->num=0:=fun q=>Classical.byContradiction fun p=>q (h6 p).1
 have nst:¬ 9<=k->stamp=0:=fun q=>Classical.byContradiction fun p=>q (h7 p)
 have nval:¬ k<=3->val=[]:=fun q=>Classical.byContradiction fun p=>q (h8 p)
 have neds:k≠4->eds=[]:=fun q=>Classical.byContradiction fun p=>q (h10.1 p)
 have npred:¬ (k=2∨k=8∨k=12)->pred=[]:=fun q=>Classical.byContradiction fun p=>q (h14 p)
 have hiff:0<=iff/\iff<=999999999:=by
  by_cases q:iff=0
  ·omega
  ·exact ⟨(h5 q).2.2.1,(h5 q).2.2.2⟩
 have eiff:((iff.toNat:Nat):Int)=iff:=Int.toNat_of_nonneg hiff.1;have est:((stamp.toNat:Nat):Int)=stamp:=Int.toNat_of_nonneg hs0;unfold sR;simp only
 by_cases k2:k=2
 ·obtain rfl:=neds (by omega);obtain rfl:=niff (by omega);obtain rfl:=nnum (by omega);obtain rfl:=nst (by omega);rw [if_pos k2,if_neg (show ¬ (k=11∨k=12) by omega),zBs _ _ (by simp only;omega) (by simp only;omega) (by simp only;omega) (by simp only;omega) (by simp only;omega) (fun q=>by simp only at q;omega),zLF _ h9 h12 h13 k2]
 rw [if_neg k2]
 by_cases k7:k=7
 ·obtain rfl:=neds (by omega);obtain rfl:=niff (by omega);obtain rfl:=nval (by omega);obtain rfl:=npred (by omega);obtain rfl:=nst (by omega)
  have hn:0<=num/\num<=999999999:=by
   by_cases q:num=0
   ·omega
   ·exact (h6 q).2
  have en:((num.toNat:Nat):Int)=num:=Int.toNat_of_nonneg hn.1;rw [if_pos k7,if_neg (show ¬ (k=11∨k=12) by omega)];unfold zX;rw [if_pos k7,if_pos (show [yH num.toNat].length=1 from rfl)];rw [List.getElem?_cons_zero];unfold xX;simp only [Option.bind_some];rw [nV (by omega)];exact congrArg (fun z:Int=>some (En.mk k temp ka kb 0 [] [] [] 0 z)) en
 rw [if_neg k7];obtain rfl:=nnum k7
 by_cases k9:k=9∨k=10
 ·obtain rfl:=neds (by omega);obtain rfl:=niff (by omega);obtain rfl:=nval (by omega);obtain rfl:=npred (by omega);rw [if_pos k9,if_neg (show ¬ (k=11∨k=12) by omega)];unfold zX;rw [if_neg k7,if_pos k9,if_pos (show [yH stamp.toNat].length=1 from rfl)];rw [List.getElem?_cons_zero];unfold xY;simp only [Option.bind_some];rw [nV (by omega)];exact congrArg (fun z:Int=>some (En.mk k temp ka kb 0 [] [] [] z 0)) est
 rw [if_neg k9]
 by_cases k6:k=6∨k=11
 ·obtain rfl:=neds (by omega);obtain rfl:=niff (by omega);obtain rfl:=nval (by omega);obtain rfl:=npred (by omega);rw [if_neg (show ¬ (0:Int)<0 by omega)];unfold zX;rw [if_neg k7,if_neg k9,if_pos k6,if_pos (show ([]++(zB (yM [])++(zB (List.map xB [])++zB (List.map xG []))):List (List UInt8))=[] from rfl)]
  by_cases q:k=6
  ·obtain rfl:=nst (by omega);rw [if_neg (show ¬ (k=11∨k=12) by omega)]
  ·rw [if_pos (show k=11∨k=12 by omega)]
 by_cases k8:5<k
 ·obtain rfl:=neds (by omega);obtain rfl:=niff (by omega);obtain rfl:=nval (by omega);rw [if_neg (show ¬ (0:Int)<0 by omega)];show zX _ (zB (pred.map xG))=_;rw [zBs _ _ (by simp only;omega) (by simp only;omega) (by simp only;omega) (by simp only;omega) (by simp only;omega) (fun _ q=>by simp only at q;omega),zKM _ h12 h13 (by simp only;omega)]
  by_cases q:k=12
  ·rw [if_pos (show k=11∨k=12 by omega)]
  ·obtain rfl:=nst (by omega);rw [if_neg (show ¬ (k=11∨k=12) by omega)]
 obtain rfl:=npred (by omega);obtain rfl:=nst (by omega);rw [if_neg (show ¬ (k=11∨k=12) by omega)]
 have go:∀(f:En) (W:List (List UInt8)),f.kind=k->f.iff=0->(∀x∈W,x≠[105,102])->zX f ((if 0<iff then [[105,102],yH iff.toNat] else [])++W)=yO { f with iff:=iff } W:=by
  intro f W hf h0 hW
  by_cases q:0<iff
  ·have:=h5 (by omega);rw [if_pos q];show zX f ([105,102]::yH iff.toNat::W)=_;rw [zKq f iff.toNat (by omega) (by omega) (by omega) (by omega),eiff]
  ·rw [if_neg q,List.nil_append,zBs f W (by omega) (by omega) (by omega) (by omega) (by omega) (fun _ _ p=>by
    cases W with
    | nil=>simp at p
    | cons x W=>exact hW x (by simp) (by simpa using p))]
   have:iff=f.iff:=by omega
   rw [this]
 by_cases k4:k=4
 ·obtain rfl:=nval (by omega);show zX _ (_++(zB (eds.map xB)++[]))=_
  rw [List.append_nil,go _ _ rfl rfl (fun x hx e=>by
   have:=(cQ h11 x hx).2.1;rw [e] at this
   revert this;decide),zKo _ h11 k4]
 obtain rfl:=neds k4
 by_cases k5:k=5
 ·obtain rfl:=nval (by omega);show zX _ (_++[])=_;rw [go _ [] rfl rfl (by simp),zLO _ k5]
 ·show zX _ (_++(zB (yM val)++[]))=_
  rw [List.append_nil,go _ _ rfl rfl (fun x hx e=>by
   have:=(gZ h9 x hx).2.1;rw [e] at this
   revert this;decide),zKQ _ h9 (by simp only;omega)]
end
section
open Go.RowKit Go.Lib
theorem zGD (f:En) (k:Int) (st:Int) (hk:f.kind=k) (h12:k<=12) (h0:0<=st) (h1:st<=18446744073709551615) (W:List (List UInt8)) :
  yS f ((if k=11∨k=12 then [yH st.toNat] else [])++W)=qY { f with stamp:=if k=11∨k=12 then st else f.stamp } W:=by
 unfold yS
 by_cases q:k=11∨k=12
 ·rw [if_pos q,if_pos q,if_pos (by omega)];have e0:([yH st.toNat]++W)[0]? = some (yH st.toNat):=by rw [List.singleton_append,List.getElem?_cons_zero]
  rw [e0];unfold xY;simp only [Option.bind_some];rw [nV (by omega)];have e1:((st.toNat:Nat):Int)=st:=Int.toNat_of_nonneg h0;show qY { f with stamp:=(st.toNat:Int) } W=_;rw [e1]
 ·rw [if_neg q,if_neg q,if_neg (by omega),List.nil_append]
theorem qQ (x:List UInt8) (w:List (List UInt8)):xZ (x::w)=if yX x=0 then none else uP (zC (yX x)) w:=rfl
theorem sS (e:En) (w:List (List UInt8)) (h:e.kind<=2->∀t w',w≠(64::t)::w'):uP e w=yS e w:=by
 unfold uP
 split
 ·next t w' =>
  rw [if_neg fun q=>h q t w' rfl]
 ·rfl
theorem zED (x:List UInt8) (w:List (List UInt8)) (hk:yX x≠0) (h:yX x<=2->∀t w',w≠(64::t)::w'):xZ (x::w)=yS (zC (yX x)) w:=by
 rw [qQ,if_neg hk,sS _ _ fun q=>h (by simp only [zC] at q;omega)]
theorem zEE (x t:List UInt8) (w:List (List UInt8)) (hk:yX x≠0) (h:yX x<=2) (ht:t≠[]):xZ (x::(64::t)::w)=yS { zC (yX x) with temp:=⟨t.toArray⟩ } w:=by
 rw [qQ,if_neg hk];have:(zC (yX x)).kind<=2:=by simp only [zC];omega
 show (if (zC (yX x)).kind<=2 then if t=[] then none else yS { zC (yX x) with temp:=⟨t.toArray⟩ } w else _)=_
 rw [if_pos this,if_neg ht]
theorem zGi {e:En} (h:nG e) (hs0:0<=e.stamp) (hs1:e.stamp<=18446744073709551615):xZ (xS e)=some e:=by
 have hn:yX (pH e.kind)=e.kind.toNat:=bS _ (by have:=h.k1;omega) (by have:=h.k2;omega);have hki:((e.kind.toNat:Nat):Int)=e.kind:=Int.toNat_of_nonneg (by have:=h.k1;omega);have h1:=h.k1;have h2:=h.k2
 have fin:∀t:ByteArray,t=e.temp->yS { zC (yX (pH e.kind)) with temp:=t } ((if e.kind=11∨e.kind=12 then [yH e.stamp.toNat] else [])++pG e::sR e)=some e:=by
  rintro t rfl;rw [hn];unfold zC;simp only [hki];have q:=zGD ⟨e.kind,e.temp,⟨#[]⟩,⟨#[]⟩,0,[],[],[],0,0⟩ e.kind e.stamp rfl h2 hs0 hs1 (pG e::sR e);exact q.trans ((zLW h.key (sR e) ⟨e.kind,e.temp,⟨#[]⟩,⟨#[]⟩,0,[],[],[],if e.kind=11∨e.kind=12 then e.stamp else 0,0⟩ rfl rfl).trans (zI3 h hs0 hs1))
 unfold xS
 by_cases ht:e.temp=⟨#[]⟩
 ·rw [if_pos ht,List.nil_append,zED _ _ (by rw [hn];omega)]
  ·exact fin _ ht.symm
  ·intro hk t w' q;rw [hn] at hk;rw [if_neg (show ¬ (e.kind=11∨e.kind=12) by omega),List.nil_append] at q;obtain ⟨c,r,e1,e2,e3⟩:=zFy h.key;rw [e1] at q;have q1:c=64:=by simp only [List.cons.injEq] at q;exact q.1.1
   rw [q1] at e2
   revert e2;decide
 ·have hte:=(h.tmp.resolve_left ht);rw [if_neg ht,List.singleton_append,zEE _ _ _ (by rw [hn];omega) (by rw [hn];omega) (fun q=>ht (dR q)),qO];exact fin _ rfl
theorem zDS (n:Nat):∀x∈[yH n],x≠[59]/\32 ∉ x/\x≠[]:=by
 intro x hx;rw [List.mem_singleton] at hx;subst hx;refine ⟨fun q=>?_,zDU n,nW n⟩;have:=(dF n 59 (by rw [q];simp)).2
 revert this;decide
theorem zIA (k:Int) (h1:1<=k) (h2:k<=12):pH k≠[59]/\32 ∉ pH k/\pH k≠[]/\pH k≠sG:=by
 unfold pH;have:k=1∨k=2∨k=3∨k=4∨k=5∨k=6∨k=7∨k=8∨k=9∨k=10∨k=11∨k=12:=by omega
 rcases this with rfl|rfl|rfl|rfl|rfl|rfl|rfl|rfl|rfl|rfl|rfl|rfl<;>decide
theorem dG {e:En} (h:nG e):∀x∈xS e,x≠[59]/\32 ∉ x/\x≠[]:=by
 have two:∀x:List UInt8,2<=x.length->x≠[59]/\x≠[]:=fun x hx=>⟨fun q=>by rw [q] at hx;simp at hx,fun q=>by rw [q] at hx;simp at hx⟩
 have hv:∀x∈zB (yM e.val),x≠[59]/\32 ∉ x/\x≠[]:=fun x hx=>⟨(two x (gZ h.mayv x hx).1).1,(gZ h.mayv x hx).2.2,(two x (gZ h.mayv x hx).1).2⟩
 have hd:∀x∈zB (e.eds.map xB),x≠[59]/\32 ∉ x/\x≠[]:=fun x hx=>⟨(two x (cQ h.maye x hx).1).1,(cQ h.maye x hx).2.2,(two x (cQ h.maye x hx).1).2⟩
 have hp:∀x∈zB (e.pred.map xG),x≠[59]/\32 ∉ x/\x≠[]:=fun x hx=>⟨(two x (zAi h.mayp x hx).1).1,(zAi h.mayp x hx).2,(two x (zAi h.mayp x hx).1).2⟩
 have ht:∀x∈sR e,x≠[59]/\32 ∉ x/\x≠[]:=by
  intro x hx;unfold sR at hx
  split at hx
  ·rcases List.mem_append.1 hx with hx|hx
   ·exact hv x hx
   ·rcases List.mem_cons.1 hx with rfl|hx
    ·decide
    ·exact hp x hx
  ·split at hx
   ·exact zDS _ x hx
   ·split at hx
    ·exact zDS _ x hx
    ·rcases List.mem_append.1 hx with hx|hx
     ·split at hx
      ·rcases List.mem_cons.1 hx with rfl|hx
       ·decide
       ·exact zDS _ x hx
      ·cases hx
     ·rcases List.mem_append.1 hx with hx|hx
      ·exact hv x hx
      ·rcases List.mem_append.1 hx with hx|hx
       ·exact hd x hx
       ·exact hp x hx
 intro x hx;unfold xS at hx
 rcases List.mem_cons.1 hx with rfl|hx
 ·have:=zIA e.kind h.k1 h.k2;exact ⟨this.1,this.2.1,this.2.2.1⟩
 rcases List.mem_append.1 hx with hx|hx
 ·split at hx
  ·cases hx
  ·next q =>
   rw [List.mem_singleton] at hx;subst hx;have hte:=(h.tmp.resolve_left q).2;refine ⟨fun r=>absurd (List.cons.inj r).1 (by decide),fun r=>?_,by simp⟩
   rcases List.mem_cons.1 r with r|r
   ·exact absurd r (by decide)
   ·exact (zM9 hte).2 r
 rcases List.mem_append.1 hx with hx|hx
 ·split at hx
  ·exact zDS _ x hx
  ·cases hx
 rcases List.mem_cons.1 hx with rfl|hx
 ·obtain ⟨c,r,e1,e2,e3⟩:=zFy h.key;refine ⟨fun q=>?_,zC1 h.key,by rw [e1];simp⟩;rw [e1] at q;have q1:=(List.cons.inj q).1;rw [q1] at e2
  revert e2;decide
 ·exact ht x hx
theorem zAM:∀{l:List En},(∀e∈l,nG e)->∀x∈xF l,32 ∉ x/\x≠[]
 | [],_=>by intro x hx;cases hx
 | [e],h=>by
  intro x hx;exact (dG (h e (by simp)) x hx).2
 | e::f::l,h=>by
  intro x hx;simp only [xF] at hx
  rcases List.mem_append.1 hx with hx|hx
  ·exact (dG (h e (by simp)) x hx).2
  ·rcases List.mem_cons.1 hx with rfl|hx
   ·decide
   ·exact zAM (fun g hg=>h g (by simp [hg])) x hx
theorem zC6 {l:List En} (h0:l≠[]) (h:∀e∈l,nG e):(xF l).head?≠some sG:=by
 have key:∀e:En,nG e->∀W,(xS e++W).head?≠some sG:=by
  intro e he W q;unfold xS at q;simp only [List.cons_append,List.head?_cons,Option.some.injEq] at q;exact (zIA e.kind he.k1 he.k2).2.2.2 q
 match l,h0,h with
 | [e],_,h=>have:=key e (h e (by simp)) [];rwa [List.append_nil] at this
 | e::f::l,_,h=>exact key e (h e (by simp)) _
theorem zNF {once:Bool} {l:List En} (h:uD l=true) (hs:∀e∈l,0<=e.stamp/\e.stamp<=18446744073709551615):zAI (qK once l)=some (once,l):=by
 have hm:=h;unfold uD at h;simp only [Bool.and_eq_true,decide_eq_true_eq,List.all_eq_true] at h;have hl:l≠[]:=fun q=>by rw [q] at h;simp at h
 have hp:∀e∈l,nG e:=fun e he=>xW (h.2 e he)
 have hcut:=zAV l hl fun e he x hx=>(dG (hp e he) x hx).1
 have hre:=zDQ l fun e he=>zGi (hp e he) (hs e he).1 (hs e he).2
 have hh:=zC6 hl hp;unfold zAI qK
 cases once with
 | true =>
  have q:decide (([sG]++xF l).head? = some sG)=true:=by simp
  simp only [if_true,q];rw [List.singleton_append,List.drop_succ_cons,List.drop_zero,hcut,hre];simp only [Option.bind_some,hm,if_true]
 | false =>
  have q:decide (([]++xF l).head? = some sG)=false:=by rw [List.nil_append];exact decide_eq_false hh
  simp only [Bool.false_eq_true,if_false,q];rw [List.nil_append,hcut,hre];simp only [Option.bind_some,hm,if_true]
def zAJ (once:Bool) (l:List En):List UInt8:=Lib.join (qK once l) [32]
theorem zHY {once:Bool} {l:List En} (h:uD l=true):qK once l≠[]/\∀x∈qK once l,32 ∉ x/\x≠[]:=by
 unfold uD at h;simp only [Bool.and_eq_true,decide_eq_true_eq,List.all_eq_true] at h;have hp:∀e∈l,nG e:=fun e he=>xW (h.2 e he)
 have hne:xF l≠[]:=by
  match l,h with
  | [],h=>simp at h
  | [e],_=>simp [xF,xS]
  | e::f::l,_=>simp [xF]
 unfold qK;refine ⟨fun q=>hne (List.append_eq_nil_iff.1 q).2,fun x hx=>?_⟩
 rcases List.mem_append.1 hx with hx|hx
 ·split at hx
  ·rw [List.mem_singleton] at hx;subst hx;decide
  ·cases hx
 ·exact zAM hp x hx
theorem zHm {once:Bool} {l:List En} (h:uD l=true):zO (zAJ once l)=qK once l:=by
 obtain ⟨h1,h2⟩:=zHY (once:=once) h;unfold zO zAJ;have hs:=fN (qK once l) h1 fun x hx=>(h2 x hx).1
 rw [if_neg,hs];intro q;rw [q] at hs;have e:zG ([]:List UInt8)=[[]]:=wG rfl;rw [e] at hs;exact (h2 [] (by rw [<-hs];simp)).2 rfl
end
section
open Go.RowKit Go.Lib
def zN:Nat->List Nat
 | 1=>[1,2,5]
 | 2=>[1,2,5,6,7]
 | 3=>[2,4,5]
 | 4=>[2,4,8]
 | 5=>[2,4]
 | 6=>[2]
 | 7=>[2,9]
 | 8=>[3,7]
 | 9=>[2,10]
 | 10=>[3,10]
 | 11=>[10,2]
 | 12=>[10,3,7]
 | _=>[]
def yB (w:List (List UInt8)):List UInt8:=Lib.join w [32]
def uM (w:List (List UInt8)) (p:Nat):Nat :=
 if p=1 then if w.head?.bind List.head? = some 64 then 1 else 0
 else if p=4 then if w.head? = some [105,102] then 2 else 0
 else if p=5 then (w.takeWhile fun x=>decide (x≠[63])).length
 else if p=7∨p=8 then w.length
 else 1
def sK (x:List UInt8):List UInt8:=if x.head? = some 64 then x.drop 1 else x
def zNb (x:List UInt8):List UInt8:=if [105,102,32].isPrefixOf x then x.drop 3 else x
def zCi (x:List UInt8):Option Nat:=if x=[] then some 0 else (xH 999999999 (zNb x)).bind fun n=>if 0<n then some n else none
def xJ (e:En) (p:Nat) (x:List UInt8):Option En :=
 if p=1 then if x=[]∨vI (sK x)=true then some { e with temp:=⟨(sK x).toArray⟩ } else none
 else if p=2 then (tJ x).map fun k=>{ e with ka:=k.1,kb:=k.2 }
 else if p=3 then if xM x=true then some { e with ka:=⟨x.toArray⟩ } else none
 else if p=4 then (zCi x).map fun (n:Nat)=>{ e with iff:=(n:Int) }
 else if p=5 then (uY (zO x)).map fun v=>{ e with val:=v }
 else if p=6 then if x=[63] then some e else none
 else if p=7 then (pC (zO x)).map fun v=>{ e with pred:=v }
 else if p=8 then (kI (zO x)).bind fun v=>if v=[] then none else some { e with eds:=v }
 else if p=9 then (xH 999999999 x).map fun (n:Nat)=>{ e with num:=(n:Int) }
 else (xH 18446744073709551615 x).map fun (n:Nat)=>{ e with stamp:=(n:Int) }
def zH:List Nat->En->List (List UInt8)->Option (En × List (List UInt8))
 | [],e,w=>some (e,w)
 | p::ps,e,w=>if w.length<uM w p then none else (xJ e p (yB (w.take (uM w p)))).bind fun f=>zH ps f (w.drop (uM w p))
def gE:List (List UInt8)->Option En
 | []=>none
 | x::w=>if yX x=0 then none else (zH (zN (yX x)) (zC (yX x)) w).bind fun r=>if r.2=[] then some r.1 else none
theorem zCy:yB []=[]:=rfl
theorem xC (x:List UInt8):yB [x]=x:=by simp [yB,Lib.join,List.intercalate]
theorem gQ (x y:List UInt8):yB [x,y]=x++32::y:=by simp [yB,Lib.join,List.intercalate]
theorem fO {w:List (List UInt8)} (h:∀x∈w,x≠[]/\(32:UInt8) ∉ x):zO (yB w)=w:=by
 by_cases h0:w=[]
 ·subst h0;rfl
 ·have hs:=fN w h0 fun x hx=>(h x hx).2
  unfold zO yB;rw [if_neg,hs];intro q;rw [q] at hs;have e:zG ([]:List UInt8)=[[]]:=wG rfl;rw [e] at hs;exact (h [] (by rw [<-hs];simp)).1 rfl
theorem zID {w:List (List UInt8)} {v:List Fld} (h:uY w=some v):xU v=true:=by
 unfold uY at h
 cases hf:zV w with
 | none=>rw [hf] at h;cases h
 | some fs =>
  rw [hf] at h;simp only [Option.bind_some] at h
  split at h
  ·rename_i hc
   simp only [Option.some.injEq] at h;rw [<-h,dK,if_pos hc];exact (zCI hc).2.2
  ·cases h
theorem zMZ {w:List (List UInt8)} {v:List Ed} (h:kI w=some v):wK v=0:=by
 unfold kI at h
 split at h
 ·rename_i hc
  simp only [Option.some.injEq] at h
  cases ho:yC w with
  | none=>rw [ho] at hc;exact absurd hc (by decide)
  | some p =>
   rw [ho] at hc h;have hm:wK p=0:=hc;unfold zDc at h;simp only at h;rw [if_pos hm] at h;rw [<-h];exact hm
 ·cases h
theorem zDa {w:List (List UInt8)} {v:List Tm} (h:pC w=some v):wA v=0/\uS v=v:=by
 unfold pC at h
 split at h
 ·rename_i hc
  simp only [Option.some.injEq] at h
  cases ho:yA w with
  | none=>rw [ho] at hc;exact absurd hc (by decide)
  | some p =>
   rw [ho] at hc h;have hm:wA p=0:=hc;obtain ⟨h1,h2⟩:=zBv hm;have hv:wB p=v:=h;rw [hv] at h1 h2;refine ⟨h1,?_⟩;unfold wB at h2
   rwa [if_pos h1] at h2
 ·cases h
theorem zFz {x:List UInt8} {k:ByteArray × ByteArray} (h:tJ x=some k):tR k.1 k.2=true:=by
 unfold tJ at h
 split at h
 ·cases h
 ·simp only at h
  split at h
  ·rename_i hk
   simp only [Option.some.injEq] at h;rw [<-h];exact hk
  ·cases h
theorem zAU:∀{w:List (List UInt8)},[63]∈w->zV w=none
 | [],h=>by cases h
 | l::r,h=>by
  rw [zV]
  cases hw:vM l with
  | none=>rfl
  | some nt =>
   obtain ⟨n,t⟩:=nt;simp only
   rcases List.mem_cons.1 h with h|h
   ·rw [<-h] at hw;have hz:vM [63]=none:=by kernel_rfl
    rw [hz] at hw;cases hw
   ·rw [zAU h];rfl
theorem zNK {w:List (List UInt8)} (h:[63]∈w):uY w=none:=by
 unfold uY;rw [zAU h];rfl
theorem bO {w:List (List UInt8)} (h:[63] ∉ w):w.takeWhile (fun x=>decide (x≠[63]))=w:=by
 induction w with
 | nil=>rfl
 | cons x w ih =>
  have hx:x≠[63]:=fun q=>h (by rw [q];simp)
  rw [List.takeWhile_cons,if_pos (by simpa using hx),ih fun q=>h (by simp [q])]
theorem zC4 {w:List (List UInt8)}:(w.takeWhile fun x=>decide (x≠[63])).length<=w.length:=(List.takeWhile_sublist _).length_le
theorem zHA (w:List (List UInt8)):w.take (w.takeWhile fun x=>decide (x≠[63])).length=w.takeWhile fun x=>decide (x≠[63]):=by
 induction w with
 | nil=>rfl
 | cons x w ih =>
  rw [List.takeWhile_cons]
  split
  ·rw [List.length_cons,List.take_succ_cons,ih]
  ·rfl
theorem zB3 (w:List (List UInt8)):w.drop (w.takeWhile fun x=>decide (x≠[63])).length=w.dropWhile fun x=>decide (x≠[63]):=by
 induction w with
 | nil=>rfl
 | cons x w ih =>
  rw [List.takeWhile_cons,List.dropWhile_cons]
  split
  ·rw [List.length_cons,List.drop_succ_cons,ih]
  ·rfl
theorem qM:∀{w:List (List UInt8)},[63]∈w->∃r,w.dropWhile (fun x=>decide (x≠[63]))=[63]::r
 | [],h=>by cases h
 | x::w,h=>by
  rw [List.dropWhile_cons]
  by_cases hx:x=[63]
  ·rw [if_neg (by simp [hx]),hx];exact ⟨w,rfl⟩
  ·rw [if_pos (by simp [hx])]
   rcases List.mem_cons.1 h with q|q
   ·exact absurd q.symm hx
   ·exact qM q
theorem fH {w:List (List UInt8)} (h:[63] ∉ w):w.dropWhile (fun x=>decide (x≠[63]))=[]:=by
 rw [<-zB3,bO h,List.drop_length]
end
section
open Go.RowKit Go.Lib
theorem gX {most:Nat} {l:List UInt8} {i n:Nat} (hi:i<l.length) (ha:qV most 0 (l.take i)=some n) (hc:fF most n l[i]=none):xH most l=none:=by
 have hn:qV most 0 l=none:=by
  conv=>lhs;rw [<-List.take_append_drop i l,List.drop_eq_getElem_cons hi]
  rw [nS,ha];simp only [Option.bind_some,qV,hc,Option.bind_none]
 unfold xH
 split
 ·rfl
 ·split
  ·rfl
  ·exact hn
theorem zNL {most:Nat} {l:List UInt8} {i n m:Nat} (hi:i<l.length) (ha:qV most 0 (l.take i)=some n) (hc:fF most n l[i]=some m):qV most 0 (l.take (i+1))=some m:=by
 rw [List.take_succ_eq_append_getElem hi,nS,ha];simp only [Option.bind_some,qV,hc]
theorem zIy {most:Nat} {l:List UInt8} (h1:1<l.length) (h:l[0]=48):xH most l=none:=by
 unfold xH;rw [if_neg (fun q=>by rw [q] at h1;simp at h1),if_pos];refine ⟨h1,?_⟩;rw [List.head?_eq_getElem?,List.getElem?_eq_getElem (by omega),h]
theorem zLp {most:Nat} {l:List UInt8} {n:Nat} (h0:0<l.length) (ha:qV most 0 l=some n) (hz:1<l.length->l[0]≠48):xH most l=some n:=by
 unfold xH;rw [if_neg (fun q=>by rw [q] at h0;simp at h0),if_neg,ha];rintro ⟨h1,h2⟩;rw [List.head?_eq_getElem?,List.getElem?_eq_getElem h0] at h2;exact hz h1 (Option.some.inj h2)
theorem qD (s:ByteArray) (i:Nat) (h:i<s.size):s.data.toList[i]'(by simpa using h)=s[i]:=by
 rw [Array.getElem_toList];rfl
def zA6 (o:Option Nat):Value:=.tuple #[.int .u64 ((o.getD 0:Nat):Int),.bool o.isSome]
theorem zB7 (s:ByteArray) (most:Nat) (w:World) (hm:most<=18446744073709551615) (hs:s.size<=maxLen) :
  Calls Tryz.prog 77 #[.string s,.int .u64 (most:Nat)] w fun e w'=>e=.returned (zA6 (xH most s.data.toList))/\w'=w:=by
 unfold maxLen at hs;have hlen:s.data.toList.length=s.size:=by simp
 have HLEN:=hid hlen;clear hlen;go_enter Tryz.func77,Tryz.ntmps77;go_wp2_with fail
 go_loopg [6,7] s.size (fun g vn vi wr=>∃i n:Nat,vn=iu (n:Nat)/\vi=ii i/\i<=s.size/\s.size-i<=g/\n<=most/\wr=w/\Hid (qV most 0 (s.data.toList.take i)=some n)/\Hid (∀h:0<s.size,1<i->s[0]≠48))
 case atStart=>exact ⟨0,0,rfl,rfl,by omega,by omega,by omega,rfl,rfl,fun _ h=>by omega⟩
 case round =>
  obtain ⟨i,n,rfl,rfl,hi,hgk,hnm,rfl,HA,HZ⟩:=hrel
  by_cases hlt:i<s.size
  ·have hltz:(i:Int)<(s.size:Int):=by omega
   have hiz:(0:Int)<=i:=by omega
   obtain ⟨c,hc⟩:∃c,s[i]=c:=⟨_,rfl⟩;have HC:Hid (s.data.toList[i]'(by rw [HLEN.out];exact hlt)=c):=(qD s i hlt).trans hc;have hc256:=c.toNat_lt
   by_cases h1:c.toNat<48
   ·have hx:((c.toNat:Nat):Int)<48:=by omega
    have HN:=hid (gX (by rw [HLEN.out];exact hlt) HA.out (by rw [HC.out];unfold fF;rw [if_pos (Or.inl h1)]));clear h1;go_wp2_with fail
    go_ret2
    rw [HN.out];exact ⟨rfl,rfl⟩
   have hx1:¬ ((c.toNat:Nat):Int)<48:=by omega
   by_cases h2:57<c.toNat
   ·have hx2:(57:Int)<((c.toNat:Nat):Int):=by omega
    have HN:=hid (gX (by rw [HLEN.out];exact hlt) HA.out (by rw [HC.out];unfold fF;rw [if_pos (Or.inr h2)]));clear h2 h1;go_wp2_with fail
    go_ret2
    rw [HN.out];exact ⟨rfl,rfl⟩
   have hx2:¬ (57:Int)<((c.toNat:Nat):Int):=by omega
   by_cases h3:0<i/\s[0]'(by omega)=48
   ·obtain ⟨h3,h4⟩:=h3;have hx3:(0:Int)<i:=by omega
    have h0:0<s.size:=by omega
    have HN:=hid (zIy (most:=most) (l:=s.data.toList) (by rw [HLEN.out];omega) ((qD s 0 h0).trans h4));clear h1 h2;go_wp2_with fail
    go_ret2
    rw [HN.out];exact ⟨rfl,rfl⟩
   have hs0:0<s.size:=by omega
   have hq:(¬ (0:Int)<i)∨((0:Int)<i/\s[0]≠48):=by
    by_cases q:0<i
    ·exact .inr ⟨by omega,fun e=>h3 ⟨q,e⟩⟩
    ·exact .inl (by omega)
   have HZ2:Hid (∀h:0<s.size,1<i+1->s[0]≠48):=fun h q=>by
    rcases hq with q2|q2
    ·omega
    ·exact q2.2
   have HNC:Hid (fF most n c=if most<c.toNat-48∨(most-(c.toNat-48)) / 10<n then none else some (n * 10+(c.toNat-48))):=by
    show _=_
    unfold fF;rw [if_neg (by omega)]
   clear h3 h1 h2
   have hq2:(¬ (0:Int)<i)∨((0:Int)<i/\(((s[0].toNat:Nat):Int)==48)=false):=by
    rcases hq with q|⟨q,q2⟩
    ·exact .inl q
    ·refine .inr ⟨q,?_⟩;have:s[0].toNat≠48:=fun e=>q2 (UInt8.toNat_inj.1 e)
     rw [beq_eq_false_iff_ne];omega
   clear hq
   rcases hq2 with hx3|⟨hx3,hne⟩
   all_goals
    by_cases h5:most<c.toNat-48
    ·have hx5:((most:Nat):Int)<((c.toNat:Nat):Int)-48:=by omega
     have HN:=hid (gX (by rw [HLEN.out];exact hlt) HA.out (by rw [HC.out,HNC.out,if_pos (Or.inl h5)]));clear h5;go_wp2_with fail
     go_ret2
     rw [HN.out];exact ⟨rfl,rfl⟩
    have hx5:¬ ((most:Nat):Int)<((c.toNat:Nat):Int)-48:=by omega
    by_cases h6:(most-(c.toNat-48)) / 10<n
    ·have hx6:(((most:Nat):Int)-(((c.toNat:Nat):Int)-48)) / 10<(n:Int):=by omega
     have HN:=hid (gX (by rw [HLEN.out];exact hlt) HA.out (by rw [HC.out,HNC.out,if_pos (Or.inr h6)]));clear h6 h5;go_wp2_with fail
     go_ret2
     rw [HN.out];exact ⟨rfl,rfl⟩
    have hx6:¬ (((most:Nat):Int)-(((c.toNat:Nat):Int)-48)) / 10<(n:Int):=by omega
    have hb1:(n:Int) * 10+(((c.toNat:Nat):Int)-48)<=18446744073709551615:=by omega
    have HM:=hid (zNL (by rw [HLEN.out];exact hlt) HA.out (by rw [HC.out,HNC.out,if_neg (by omega)]));have hnx:n * 10+(c.toNat-48)<=most:=by omega
    have hnv:(n:Int) * 10+(((c.toNat:Nat):Int)-48)=((n * 10+(c.toNat-48):Nat):Int):=by omega
    have HNX:=hid hnx;have HNV:=hid hnv;clear h5 h6 hnx hnv;go_wp2_with fail;go_roundg (s.size-(i+1))
    case measure=>omega
    exact ⟨i+1,n * 10+(c.toNat-48),by rw [HNV.out],by go_num,by omega,by omega,HNX.out,rfl,HM.out,HZ2.out⟩
  ·have hltz:¬ (i:Int)<(s.size:Int):=by omega
   have hie:s.data.toList.take i=s.data.toList:=List.take_of_length_le (by rw [HLEN.out];omega);have HA2:Hid (qV most 0 s.data.toList=some n):=by have:=HA.out;rw [hie] at this;exact this
   clear hie
   by_cases h0:0<s.size
   ·have hx0:(0:Int)<(s.size:Int):=by omega
    have HN:=hid (zLp (by rw [HLEN.out];exact h0) HA2.out (fun q=>by rw [qD s 0 h0];exact HZ.out h0 (by rw [HLEN.out] at q;omega)));go_wp2_with fail
    go_ret2
    rw [HN.out];exact ⟨rfl,rfl⟩
   ·have hx0:¬ (0:Int)<(s.size:Int):=by omega
    have HN:Hid (xH most s.data.toList=none/\n=0):=by
     have e:s.data.toList=[]:=List.eq_nil_of_length_eq_zero (by rw [HLEN.out];omega);have h:=HA2.out;rw [e] at h;refine ⟨by unfold xH;rw [if_pos e],?_⟩
     simpa [qV] using h.symm
    go_wp2_with fail
    go_ret2
    rw [HN.out.1,HN.out.2];exact ⟨rfl,rfl⟩
end
section
open Go.RowKit Go.Lib
def zCB (k:Int):ByteArray:=⟨(pH k).toArray⟩
theorem zHW (k:Int) (w:World) (h:k<1∨12<k) :
  Calls Tryz.prog 39 #[.int .i64 k] w fun e w'=>e=.returned (.string ⟨#[]⟩)/\Below w.heap.size w w':=by
 have HB:=hid (Below.refl w.z w);go_enter Tryz.func39,Tryz.ntmps39
 rcases h with h|h
 ·go_wp2_with fail
  go_ret;exact ⟨rfl,(Below.refl _ _).alloc (Nat.le_refl _) _⟩
 ·have h1:¬ k<1:=by omega
  go_wp2_with fail
  go_ret;exact ⟨rfl,(Below.refl _ _).alloc (Nat.le_refl _) _⟩
theorem gL (k:Int) (w:World) (h1:1<=k) (h2:k<=12) :
  Calls Tryz.prog 39 #[.int .i64 k] w fun e w'=>e=.returned (.string (zCB k))/\Below w.heap.size w w':=by
 have:k=1∨k=2∨k=3∨k=4∨k=5∨k=6∨k=7∨k=8∨k=9∨k=10∨k=11∨k=12:=by omega
 rcases this with rfl|rfl|rfl|rfl|rfl|rfl|rfl|rfl|rfl|rfl|rfl|rfl
 all_goals
  go_enter Tryz.func39,Tryz.ntmps39
  go_wp2_with fail
  go_ret;exact ⟨rfl,(Below.refl _ _).alloc (Nat.le_refl _) _⟩
def tN (s x:ByteArray):ByteArray:=if x.data.toList=[] then s else s++⟨#[32]⟩++x
theorem zEi (s x:ByteArray) (w:World) (hs:s.size<=100000000) (hx:x.size<=100000000) :
  Calls Tryz.prog 54 #[.string s,.string x] w fun e w'=>e=.returned (.string (tN s x))/\w'=w:=by
 by_cases h:x.data.toList=[]
 ·have HW:Hid (tN s x=s):=if_pos h;have he:=dR h;subst he;clear h;go_enter Tryz.func54,Tryz.ntmps54;go_wp2_with fail;go_ret;rw [HW.out];exact ⟨rfl,rfl⟩
 ·have HW:Hid (tN s x=s++⟨#[32]⟩++x):=if_neg h
  have hne:x.toList.isEmpty=false:=by
   rw [Lib.toList_data]
   cases hq:x.data.toList with
   | nil=>exact absurd hq h
   | cons _ _=>rfl
  clear h;go_enter Tryz.func54,Tryz.ntmps54;go_wp2_with fail;go_ret;rw [HW.out];exact ⟨rfl,rfl⟩
end
section
open Go.RowKit Go.Lib
def zDp (k:Nat):Array Value:=((zN k).map fun (p:Nat)=>Value.int .i64 (p:Int)).toArray
theorem bG (k:Nat) (w:World) (h1:1<=k) (h2:k<=12) :
  Calls Tryz.prog 36 #[.int .i64 k] w fun e w'=>e=.returned (.tuple #[.string ⟨(xP k).toArray⟩,.slice (some ⟨w.heap.size,0,none⟩) (zN k).length (zN k).length])/\w'=w.alloc (.cells (zDp k) 77):=by
 have:k=1∨k=2∨k=3∨k=4∨k=5∨k=6∨k=7∨k=8∨k=9∨k=10∨k=11∨k=12:=by omega
 rcases this with rfl|rfl|rfl|rfl|rfl|rfl|rfl|rfl|rfl|rfl|rfl|rfl
 all_goals
  go_enter Tryz.func36,Tryz.ntmps36
  go_wp2_with fail
  go_ret2
  exact ⟨rfl,rfl⟩
theorem zES (k:Int) (w:World) (h:k<1∨12<k) :
  Calls Tryz.prog 36 #[.int .i64 k] w fun e w'=>e=.returned (.tuple #[.string ⟨#[]⟩,.slice none 0 0])/\w'=w:=by
 have n1:(k==1)=false:=beq_eq_false_iff_ne.2 (by omega);have n2:(k==2)=false:=beq_eq_false_iff_ne.2 (by omega);have n3:(k==3)=false:=beq_eq_false_iff_ne.2 (by omega);have n4:(k==4)=false:=beq_eq_false_iff_ne.2 (by omega);have n5:(k==5)=false:=beq_eq_false_iff_ne.2 (by omega);have n6:(k==6)=false:=beq_eq_false_iff_ne.2 (by omega);have n7:(k==7)=false:=beq_eq_false_iff_ne.2 (by omega);have n8:(k==8)=false:=beq_eq_false_iff_ne.2 (by omega);have n9:(k==9)=false:=beq_eq_false_iff_ne.2 (by omega);have n10:(k==10)=false:=beq_eq_false_iff_ne.2 (by omega);have n11:(k==11)=false:=beq_eq_false_iff_ne.2 (by omega);have n12:(k==12)=false:=beq_eq_false_iff_ne.2 (by omega);clear h;go_enter Tryz.func36,Tryz.ntmps36;go_wp2_with fail
 go_ret2
 exact ⟨rfl,rfl⟩
theorem zKs {s:ByteArray} {k:Nat} (h1:1<=k) (h2:k<=12) (h:xP k=s.data.toList):yX s.data.toList=k:=by
 rw [<-h];exact bS k h1 h2
theorem zLu {l:List UInt8} (h:∀k,1<=k->k<=12->xP k≠l):yX l=0:=by
 unfold yX
 split
 ·rfl
 ·rename_i h0
  cases hf:(List.range 13).find? fun k=>decide (xP k=l) with
  | none=>rfl
  | some k =>
   exfalso
   have hm:=List.mem_of_find?_eq_some hf;have hp:=List.find?_some hf;simp only [decide_eq_true_eq] at hp;simp only [List.mem_range] at hm
   by_cases hk:k=0
   ·subst hk;exact h0 hp.symm
   ·exact h k (by omega) (by omega) hp
theorem cG (l:List UInt8):yX l<=12:=by
 unfold yX
 split
 ·omega
 ·cases hf:(List.range 13).find? fun k=>decide (xP k=l) with
  | none=>simp
  | some k =>
   have hm:=List.mem_of_find?_eq_some hf;simp only [List.mem_range] at hm;simp only [Option.getD_some];omega
theorem zLg (s:ByteArray) (w:World) :
  Calls Tryz.prog 35 #[.string s] w fun e w'=>e=.returned (.int .i64 (yX s.data.toList))/\Below w.heap.size w w':=by
 have HB0:=hid (Below.refl w.heap.size w);have HN0:Hid (∀j:Nat,1<=j->j<1->xP j≠s.data.toList):=hid fun j h1 h2=>by omega
 go_enter Tryz.func35,Tryz.ntmps35
 go_wp2_with fail
 go_loopg [3] 14 (fun g v ws=>∃k:Nat,v=ii k/\1<=k/\k<=13/\13-k<=g/\Hid (∀j:Nat,1<=j->j<k->xP j≠s.data.toList)/\Hid (Below w.heap.size w ws))
 case atStart=>exact ⟨1,rfl,by omega,by omega,by omega,HN0,HB0⟩
 case round =>
  obtain ⟨k,rfl,hk1,hk2,hkg,HN,HB⟩:=hrel
  by_cases hlt:k<=12
  ·have hz:(k:Int)<=12:=by omega
   by_cases he:xP k=s.data.toList
   ·have hq:(xP k==s.toList)=true:=by rw [he,toList_data];exact beq_self_eq_true _
    have HE:=hid he;clear he;go_wp2_with (go_at_call 36;refine (bG k _ hk1 hlt).mono ?_;rintro e w1 ⟨rfl,rfl⟩);go_ret;exact ⟨by rw [zKs hk1 hlt HE.out];rfl,HB.out.alloc HB.out.size _⟩
   ·have hq:(xP k==s.toList)=false:=beq_eq_false_iff_ne.2 fun q=>he (by rw [q,toList_data])
    have HE:=hid he;clear he;go_wp2_with (go_at_call 36;refine (bG k _ hk1 hlt).mono ?_;rintro e w1 ⟨rfl,rfl⟩);go_roundg (13-(k+1))
    case measure=>omega
    refine ⟨k+1,by go_num,by omega,by omega,by omega,hid fun j h1 h2=>?_,hid (HB.out.alloc HB.out.size _)⟩
    by_cases hj:j=k
    ·rw [hj];exact HE.out
    ·exact HN.out j h1 (by omega)
  ·have hz:¬ (k:Int)<=12:=by omega
   go_wp2_with fail
   go_ret;exact ⟨by rw [zLu fun j h1 h2=>HN.out j h1 (by omega)];rfl,HB.out⟩
end
section
open Go.RowKit
structure Ex where
 kind:Int
 temp:ByteArray
 ka:ByteArray
 kb:ByteArray
 iff:Int
 vp:Option Addr
 vc:Nat
 vo:List Fx
 ep:Option Addr
 ec:Nat
 eo:List Ed
 pp:Option Addr
 pc:Nat
 po:List Tm
 stamp:Int
 num:Int
def Ex.vs (x:Ex):Value:=.slice x.vp x.vo.length x.vc
def Ex.es (x:Ex):Value:=.slice x.ep x.eo.length x.ec
def Ex.ps (x:Ex):Value:=.slice x.pp x.po.length x.pc
def yZ (x:Ex):List Value:=[.int .i64 x.kind,.string x.temp,.string x.ka,.string x.kb,.int .i64 x.iff,x.vs,x.es,x.ps,.int .u64 x.stamp,.int .i64 x.num]
def wR (x:Ex):Value:=.agg (yZ x).toArray
def Ex.en (x:Ex):En:=⟨x.kind,x.temp,x.ka,x.kb,x.iff,x.vo.map Fx.fld,x.eo,x.po,x.stamp,x.num⟩
def KEx:zE Ex:=⟨42,10,yZ,fun _=>rfl,by decide,fun x u hu=>by simp [yZ,Ex.vs,Ex.es,Ex.ps] at hu;rcases hu with rfl|rfl|rfl|rfl|rfl|rfl|rfl|rfl|rfl|rfl<;>rfl⟩
structure uJ (W:World) (x:Ex):Prop where
 val:qZ W x.vs x.vo
 fit:sD x.vo
 eds:KE.Is W x.es x.eo
 efit:jF x.eo
 prd:KM.Is W x.ps x.po
 pfit:pY x.po
 temp:x.temp.size<=maxLen
 ka:x.ka.size<=maxLen
 kb:x.kb.size<=maxLen
 k0:-9223372036854775808<=x.kind
 k1:x.kind<=9223372036854775807
 i0:-9223372036854775808<=x.iff
 i1:x.iff<=9223372036854775807
 t0:0<=x.stamp
 t1:x.stamp<=18446744073709551615
 n0:-9223372036854775808<=x.num
 n1:x.num<=9223372036854775807
theorem uJ.on {W W':World} {x:Ex} (h:uJ W x) (hb:Below W.heap.size W W'):uJ W' x :=
 ⟨h.val.kept hb,h.fit,zE.is_kept h.eds hb,h.efit,zE.is_kept h.prd hb,h.pfit,h.temp,h.ka,h.kb,h.k0,h.k1,h.i0,h.i1,h.t0,h.t1,h.n0,h.n1⟩
end
section
abbrev lE (y:Ex):List Value:=[.int .i64 y.kind,.string y.temp,.string y.ka,.string y.kb,.int .i64 y.iff,.slice y.vp y.vo.length y.vc,.slice y.ep y.eo.length y.ec,.slice y.pp y.po.length y.pc,.int .u64 y.stamp,.int .i64 y.num]
abbrev vE (y:Ex):Array Value:=#[.int .i64 y.kind,.string y.temp,.string y.ka,.string y.kb,.int .i64 y.iff,.slice y.vp y.vo.length y.vc,.slice y.ep y.eo.length y.ec,.slice y.pp y.po.length y.pc,.int .u64 y.stamp,.int .i64 y.num]
abbrev vZ:Array Value:=#[.int .i64 0,.string ⟨#[]⟩,.string ⟨#[]⟩,.string ⟨#[]⟩,.int .i64 0,.slice none 0 0,.slice none 0 0,.slice none 0 0,.int .u64 0,.int .i64 0]
end
section
open Go.RowKit
theorem zAs {w w':World} {n0:Nat} {e:TypeId} {size:Nat} {v:Value} {n:Nat} {xs:List Value} (h:w.ownsRow n0 e size v n xs) (hk:∀k,v.ownBlock=some k->w'.heap[k]? = w.heap[k]?):w'.ownsRow n0 e size v n xs:=by
 refine ⟨h.1,?_⟩
 rcases h.2 with h2|⟨g,cap,cur,hv,h3,h4,h5⟩
 ·exact Or.inl h2
 ·exact Or.inr ⟨g,cap,cur,hv,h3,(hk g (by rw [hv];rfl)).trans h4,h5⟩
structure Fr (P:Nat->Prop) (w W:World):Prop where
 os:W.os=w.os
 tape:W.tape=w.tape
 output:W.output=w.output
 size:w.heap.size<=W.heap.size
 block:∀k,k<w.heap.size->¬ P k->W.heap[k]? = w.heap[k]?
theorem Fr.refl (P:Nat->Prop) (w:World):Fr P w w:=⟨rfl,rfl,rfl,Nat.le_refl _,fun _ _ _=>rfl⟩
theorem Fr.then {P Q:Nat->Prop} {a b c:World} (h:Fr P a b) (k:Fr Q b c) (hQ:∀k,Q k->P k∨a.heap.size<=k):Fr P a c :=
 ⟨k.os.trans h.os,k.tape.trans h.tape,k.output.trans h.output,Nat.le_trans h.size k.size,fun j hj hn=>(k.block j (Nat.lt_of_lt_of_le hj h.size) fun hq=>by
  rcases hQ j hq with h1|h1
  ·exact hn h1
  ·omega).trans (h.block j hj hn)⟩
theorem Fr.of_below {P:Nat->Prop} {w W:World} (h:Below w.heap.size w W):Fr P w W:=⟨h.os,h.tape,h.output,h.size,fun k hk _=>h.block k hk⟩
theorem Fr.below {P:Nat->Prop} {w W:World} (h:Fr P w W) {N:Nat} (hN:N<=w.heap.size) (hP:∀k,P k->N<=k):Below N w W :=
 ⟨h.os,h.tape,h.output,h.size,fun k hk=>h.block k (by omega) fun hp=>by have:=hP k hp;omega⟩
theorem Fr.row {P:Nat->Prop} {w W:World} {n0:Nat} {e:TypeId} {size:Nat} {v:Value} {n:Nat} {xs:List Value} (f:Fr P w W) (h:w.ownsRow n0 e size v n xs) (hP:∀k,v.ownBlock=some k->¬ P k):W.ownsRow n0 e size v n xs :=
 zAs h fun k hk=>f.block k (World.ownsRow.lt h k hk).2 (hP k hk)
theorem Fr.cell {P:Nat->Prop} {w W:World} {a:Addr} {v:Value} (f:Fr P w W) (h:w.cell? a=some v) (hP:¬ P a.block):W.cell? a=some v :=
 (World.cell?_of_block (f.block a.block (zJ h) hP)).trans h
end
section
open Go.RowKit Go.Sort Go.Lib
theorem zE.cells_set {α:Type} (K:zE α) (d:List α) (i:Nat) (h:i<d.length) (x:α) (j:Nat):(K.cells (d.set i x))[j]? = if i * K.k<=j/\j<i * K.k+K.k then (K.enc x)[j-i * K.k]? else (K.cells d)[j]?:=by
 by_cases hj:j<d.length * K.k
 ·have hkp:=K.pos;have hq:j / K.k<d.length:=(Nat.div_lt_iff_lt_mul hkp).2 hj;have hm:j % K.k<K.k:=Nat.mod_lt _ hkp;have e:j / K.k * K.k+j % K.k=j:=by rw [Nat.mul_comm];exact Nat.div_add_mod j K.k
  have h1:=K.cells_get (d.set i x) (j / K.k) (by simpa using hq) (j % K.k) hm;have h2:=K.cells_get d (j / K.k) hq (j % K.k) hm;rw [e] at h1 h2;rw [h1,h2,List.getElem_set]
  by_cases hi:i=j / K.k
  ·rw [if_pos hi,if_pos (by rw [hi];omega),hi]
   congr 1
   omega
  ·rw [if_neg hi,if_neg];intro hh;exact hi ((blk_iff K.k i j hkp).1 hh).symm
 ·have h3:(i+1) * K.k<=d.length * K.k:=Nat.mul_le_mul_right _ h;rw [Nat.add_mul,Nat.one_mul] at h3;rw [if_neg (by omega),List.getElem?_eq_none (by rw [K.cells_len,List.length_set];omega),List.getElem?_eq_none (by rw [K.cells_len];omega)]
end
section
open Go.RowKit Go.Sort Go.Lib
theorem zN0 (d:List Tm) (i:Nat) (h:i<d.length) (x:Tm):KM.cells (d.set i x)=(((KM.cells d).set (i * 3) (.string x.1)).set (i * 3+1) (.int .i64 x.2.1)).set (i * 3+2) (.string x.2.2):=by
 apply List.ext_getElem?
 intro j;rw [KM.cells_set d i h x j];have hl:(KM.cells d).length=d.length * 3:=KM.cells_len d;have hk:KM.k=3:=rfl;rw [hk];simp only [List.getElem?_set,List.length_set,hl]
 by_cases h0:j=i * 3
 ·subst h0;simp [KM,uC];omega
 ·by_cases h1:j=i * 3+1
  ·subst h1;simp [KM,uC];omega
  ·by_cases h2:j=i * 3+2
   ·subst h2;simp [KM,uC];omega
   ·rw [if_neg (by omega),if_neg (fun e=>h2 e.symm),if_neg (fun e=>h1 e.symm),if_neg (fun e=>h0 e.symm)]
theorem zMJ {n0 g n cap:Nat} {w:World} {d:List Tm} (h:KM.Own n0 w (.slice (some ⟨g,0,none⟩) n cap) d) (hn:d.length=n) (i:Nat) (hi:i<d.length) (x:Tm) :
  KM.Own n0 (((w.setCell ⟨g,i * 3,none⟩ (.string x.1)).setCell ⟨g,i * 3+1,none⟩ (.int .i64 x.2.1)).setCell ⟨g,i * 3+2,none⟩ (.string x.2.2)) (.slice (some ⟨g,0,none⟩) n cap) (d.set i x):=by
 subst hn;have h1:=World.ownsRow.stored h (i * 3) (tq x.1);have h2:=World.ownsRow.stored h1.1 (i * 3+1) (ii x.2.1);have h3:=World.ownsRow.stored h2.1 (i * 3+2) (tq x.2.2);unfold zE.Own;rw [zN0 d i hi x,List.length_set];exact h3.1
theorem zMX (d:List Tm) (k:Nat):KM.cells (d.take k)=(KM.cells d).take (k * 3):=by
 apply List.ext_getElem?
 intro j
 by_cases hk:k<=d.length
 ·rw [List.getElem?_take]
  by_cases hj:j<k * 3
  ·rw [if_pos hj];have hq:j / 3<k:=by omega
   have hm:j % 3<3:=by omega
   have e:j / 3 * 3+j % 3=j:=by omega
   have h1:=KM.cells_get (d.take k) (j / 3) (by rw [List.length_take];omega) (j % 3) hm;have h2:=KM.cells_get d (j / 3) (by omega) (j % 3) hm;have hk3:KM.k=3:=rfl;rw [hk3,e] at h1 h2;rw [h1,h2,List.getElem_take]
  ·rw [if_neg hj,List.getElem?_eq_none];have:=KM.cells_len (d.take k);have hk3:KM.k=3:=rfl;rw [this,hk3,List.length_take];omega
 ·rw [List.take_of_length_le (by omega),List.take_of_length_le (by rw [KM.cells_len];show d.length * 3<=_;omega)]
theorem zMb {n0 g n cap:Nat} {w:World} {d:List Tm} (h:KM.Own n0 w (.slice (some ⟨g,0,none⟩) n cap) d) (k:Nat) (hk:k<=d.length) :
  KM.Own n0 w (.slice (some ⟨g,0,none⟩) k cap) (d.take k):=by
 have hl:(d.take k).length=k:=by rw [List.length_take];omega
 rcases h.2 with ⟨hv,_⟩|⟨g',cap',cur,hv,h1,h2,h3,h4,h5,h6⟩
 ·cases hv
 ·injection hv with e1 e2 e3
  injection e1 with e1
  injection e1 with e1 _ _
  subst e1 e3;refine ⟨by rw [KM.cells_len],Or.inr ⟨g,cap,cur,by rw [hl],h1,h2,by rw [hl];omega,h4,h5,?_⟩⟩;rw [hl,zMX,<-h6,List.take_take]
  congr 1
  have hk3:KM.k=3:=rfl;rw [hk3];omega
theorem zK3 {n0 g n cap:Nat} {d:List Tm} (vs:List Value):∀(w:World) (o:Nat),KM.Own n0 w (.slice (some ⟨g,0,none⟩) n cap) d->d.length=n->n * 3<=o->KM.Own n0 (w.setCells g o vs) (.slice (some ⟨g,0,none⟩) n cap) d:=by
 induction vs with
 | nil=>intro w o h _ _;exact h
 | cons v vs ih =>
  intro w o h hn ho;rw [World.setCells];refine ih _ _ ?_ hn (by omega);subst hn;have h1:=(World.ownsRow.stored h o v).1;rw [List.set_eq_of_length_le (by rw [KM.cells_len];exact ho)] at h1;exact h1
theorem zGU {g:Nat} (vs:List Value):∀(w w0:World) (o:Nat),w0.grownBy w (some g)->w0.grownBy (w.setCells g o vs) (some g):=by
 induction vs with
 | nil=>intro w w0 o h;exact h
 | cons v vs ih=>intro w w0 o h;rw [World.setCells];exact ih _ _ _ (zAT h (zZ w g o v))
theorem zIY:∀(d:List Tm) (t:Nat),t<d.length * 3->(KM.cells d)[t]? = some (uC d[t / 3]!)[t % 3]!:=by
 intro d t h;have hq:t / 3<d.length:=by omega
 have hm:t % 3<3:=by omega
 have e:t / 3 * 3+t % 3=t:=by omega
 have h1:=KM.cells_get d (t / 3) hq (t % 3) hm;have hk3:KM.k=3:=rfl;rw [hk3,e] at h1;rw [h1,getElem!_pos d (t / 3) hq];have hl:(uC d[t / 3]).length=3:=rfl;show (uC d[t / 3])[t % 3]? = _;rw [List.getElem?_eq_getElem (by rw [hl];exact hm),getElem!_pos _ _ (by rw [hl];exact hm)]
theorem fE {n0 g n cap:Nat} {w:World} {d:List Tm} (h:KM.Own n0 w (.slice (some ⟨g,0,none⟩) n cap) d):HoldsK uC 3 w g 0 d.toArray:=by
 rcases h.2 with ⟨hv,_⟩|⟨g',cap',cur,hv,h1,h2,h3,h4,h5,h6⟩
 ·cases hv
 ·injection hv with e1 e2 e3
  injection e1 with e1
  injection e1 with e1 _ _
  subst e1;intro j hj;rw [size_flatK] at hj;have hj':j<d.length * 3:=by simpa using hj
  have hg:=zIY d j hj';have hk3:KM.k=3:=rfl;rw [<-h6,hk3,List.getElem?_take_of_lt hj'] at hg;rw [get_flatK _ _ _ _ hj];constructor
  ·simp only [World.cell?,h2,Nat.zero_add]
   have he:d[j / 3]! = d.toArray[j / 3]!:=by
    rw [getElem!_pos d (j / 3) (by omega),getElem!_pos d.toArray (j / 3) (by simp;omega)];simp
   rw [<-Array.getElem?_toList,hg,he];rfl
  ·simp [World.frozen?,h2]
theorem zE7 {B:Nat} {w0 w:World} (h:Below B w0 w) (hB:B<=w.heap.size) (blk off n:Nat) (d:Array Tm) (os:Array Obj) (hb:B<=blk):Below B w0 (sortWorldK uC 3 w blk off n d os):=by
 refine h.trans ⟨rfl,rfl,rfl,?_,?_⟩
 ·simp [sortWorldK,putRowK]
 ·intro k hk;have hks:k<w.heap.size:=by omega
  simp only [sortWorldK,Sort.grow,putRowK,putRow,mapBlock,Sort.ahead];rw [Array.getElem?_append_left (by simpa using hks),Array.getElem?_modify,if_neg (by omega)]
theorem zHB {n0 g n cap:Nat} {w:World} {d:List Tm} (h:KM.Own n0 w (.slice (some ⟨g,0,none⟩) n cap) d) (e:Array Tm) (he:e.size=d.length) (m:Nat) (os:Array Obj) :
  KM.Own n0 (sortWorldK uC 3 w g 0 m e os) (.slice (some ⟨g,0,none⟩) n cap) e.toList:=by
 have hH:=fE h
 rcases h.2 with ⟨hv,_⟩|⟨g',cap',cur,hv,h1,h2,h3,h4,h5,h6⟩
 ·cases hv
 ·injection hv with e1 e2 e3
  injection e1 with e1
  injection e1 with e1 _ _
  subst e1 e2 e3;have hgl:=(Array.getElem?_eq_some_iff.1 h2).1;have hl:e.toList.length=d.length:=by simpa using he
  have hheap:(sortWorldK uC 3 w g 0 m e os).heap[g]? = some (.cells (putCells id 0 (flatK uC 3 e) cur) KM.T (0,0)):=by
   simp only [sortWorldK,Sort.grow,putRowK,putRow,mapBlock,Sort.ahead];rw [Array.getElem?_append_left (by simpa using hgl),Array.getElem?_modify,if_pos rfl,h2];rfl
  have hH2:HoldsK uC 3 (sortWorldK uC 3 w g 0 m e os) g 0 e:=by
   exact holdsK_grow uC 3 _ os g 0 _ (by simpa [putRowK] using hgl) (holdsK_putRowK uC 3 (Sort.ahead w m) g 0 _ _ (holdsK_ahead uC 3 w m g 0 _ hH) (by simpa using he))
  have hsz:(putCells id 0 (flatK uC 3 e) cur).size=cur.size:=by simp [putCells]
  refine ⟨by rw [KM.cells_len],Or.inr ⟨g,cap,_,by rw [hl],h1,hheap,by rw [hl];exact h3,h4,by rw [hsz];exact h5,?_⟩⟩;apply List.ext_getElem?;intro j;have hk3:KM.k=3:=rfl;rw [hl,hk3,List.getElem?_take]
  by_cases hj:j<d.length * 3
  ·rw [if_pos hj,zIY e.toList j (by omega)];have:=(hH2 j (by rw [size_flatK];omega)).1;rw [get_flatK _ _ _ _ (by omega)] at this;simp only [World.cell?,hheap,Nat.zero_add] at this;simp only [Option.isSome_none,Bool.false_eq_true,if_false] at this;rw [Array.getElem?_toList,this]
   have he2:e.toList[j / 3]! = e[j / 3]!:=by
    rw [getElem!_pos e (j / 3) (by omega),getElem!_pos e.toList (j / 3) (by simp;omega)];simp
   rw [he2];rfl
  ·rw [if_neg hj,List.getElem?_eq_none];rw [KM.cells_len,hk3,hl];omega
def zDP (x y:Tm):Int:=mY (Lib.compareBytes x.1.data.toList y.1.data.toList) (mY (Lib.compareInt x.2.1 y.2.1) (Lib.compareBytes x.2.2.data.toList y.2.2.data.toList))
theorem jV (y:Int):mY 0 y=y:=rfl
theorem kO {x:Int} (h:x≠0) (y:Int):mY x y=x:=by unfold mY;rw [if_neg h]
theorem zAk (x y:Tm):ltOf zDP x y=ltM x y:=by
 obtain ⟨a1,a2,a3⟩:=x;obtain ⟨b1,b2,b3⟩:=y;show decide (mY (Lib.compareBytes a1.data.toList b1.data.toList) (mY (Lib.compareInt a2 b2) (Lib.compareBytes a3.data.toList b3.data.toList))<0)=if a1≠b1 then ltB a1 b1 else if a2≠b2 then decide (a2<b2) else ltB a3 b3
 by_cases h1:a1=b1
 ·subst h1;rw [if_neg (show ¬ (a1≠a1) by simp),zAr,jV]
  by_cases h2:a2=b2
  ·subst h2;have hc:Lib.compareInt a2 a2=0:=by unfold Lib.compareInt;simp
   rw [if_neg (show ¬ (a2≠a2) by simp),hc,jV];rfl
  ·rw [if_pos h2]
   rcases Int.lt_or_gt_of_ne h2 with h|h
   ·have hc:Lib.compareInt a2 b2=-1:=by unfold Lib.compareInt;simp [h]
    rw [hc,kO (by decide)];simp [h]
   ·have hn:¬ a2<b2:=by omega
    have hc:Lib.compareInt a2 b2=1:=by unfold Lib.compareInt;simp [hn,h]
    rw [hc,kO (by decide)];simp [hn]
 ·have hc:Lib.compareBytes a1.data.toList b1.data.toList≠0:=fun e=>h1 (nN ((zAe _ _).1 e))
  rw [if_pos h1,kO hc];rfl
theorem zO9:SWO (ltOf zDP) where
 irrefl x:=by rw [zAk];exact tP x
 trans x y z h1 h2:=by rw [zAk] at *;exact mP h1 h2
 ntrans x y z h1 h2:=by
  rw [zAk] at *
  cases h:ltM x z with
  | false=>rfl
  | true =>
   rcases fC x y with h3|h3|h3
   ·rw [h1] at h3;cases h3
   ·rw [h3,h2] at h;cases h
   ·rw [mP h3 h] at h2;cases h2
theorem zAt {d:Array Tm} (hs:SortedIn (ltOf zDP) 0 d.size d):uR (compactUpTo d d.size)/\∀x,x∈compactUpTo d d.size↔x∈d.toList:=by
 have hle:∀i j,i<=j->j<d.size->ltM d[j]! d[i]! = false:=by
  intro i j hij hj
  rcases Nat.lt_or_ge i j with h|h
  ·have:=hs i j (Nat.zero_le _) h hj
   rwa [zAk] at this
  ·obtain rfl:i=j:=by omega
   exact tP _
 have key:∀m,m<=d.size->uR (compactUpTo d m)/\∀x,x∈compactUpTo d m↔∃j,j<m/\d[j]! = x:=by
  intro m
  induction m with
  | zero=>intro _;exact ⟨List.Pairwise.nil,fun x=>by simp [compactUpTo]⟩
  | succ m ih =>
   intro hm;obtain ⟨h1,h2⟩:=ih (by omega);rw [compactUpTo_succ]
   cases hk:keeps d m with
   | true =>
    rw [if_pos rfl];constructor
    ·refine List.pairwise_append.2 ⟨h1,List.pairwise_singleton _ _,fun x hx y hy=>?_⟩;rw [List.mem_singleton] at hy;subst hy;obtain ⟨j,hj,rfl⟩:=(h2 x).1 hx
     have hne:d[m]!≠d[m-1]!:=by
      unfold keeps at hk
      rcases of_decide_eq_true hk with h|h
      ·omega
      ·exact h
     have ha:=hle j (m-1) (by omega) (by omega);have hb:=hle (m-1) m (by omega) (by omega)
     rcases fC d[j]! d[m]! with h|h|h
     ·exact h
     ·rw [h] at ha
      rcases fC d[m-1]! d[m]! with h'|h'|h'
      ·rw [ha] at h';cases h'
      ·exact absurd h'.symm hne
      ·rw [hb] at h';cases h'
     ·rw [hle j m (by omega) (by omega)] at h;cases h
    ·intro x;rw [List.mem_append,List.mem_singleton,h2];constructor
     ·rintro (⟨j,hj,e⟩|e)
      ·exact ⟨j,by omega,e⟩
      ·exact ⟨m,by omega,e.symm⟩
     ·rintro ⟨j,hj,e⟩
      by_cases hjm:j=m
      ·subst hjm;exact Or.inr e.symm
      ·exact Or.inl ⟨j,by omega,e⟩
   | false =>
    rw [if_neg (by simp),List.append_nil];refine ⟨h1,fun x=>?_⟩;rw [h2];constructor
    ·rintro ⟨j,hj,e⟩;exact ⟨j,by omega,e⟩
    ·rintro ⟨j,hj,e⟩
     by_cases hjm:j=m
     ·subst hjm;have hh:¬ (j=0∨d[j]!≠d[j-1]!):=by unfold keeps at hk;exact of_decide_eq_false hk
      have h0:j≠0:=fun e=>hh (Or.inl e)
      have h3:d[j]! = d[j-1]!:=Classical.byContradiction fun e=>hh (Or.inr e)
      exact ⟨j-1,by omega,by rw [<-h3];exact e⟩
     ·exact ⟨j,by omega,e⟩
 obtain ⟨h1,h2⟩:=key d.size (Nat.le_refl _);refine ⟨h1,fun x=>(h2 x).trans ?_⟩;rw [List.mem_iff_getElem];constructor
 ·rintro ⟨j,hj,e⟩;exact ⟨j,by simpa using hj,by rw [<-e,getElem!_pos d j hj];simp⟩
 ·rintro ⟨j,hj,e⟩;have hj':j<d.size:=by simpa using hj
  exact ⟨j,hj',by rw [getElem!_pos d j hj',<-e];simp⟩
end
section
open Go.RowKit Go.Sort Go.Lib
theorem zNw (g:Nat) (a b c:Int) (w:World) (c0:w.cell? ⟨g,0,none⟩=some (.int .i64 a)) (c1:w.cell? ⟨g,1,none⟩=some (.int .i64 b)) (c2:w.cell? ⟨g,2,none⟩=some (.int .i64 c)) :
  Calls Tryz.prog 198 #[.slice (some ⟨g,0,none⟩) 3 3] w fun e w'=>e=.returned (.int .i64 (mY a (mY b c)))/\w'=w:=by
 by_cases ha:a=0
 ·subst ha;rw [jV]
  by_cases hb:b=0
  ·subst hb;rw [jV]
   by_cases hc:c=0
   ·subst hc;go_enter Tryz.func198,Tryz.ntmps198;go_wp2_with fail;refine wp_loop_rounds 4 ?_;rw [rounds_succ];go_wp2_with fail;rw [rounds_succ];go_wp2_with fail;rw [rounds_succ];go_wp2_with fail;rw [rounds_succ];go_wp2_with fail;go_ret;exact ⟨rfl,rfl⟩
   ·have hcn:(c != 0)=true:=by simpa using hc
    go_enter Tryz.func198,Tryz.ntmps198
    go_wp2_with fail
    refine wp_loop_rounds 3 ?_;rw [rounds_succ];go_wp2_with fail;rw [rounds_succ];go_wp2_with fail;rw [rounds_succ];go_wp2_with fail;go_ret;exact ⟨rfl,rfl⟩
  ·have hbn:(b != 0)=true:=by simpa using hb
   rw [kO hb];go_enter Tryz.func198,Tryz.ntmps198;go_wp2_with fail;refine wp_loop_rounds 2 ?_;rw [rounds_succ];go_wp2_with fail;rw [rounds_succ];go_wp2_with fail;go_ret;exact ⟨rfl,rfl⟩
 ·have han:(a != 0)=true:=by simpa using ha
  rw [kO ha];go_enter Tryz.func198,Tryz.ntmps198;go_wp2_with fail;refine wp_loop_rounds 1 ?_;rw [rounds_succ];go_wp2_with fail;go_ret;exact ⟨rfl,rfl⟩
theorem zFN (x y:Tm) (w:World):Calls Tryz.prog 164 #[.agg (uC x).toArray,.agg (uC y).toArray] w fun e w'=>e=.returned (.int .i64 (zDP x y))/\zK w w':=by
 obtain ⟨a1,a2,a3⟩:=x;obtain ⟨b1,b2,b3⟩:=y;simp only [uC];obtain ⟨p1,hp1⟩:∃p,Lib.compareBytes a1.data.toList b1.data.toList=p:=⟨_,rfl⟩;obtain ⟨p2,hp2⟩:∃p,Lib.compareInt a2 b2=p:=⟨_,rfl⟩;obtain ⟨p3,hp3⟩:∃p,Lib.compareBytes a3.data.toList b3.data.toList=p:=⟨_,rfl⟩;have HC:Hid (zDP (a1,a2,a3) (b1,b2,b3)=mY p1 (mY p2 p3)):=by show _=_;rw [<-hp1,<-hp2,<-hp3];rfl
 have H1:Hid (∀w,Calls Tryz.prog 199 #[tq a1,tq b1] w fun e w'=>e=.returned (ii p1)/\w'=w):=fun w=>by rw [<-hp1];exact Tryz.strings_Compare _ _ _
 have H2:Hid (∀w,Calls Tryz.prog 200 #[ii a2,ii b2] w fun e w'=>e=.returned (ii p2)/\w'=w):=fun w=>by rw [<-hp2];exact Tryz.cmp_Compare_int _ _ _
 have H3:Hid (∀w,Calls Tryz.prog 199 #[tq a3,tq b3] w fun e w'=>e=.returned (ii p3)/\w'=w):=fun w=>by rw [<-hp3];exact Tryz.strings_Compare _ _ _
 clear hp1 hp2 hp3;go_enter Tryz.func164,Tryz.ntmps164;go_wp2_with fail;obtain ⟨W,hW⟩:∃W,(w.alloc (.cells #[tq a1,ii a2,tq a3] 49)).alloc (.cells #[tq b1,ii b2,tq b3] 49)=W:=⟨_,rfl⟩;obtain ⟨N,hN⟩:∃N,w.heap.size=N:=⟨_,rfl⟩;have hs:W.heap.size=N+2:=by rw [<-hW,<-hN];simp
 have hh0:W.heap[N]? = some (.cells #[tq a1,ii a2,tq a3] 49 (0,0)):=by
  rw [<-hW,<-hN];exact (Below.heap_alloc _ _ _ (by simp)).trans (heap_alloc_new w _)
 have hh1:W.heap[N+1]? = some (.cells #[tq b1,ii b2,tq b3] 49 (0,0)):=by
  rw [<-hW,<-hN];have:=heap_alloc_new (w.alloc (.cells #[tq a1,ii a2,tq a3] 49)) (.cells #[tq b1,ii b2,tq b3] 49);rwa [World.size_alloc] at this
 have HG:Hid (zK w W):=by rw [<-hW];exact ((zK.refl _).alloc _).alloc _
 have KS:Hid (∀w':World,w'.heap[N]? = W.heap[N]?->w'.heap[N+1]? = W.heap[N+1]?->w'.cell? (aa N 0)=some (tq a1)/\w'.cell? (aa N 1)=some (ii a2)/\w'.cell? (aa N 2)=some (tq a3)/\w'.cell? (aa (N+1) 0)=some (tq b1)/\w'.cell? (aa (N+1) 1)=some (ii b2)/\w'.cell? (aa (N+1) 2)=some (tq b3)):=fun w' e e'=>by
  rw [Lib.cell_of_heap (e.trans hh0),Lib.cell_of_heap (e.trans hh0),Lib.cell_of_heap (e.trans hh0),Lib.cell_of_heap (e'.trans hh1),Lib.cell_of_heap (e'.trans hh1),Lib.cell_of_heap (e'.trans hh1)];exact ⟨rfl,rfl,rfl,rfl,rfl,rfl⟩
 have q0:=KS.out W.drew rfl rfl;have q1:=KS.out (W.drew.alloc (.cells #[ii p1,ii p2,ii p3] 3)) (Below.heap_alloc _ _ _ (by show N<W.heap.size;omega)) (Below.heap_alloc _ _ _ (by show N+1<W.heap.size;omega))
 have HO:Hid (Calls Tryz.prog 198 #[sc (some (aa W.heap.size 0)) 3 3] (W.drew.alloc (.cells #[ii p1,ii p2,ii p3] 3)) fun e w'=>e=.returned (ii (mY p1 (mY p2 p3)))/\w'=W.drew.alloc (.cells #[ii p1,ii p2,ii p3] 3)) :=
  zNw W.drew.heap.size p1 p2 p3 _ (by rw [Lib.cell_of_heap (heap_alloc_new W.drew _)];rfl) (by rw [Lib.cell_of_heap (heap_alloc_new W.drew _)];rfl) (by rw [Lib.cell_of_heap (heap_alloc_new W.drew _)];rfl)
 clear hh0 hh1 hs;rw [hN];rw [hW];clear hW hN
 go_region_held3 (fun w'=>w'.cell? (aa N 0)=some (tq a1)/\w'.cell? (aa N 1)=some (ii a2)/\w'.cell? (aa N 2)=some (tq a3)/\w'.cell? (aa (N+1) 0)=some (tq b1)/\w'.cell? (aa (N+1) 1)=some (ii b2)/\w'.cell? (aa (N+1) 2)=some (tq b3))
  (first|exact q0|exact q1)
  (first
   | (go_at_call 199;refine (H1.out _).mono ?_;rintro e w1 ⟨rfl,rfl⟩)
   | (go_at_call 199;refine (H3.out _).mono ?_;rintro e w1 ⟨rfl,rfl⟩)
   | (go_at_call 200;refine (H2.out _).mono ?_;rintro e w1 ⟨rfl,rfl⟩)
   | (go_at_call 198;refine HO.out.mono ?_;rintro e w1 ⟨rfl,rfl⟩))
 go_wp2_with fail
 go_ret;exact ⟨yY HC.out.symm,(HG.out.drewN 1).alloc _⟩
theorem zLx (blk off size:Nat) (w:World):CmpLays Tryz.prog 164 #[] uC 3 zDP blk off size w :=
 fun _ _ _ _ x y=>zFN x y _
theorem zBK:∀args w,(callFunc 164 args).run Tryz.prog w=.ok (.enter 164 args) w:=enters_of Tryz.func164 (by kernel_rfl) rfl
theorem zGO (n0 g n cap:Nat) (d:List Tm) (w:World) (h:KM.Own n0 w (.slice (some ⟨g,0,none⟩) n cap) d) (hn:d.length=n) (h0:n0<=w.heap.size) (h12:n<=12) :
  Calls Tryz.prog 163 #[.slice (some ⟨g,0,none⟩) n cap,.func (.func 164) #[] #[]] w fun e w' =>
   e=.returned (.tuple #[])/\∃d':Array Tm,d'.size=n/\d'.toList.Perm d/\SortedIn (ltOf zDP) 0 d'.size d'/\KM.Own n0 w' (.slice (some ⟨g,0,none⟩) n cap) d'.toList/\Below n0 w w':=by
 subst hn
 have hg:g<w.heap.size/\n0<=g:=by
  rcases h.2 with ⟨hv,_⟩|⟨g',cap',cur,hv,h1,h2,_⟩
  ·cases hv
  ·injection hv with e1 e2 e3
   injection e1 with e1
   injection e1 with e1 _ _
   subst e1;exact ⟨(Array.getElem?_eq_some_iff.1 h2).1,h1⟩
 have hs:d.toArray.size=d.length:=by simp
 have hc:=AnyQ.slices_SortFunc_small_sorted Tryz.sortTrm 3 Tryz.isAgg49 Tryz.sizeOf49 uC (fun _=>rfl) KM.one zDP 164 #[] zO9 g 0 cap d.toArray w zBK (zLx g 0 _ w) (fE h) hg.1 (by rw [hs];exact h12)
  (fun n W hn=>(Tryz.bits_Len (n:Int) W (by omega) (by omega)).mono fun e w' ⟨h1,h2⟩=>⟨⟨_,h1⟩,h2⟩)
 rw [hs] at hc
 change Calls Tryz.prog 163 _ _ _ at hc
 refine hc.mono ?_;rintro e w' ⟨rfl,d',m,os,hp,hso,rfl⟩;have hsz:d'.size=d.length:=by have:=hp.1;rwa [hs] at this
 refine ⟨rfl,d',hsz,?_,by rw [hsz];exact hso,zHB h d' hsz m os,zE7 (Below.refl _ _) h0 g 0 m d' os hg.2⟩;have:=hp.2.2;have e1:d'.extract 0 d.length=d':=by rw [<-hsz];simp
 have e2:d.toArray.extract 0 d.length=d.toArray:=by rw [<-hs];simp
 rw [e1,e2] at this
 simpa using this
end
section
open Go.RowKit Go.Sort Go.Lib
theorem zLh (a b:Tm) (w:World):(binOp .eql 49 (.agg #[.string a.1,.int .i64 a.2.1,.string a.2.2]) (.agg #[.string b.1,.int .i64 b.2.1,.string b.2.2])).run Tryz.prog w=.ok (.bool (decide (a=b))) w:=by
 obtain ⟨a1,a2,a3⟩:=a;obtain ⟨b1,b2,b3⟩:=b;have hS:Tryz.prog.underlying 49=some (.struct (Tryz.prog.fieldsOf 49)):=by kernel_rfl
 have hp:Tryz.prog.stoodInHeld 49=false:=by kernel_rfl
 have u9:=Tryz.underlying9;have a9:=Tryz.isAgg9;have z9:=Tryz.sizeOf9;have u3:=Tryz.underlying3;have a3':=Tryz.isAgg3;have z3:=Tryz.sizeOf3;rw [run_eql_struct,show (10000:Nat)=9999+1 from rfl,run_equalIn_agg w 9999 49 _ _ hS hp];simp only [Program.fieldsOf,Tryz.underlying49]
 go_simp
 by_cases h1:a1=b1
 ·subst h1
  by_cases h2:a2=b2
  ·subst h2
   by_cases h3:a3=b3
   ·subst h3;simp
   ·have e3:=beq_eq_false_iff_ne.1 (wI h3);simp [h3,e3]
  ·simp [h2]
 ·have e1:=beq_eq_false_iff_ne.1 (wI h1);simp [h1,e1]
theorem zGK (w:World) (ty:TypeId) (g o n c:Nat) (hn:0<n) (hc:∀j,j<n * 3->(w.cell? ⟨g,o+j,none⟩).isSome=true) (hf:∀j,j<n * 3->w.frozen? ⟨g,o+j,none⟩=false) :
  ∃zs:List Value,(Builtin.clear_ #[39] ty #[.slice (some ⟨g,o,none⟩) n c]).run Tryz.prog w=.ok (.tuple #[]) (w.setCells g o zs):=by
 have hv:∀w,(zeroValue 49).run Tryz.prog w=.ok (.agg #[tq ⟨#[]⟩,ii 0,tq ⟨#[]⟩]) w:=Tryz.zeroValue49;obtain ⟨zs,hzs⟩:∃zs,(Builtin.zeroCells (Value.agg #[tq ⟨#[]⟩,ii 0,tq ⟨#[]⟩]).cells n).toList=zs:=⟨_,rfl⟩;have hl:zs.length=n * 3:=by rw [<-hzs,Array.length_toList,size_zeroCells];rfl
 have h1:∀v∈zs,v.oneCell'=true:=by
  intro v hm;rw [<-hzs] at hm;simp only [Builtin.zeroCells,Array.toList_map,List.mem_map] at hm;obtain ⟨i,_,rfl⟩:=hm;have h3:i % (Value.agg #[tq ⟨#[]⟩,ii 0,tq ⟨#[]⟩]).cells.size<3:=Nat.mod_lt _ (by decide);obtain ⟨m,hm⟩:∃m,i % (Value.agg #[tq ⟨#[]⟩,ii 0,tq ⟨#[]⟩]).cells.size=m:=⟨_,rfl⟩;rw [hm] at h3 ⊢
  rcases (show m=0∨m=1∨m=2 by omega) with rfl|rfl|rfl<;>rfl
 refine ⟨zs,?_⟩;have hst:=run_storeCells_cells (P:=Tryz.prog) g o zs 0 w (by rw [hl];simpa using hc) (by rw [hl];simpa using hf) h1;simp only [Nat.add_zero] at hst;obtain ⟨m,rfl⟩:∃m,n=m+1:=⟨n-1,by omega⟩;simp [Builtin.clear_,run_underlying Tryz.underlying39,hv,hzs,hst]
theorem jK {n0 g n cap:Nat} {w:World} {d:Array Tm} (h:KM.Own n0 w (.slice (some ⟨g,0,none⟩) n cap) d.toList) (i:Nat) (hi:i<d.size) :
  w.cell? ⟨g,i * 3,none⟩=some (.string (d[i]!).1)/\w.cell? ⟨g,i * 3+1,none⟩=some (.int .i64 (d[i]!).2.1)/\w.cell? ⟨g,i * 3+2,none⟩=some (.string (d[i]!).2.2) /\
  w.frozen? ⟨g,i * 3,none⟩=false/\w.frozen? ⟨g,i * 3+1,none⟩=false/\w.frozen? ⟨g,i * 3+2,none⟩=false:=by
 have hH:=fE h;have hi':i<d.toList.toArray.size:=by simpa using hi
 have k0:=hH.cell (i:=i) (c:=0) hi' (by decide);have k1:=hH.cell (i:=i) (c:=1) hi' (by decide);have k2:=hH.cell (i:=i) (c:=2) hi' (by decide);have he:d.toList.toArray[i]! = d[i]!:=by simp
 rw [he] at k0 k1 k2;simp only [Nat.zero_add,Nat.add_zero] at k0 k1 k2;exact ⟨k0.1,k1.1,k2.1,k0.2,k1.2,k2.2⟩
theorem zEU {n0 g n cap:Nat} {w:World} {d:Array Tm} (h:KM.Own n0 w (.slice (some ⟨g,0,none⟩) n cap) d.toList) (t:Nat) (ht:t<d.size * 3) :
  (w.cell? ⟨g,t,none⟩).isSome=true/\w.frozen? ⟨g,t,none⟩=false:=by
 have:=fE h t (by rw [size_flatK];simpa using ht);rw [Nat.zero_add] at this;exact ⟨by rw [this.1];rfl,this.2⟩
theorem zNj {n0 g n cap:Nat} {w:World} {d:List Tm} (h:KM.Own n0 w (.slice (some ⟨g,0,none⟩) n cap) d):n0<=g/\g<w.heap.size/\d.length<=cap/\cap<=maxLen:=by
 rcases h.2 with ⟨hv,_⟩|⟨g',cap',cur,hv,h1,h2,h3,h4,_⟩
 ·cases hv
 ·injection hv with e1 e2 e3
  injection e1 with e1
  injection e1 with e1 _ _
  subst e1 e3;exact ⟨h1,(Array.getElem?_eq_some_iff.1 h2).1,h3,h4⟩
theorem dU {n0:Nat} {w:World} {v:Value} {d:List Tm} (h:KM.Own n0 w v d) (q:Nat):KM.Own n0 (w.drewN q) v d:=h
theorem zD3 {d:Array Tm} (h:∀j,j<d.size->keeps d j=true):compactUpTo d d.size=d.toList:=by
 rw [compactUpTo_all d _ h,range_map_get]
theorem zLb {d dk:Array Tm} {m k:Nat} (h:CompInv d m k dk) (hk:k<=dk.size):dk.toList.take k=compactUpTo d m:=by
 apply List.ext_getElem?
 intro j;rw [List.getElem?_take]
 by_cases hj:j<k
 ·rw [if_pos hj,h.low j hj,Array.getElem?_toList,Array.getElem?_eq_getElem (by omega),getElem!_pos dk j (by omega)]
 ·rw [if_neg hj,List.getElem?_eq_none (by rw [h.len];omega)]
def nK (n0 g cap:Nat) (d:Array Tm) (w:World) (e:Ending) (w':World):Prop :=
 e=.returned (.slice (some ⟨g,0,none⟩) (compactUpTo d d.size).length cap)/\KM.Own n0 w' (.slice (some ⟨g,0,none⟩) (compactUpTo d d.size).length cap) (compactUpTo d d.size)/\Below n0 w w'
theorem nK.same {n0 g n cap:Nat} {d:Array Tm} {w:World} (h:KM.Own n0 w (.slice (some ⟨g,0,none⟩) n cap) d.toList) (hn:d.size=n) (hk:∀j,j<d.size->keeps d j=true) (q:Nat) :
  nK n0 g cap d w (.returned (.slice (some ⟨g,0,none⟩) n cap)) (w.drewN q):=by
 subst hn;unfold nK;rw [zD3 hk];refine ⟨by simp,?_,zP (Below.refl _ _) q⟩;have:d.toList.length=d.size:=by simp
 rw [this];exact dU h q
theorem zE3 (n0 g n cap:Nat) (d:Array Tm) (w:World) (h:KM.Own n0 w (.slice (some ⟨g,0,none⟩) n cap) d.toList) (hn:d.size=n) (hn0:n0<=w.heap.size) (h63:n<=1000) :
  Calls Tryz.prog 165 #[.slice (some ⟨g,0,none⟩) n cap] w fun e w'=>nK n0 g cap d w e w':=by
 obtain ⟨hng,hgl,hcap,hcm⟩:=zNj h;have hcap':n<=cap:=by rw [<-hn];simpa using hcap
 unfold maxLen at hcm;have HH:=hid h;have HN:=hid hn;clear h hn hcap
 by_cases h2:n<2
 ·have h2z:(n:Int)<2:=by omega
  have HP:=hid (nK.same HH.out HN.out (fun j hj=>keeps_lt_one d j (by rw [HN.out] at hj;omega)) 0);go_enter Tryz.func165,Tryz.ntmps165;go_wp2_with fail;go_ret;exact HP.out
 ·have h2z:¬ (n:Int)<2:=by omega
  go_enter Tryz.func165,Tryz.ntmps165
  go_wp2_with fail
  go_loopg [3] n (fun g s3 wr=>∃k q:Nat,1<=k/\k<=n/\n-k<=g/\s3=ii k/\wr=w.drewN q/\Hid (∀j,j<k->keeps d j=true))
  case atStart=>exact ⟨1,0,Nat.le_refl _,by omega,by omega,rfl,rfl,keeps_lt_one d⟩
  case round =>
   obtain ⟨k,q,hk1,hk,hg,rfl,rfl,A⟩:=hrel
   by_cases hlt:k<n
   ·have hltz:(k:Int)<(n:Int):=by omega
    have hkz:(0:Int)<=k:=by omega
    have hkz1:(0:Int)<=(k:Int)-1:=by omega
    have hkz2:(k:Int)-1<(n:Int):=by omega
    have hkt:((k:Int)-1).toNat=k-1:=by omega
    obtain ⟨c0,c1,c2,_,_,_⟩:=jK HH.out k (by rw [HN.out];exact hlt);obtain ⟨y0,y1,y2,_,_,_⟩:=jK HH.out (k-1) (by rw [HN.out];omega);obtain ⟨x,hx⟩:∃x,d[k]! = x:=⟨_,rfl⟩;obtain ⟨y,hy⟩:∃y,d[k-1]! = y:=⟨_,rfl⟩;rw [hx] at c0 c1 c2;rw [hy] at y0 y1 y2;have B:Hid (d[k]! = x/\d[k-1]! = y):=⟨hx,hy⟩;have heq:=fun W=>zLh x y W
    clear hx hy
    by_cases hdup:x=y
    ·have hd:=decide_eq_true hdup;rw [hd] at heq;have HDUP:=hid hdup;clear hdup hd;go_wp2_with fail
     go_quiet (fail)
     go_wp2_with fail
     clear c0 c1 c2 y0 y1 y2;have ST0:Hid (CompInv d (k+1) k d):=CompInv.start A.out (keeps_neg (by omega) (by rw [B.out.1,B.out.2];exact HDUP.out))
     go_loopg [3,5] n (fun gm s3 s5 wr=>∃(kk k2:Nat) (dk:Array Tm),s3=ii kk/\s5=ii k2/\1<=k2/\k+k2<=n/\n-(k+k2)<=gm/\kk<k+k2/\Hid (CompInv d (k+k2) kk dk)/\Hid (KM.Own n0 wr (sc (some (aa g 0)) n cap) dk.toList)/\Hid (Below n0 w wr))
     case atStart=>exact ⟨k,1,d,rfl,rfl,Nat.le_refl _,by omega,by omega,by omega,ST0,dU HH.out _,zP (Below.refl _ _) _⟩
     case round =>
      obtain ⟨kk,k2,dk,rfl,rfl,h1,hle,hg2,hkk,I2,HO,HB⟩:=hrel;have hds:dk.size=n:=by rw [I2.out.size];exact HN.out
      have hkz':(0:Int)<=kk:=by omega
      have hkn':(kk:Int)<(n:Int):=by omega
      have hk2z:(0:Int)<=k2:=by omega
      have hk2m:(0:Int)<=(k2:Int)-1:=by omega
      have hk2t:((k2:Int)-1).toNat=k2-1:=by omega
      by_cases hlt2:k+k2<n
      ·have hl2:(k2:Int)<((n-k:Nat):Int):=by omega
       have hl3:(k2:Int)-1<((n-k:Nat):Int):=by omega
       obtain ⟨u0,u1,u2,_,_,_⟩:=jK HO.out (k+k2) (by omega);obtain ⟨v0,v1,v2,_,_,_⟩:=jK HO.out (k+k2-1) (by omega);obtain ⟨o0,o1,o2,f0,f1,f2⟩:=jK HO.out kk (by omega);rw [I2.out.high (k+k2) (by omega),show (k+k2) * 3=k * 3+k2 * 3 by omega] at u0 u1 u2;rw [I2.out.high (k+k2-1) (by omega),show (k+k2-1) * 3=k * 3+(k2-1) * 3 by omega] at v0 v1 v2;obtain ⟨u,hu⟩:∃u,d[k+k2]! = u:=⟨_,rfl⟩;obtain ⟨v,hv⟩:∃v,d[k+k2-1]! = v:=⟨_,rfl⟩;obtain ⟨old,hol⟩:∃old,dk[kk]! = old:=⟨_,rfl⟩;rw [hu] at u0 u1 u2;rw [hv] at v0 v1 v2;rw [hol] at o0 o1 o2;have C:Hid (d[k+k2]! = u/\d[k+k2-1]! = v):=⟨hu,hv⟩;have hne:=fun W=>zBQ u v W
       clear hu hv hol
       by_cases huv:u=v
       ·have hd:=decide_eq_true huv;rw [hd] at hne;have HUV:=hid huv;clear huv hd;go_wp2_with fail
        go_quiet (fail)
        go_wp2_with fail
        go_roundg (n-(k+(k2+1)))
        case measure=>omega
        exact ⟨kk,k2+1,dk,rfl,by go_num,by omega,by omega,Nat.le_refl _,by omega,I2.out.skip (keeps_neg (by omega) (by rw [C.out.1,C.out.2];exact HUV.out)),dU HO.out _,zP HB.out _⟩
       ·have hd:=decide_eq_false huv;rw [hd] at hne;have HUV:=hid huv;clear huv hd
        have HPUT:Hid (∀nq,KM.Own n0 ((((wr.drewN nq).setCell (aa g (kk * 3)) (tq u.1)).setCell (aa g (kk * 3+1)) (ii u.2.1)).setCell (aa g (kk * 3+2)) (tq u.2.2)) (sc (some (aa g 0)) n cap) (dk.setIfInBounds kk u).toList):=fun nq=>by
         rw [Array.toList_setIfInBounds];exact zMJ (dU HO.out nq) (by simpa using hds) kk (by rw [Array.length_toList];omega) u
        go_wp2_with fail
        go_quiet (fail)
        go_wp2_with fail
        go_roundg (n-(k+(k2+1)))
        case measure=>omega
        refine ⟨kk+1,k2+1,dk.setIfInBounds kk u,by go_num,by go_num,by omega,by omega,Nat.le_refl _,by omega,?_,HPUT.out _,(((zP HB.out _).setCell (p:=(aa g (kk * 3))) hng _).setCell (p:=(aa g (kk * 3+1))) hng _).setCell (p:=(aa g (kk * 3+2))) hng _⟩;have:=I2.out.keep (by rw [HN.out];exact hlt2) (keeps_pos (by rw [C.out.1,C.out.2];exact HUV.out));rw [C.out.1] at this;exact this
      ·have hend:k+k2=n:=by omega
       have hl2:¬ (k2:Int)<((n-k:Nat):Int):=by omega
       have hnk:0<n-kk:=by omega
       obtain ⟨zs,hcl⟩:∃zs:List Value,∀ty,(Builtin.clear_ #[39] ty #[sc (some (aa g (kk * 3))) (n-kk) (cap-kk)]).run Tryz.prog wr=.ok (.tuple #[]) (wr.setCells g (kk * 3) zs):=by
        obtain ⟨zs,hz⟩:=zGK wr 0 g (kk * 3) (n-kk) (cap-kk) hnk (fun j hj=>(zEU HO.out (kk * 3+j) (by omega)).1) (fun j hj=>(zEU HO.out (kk * 3+j) (by omega)).2);exact ⟨zs,fun ty=>hz⟩
       have HE:=hid hend;clear hend;go_wp2_with fail;go_ret;have hI:=I2.out;rw [HE.out,<-HN.out] at hI;have hlow:=zLb hI (by omega);have hln:=hI.len;unfold nK;rw [hln,<-hlow];refine ⟨rfl,zK3 zs wr (kk * 3) (zMb HO.out kk (by rw [Array.length_toList];omega)) (by rw [List.length_take,Array.length_toList];omega) (Nat.le_refl _),?_⟩;exact HB.out.grown (zGU zs wr wr (kk * 3) (by have:=zZ wr g 0 (ii 0);exact ⟨rfl,rfl,rfl,Nat.le_refl _,fun _ _ _=>rfl⟩)) (Nat.le_trans hn0 HB.out.size) (fun k e=>by cases e;exact hng)
    ·have hd:=decide_eq_false hdup;rw [hd] at heq;have HDUP:=hid hdup;clear hdup hd;go_wp2_with fail
     go_quiet (fail)
     go_wp2_with fail
     go_roundg (n-(k+1))
     case measure=>omega
     refine ⟨k+1,_,by omega,by omega,Nat.le_refl _,by go_num,rfl,fun j hj=>?_⟩
     by_cases e:j=k
     ·subst e;exact keeps_pos (by rw [B.out.1,B.out.2];exact HDUP.out)
     ·exact A.out j (by omega)
   ·have hkn:k=n:=by omega
    subst hkn;have HP:=hid (nK.same HH.out HN.out (fun j hj=>A.out j (by rw [HN.out] at hj;exact hj)) q);have hltz:¬ (k:Int)<(k:Int):=by omega
    go_wp2_with fail
    go_ret;exact HP.out
end
section
open Go.RowKit Go.Sort Go.Lib
theorem zLG (x:Tm) (w:World) (hs:x.1.size<=maxLen):Calls Tryz.prog 194 #[.agg (uC x).toArray] w fun e w'=>e=.returned (.bool (!uG x))/\zK w w':=by
 obtain ⟨a,o,t⟩:=x;simp only [uC,uG] at hs ⊢;go_enter Tryz.func194,Tryz.ntmps194;go_wp2_with (go_at_call 180;refine (bH _ _ hs).mono ?_;rintro e w' ⟨rfl,rfl⟩);go_ret;exact ⟨rfl,(zK.refl _).alloc _⟩
theorem zIf (x:Tm) (w:World):Calls Tryz.prog 195 #[.agg (uC x).toArray] w fun e w'=>e=.returned (.bool (!vR x))/\zK w w':=by
 obtain ⟨a,o,t⟩:=x;simp only [uC,vR]
 have HE:Hid (decide ((128:Int)<t.size) = !decide (t.size<=128)):=by
  show _=_
  rw [Bool.eq_iff_iff];simp;omega
 go_enter Tryz.func195,Tryz.ntmps195
 go_wp2_with fail
 go_ret;exact ⟨zA HE.out,(zK.refl _).alloc _⟩
theorem zFr (x:Tm) (w:World):Calls Tryz.prog 160 #[.agg (uC x).toArray] w fun e w'=>e=.returned (.bool (!yP x))/\zK w w':=by
 obtain ⟨a,o,t⟩:=x;simp only [uC]
 by_cases h6:o=6∨o=7
 ·have HE:Hid ((!t.toList.isEmpty) = !yP (a,o,t)):=by
   show _=_
   unfold yP;have e1:decide (1<=o)=true:=decide_eq_true (by omega);have e2:decide (o<=7)=true:=decide_eq_true (by omega);have e3:decide (o<6)=false:=decide_eq_false (by omega);simp only [e1,e2,e3,Bool.true_and,Bool.false_or]
   congr 1
   by_cases hz:t.size=0
   ·rw [fB hz,decide_eq_true hz]
   ·rw [mZ hz,decide_eq_false hz]
  rcases h6 with rfl|rfl
  ·go_enter Tryz.func160,Tryz.ntmps160
   go_wp2_with fail
   go_ret;exact ⟨zA HE.out,(zK.refl _).alloc _⟩
  ·go_enter Tryz.func160,Tryz.ntmps160
   go_wp2_with fail
   go_ret;exact ⟨zA HE.out,(zK.refl _).alloc _⟩
 ·by_cases h5:o=1∨o=2∨o=3∨o=4∨o=5
  ·have HE:Hid (false = !yP (a,o,t)):=by
    show _=_
    unfold yP;have e1:decide (1<=o)=true:=decide_eq_true (by omega);have e2:decide (o<=7)=true:=decide_eq_true (by omega);have e3:decide (o<6)=true:=decide_eq_true (by omega);simp only [e1,e2,e3,Bool.true_and,Bool.true_or,Bool.not_true]
   rcases h5 with rfl|rfl|rfl|rfl|rfl <;>
   ·go_enter Tryz.func160,Tryz.ntmps160
    go_wp2_with fail
    go_ret;exact ⟨zA HE.out,(zK.refl _).alloc _⟩
  ·have HE:Hid (true = !yP (a,o,t)):=by
    show _=_
    unfold yP
    by_cases e1:1<=o
    ·have e2:decide (o<=7)=false:=decide_eq_false (by omega);simp [e2]
    ·simp [e1]
   have n1:(o==1)=false:=by simp;omega
   have n2:(o==2)=false:=by simp;omega
   have n3:(o==3)=false:=by simp;omega
   have n4:(o==4)=false:=by simp;omega
   have n5:(o==5)=false:=by simp;omega
   have n6:(o==6)=false:=by simp;omega
   have n7:(o==7)=false:=by simp;omega
   clear h5 h6;go_enter Tryz.func160,Tryz.ntmps160;go_wp2_with fail;go_ret;exact ⟨zA HE.out,(zK.refl _).alloc _⟩
def Tf:Type:={ x:Tm // x.1.size<=maxLen/\x.2.2.size<=maxLen/\-9223372036854775808<=x.2.1/\x.2.1<=9223372036854775807 }
def zNp:Tf:=⟨(⟨#[]⟩,0,⟨#[]⟩),Nat.zero_le _,Nat.zero_le _,by decide,by decide⟩
theorem zIi (p:Option Addr) (c:Nat) (fv:Value) (w:World) :
  Calls Tryz.prog 193 #[.slice p 0 c,fv] w fun e w'=>e=.returned (.bool false)/\w'=w:=by
 have hix:Calls Tryz.prog 215 #[sc p 0 c,fv] w fun e w'=>e=.returned (ii (-1))/\w'=w:=by
  go_enter Tryz.func215,Tryz.ntmps215
  go_wp2_with fail
  refine wp_loop_rounds 1 ?_;rw [rounds_succ];go_wp2_with fail;go_ret;exact ⟨rfl,rfl⟩
 have HX:=hid hix;clear hix;go_enter Tryz.func193,Tryz.ntmps193;go_wp2_with (first|(go_at_call 215;refine HX.out.mono ?_;rintro e w1 ⟨rfl,rfl⟩));go_ret;exact ⟨rfl,rfl⟩
theorem zG9 {w:World} {b off:Nat} {p:List Tm} (h:KM.At w b off p) (j:Nat) (hj:j<p.length) (i:Nat) (v:Value) (hv:(uC p[j])[i]? = some v):w.cell? ⟨b,off+j * 3+i,none⟩=some v:=h j hj i v hv
theorem zB2 (f:Tm->Bool) (k:Nat) (lb:Array Value) (ent:∀args w,(callFunc k args).run Tryz.prog w=.ok (.enter k args) w) (v:Value) (p:List Tm) (w:World) (hv:KM.Is w v p) (hf:pY p)
  (hk:∀(W:World) (x:Tm),Below w.heap.size w W->x.1.size<=maxLen->x.2.2.size<=maxLen->(-9223372036854775808<=x.2.1/\x.2.1<=9223372036854775807)->Calls Tryz.prog k (#[.agg (uC x).toArray]++lb) W fun e w'=>e=.returned (.bool (f x))/\Below w.heap.size w w') :
  Calls Tryz.prog 193 #[v,.func (.func k) #[] lb] w fun e w'=>e=.returned (.bool (p.any f))/\Below w.heap.size w w':=by
 obtain ⟨q,cap,rfl,hd⟩:=hv
 by_cases h0:p=[]
 ·subst h0;refine (zIi q cap _ w).mono ?_;rintro e w' ⟨rfl,rfl⟩;exact ⟨rfl,Below.refl _ _⟩
 ·rcases hd with hd|⟨b,off,rfl,hx⟩
  ·exact absurd hd h0
  ·have hlen:0<p.length:=List.length_pos_iff.2 h0;have hl:=hf.1;unfold maxLen at hl;have hfn:∀x∈p,x.1.size<=maxLen/\x.2.2.size<=maxLen/\-9223372036854775808<=x.2.1/\x.2.1<=9223372036854775807:=hf.2;obtain ⟨zs,hzs⟩:∃zs:List Tf,zs.map (·.1)=p:=⟨p.attachWith _ hfn,List.attachWith_map_subtype_val ..⟩;have hzl:zs.length=p.length:=by rw [<-hzs,List.length_map]
   letI:Inhabited Tf:=⟨zNp⟩
   have hc:=AnyQ.slices_ContainsFunc (α:=Tf) Tryz.hasTrm 3 Tryz.isAgg49 Tryz.sizeOf49 (fun x=>uC x.1) (fun _=>rfl) (fun x=>f x.1) k lb ent b off p.length cap zs w
    (fun W x hb=>hk W x.1 hb x.2.1 x.2.2.1 x.2.2.2) (by omega) (by omega) (zJ (hx 0 hlen 0 _ rfl))
    (fun j hj i u hu=>by
     have hj':j<p.length:=by omega
     rw [getElem!_pos zs j hj] at hu;have e:(zs[j]).1=p[j]:=by subst hzs;simp
     rw [e] at hu;exact zG9 hx j hj' i u hu)
   change Calls Tryz.prog 193 _ _ _ at hc
   refine hc.mono ?_;rintro e w' ⟨rfl,hb⟩;refine ⟨zA ?_,hb⟩;rw [List.take_of_length_le (by omega),<-hzs];simp [List.any_map,Function.comp_def]
theorem zF8:∀args w,(callFunc 194 args).run Tryz.prog w=.ok (.enter 194 args) w:=enters_of Tryz.func194 (by kernel_rfl) rfl
theorem zF7:∀args w,(callFunc 160 args).run Tryz.prog w=.ok (.enter 160 args) w:=enters_of Tryz.func160 (by kernel_rfl) rfl
theorem zD9:∀args w,(callFunc 195 args).run Tryz.prog w=.ok (.enter 195 args) w:=enters_of Tryz.func195 (by kernel_rfl) rfl
theorem zDv (p:List Tm) (f:Tm->Bool):p.any (fun x=>!f x) = !p.all f:=by
 induction p with
 | nil=>rfl
 | cons x p ih=>simp only [List.any_cons,List.all_cons,ih,Bool.not_and]
theorem zNe (v:Value) (p:List Tm) (w:World) (hv:KM.Is w v p) (hf:pY p):Calls Tryz.prog 193 #[v,.func (.func 194) #[] #[]] w fun e w'=>e=.returned (.bool (!p.all uG))/\Below w.heap.size w w':=by
 have:=zB2 (fun x=>!uG x) 194 #[] zF8 v p w hv hf (fun W x hb h1 _ _=>(zLG x W h1).mono fun _ _ ⟨h2,h3⟩=>⟨h2,hb.trans (h3.below.mono hb.size)⟩)
 rwa [zDv] at this
theorem zNg (v:Value) (p:List Tm) (w:World) (hv:KM.Is w v p) (hf:pY p):Calls Tryz.prog 193 #[v,.func (.func 160) #[] #[]] w fun e w'=>e=.returned (.bool (!p.all yP))/\Below w.heap.size w w':=by
 have:=zB2 (fun x=>!yP x) 160 #[] zF7 v p w hv hf (fun W x hb _ _ _=>(zFr x W).mono fun _ _ ⟨h2,h3⟩=>⟨h2,hb.trans (h3.below.mono hb.size)⟩)
 rwa [zDv] at this
theorem zNs (v:Value) (p:List Tm) (w:World) (hv:KM.Is w v p) (hf:pY p):Calls Tryz.prog 193 #[v,.func (.func 195) #[] #[]] w fun e w'=>e=.returned (.bool (!p.all vR))/\Below w.heap.size w w':=by
 have:=zB2 (fun x=>!vR x) 195 #[] zD9 v p w hv hf (fun W x hb _ _ _=>(zIf x W).mono fun _ _ ⟨h2,h3⟩=>⟨h2,hb.trans (h3.below.mono hb.size)⟩)
 rwa [zDv] at this
theorem zKT (v:Value) (p:List Tm) (w:World) (hv:KM.Is w v p) (hf:pY p) :
  Calls Tryz.prog 161 #[v] w fun e w'=>e=.returned (.int .i64 (wA p))/\Below w.heap.size w w':=by
 obtain ⟨q,cap,hvv⟩:∃q cap,v=sc q p.length cap:=by obtain ⟨q,cap,h,_⟩:=hv;exact ⟨q,cap,h⟩
 subst hvv;have HV:=hid hv;have HF:=hid hf;have H1:=hid (zNe _ p w hv hf);obtain ⟨m,hm⟩:∃m,wA p=m:=⟨_,rfl⟩;rw [hm];have HM:=hid hm;clear hm hv hf;unfold wA at HM
 by_cases h8:8<p.length
 ·have h8z:(8:Int)<(p.length:Int):=by omega
  have HR:Hid (5=m):=by have:=HM.out;rw [if_pos h8] at this;exact this
  go_enter Tryz.func161,Tryz.ntmps161
  go_wp2_with fail
  go_ret;exact ⟨yY HR.out,Below.refl _ _⟩
 ·have h8z:¬ (8:Int)<(p.length:Int):=by omega
  rw [if_neg h8] at HM
  cases a1:p.all uG with
  | false =>
   rw [a1] at H1;have HR:Hid (2=m):=by have:=HM.out;rw [if_pos a1] at this;exact this
   go_enter Tryz.func161,Tryz.ntmps161
   go_wp2_with (go_at_call 193;refine H1.out.mono ?_;rintro e w1 ⟨rfl,hb1⟩)
   go_ret;exact ⟨yY HR.out,hb1⟩
  | true =>
   rw [a1] at H1;rw [if_neg (by rw [a1];simp)] at HM;have H2:Hid (∀W,Below w.heap.size w W->Calls Tryz.prog 193 #[sc q p.length cap,.func (.func 160) #[] #[]] W fun e w'=>e=.returned (.bool (!p.all yP))/\Below W.heap.size W w'):=fun W hb=>zNg _ p W (zE.is_kept HV.out hb) HF.out
   have H3:Hid (∀W,Below w.heap.size w W->Calls Tryz.prog 193 #[sc q p.length cap,.func (.func 195) #[] #[]] W fun e w'=>e=.returned (.bool (!p.all vR))/\Below W.heap.size W w'):=fun W hb=>zNs _ p W (zE.is_kept HV.out hb) HF.out
   cases a2:p.all yP with
   | false =>
    rw [a2] at H2;have HR:Hid (1=m):=by have:=HM.out;rw [if_pos a2] at this;exact this
    go_enter Tryz.func161,Tryz.ntmps161
    go_wp2_with (first|(go_at_call 193;refine H1.out.mono ?_;rintro e w1 ⟨rfl,hb1⟩)|(go_at_call 193;refine (H2.out w1 hb1).mono ?_;rintro e w2 ⟨rfl,hb2⟩))
    go_ret;exact ⟨yY HR.out,zQ hb1 hb1.size hb2⟩
   | true =>
    rw [a2] at H2;rw [if_neg (by rw [a2];simp)] at HM;have h12:Hid (∀w1 w2,Below w.heap.size w w1->Below w1.heap.size w1 w2->Below w.heap.size w w2):=fun w1 w2 h k=>zQ h h.size k
    cases a3:p.all vR with
    | false =>
     rw [a3] at H3;have HR:Hid (5=m):=by have:=HM.out;rw [if_pos a3] at this;exact this
     go_enter Tryz.func161,Tryz.ntmps161
     go_wp2_with (first|(go_at_call 193;refine H1.out.mono ?_;rintro e w1 ⟨rfl,hb1⟩)|(go_at_call 193;refine (H2.out w1 hb1).mono ?_;rintro e w2 ⟨rfl,hb2⟩;have hb12:=h12.out _ _ hb1 hb2)|(go_at_call 193;refine (H3.out w2 hb12).mono ?_;rintro e w3 ⟨rfl,hb3⟩))
     go_ret;exact ⟨yY HR.out,zQ hb12 hb12.size hb3⟩
    | true =>
     rw [a3] at H3;have HR:Hid (0=m):=by have:=HM.out;rw [if_neg (by rw [a3];simp)] at this;exact this
     go_enter Tryz.func161,Tryz.ntmps161
     go_wp2_with (first|(go_at_call 193;refine H1.out.mono ?_;rintro e w1 ⟨rfl,hb1⟩)|(go_at_call 193;refine (H2.out w1 hb1).mono ?_;rintro e w2 ⟨rfl,hb2⟩;have hb12:=h12.out _ _ hb1 hb2)|(go_at_call 193;refine (H3.out w2 hb12).mono ?_;rintro e w3 ⟨rfl,hb3⟩))
     go_ret;exact ⟨yY HR.out,zQ hb12 hb12.size hb3⟩
theorem zNi {w:World} {b off:Nat} {p:List Tm} (h:KM.At w b off p) (j:Nat) (u:Value) (hu:(KM.cells p)[j]? = some u):w.cell? ⟨b,off+j,none⟩=some u:=by
 rcases zE.src (K:=KM) (w:=w) (p:=some (aa b off)) (d:=p) (Or.inr ⟨b,off,rfl,h⟩) with h0|⟨ad,e,hc⟩
 ·obtain rfl:=List.length_eq_zero_iff.1 h0;simp [zE.cells] at hu
 ·cases e;have:=hc j u hu
  rwa [addr_add] at this
theorem zG0 (v:Value) (p:List Tm) (w:World) (hv:KM.Is w v p) (hs:p.length * 40<=140737488355328) :
  Calls Tryz.prog 162 #[v] w fun e w'=>∃u,e=.returned u/\KM.Own w.heap.size w' u p/\Below w.heap.size w w':=by
 obtain ⟨i0,hi,hz0,hz1,hz2⟩:=info_parts Tryz.infoTrm;obtain ⟨q,cap,rfl,hd⟩:=hv;have q22:∀(w:World) (a:Option Addr) (n c n' c':Nat),(binOp .eql 39 (sc a n c) (sc none n' c')).run Tryz.prog w=.ok (.bool a.isNone) w:=fun w a n c n' c'=>Lib.run_eql_slice_nil w _ _ a n c n' c' Tryz.underlying39
 have HD:=hid hd;clear hd
 cases q with
 | none =>
  have h0:p=[]:=by
   rcases HD.out with h|⟨b,off,h,_⟩
   ·exact h
   ·cases h
  subst h0;go_enter Tryz.func162,Tryz.ntmps162;go_wp2_with fail;go_ret;exact ⟨_,rfl,KM.own_nil _ _,Below.refl _ _⟩
 | some a =>
  have hcells:∀j u,(KM.cells p)[j]? = some u->(w.alloc (.cells #[] 49)).cell? (a.add j)=some u:=by
   rcases HD.out with h|⟨b,off,h,hx⟩
   ·subst h;intro j u hj;simp [zE.cells] at hj
   ·intro j u hj;obtain rfl:a=(aa b off):=by simpa using h
    rw [addr_add];have:=zNi hx j u hj;rw [World.cell?_alloc_lt _ _ (aa b (off+j)) (zJ this)];exact this
  have HC:=hid hcells;clear hcells;go_enter Tryz.func162,Tryz.ntmps162;go_wp2_with (at_builtin;refine wpList_append_own _ rfl _ _ 39 rfl w.heap.size 49 i0 (.agg #[tq ⟨#[]⟩,ii 0,tq ⟨#[]⟩]) 3 40 Tryz.underlying39 hi hz0 hz1 hz2 rfl (by decide) _ _ _ rfl (World.ownsRow_made w #[] 0 (Nat.le_refl _) (Nat.zero_le _) (by simp)) a p.length cap (KM.cells p) rfl ?c0 ?c1 ?c2 ?c3 ?c4 ?c5 ?_)
  case c0=>exact KM.cells_len p
  case c1=>exact HC.out
  case c2=>exact KM.cells_ones p
  case c3=>unfold maxLen;omega
  case c4=>omega
  case c5=>simp
  intro v' w1 hown hgrow hnil;have hb1:Below w.heap.size w w1:=((Below.refl _ w).alloc (Nat.le_refl _) _).grown hgrow (by simp) (by intro k hk;simp [Value.ownBlock] at hk;omega);have HO:Hid (KM.Own w.heap.size w1 v' p):=hid (by show w1.ownsRow w.heap.size 49 3 v' p.length (KM.cells p);simpa using hown);clear hown hgrow hnil;go_wp2_with fail;go_ret;exact ⟨_,rfl,HO.out,hb1⟩
theorem zGy (fv:Value) (w:World) :
  Calls Tryz.prog 163 #[.slice none 0 0,fv] w fun e w'=>e=.returned (.tuple #[])/\w'=w:=by
 have hi:∀W,Calls Tryz.prog 216 #[sc none 0 0,ii 0,ii 0,fv] W fun e w'=>e=.returned (.tuple #[])/\w'=W:=fun W=>by
  go_enter Tryz.func216,Tryz.ntmps216
  go_wp2_with fail
  refine wp_loop_rounds 1 ?_;rw [rounds_succ];go_wp2_with fail
  go_end0
  exact ⟨rfl,rfl⟩
 have HI:=hid hi;clear hi
 have hp:∀(l:Int) W,Calls Tryz.prog 196 #[sc none 0 0,ii 0,ii 0,ii l,fv] W fun e w'=>e=.returned (.tuple #[])/\w'=W:=fun l W=>by
  go_enter Tryz.func196,Tryz.ntmps196
  go_wp2_with fail
  refine wp_loop_rounds 1 ?_;rw [rounds_succ];go_wp2_with (first|(go_at_call 216;refine (HI.out _).mono ?_;rintro e w1 ⟨rfl,rfl⟩));refine bodyPost_ret (results_none (h:=Tryz.results196) _ _ _) rfl ?_;exact ⟨rfl,rfl⟩
 have HP:=hid hp;clear hp;go_enter Tryz.func163,Tryz.ntmps163;go_wp2_with (first|(go_at_call 197;refine (Tryz.bits_Len 0 _ (by omega) (by omega)).mono ?_;rintro e w1 ⟨rfl,rfl⟩)|(go_at_call 196;refine (HP.out _ _).mono ?_;rintro e w1 ⟨rfl,rfl⟩))
 go_end0
 exact ⟨rfl,rfl⟩
theorem zGV (w:World) :
  Calls Tryz.prog 165 #[.slice none 0 0] w fun e w'=>e=.returned (.slice none 0 0)/\w'=w:=by
 go_enter Tryz.func165,Tryz.ntmps165
 go_wp2_with fail
 go_ret;exact ⟨rfl,rfl⟩
theorem zL0 (n0:Nat) (u:Value) (p:List Tm) (w:World) (h:KM.Own n0 w u p) (h0:n0<=w.heap.size) (h12:p.length<=12) :
  Calls Tryz.prog 163 #[u,.func (.func 164) #[] #[]] w fun e w' =>
   e=.returned (.tuple #[])/\∃d':Array Tm,d'.toList.Perm p/\SortedIn (ltOf zDP) 0 d'.size d'/\KM.Own n0 w' u d'.toList/\Below n0 w w':=by
 rcases h.2 with ⟨rfl,hl⟩|⟨g,cap,cur,rfl,_⟩
 ·obtain rfl:=List.length_eq_zero_iff.1 hl;refine (zGy _ w).mono ?_;rintro e w' ⟨rfl,rfl⟩;exact ⟨rfl,#[],List.Perm.refl _,fun i j _ _ hj=>absurd hj (Nat.not_lt_zero _),KM.own_nil _ _,Below.refl _ _⟩
 ·refine (zGO n0 g p.length cap p w h rfl h0 h12).mono ?_;rintro e w' ⟨rfl,d',_,h2,h3,h4,h5⟩;exact ⟨rfl,d',h2,h3,h4,h5⟩
theorem zLV (n0:Nat) (u:Value) (d:Array Tm) (w:World) (h:KM.Own n0 w u d.toList) (h0:n0<=w.heap.size) (h12:d.size<=12) :
  Calls Tryz.prog 165 #[u] w fun e w'=>∃u',e=.returned u'/\KM.Own n0 w' u' (compactUpTo d d.size)/\Below n0 w w':=by
 rcases h.2 with ⟨rfl,hl⟩|⟨g,cap,cur,rfl,_⟩
 ·have hz:d.size=0:=by simpa using hl
  refine (zGV w).mono ?_;rintro e w' ⟨rfl,rfl⟩;refine ⟨_,rfl,?_,Below.refl _ _⟩;rw [hz];exact KM.own_nil _ _
 ·refine (zE3 n0 g d.toList.length cap d w h (by simp) h0 (by simp;omega)).mono ?_;rintro e w' ⟨rfl,h1,h2⟩;exact ⟨_,rfl,h1,h2⟩
theorem bF (v:Value) (p:List Tm) (w:World) (hv:KM.Is w v p) (hf:pY p) :
  Calls Tryz.prog 117 #[v] w fun e w'=>zKd w p e w':=by
 have HM:=hid (zKT v p w hv hf)
 by_cases hm:wA p=0
 ·have h8:=(tE hm).1;have HA:Hid (wB p=uS p):=by show _=_;unfold wB;rw [if_pos hm]
  rw [hm] at HM;have HM0:=hid hm;have HC:Hid (∀W:World,Below w.heap.size w W->Calls Tryz.prog 162 #[v] W fun e w'=>∃u,e=.returned u/\KM.Own W.heap.size w' u p/\Below W.heap.size W w'):=fun W hb=>zG0 v p W (zE.is_kept hv hb) (by omega)
  clear hv hf hm;go_enter Tryz.func117,Tryz.ntmps117
  go_wp2_with (first
   | (go_at_call 161;refine HM.out.mono ?_;rintro e w1 ⟨rfl,hb1⟩)
   | (go_at_call 162;refine (HC.out w1 hb1).mono ?_;rintro e w2 ⟨u2,rfl,ho2,hb2⟩;have HO2:=hid ho2;clear ho2)
   | (go_at_call 163;refine (zL0 w1.heap.size u2 p w2 HO2.out hb2.size (by omega)).mono ?_;rintro e w3 ⟨rfl,d3,hp3,hs3,ho3,hb3⟩;have HO3:=hid ho3;have HP3:=hid hp3;have HS3:=hid hs3;have hl3:d3.size<=8:=(by have:=HP3.out.length_eq;rw [Array.length_toList] at this;omega);clear ho3 hp3 hs3)
   | (go_at_call 165;refine (zLV w1.heap.size u2 d3 w3 HO3.out (Nat.le_trans hb2.size hb3.size) (by omega)).mono ?_;rintro e w4 ⟨u4,rfl,ho4,hb4⟩;have HO4:=hid ho4;clear ho4))
  go_ret2
  refine ⟨⟨u4,by rw [HM0.out];rfl,?_⟩,?_⟩
  ·rw [HA.out];obtain ⟨r1,r2⟩:=zAt HS3.out;have e:=dY (p:=p) r1 (fun x=>(r2 x).trans HP3.out.mem_iff);rw [<-e];exact zE.own_weak HO4.out hb1.size
  ·exact ((hb1.trans (hb2.mono hb1.size)).trans (hb3.mono hb1.size)).trans (hb4.mono hb1.size)
 ·have hne:(wA p != 0)=true:=by rw [bne_iff_ne];exact hm
  have HA:Hid (wB p=[]):=by show _=_;unfold wB;rw [if_neg hm]
  obtain ⟨M,hM⟩:∃M,wA p=M:=⟨_,rfl⟩;rw [hM] at HM hne;have HMM:=hid hM;clear hv hf hm hM;go_enter Tryz.func117,Tryz.ntmps117;go_wp2_with (first|(go_at_call 161;refine HM.out.mono ?_;rintro e w1 ⟨rfl,hb1⟩))
  go_ret2
  refine ⟨⟨sc none 0 0,by rw [HMM.out];rfl,?_⟩,hb1⟩;rw [HA.out];exact KM.own_nil _ _
theorem zMF:NeqAt Tryz.prog 49 (fun x:Tm=>.agg (uC x).toArray) (fun x y=>decide (x=y)) :=
 ⟨fun x y w=>zBQ x y w,GuardAt.agg (fun x:Tm=>(uC x).toArray) (by kernel_rfl)⟩
theorem cA:∀(p q:List Tm),Lib.allEq (fun x y=>decide (x=y)) p q=decide (p=q)
 | [],[]=>rfl
 | [],y::q=>by simp [Lib.allEq]
 | x::p,[]=>by simp [Lib.allEq]
 | x::p,y::q=>by
  have:=cA p q;unfold Lib.allEq;rw [this]
  by_cases h1:x=y<;>by_cases h2:p=q<;>simp [h1,h2]
theorem zJJ (q1 q2:Option Addr) (c1 c2 m:Nat) (hm:m<=maxLen) (w:World) :
  Calls Tryz.prog 103 #[.slice q1 0 c1,.slice q2 m c2] w fun e w'=>e=.returned (.bool (decide (m=0)))/\w'=w:=by
 unfold maxLen at hm
 by_cases h0:m=0
 ·subst h0;go_enter Tryz.func103,Tryz.ntmps103;go_wp2_with fail;refine wp_loop_rounds 1 ?_;rw [rounds_succ];go_wp2_with fail;go_ret;exact ⟨rfl,rfl⟩
 ·have hz:((0:Int) != (m:Int))=true:=by simp;omega
  have hd:=decide_eq_false h0;rw [hd];go_enter Tryz.func103,Tryz.ntmps103;go_wp2_with fail;go_ret;exact ⟨rfl,rfl⟩
theorem zJl (q1 q2:Option Addr) (c1 c2 m:Nat) (hm:m≠0) (w:World) :
  Calls Tryz.prog 103 #[.slice q1 m c1,.slice q2 0 c2] w fun e w'=>e=.returned (.bool false)/\w'=w:=by
 have hz:((m:Int) != 0)=true:=by simp;omega
 go_enter Tryz.func103,Tryz.ntmps103
 go_wp2_with fail
 go_ret;exact ⟨rfl,rfl⟩
theorem zMp (v u:Value) (p q:List Tm) (w:World) (hv:KM.Is w v p) (hu:KM.Is w u q) (hl1:p.length<=maxLen) (hl2:q.length<=maxLen) :
  Calls Tryz.prog 103 #[v,u] w fun e w'=>e=.returned (.bool (decide (p=q)))/\∃n,w'=w.drewN n:=by
 obtain ⟨a1,k1,rfl,hd1⟩:=hv;obtain ⟨a2,k2,rfl,hd2⟩:=hu
 by_cases h1:p=[]
 ·subst h1;refine (zJJ a1 a2 k1 k2 q.length hl2 w).mono ?_;rintro e w' ⟨rfl,rfl⟩;refine ⟨zA ?_,0,rfl⟩
  cases q<;>simp
 ·by_cases h2:q=[]
  ·subst h2;refine (zJl a1 a2 k1 k2 p.length (fun e=>h1 (List.length_eq_zero_iff.1 e)) w).mono ?_;rintro e w' ⟨rfl,rfl⟩;exact ⟨zA (by rw [decide_eq_false h1]),0,rfl⟩
  ·rcases hd1 with hd1|⟨b1,o1,rfl,x1⟩
   ·exact absurd hd1 h1
   ·rcases hd2 with hd2|⟨b2,o2,rfl,x2⟩
    ·exact absurd hd2 h2
    ·unfold maxLen at hl1 hl2
     have hc:=AnyQ.slices_Equal (α:=Tm) Tryz.eqTrm 3 Tryz.isAgg49 Tryz.sizeOf49 uC (fun _=>rfl) (fun x y=>decide (x=y)) zMF b1 o1 p.length k1 b2 o2 q.length k2 p q w (Nat.le_refl _) (Nat.le_refl _) (by omega) (by omega)
      (fun j hj i v hv=>by rw [getElem!_pos p j hj] at hv;exact zG9 x1 j hj i v hv) (fun j hj i v hv=>by rw [getElem!_pos q j hj] at hv;exact zG9 x2 j hj i v hv)
     change Calls Tryz.prog 103 _ _ _ at hc
     refine hc.mono ?_;rintro e w' ⟨rfl,n,rfl⟩;exact ⟨zA (by rw [List.take_length,List.take_length,cA]),n,rfl⟩
theorem zCG (v u:Value) (p q:List Tm) (w:World) (hv:KM.Is w v p) (hu:KM.Is w u q) (hl1:p.length<=maxLen) (hl2:q.length<=maxLen) :
  Calls Tryz.prog 59 #[v,u] w fun e w'=>e=.returned (.bool (decide (p=q)))/\Below w.heap.size w w':=by
 have HE:=hid (zMp v u p q w hv hu hl1 hl2);clear hv hu;go_enter Tryz.func59,Tryz.ntmps59;go_wp2_with (go_at_call 103;refine HE.out.mono ?_;rintro e w1 ⟨rfl,n,rfl⟩);go_ret;exact ⟨rfl,zP (Below.refl _ _) n⟩
end
section
open Go.RowKit Go.Lib
def kJ (w:World) (g:Nat) (x:Tm):Prop:=w.heap[g]? = some (.cells #[.string x.1,.int .i64 x.2.1,.string x.2.2] 49 (0,0))
theorem kJ.cells {w:World} {g:Nat} {x:Tm} (h:kJ w g x):w.cell? ⟨g,0,none⟩=some (.string x.1)/\w.cell? ⟨g,1,none⟩=some (.int .i64 x.2.1)/\w.cell? ⟨g,2,none⟩=some (.string x.2.2):=by
 rw [Lib.cell_of_heap h,Lib.cell_of_heap h,Lib.cell_of_heap h];exact ⟨rfl,rfl,rfl⟩
theorem kJ.lt {w:World} {g:Nat} {x:Tm} (h:kJ w g x):g<w.heap.size:=(Array.getElem?_eq_some_iff.1 h).1
theorem kJ.on {w w':World} {g:Nat} {x:Tm} (h:kJ w g x) (hb:Below w.heap.size w w'):kJ w' g x:=(hb.block g h.lt).trans h
theorem zAz (w:World) (x:Tm):kJ (w.alloc (.cells #[.string x.1,.int .i64 x.2.1,.string x.2.2] 49)) w.heap.size x:=heap_alloc_new w _
end
end Go.Proofs.YtjeogllmpjihaaaGreatDoor
