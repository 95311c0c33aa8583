/-
  Texts of this claim, one behind the other: Rp2 Rp5 Txt Fst Txr Txh Enc0 Enc Rmay Siz Renc Rng Sh3 Ix Spl Cut Rea Wrd Stba Stbb Sor Equ Tex Joa Job Stbc Stc Std.
-/
import Derived.Test.YtjeogllmpjihaaaGreatDoorPa
import Derived.Lib.AppendStr
import Derived.RangeFuncNested
import Derived.RangeFuncBound
import Derived.RangeFuncCalls
import Derived.RangeFuncLeaves
import Derived.Lib.IndexBytes
import Derived.Shelf.Abstract
import Derived.Shelf.RegionOpen
import Derived.OwnWalkIn
import Derived.TacticsInMore
import Derived.LoopNIn
import Derived.LoopIn
import Derived.Lib.Strings
import Derived.Sort.LotA
import Derived.Shelf.SlSortCmp.KitK
import Derived.Sort.WalkB2
import Derived.Sort.WalkB12
namespace Go.Proofs.YtjeogllmpjihaaaGreatDoor
section
open Go.RowKit
def NMPost (w:World) (p:List Tm) (e:Ending) (w':World):Prop :=
 (∃u,e=.returned (.tuple #[u,.int .i64 (mayM p)])∧KM.Own w.heap.size w' u (ansM p))∧Below w.heap.size w w'
theorem km_grown {w W:World} {b off:Nat} {p:List Tm} (h:KM.At w b off p) (hb:Below w.heap.size w W) (i:Nat) (hi:i<p.length) (n:Nat) (os:Array Obj) :
  (Sort.grow (W.drewN n) os).cell? ⟨b,off+i * 3,none⟩=some (.string (p[i]).1)∧(Sort.grow (W.drewN n) os).cell? ⟨b,off+i * 3+1,none⟩=some (.int .i64 (p[i]).2.1)∧(Sort.grow (W.drewN n) os).cell? ⟨b,off+i * 3+2,none⟩=some (.string (p[i]).2.2):=by
 have hg:=(Grown.refl W).on (q:=n) (os:=os)
 exact km_cells (Kind.at_kept (Kind.at_kept h hb) hg.below) i hi
theorem own_last {N:Nat} {W:World} {p5:Option Addr} {c5 k:Nat} {d:List Tm} (h:KM.Own N W (.slice p5 (k+1) c5) d) (hk:d.length=k+1) :
  ∃g,p5=some ⟨g,0,none⟩∧∀n os,(Sort.grow (W.drewN n) os).cell? ⟨g,k * 3,none⟩=some (.string (d.getD k default).1)∧(Sort.grow (W.drewN n) os).cell? ⟨g,k * 3+1,none⟩=some (.int .i64 (d.getD k default).2.1)∧(Sort.grow (W.drewN n) os).cell? ⟨g,k * 3+2,none⟩=some (.string (d.getD k default).2.2):=by
 obtain ⟨p',c',hv,hd⟩:=Kind.own_is h
 rcases h.2 with ⟨_,h0⟩|⟨g,c,cur,hv2,_⟩
 ·omega
 ·injection hv2 with e1 _ _
  injection hv with e2 _ _
  rw [e1] at e2
  refine ⟨g,e1,fun n os=>?_⟩
  rcases hd with hd|⟨b,off,hp,hat⟩
  ·rw [hd] at hk;simp at hk
  ·rw [←e2] at hp
   cases hp
   have:=km_grown hat (Below.refl _ _) k (by omega) n os
   rw [Nat.zero_add] at this
   rw [List.getD_eq_getElem?_getD,List.getElem?_eq_getElem (show k<d.length by omega)]
   exact this
set_option maxHeartbeats 8000000 in
set_option maxRecDepth 100000 in
theorem rnormM_any (v:Value) (p:List Tm) (w:World) (hv:KM.Is w v p) (hf:FitM p) :
  Calls Tryz.prog 86 #[v] w fun e w'=>NMPost w p e w':=by
 obtain ⟨j0,hj0,hy0,hy1,hy2⟩:=info_parts Tryz.infoTrm
 have HJ:=hid hj0
 have HM:=hid (rmayM_any v p w hv hf)
 obtain ⟨q,cap,rfl,hd⟩:=hv
 have hl:=hf.1
 unfold maxLen at hl
 have HD:=hid hd
 clear hd hf hj0
 by_cases hm0:mayM p=0
 ·have h8:=(mayM_zero hm0).1
  have HA:Hid (ansM p=sortM p):=by show _=_;unfold ansM;rw [if_pos hm0]
  rw [hm0] at HM
  have HM0:=hid hm0
  obtain ⟨s1,s2⟩:=sortM_spec p
  have hsl:=sortM_len p
  obtain ⟨G,hG⟩:∃G,sortM p=G:=⟨_,rfl⟩
  rw [hG] at s1 s2 hsl HA
  have S1:=hid s1
  have S2:=hid s2
  clear hm0 hG s1 s2
  go_enter Tryz.func86,Tryz.ntmps86
  go_wp2_with (first|(go_at_call 127;refine HM.out.mono ?_;rintro e w1 ⟨rfl,rfl⟩))
  have ST0:Hid (KM.Own w1.heap.size w1 (.slice none 0 0) (G.take 0)∧Below w1.heap.size w1 w1):=⟨KM.own_nil _ _,Below.refl _ _⟩
  go_loopg [5] G.length (fun g v5 ws=>∃k:Nat,k≤G.length∧G.length-k≤g∧Hid (KM.Own w1.heap.size ws v5 (G.take k))∧Hid (Below w1.heap.size w1 ws))
  case atStart=>exact ⟨0,by omega,by omega,ST0.out.1,ST0.out.2⟩
  case round =>
  clear ST0
  obtain ⟨k,hk,hgk,HO,HB⟩:=hrel
  have hszk:=HB.out.size
  obtain ⟨p5,c5,hv5⟩:=Kind.own_shape HO.out
  have hlk:(G.take k).length=k:=by rw [List.length_take];omega
  rw [hlk] at hv5
  subst hv5
  have HLK:=hid hlk
  clear hlk
  have mixed:=Tryz.mixed
  obtain ⟨W0,rfl⟩:∃W0,W0=wr:=⟨_,rfl⟩
  have G0:Hid (Grown W0 W0):=Grown.refl _
  have SC0:=hid (scan_zero G p k)
  go_wp2_with fail
  go_loopg [6,7] p.length (fun g va vi ws=>∃(i:Nat) (a:Int),vi=.int .i64 i∧va=.int .i64 a∧i≤p.length∧p.length-i≤g∧Hid (ScanM G p k i a)∧Hid (Grown W0 ws))
  case atStart=>exact ⟨0,-1,rfl,rfl,by omega,by omega,SC0,G0⟩
  case round =>
  clear SC0 G0
  obtain ⟨i,a,rfl,rfl,hi,hgi,HSC,HGW⟩:=hrel
  have HBW:Hid (Below w1.heap.size w1 wr):=bel_then HB.out hszk HGW.out.below
  by_cases hlt:i<p.length
  ·have hltz:(i:Int)<(p.length:Int):=by omega
   have hiz:(0:Int)≤(i:Int):=by omega
   obtain ⟨b,off,rfl,hat⟩:∃b off,q=some ⟨b,off,none⟩∧KM.At w1 b off p:=by
    rcases HD.out with h|h
    ·subst h;simp at hlt
    ·exact h
   have kg:=fun n os=>km_grown hat HBW.out i hlt n os
   have HKG:Hid (∀m,(hm:m<p.length)→∀n os,(Sort.grow (wr.drewN n) os).cell? ⟨b,off+m * 3,none⟩=some (.string (p[m]).1)∧(Sort.grow (wr.drewN n) os).cell? ⟨b,off+m * 3+1,none⟩=some (.int .i64 (p[m]).2.1)∧(Sort.grow (wr.drewN n) os).cell? ⟨b,off+m * 3+2,none⟩=some (.string (p[m]).2.2)):=fun m hm n os=>km_grown hat HBW.out m hm n os
   have HSK:=hid (fun he=>scan_skip HSC.out hlt he)
   have HSF:Hid (a=-1→eligB G k p[i]=true→ScanM G p k (i+1) (i:Int)):=fun e he=>by have:=HSC.out;rw [e] at this;exact scan_first this hlt he
   have HSL:Hid (∀m:Nat,(hm:m<p.length)→a=m→eligB G k p[i]=true→ltM p[i] p[m]=true→ScanM G p k (i+1) (i:Int)):=fun m hm e he hl=>by have:=HSC.out;rw [e] at this;exact scan_less this hlt hm he hl
   have HSP:Hid (∀m:Nat,(hm:m<p.length)→a=m→ltM p[i] p[m]=false→ScanM G p k (i+1) a):=fun m hm e hl=>by have:=HSC.out;rw [e] at this ⊢;exact scan_keep this hlt hm hl
   have HLE:Hid (∀m,(hm:m<p.length)→∀W,Calls Tryz.prog 128 #[.agg #[.string (p[i]).1,.int .i64 (p[i]).2.1,.string (p[i]).2.2],.agg #[.string (p[m]).1,.int .i64 (p[m]).2.1,.string (p[m]).2.2]] W fun e w'=>e=.returned (.bool (ltM p[i] p[m]))∧∃q os',w'=Sort.grow (W.drewN q) os'):=fun m hm W=>rless_any _ _ W
   have HLA:Hid (∀a1 a2 a3 b1 b2 b3 c W,ltM (a1,a2,a3) (b1,b2,b3)=c→Calls Tryz.prog 128 #[.agg #[.string a1,.int .i64 a2,.string a3],.agg #[.string b1,.int .i64 b2,.string b3]] W fun e w'=>e=.returned (.bool c)∧∃q os',w'=Sort.grow (W.drewN q) os'):=fun a1 a2 a3 b1 b2 b3 c W h=>by rw [←h];exact rless_any (a1,a2,a3) (b1,b2,b3) W
   have HLG:Hid (∀l:Tm,∀W,Calls Tryz.prog 128 #[.agg #[.string l.1,.int .i64 l.2.1,.string l.2.2],.agg #[.string (p[i]).1,.int .i64 (p[i]).2.1,.string (p[i]).2.2]] W fun e w'=>e=.returned (.bool (ltM l p[i]))∧∃q os',w'=Sort.grow (W.drewN q) os'):=fun l W=>rless_any _ _ W
   obtain ⟨x,hx⟩:∃x,p[i]=x:=⟨_,rfl⟩
   rw [hx] at kg HSK HSF HSL HSP HLE HLG
   obtain ⟨xf,xo,xt⟩:=x
   simp only at kg HLE HLG
   have q0:=fun n os=>(kg n os).1
   have q1:=fun n os=>(kg n os).2.1
   have q2:=fun n os=>(kg n os).2.2
   have ha:=scan_is HSC.out
   clear kg hat hx
   cases k with
   | zero =>
    have HE:Hid (eligB G 0 (xf,xo,xt)=true):=rfl
    rcases ha with rfl|⟨m,rfl,hm⟩
    ·have HS2:=hid (HSF.out rfl HE.out)
     go_wp2_with fail
     refine wp_region_quiet_grown mixed (by kernel_rfl) ?_
     repeat (go_big_quiet_step (fail))
     refine wpQuiet_nil ?_
     intro _ hw'
     obtain ⟨⟨nq,osq⟩,hw''⟩:=hw'
     subst hw''
     go_wp2_with fail
     go_roundg (p.length-(i+1))
     case measure=>omega
     case rel=>exact ⟨i+1,i,by go_num,rfl,by omega,by omega,HS2,HGW.out.on⟩
    ·have hmd:decide ((m:Int)<0)=false:=decide_eq_false (by omega)
     have hm0:(0:Int)≤(m:Int):=by omega
     have hml:(m:Int)<(p.length:Int):=by omega
     have km:=HKG.out m hm
     have HLm:=hid (HLE.out m hm)
     have HT:=hid (HSL.out m hm rfl HE.out)
     have HK:=hid (HSP.out m hm rfl)
     obtain ⟨y,hy⟩:∃y,p[m]=y:=⟨_,rfl⟩
     rw [hy] at km HLm HT HK
     obtain ⟨yf,yo,yt⟩:=y
     simp only at km HLm
     have r0:=fun n os=>(km n os).1
     have r1:=fun n os=>(km n os).2.1
     have r2:=fun n os=>(km n os).2.2
     clear km hy
     cases hL:ltM (xf,xo,xt) (yf,yo,yt) with
     | true =>
      rw [hL] at HLm
      have HS2:=hid (HT.out hL)
      clear hL
      go_wp2_with fail
      refine wp_region_quiet_grown mixed (by kernel_rfl) ?_
      repeat (go_big_quiet_step (first|(go_at_call 128;refine Calls.grown_of (HLm.out _))))
      refine wpQuiet_nil ?_
      intro _ hw'
      obtain ⟨⟨nq,osq⟩,hw''⟩:=hw'
      subst hw''
      go_wp2_with fail
      go_roundg (p.length-(i+1))
      case measure=>omega
      case rel=>exact ⟨i+1,i,by go_num,rfl,by omega,by omega,HS2,HGW.out.on⟩
     | false =>
      rw [hL] at HLm
      have HS2:=hid (HK.out hL)
      clear hL
      go_wp2_with fail
      refine wp_region_quiet_grown mixed (by kernel_rfl) ?_
      repeat (go_big_quiet_step (first|(go_at_call 128;refine Calls.grown_of (HLm.out _))))
      refine wpQuiet_nil ?_
      intro _ hw'
      obtain ⟨⟨nq,osq⟩,hw''⟩:=hw'
      subst hw''
      go_wp2_with fail
      go_roundg (p.length-(i+1))
      case measure=>omega
      case rel=>exact ⟨i+1,m,by go_num,rfl,by omega,by omega,HS2,HGW.out.on⟩
   | succ k =>
    obtain ⟨g5,rfl,kl⟩:=own_last (Kind.own_on HO.out HGW.out.below) HLK.out
    have hgd:(G.take (k+1)).getD k default=G.getD k default:=by
     rw [List.getD_eq_getElem?_getD,List.getD_eq_getElem?_getD,List.getElem?_take,if_pos (by omega)]
    rw [hgd] at kl
    have HEL:Hid (eligB G (k+1) (xf,xo,xt)=ltM (G.getD k default) (xf,xo,xt)):=rfl
    have HLl:=hid (HLG.out (G.getD k default))
    obtain ⟨l,hl5⟩:∃l,G.getD k default=l:=⟨_,rfl⟩
    rw [hl5] at kl HEL HLl
    obtain ⟨lf,lo,lt⟩:=l
    simp only at kl HLl
    have l0:=fun n os=>(kl n os).1
    have l1:=fun n os=>(kl n os).2.1
    have l2:=fun n os=>(kl n os).2.2
    have hk0:(((k:Int)+1)==0)=false:=beq_eq_false_iff_ne.2 (by omega)
    have hk1:(0:Int)≤(k:Int):=by omega
    have hk2:(k:Int)<(k:Int)+1:=by omega
    clear kl hgd hl5
    cases hE:ltM (lf,lo,lt) (xf,xo,xt) with
    | false =>
     rw [hE] at HLl
     have HS2:=hid (HSK.out (HEL.out.trans hE))
     clear hE
     go_wp2_with fail
     refine wp_region_quiet_grown mixed (by kernel_rfl) ?_
     repeat (go_big_quiet_step (first|(go_at_call 128;refine Calls.grown_of (HLl.out _))))
     refine wpQuiet_nil ?_
     intro _ hw'
     obtain ⟨⟨nq,osq⟩,hw''⟩:=hw'
     subst hw''
     go_wp2_with fail
     go_roundg (p.length-(i+1))
     case measure=>omega
     case rel=>exact ⟨i+1,a,by go_num,rfl,by omega,by omega,HS2,HGW.out.on⟩
    | true =>
     rw [hE] at HLl
     have HE:=hid (HEL.out.trans hE)
     rcases ha with rfl|⟨m,rfl,hm⟩
     ·have HS2:=hid (HSF.out rfl HE.out)
      go_wp2_with fail
      refine wp_region_quiet_grown mixed (by kernel_rfl) ?_
      repeat (go_big_quiet_step (first|(go_at_call 128;refine Calls.grown_of (HLl.out _))))
      refine wpQuiet_nil ?_
      intro _ hw'
      obtain ⟨⟨nq,osq⟩,hw''⟩:=hw'
      subst hw''
      go_wp2_with fail
      go_roundg (p.length-(i+1))
      case measure=>omega
      case rel=>exact ⟨i+1,i,by go_num,rfl,by omega,by omega,HS2,HGW.out.on⟩
     ·have hmd:decide ((m:Int)<0)=false:=decide_eq_false (by omega)
      have hm0:(0:Int)≤(m:Int):=by omega
      have hml:(m:Int)<(p.length:Int):=by omega
      have km:=HKG.out m hm
      have HLm:=hid (HLE.out m hm)
      have HT:=hid (HSL.out m hm rfl HE.out)
      have HK:=hid (HSP.out m hm rfl)
      obtain ⟨y,hy⟩:∃y,p[m]=y:=⟨_,rfl⟩
      rw [hy] at km HLm HT HK
      obtain ⟨yf,yo,yt⟩:=y
      simp only at km HLm
      have r0:=fun n os=>(km n os).1
      have r1:=fun n os=>(km n os).2.1
      have r2:=fun n os=>(km n os).2.2
      clear km hy
      cases hL:ltM (xf,xo,xt) (yf,yo,yt) with
      | true =>
       rw [hL] at HLm
       have HS2:=hid (HT.out hL)
       go_wp2_with fail
       refine wp_region_quiet_grown mixed (by kernel_rfl) ?_
       repeat (go_big_quiet_step (first|(go_at_call 128;refine Calls.grown_of (HLA.out _ _ _ _ _ _ _ _ (by assumption)))))
       refine wpQuiet_nil ?_
       intro _ hw'
       obtain ⟨⟨nq,osq⟩,hw''⟩:=hw'
       subst hw''
       go_wp2_with fail
       go_roundg (p.length-(i+1))
       case measure=>omega
       case rel=>exact ⟨i+1,i,by go_num,rfl,by omega,by omega,HS2,HGW.out.on⟩
      | false =>
       rw [hL] at HLm
       have HS2:=hid (HK.out hL)
       go_wp2_with fail
       refine wp_region_quiet_grown mixed (by kernel_rfl) ?_
       repeat (go_big_quiet_step (first|(go_at_call 128;refine Calls.grown_of (HLA.out _ _ _ _ _ _ _ _ (by assumption)))))
       refine wpQuiet_nil ?_
       intro _ hw'
       obtain ⟨⟨nq,osq⟩,hw''⟩:=hw'
       subst hw''
       go_wp2_with fail
       go_roundg (p.length-(i+1))
       case measure=>omega
       case rel=>exact ⟨i+1,m,by go_num,rfl,by omega,by omega,HS2,HGW.out.on⟩
  ·have hltz:¬ (i:Int)<(p.length:Int):=by omega
   obtain rfl:i=p.length:=by omega
   have HOW:=hid (Kind.own_on HO.out HGW.out.below)
   rcases scan_end S1.out S2.out hk HSC.out with ⟨rfl,hkG⟩|⟨m,rfl,hm,hg,hmk⟩
   ·have HRT:Hid (KM.Own w1.heap.size wr (.slice p5 k c5) (ansM p)):=by
     show KM.Own _ _ _ _
     rw [HA.out]
     have:=HOW.out
     rwa [List.take_of_length_le (by omega)] at this
    clear hkG
    go_wp2_with fail
    go_ret2
    exact ⟨⟨.slice p5 k c5,by rw [HM0.out];rfl,HRT.out⟩,HBW.out⟩
   ·have hmd:¬ ((m:Int)<0):=by omega
    have hm0:(0:Int)≤(m:Int):=by omega
    have hml:(m:Int)<(p.length:Int):=by omega
    obtain ⟨b,off,rfl,hat⟩:∃b off,q=some ⟨b,off,none⟩∧KM.At w1 b off p:=by
     rcases HD.out with h|h
     ·rw [h] at hm;simp at hm
     ·exact h
    obtain ⟨c0,c1,c2⟩:=km_cells (Kind.at_kept hat HBW.out) m hm
    rw [hmk] at c0 c1 c2
    have htk:G.take (k+1)=G.take k++[G[k]]:=List.take_succ_eq_append_getElem hg
    obtain ⟨x,hx⟩:∃x,G[k]=x:=⟨_,rfl⟩
    rw [hx] at c0 c1 c2 htk
    have HTK:=hid htk
    have hbw:=HBW.out.size
    obtain ⟨xf,xo,xt⟩:=x
    simp only at c0 c1 c2
    have HOA:Hid ((wr.alloc (.cells #[.string xf,.int .i64 xo,.string xt] 49)).ownsRow w1.heap.size 49 3 (.slice p5 k c5) k (KM.cells (G.take k))):=by
     have:=World.ownsRow.alloc HOW.out (.cells #[.string xf,.int .i64 xo,.string xt] 49)
     rw [HLK.out] at this
     exact this
    clear hat hmk hx htk
    go_wp2_with (first|(at_builtin;refine wpList_append_own _ rfl _ _ 39 rfl w1.heap.size 49 j0 (.agg #[.string ⟨#[]⟩,.int .i64 0,.string ⟨#[]⟩]) 3 40 Tryz.underlying39 HJ.out hy0 hy1 hy2 rfl (by decide) _ _ _ rfl HOA.out ⟨wr.heap.size,0,none⟩ 1 1 (KM.cells [(xf,xo,xt)]) rfl rfl (KM.news wr (xf,xo,xt)) (KM.cells_ones _) (by unfold maxLen;omega) (by omega) (by simp;omega) ?_))
    intro v4 w4 hown4 hg4 _
    have HO4:Hid (KM.Own w1.heap.size w4 v4 (G.take (k+1))):=by
     show KM.Own _ _ _ _
     rw [HTK.out]
     exact Kind.own_snoc hown4 (by rw [HLK.out]) rfl
    have HB4:Hid (Below w1.heap.size w1 w4):=(HBW.out.alloc hbw _).grown hg4 (by simp;omega) (fun z hz=>(World.ownsRow.lt HOA.out z hz).1)
    clear hown4 hg4
    go_wp2_with fail
    go_roundg (G.length-(k+1))
    case measure=>omega
    case rel=>exact ⟨k+1,by omega,by omega,HO4,HB4⟩
 ·have hne:(mayM p != 0)=true:=by rw [bne_iff_ne];exact hm0
  have HA:Hid (ansM p=[]):=by show _=_;unfold ansM;rw [if_neg hm0]
  obtain ⟨r,hr⟩:∃r,mayM p=r:=⟨_,rfl⟩
  rw [hr] at HM hne
  have HR:=hid hr
  clear hm0 hr
  go_enter Tryz.func86,Tryz.ntmps86
  go_wp2_with (first|(go_at_call 127;refine HM.out.mono ?_;rintro e w1 ⟨rfl,rfl⟩))
  go_ret2
  refine ⟨⟨.slice none 0 0,by rw [HR.out];rfl,?_⟩,Below.refl _ _⟩
  rw [HA.out]
  exact KM.own_nil _ _
end
section
open Go.RowKit
def opN (c:Int):Int:=if 61=c then 1 else if 33=c then 2 else if 94=c then 3 else if 60=c then 4 else if 62=c then 5 else if 63=c then 6 else if 45=c then 7 else 0
def opC (o:Int):UInt8:=if o=1 then 61 else if o=2 then 33 else if o=3 then 94 else if o=4 then 60 else if o=5 then 62 else if o=6 then 63 else 45
theorem opN_range (c:Int):0≤opN c∧opN c≤7:=by
 unfold opN
 repeat' split
 all_goals omega
theorem opN_opC {o:Int} (h1:1≤o) (h2:o≤7):opN ((opC o).toNat:Int)=o:=by
 have:o=1∨o=2∨o=3∨o=4∨o=5∨o=6∨o=7:=by omega
 rcases this with rfl|rfl|rfl|rfl|rfl|rfl|rfl<;>decide
set_option maxHeartbeats 4000000 in
set_option maxRecDepth 100000 in
theorem rop_any (n:Int) (w:World):Calls Tryz.prog 123 #[.int .u8 n] w fun e w'=>e=.returned (.int .i64 (opN n))∧w'=w:=by
 by_cases h:∃k:Nat,k<7∧([61,33,94,60,62,63,45]:List Int)[k]? = some n
 ·obtain ⟨k,hk,hn⟩:=h
  have:k=0∨k=1∨k=2∨k=3∨k=4∨k=5∨k=6:=by omega
  rcases this with rfl|rfl|rfl|rfl|rfl|rfl|rfl
  all_goals
   simp only [List.getElem?_cons_zero,List.getElem?_cons_succ,Option.some.injEq] at hn
   subst hn
   go_enter Tryz.func123,Tryz.ntmps123
   go_wp2
   refine wp_loop_rounds 8 ?_
   repeat (rw [rounds_succ];go_wp2)
   go_ret
   exact ⟨rfl,rfl⟩
 ·have hne:∀k:Nat,k<7→∀c:Int,([61,33,94,60,62,63,45]:List Int)[k]? = some c→(c==n)=false:=fun k hk c hc=>by
   rw [beq_eq_false_iff_ne]
   intro e
   subst e
   exact h ⟨k,hk,hc⟩
  have g0:=hne 0 (by decide) 61 rfl;have g1:=hne 1 (by decide) 33 rfl;have g2:=hne 2 (by decide) 94 rfl;have g3:=hne 3 (by decide) 60 rfl
  have g4:=hne 4 (by decide) 62 rfl;have g5:=hne 5 (by decide) 63 rfl;have g6:=hne 6 (by decide) 45 rfl
  have HR:Hid (opN n=0):=by
   show _=_
   rw [beq_eq_false_iff_ne] at g0 g1 g2 g3 g4 g5 g6
   unfold opN
   rw [if_neg g0,if_neg g1,if_neg g2,if_neg g3,if_neg g4,if_neg g5,if_neg g6]
  clear hne h
  have z0:((⟨#[61,33,94,60,62,63,45]⟩:ByteArray)[0]'(by decide)).toNat=61:=rfl
  have z1:((⟨#[61,33,94,60,62,63,45]⟩:ByteArray)[1]'(by decide)).toNat=33:=rfl
  have z2:((⟨#[61,33,94,60,62,63,45]⟩:ByteArray)[2]'(by decide)).toNat=94:=rfl
  have z3:((⟨#[61,33,94,60,62,63,45]⟩:ByteArray)[3]'(by decide)).toNat=60:=rfl
  have z4:((⟨#[61,33,94,60,62,63,45]⟩:ByteArray)[4]'(by decide)).toNat=62:=rfl
  have z5:((⟨#[61,33,94,60,62,63,45]⟩:ByteArray)[5]'(by decide)).toNat=63:=rfl
  have z6:((⟨#[61,33,94,60,62,63,45]⟩:ByteArray)[6]'(by decide)).toNat=45:=rfl
  go_enter Tryz.func123,Tryz.ntmps123
  go_wp2
  refine wp_loop_rounds 8 ?_
  repeat (rw [rounds_succ];go_wp2)
  all_goals go_ret
  all_goals exact ⟨by rw [HR.out];rfl,rfl⟩
end
section
open Go.RowKit
def digitsA:ByteArray:=⟨#[48,49,50,51,52,53,54,55,56,57,97,98,99,100,101,102]⟩
def hexd (n:Nat):UInt8:=if n<10 then UInt8.ofNat (48+n) else UInt8.ofNat (87+n)
def writeC (c:UInt8):List UInt8:=if plainB (c.toNat:Int) then [c] else [37,hexd (c.toNat / 16),hexd (c.toNat % 16)]
def writeL (l:List UInt8):List UInt8:=l.flatMap writeC
theorem digit_at (k:Nat) (h:k<16):(⟨#[48,49,50,51,52,53,54,55,56,57,97,98,99,100,101,102]⟩:ByteArray)[k]'h=hexd k:=by
 have:k=0∨k=1∨k=2∨k=3∨k=4∨k=5∨k=6∨k=7∨k=8∨k=9∨k=10∨k=11∨k=12∨k=13∨k=14∨k=15:=by omega
 rcases this with rfl|rfl|rfl|rfl|rfl|rfl|rfl|rfl|rfl|rfl|rfl|rfl|rfl|rfl|rfl|rfl<;>rfl
theorem writeL_cons (c:UInt8) (l:List UInt8):writeL (c::l)=writeC c++writeL l:=rfl
theorem writeL_append (l m:List UInt8):writeL (l++m)=writeL l++writeL m:=by simp [writeL]
theorem writeC_len (c:UInt8):(writeC c).length≤3:=by unfold writeC;split<;>simp
theorem writeL_len (l:List UInt8):(writeL l).length≤3 * l.length:=by
 induction l with
 | nil=>simp [writeL]
 | cons c l ih=>rw [writeL_cons,List.length_append,List.length_cons];have:=writeC_len c;omega
theorem take_succ_byte (s:ByteArray) (i:Nat) (h:i<s.size):s.data.toList.take (i+1)=s.data.toList.take i++[s[i]]:=by
 rw [List.take_succ_eq_append_getElem (by simpa using h)]
 rfl
theorem write_step (s:ByteArray) (i:Nat) (h:i<s.size):writeL (s.data.toList.take (i+1))=writeL (s.data.toList.take i)++writeC s[i]:=by
 rw [take_succ_byte s i h,writeL_append]
 simp [writeL]
end
section
open Go.RowKit
def hexv (c:UInt8):Int:=Lib.indexByte digitsA.data.toList c
def firstP:List UInt8→Option (UInt8 × Nat)
 | []=>none
 | c::r=>if plainB (c.toNat:Int) then some (c,1) else if c≠37 then none else
  match r with
  | a::b::_=>if hexv a<0∨hexv b<0 then none else
   if plainB ((UInt8.ofNat (16 * (hexv a).toNat+(hexv b).toNat)).toNat:Int) then none else some (UInt8.ofNat (16 * (hexv a).toNat+(hexv b).toNat),3)
  | _=>none
def firstV (o:Option (UInt8 × Nat)):Value:=match o with
 | some (c,n)=>.tuple #[.int .u8 c.toNat,.int .i64 n]
 | none=>.tuple #[.int .u8 0,.int .i64 0]
theorem hexv_cases (c:UInt8):hexv c=-1∨∃k:Nat,k<16∧hexv c=k∧c=hexd k:=by
 by_cases h:∃k,k<16∧c=hexd k
 ·obtain ⟨k,hk,rfl⟩:=h
  refine Or.inr ⟨k,hk,?_,rfl⟩
  have:k=0∨k=1∨k=2∨k=3∨k=4∨k=5∨k=6∨k=7∨k=8∨k=9∨k=10∨k=11∨k=12∨k=13∨k=14∨k=15:=by omega
  rcases this with rfl|rfl|rfl|rfl|rfl|rfl|rfl|rfl|rfl|rfl|rfl|rfl|rfl|rfl|rfl|rfl<;>decide
 ·left
  have hn:∀k,k<16→hexd k≠c:=fun k hk e=>h ⟨k,hk,e.symm⟩
  have h0:=hn 0 (by decide);have h1:=hn 1 (by decide);have h2:=hn 2 (by decide);have h3:=hn 3 (by decide);have h4:=hn 4 (by decide);have h5:=hn 5 (by decide);have h6:=hn 6 (by decide);have h7:=hn 7 (by decide)
  have h8:=hn 8 (by decide);have h9:=hn 9 (by decide);have h10:=hn 10 (by decide);have h11:=hn 11 (by decide);have h12:=hn 12 (by decide);have h13:=hn 13 (by decide);have h14:=hn 14 (by decide);have h15:=hn 15 (by decide)
  unfold hexv
  show Lib.indexByte [48,49,50,51,52,53,54,55,56,57,97,98,99,100,101,102] c=-1
  have g0:((48:UInt8)==c)=false:=beq_eq_false_iff_ne.2 h0
  have g1:((49:UInt8)==c)=false:=beq_eq_false_iff_ne.2 h1
  have g2:((50:UInt8)==c)=false:=beq_eq_false_iff_ne.2 h2
  have g3:((51:UInt8)==c)=false:=beq_eq_false_iff_ne.2 h3
  have g4:((52:UInt8)==c)=false:=beq_eq_false_iff_ne.2 h4
  have g5:((53:UInt8)==c)=false:=beq_eq_false_iff_ne.2 h5
  have g6:((54:UInt8)==c)=false:=beq_eq_false_iff_ne.2 h6
  have g7:((55:UInt8)==c)=false:=beq_eq_false_iff_ne.2 h7
  have g8:((56:UInt8)==c)=false:=beq_eq_false_iff_ne.2 h8
  have g9:((57:UInt8)==c)=false:=beq_eq_false_iff_ne.2 h9
  have g10:((97:UInt8)==c)=false:=beq_eq_false_iff_ne.2 h10
  have g11:((98:UInt8)==c)=false:=beq_eq_false_iff_ne.2 h11
  have g12:((99:UInt8)==c)=false:=beq_eq_false_iff_ne.2 h12
  have g13:((100:UInt8)==c)=false:=beq_eq_false_iff_ne.2 h13
  have g14:((101:UInt8)==c)=false:=beq_eq_false_iff_ne.2 h14
  have g15:((102:UInt8)==c)=false:=beq_eq_false_iff_ne.2 h15
  simp [Lib.indexByte,g0,g1,g2,g3,g4,g5,g6,g7,g8,g9,g10,g11,g12,g13,g14,g15]
set_option maxHeartbeats 2000000 in
theorem first_plain (s:ByteArray) (w:World) (hp:PlainAt w) (h0:0<s.size) (hpl:plainB (s[0].toNat:Int)=true) :
  Calls Tryz.prog 183 #[.string s] w fun e w'=>e=.returned (.tuple #[.int .u8 s[0].toNat,.int .i64 1])∧Below w.heap.size w w':=by
 have HP:=hid hp
 clear hp
 go_enter Tryz.func183,Tryz.ntmps183
 go_wp2_with (first|(go_at_call 170;refine (isPlain_any _ _ HP.out).mono ?_;rintro e w1 ⟨rfl,hb1⟩))
 go_ret2
 exact ⟨rfl,hb1⟩
set_option maxHeartbeats 2000000 in
theorem first_other (s:ByteArray) (w:World) (hp:PlainAt w) (h0:0<s.size) (hpl:plainB (s[0].toNat:Int)=false) (hn:(s[0].toNat:Int)≠37∨s.size<3) :
  Calls Tryz.prog 183 #[.string s] w fun e w'=>e=.returned (.tuple #[.int .u8 0,.int .i64 0])∧Below w.heap.size w w':=by
 have HP:=hid hp
 clear hp
 by_cases hc:(s[0].toNat:Int)=37
 ·have h3:(s.size:Int)<3:=by omega
  go_enter Tryz.func183,Tryz.ntmps183
  go_wp2_with (first|(go_at_call 170;refine (isPlain_any _ _ HP.out).mono ?_;rintro e w1 ⟨rfl,hb1⟩))
  go_ret2
  exact ⟨rfl,hb1⟩
 ·go_enter Tryz.func183,Tryz.ntmps183
  go_wp2_with (first|(go_at_call 170;refine (isPlain_any _ _ HP.out).mono ?_;rintro e w1 ⟨rfl,hb1⟩))
  go_ret2
  exact ⟨rfl,hb1⟩
theorem ixd_any (c:UInt8) (w:World):Calls Tryz.prog 159 #[.string ⟨#[48,49,50,51,52,53,54,55,56,57,97,98,99,100,101,102]⟩,.int .u8 c.toNat] w fun e w'=>e=.returned (.int .i64 (hexv c))∧w'=w:=by
 refine (Tryz.strings_IndexByte _ _ w).mono ?_
 rintro e w' ⟨rfl,rfl⟩
 refine ⟨ret_int ?_,rfl⟩
 unfold hexv digitsA
 simp
set_option maxHeartbeats 2000000 in
theorem first_bad (s:ByteArray) (w:World) (hp:PlainAt w) (h0:2<s.size) (hpl:plainB (s[0].toNat:Int)=false) (hn:(s[0].toNat:Int)=37) (hab:hexv s[1]<0∨hexv s[2]<0) :
  Calls Tryz.prog 183 #[.string s] w fun e w'=>e=.returned (.tuple #[.int .u8 0,.int .i64 0])∧Below w.heap.size w w':=by
 have HP:=hid hp
 obtain ⟨a,ha⟩:∃a,hexv s[1]=a:=⟨_,rfl⟩
 obtain ⟨b,hb⟩:∃b,hexv s[2]=b:=⟨_,rfl⟩
 rw [ha,hb] at hab
 have h14:=hid (And.intro hpl hn)
 have HA:=hid ha
 have HB:=hid hb
 clear hp ha hb
 have h3:¬ (s.size:Int)<3:=by omega
 have h11:1<s.size:=by omega
 have h12:(1:Int)<s.size:=by omega
 have h13:(2:Int)<s.size:=by omega
 by_cases h1:a<0
 ·clear hab
  go_enter Tryz.func183,Tryz.ntmps183
  go_wp2_with (first|(go_at_call 170;refine (isPlain_any _ _ HP.out).mono ?_;rintro e w1 ⟨rfl,hb1⟩))
  go_quiet (first|(go_at_call 159;refine Calls.quiet_of_same (ixd_any _ _)))
  rw [HA.out,HB.out]
  go_wp2_with fail
  go_ret2
  exact ⟨rfl,bel_drewN hb1 _⟩
 ·have h2:b<0:=by omega
  clear hab
  go_enter Tryz.func183,Tryz.ntmps183
  go_wp2_with (first|(go_at_call 170;refine (isPlain_any _ _ HP.out).mono ?_;rintro e w1 ⟨rfl,hb1⟩))
  go_quiet (first|(go_at_call 159;refine Calls.quiet_of_same (ixd_any _ _)))
  rw [HA.out,HB.out]
  go_wp2_with fail
  go_ret2
  exact ⟨rfl,bel_drewN hb1 _⟩
theorem or_nibble (a b:Nat) (ha:a<16) (hb:b<16):bits BinOp.or IntKind.i64 ((a:Int) * 16) b % 256=((16 * a+b:Nat):Int):=by
 have h:∀a b:Fin 16,bits BinOp.or IntKind.i64 ((a.val:Int) * 16) b.val % 256=((16 * a.val+b.val:Nat):Int):=by decide +kernel
 exact h ⟨a,ha⟩ ⟨b,hb⟩
set_option maxHeartbeats 2000000 in
theorem first_hexp (s:ByteArray) (w:World) (hp:PlainAt w) (h0:2<s.size) (hpl:plainB (s[0].toNat:Int)=false) (hn:(s[0].toNat:Int)=37) (a b k:Nat) (ha:hexv s[1]=a) (hb:hexv s[2]=b) (ha16:a<16) (hb16:b<16) (hk:k=16 * a+b) (hq:plainB (k:Int)=true) :
  Calls Tryz.prog 183 #[.string s] w fun e w'=>e=.returned (.tuple #[.int .u8 0,.int .i64 0])∧Below w.heap.size w w':=by
 have HP:=hid hp
 have HA:=hid ha
 have HB:=hid hb
 have HO:Hid (bits BinOp.or IntKind.i64 ((a:Int) * 16) b % 256=(k:Int)):=by rw [hk];exact or_nibble a b ha16 hb16
 have HQ:=hid hq
 clear hp ha hb hk
 have h3:¬ (s.size:Int)<3:=by omega
 have h11:1<s.size:=by omega
 have h12:(1:Int)<s.size:=by omega
 have h13:(2:Int)<s.size:=by omega
 have h14:=hid (And.intro hpl hn)
 go_enter Tryz.func183,Tryz.ntmps183
 go_wp2_with (first|(go_at_call 170;refine (isPlain_any _ _ HP.out).mono ?_;rintro e w1 ⟨rfl,hb1⟩))
 go_quiet (first|(go_at_call 159;refine Calls.quiet_of_same (ixd_any _ _)))
 rw [HA.out,HB.out]
 have hb1':=bel_drewN hb1 nq
 have HP2:PlainAt (w1.drewN nq):=HP.out.on hb1'
 go_wp2_with (first|(go_at_call 170;rw [HO.out];refine (isPlain_any _ _ HP2).mono ?_;rintro e w2 ⟨rfl,hb2⟩;rw [HQ.out]))
 go_ret2
 exact ⟨rfl,hb1'.trans (hb2.mono hb1'.size)⟩
set_option maxHeartbeats 2000000 in
theorem first_hexn (s:ByteArray) (w:World) (hp:PlainAt w) (h0:2<s.size) (hpl:plainB (s[0].toNat:Int)=false) (hn:(s[0].toNat:Int)=37) (a b k:Nat) (ha:hexv s[1]=a) (hb:hexv s[2]=b) (ha16:a<16) (hb16:b<16) (hk:k=16 * a+b) (hq:plainB (k:Int)=false) :
  Calls Tryz.prog 183 #[.string s] w fun e w'=>e=.returned (.tuple #[.int .u8 k,.int .i64 3])∧Below w.heap.size w w':=by
 have HP:=hid hp
 have HA:=hid ha
 have HB:=hid hb
 have HO:Hid (bits BinOp.or IntKind.i64 ((a:Int) * 16) b % 256=(k:Int)):=by rw [hk];exact or_nibble a b ha16 hb16
 have HQ:=hid hq
 clear hp ha hb hk
 have h3:¬ (s.size:Int)<3:=by omega
 have h11:1<s.size:=by omega
 have h12:(1:Int)<s.size:=by omega
 have h13:(2:Int)<s.size:=by omega
 have h14:=hid (And.intro hpl hn)
 go_enter Tryz.func183,Tryz.ntmps183
 go_wp2_with (first|(go_at_call 170;refine (isPlain_any _ _ HP.out).mono ?_;rintro e w1 ⟨rfl,hb1⟩))
 go_quiet (first|(go_at_call 159;refine Calls.quiet_of_same (ixd_any _ _)))
 rw [HA.out,HB.out]
 have hb1':=bel_drewN hb1 nq
 have HP2:PlainAt (w1.drewN nq):=HP.out.on hb1'
 go_wp2_with (first|(go_at_call 170;rw [HO.out];refine (isPlain_any _ _ HP2).mono ?_;rintro e w2 ⟨rfl,hb2⟩;rw [HQ.out]))
 go_ret2
 exact ⟨rfl,hb1'.trans (hb2.mono hb1'.size)⟩
theorem plain37:plainB 37=false:=by decide
theorem first_any (s : ByteArray) (w : World) (hp : PlainAt w) (h0 : 0 < s.size) :
    Calls Tryz.prog 183 #[.string s] w fun e w' => e = .returned (firstV (firstP s.data.toList)) ∧ Below w.heap.size w w' := by
  obtain ⟨c, r, hl⟩ : ∃ c r, s.data.toList = c :: r := by
    cases h : s.data.toList with
    | nil => have : s.data.toList.length = s.size := by simp
             rw [h] at this; simp at this; omega
    | cons c r => exact ⟨c, r, rfl⟩
  have hlen : s.size = r.length + 1 := by
    have : s.data.toList.length = s.size := by simp
    rw [hl] at this; simp at this; omega
  have e0 : s[0] = c := by
    have := byte_at s 0 h0
    rw [← this]; simp [hl]
  rw [hl]
  cases hpl : plainB (c.toNat : Int) with
  | true =>
    refine (first_plain s w hp h0 (by rw [e0]; exact hpl)).mono ?_
    rintro e w' ⟨rfl, hb⟩
    refine ⟨?_, hb⟩
    rw [e0]; simp [firstP, hpl, firstV]
  | false =>
    by_cases hc : c = 37
    · subst hc
      match r, hl, hlen with
      | [], hl, hlen =>
        refine (first_other s w hp h0 (by rw [e0]; exact hpl) (Or.inr (by rw [hlen]; simp))).mono ?_
        rintro e w' ⟨rfl, hb⟩
        exact ⟨by simp [firstP, plain37, firstV], hb⟩
      | [a], hl, hlen =>
        refine (first_other s w hp h0 (by rw [e0]; exact hpl) (Or.inr (by rw [hlen]; simp))).mono ?_
        rintro e w' ⟨rfl, hb⟩
        exact ⟨by simp [firstP, plain37, firstV], hb⟩
      | a :: b :: t, hl, hlen =>
        have h2 : 2 < s.size := by rw [hlen]; simp
        have e1 : s[1] = a := by rw [← byte_at s 1 (by omega)]; simp [hl]
        have e2 : s[2] = b := by rw [← byte_at s 2 (by omega)]; simp [hl]
        have h37 : ((s[0].toNat : Nat) : Int) = 37 := by rw [e0]; rfl
        by_cases hab : hexv a < 0 ∨ hexv b < 0
        · refine (first_bad s w hp h2 (by rw [e0]; exact hpl) h37 (by rw [e1, e2]; exact hab)).mono ?_
          rintro e w' ⟨rfl, hb⟩
          exact ⟨by simp [firstP, plain37, firstV, hab], hb⟩
        · obtain ⟨x, hx, hxe, _⟩ : ∃ k : Nat, k < 16 ∧ hexv a = k ∧ a = hexd k := by
            rcases hexv_cases a with h | h
            · omega
            · exact h
          obtain ⟨y, hy, hye, _⟩ : ∃ k : Nat, k < 16 ∧ hexv b = k ∧ b = hexd k := by
            rcases hexv_cases b with h | h
            · omega
            · exact h
          have en : (UInt8.ofNat (16 * x + y)).toNat = 16 * x + y := by rw [UInt8.toNat_ofNat']; omega
          have hab' : ¬ ((x : Int) < 0 ∨ (y : Int) < 0) := by omega
          cases hq : plainB ((16 * x + y : Nat) : Int)
          · refine (first_hexn s w hp h2 (by rw [e0]; exact hpl) h37 x y _ (by rw [e1]; exact hxe) (by rw [e2]; exact hye) hx hy rfl hq).mono ?_
            rintro e w' ⟨rfl, hb⟩
            refine ⟨?_, hb⟩
            simp only [firstP, hpl, hxe, hye, if_neg hab', Int.toNat_natCast, en, hq]; simp [firstV]; omega
          · refine (first_hexp s w hp h2 (by rw [e0]; exact hpl) h37 x y _ (by rw [e1]; exact hxe) (by rw [e2]; exact hye) hx hy rfl hq).mono ?_
            rintro e w' ⟨rfl, hb⟩
            refine ⟨?_, hb⟩
            simp only [firstP, hpl, hxe, hye, if_neg hab', Int.toNat_natCast, en, hq]; simp [firstV]
    · have h37 : ((s[0].toNat : Nat) : Int) ≠ 37 := by
        rw [e0]
        intro h
        exact hc (UInt8.toNat_inj.1 (by have : c.toNat = 37 := by omega
                                        rw [this]; rfl))
      refine (first_other s w hp h0 (by rw [e0]; exact hpl) (Or.inl h37)).mono ?_
      rintro e w' ⟨rfl, hb⟩
      exact ⟨by simp [firstP, hpl, firstV, hc], hb⟩
end
section
open Go.RowKit
theorem plain_ranges (n:Int) (g0:(45==n)=false) (g1:(46==n)=false) (g2:(95==n)=false) (g3:(124==n)=false) (g4:(42==n)=false) (g5:(64==n)=false) (g6:(47==n)=false) (g7:(58==n)=false) (g8:(43==n)=false) (g9:(44==n)=false) :
  plainB n=(decide (48≤n)&&decide (n≤57)||decide (65≤n)&&decide (n≤90)||decide (97≤n)&&decide (n≤122)):=by
 rw [beq_eq_false_iff_ne] at *
 unfold plainB plainRuns
 simp only [List.any_cons,List.any_nil,Bool.or_false]
 have e:∀k:Int,k≠n→(decide (k≤n)&&decide (n≤k))=false:=fun k hk=>by
  rw [Bool.and_eq_false_iff,decide_eq_false_iff_not,decide_eq_false_iff_not];omega
 rw [e 45 g0,e 46 g1,e 95 g2,e 124 g3,e 42 g4,e 64 g5,e 47 g6,e 58 g7,e 43 g8,e 44 g9]
 simp only [Bool.or_false]
 generalize (decide (97≤n)&&decide (n≤122))=a
 generalize (decide (65≤n)&&decide (n≤90))=b
 generalize (decide (48≤n)&&decide (n≤57))=c
 cases a<;>cases b<;>cases c<;>rfl
set_option maxHeartbeats 4000000 in
set_option maxRecDepth 100000 in
theorem rplain_any (n:Int) (w:World):Calls Tryz.prog 136 #[.int .u8 n] w fun e w'=>e=.returned (.bool (plainB n))∧w'=w:=by
 have sign:∀k:Nat,k<10→∀c:Int,([45,46,95,124,42,64,47,58,43,44]:List Int)[k]? = some c→plainB c=true:=by
  intro k hk c hc
  have:∀c∈([45,46,95,124,42,64,47,58,43,44]:List Int),plainB c=true:=by decide
  exact this c (List.mem_of_getElem? hc)
 by_cases h:∃k:Nat,k<10∧([45,46,95,124,42,64,47,58,43,44]:List Int)[k]? = some n
 ·obtain ⟨k,hk,hn⟩:=h
  have HP:=hid (sign k hk n hn)
  clear sign
  have:k=0∨k=1∨k=2∨k=3∨k=4∨k=5∨k=6∨k=7∨k=8∨k=9:=by omega
  rcases this with rfl|rfl|rfl|rfl|rfl|rfl|rfl|rfl|rfl|rfl
  all_goals
   simp only [List.getElem?_cons_zero,List.getElem?_cons_succ,Option.some.injEq] at hn
   subst hn
   go_enter Tryz.func136,Tryz.ntmps136
   go_wp2
   refine wp_loop_rounds 11 ?_
   repeat (rw [rounds_succ];go_wp2)
   go_ret
   exact ⟨ret_bool HP.out.symm,rfl⟩
 ·have hne:∀k:Nat,k<10→∀c:Int,([45,46,95,124,42,64,47,58,43,44]:List Int)[k]? = some c→(c==n)=false:=fun k hk c hc=>by
   rw [beq_eq_false_iff_ne]
   intro e
   subst e
   exact h ⟨k,hk,hc⟩
  have g0:=hne 0 (by decide) 45 rfl;have g1:=hne 1 (by decide) 46 rfl;have g2:=hne 2 (by decide) 95 rfl;have g3:=hne 3 (by decide) 124 rfl;have g4:=hne 4 (by decide) 42 rfl
  have g5:=hne 5 (by decide) 64 rfl;have g6:=hne 6 (by decide) 47 rfl;have g7:=hne 7 (by decide) 58 rfl;have g8:=hne 8 (by decide) 43 rfl;have g9:=hne 9 (by decide) 44 rfl
  have HR:=hid (plain_ranges n g0 g1 g2 g3 g4 g5 g6 g7 g8 g9)
  clear hne h sign
  have z0:((⟨#[45,46,95,124,42,64,47,58,43,44]⟩:ByteArray)[0]'(by decide)).toNat=45:=rfl
  have z1:((⟨#[45,46,95,124,42,64,47,58,43,44]⟩:ByteArray)[1]'(by decide)).toNat=46:=rfl
  have z2:((⟨#[45,46,95,124,42,64,47,58,43,44]⟩:ByteArray)[2]'(by decide)).toNat=95:=rfl
  have z3:((⟨#[45,46,95,124,42,64,47,58,43,44]⟩:ByteArray)[3]'(by decide)).toNat=124:=rfl
  have z4:((⟨#[45,46,95,124,42,64,47,58,43,44]⟩:ByteArray)[4]'(by decide)).toNat=42:=rfl
  have z5:((⟨#[45,46,95,124,42,64,47,58,43,44]⟩:ByteArray)[5]'(by decide)).toNat=64:=rfl
  have z6:((⟨#[45,46,95,124,42,64,47,58,43,44]⟩:ByteArray)[6]'(by decide)).toNat=47:=rfl
  have z7:((⟨#[45,46,95,124,42,64,47,58,43,44]⟩:ByteArray)[7]'(by decide)).toNat=58:=rfl
  have z8:((⟨#[45,46,95,124,42,64,47,58,43,44]⟩:ByteArray)[8]'(by decide)).toNat=43:=rfl
  have z9:((⟨#[45,46,95,124,42,64,47,58,43,44]⟩:ByteArray)[9]'(by decide)).toNat=44:=rfl
  go_enter Tryz.func136,Tryz.ntmps136
  go_wp2
  refine wp_loop_rounds 11 ?_
  repeat (rw [rounds_succ];go_wp2)
  all_goals go_ret
  all_goals refine ⟨ret_bool ?_,rfl⟩
  all_goals (rw [HR.out,Bool.eq_iff_iff];first|(simp;omega)|simp|omega)
end
section
open Go.RowKit
def hexN (c:UInt8):Nat:=if 48≤c.toNat∧c.toNat≤57 then c.toNat-48 else if 97≤c.toNat∧c.toNat≤102 then c.toNat-87 else 16
theorem hexN_table:((List.range 256).all fun n=>decide (hexv (UInt8.ofNat n)=if hexN (UInt8.ofNat n)=16 then -1 else (hexN (UInt8.ofNat n):Int)))=true:=by kernel_rfl
theorem hexN_eq (c:UInt8):hexv c=if hexN c=16 then -1 else (hexN c:Int):=by
 have h:=List.all_eq_true.1 hexN_table c.toNat (List.mem_range.2 c.toNat_lt)
 rw [decide_eq_true_eq,UInt8.ofNat_toNat] at h
 exact h
theorem hexN_le (c:UInt8):hexN c≤16:=by unfold hexN;split<;>(try split)<;>omega
set_option maxHeartbeats 1000000 in
theorem rhex_any (c:UInt8) (w:World):Calls Tryz.prog 168 #[.int .u8 (c.toNat:Nat)] w fun e w'=>e=.returned (.int .u8 (hexN c:Nat))∧w'=w:=by
 have hc:=c.toNat_lt
 have HN:Hid (hexN c=if 48≤c.toNat∧c.toNat≤57 then c.toNat-48 else if 97≤c.toNat∧c.toNat≤102 then c.toNat-87 else 16):=rfl
 obtain ⟨r,hr⟩:∃r,hexN c=r:=⟨_,rfl⟩
 rw [hr]
 rw [hr] at HN
 clear hr
 by_cases h1:48≤c.toNat∧c.toNat≤57
 ·have a1:decide ((48:Int)≤(c.toNat:Int))=true:=decide_eq_true (by omega)
  have a2:decide ((c.toNat:Int)≤57)=true:=decide_eq_true (by omega)
  have H:Hid ((c.toNat:Int)-48=(r:Int)):=by show _=_;rw [HN.out,if_pos h1];omega
  go_enter Tryz.func168,Tryz.ntmps168
  go_wp2
  go_ret
  exact ⟨congrArg (fun z=>Ending.returned (.int .u8 z)) H.out,rfl⟩
 ·by_cases h2:97≤c.toNat∧c.toNat≤102
  ·have a0:decide ((48:Int)≤(c.toNat:Int))=true:=decide_eq_true (by omega)
   have a00:decide ((c.toNat:Int)≤57)=false:=decide_eq_false (by omega)
   have a1:decide ((97:Int)≤(c.toNat:Int))=true:=decide_eq_true (by omega)
   have a2:decide ((c.toNat:Int)≤102)=true:=decide_eq_true (by omega)
   have H:Hid ((c.toNat:Int)-87=(r:Int)):=by show _=_;rw [HN.out,if_neg h1,if_pos h2];omega
   go_enter Tryz.func168,Tryz.ntmps168
   go_wp2
   go_ret
   exact ⟨congrArg (fun z=>Ending.returned (.int .u8 z)) H.out,rfl⟩
  ·have H:Hid ((16:Int)=(r:Int)):=by show _=_;rw [HN.out,if_neg h1,if_neg h2];rfl
   clear HN
   by_cases h3:c.toNat<48
   ·have a1:decide ((48:Int)≤(c.toNat:Int))=false:=decide_eq_false (by omega)
    have a2:decide ((97:Int)≤(c.toNat:Int))=false:=decide_eq_false (by omega)
    go_enter Tryz.func168,Tryz.ntmps168
    go_wp2
    go_ret
    exact ⟨congrArg (fun z=>Ending.returned (.int .u8 z)) H.out,rfl⟩
   ·have a1:decide ((48:Int)≤(c.toNat:Int))=true:=decide_eq_true (by omega)
    have a2:decide ((c.toNat:Int)≤57)=false:=decide_eq_false (by omega)
    by_cases h4:c.toNat<97
    ·have a3:decide ((97:Int)≤(c.toNat:Int))=false:=decide_eq_false (by omega)
     go_enter Tryz.func168,Tryz.ntmps168
     go_wp2
     go_ret
     exact ⟨congrArg (fun z=>Ending.returned (.int .u8 z)) H.out,rfl⟩
    ·have a3:decide ((97:Int)≤(c.toNat:Int))=true:=decide_eq_true (by omega)
     have a4:decide ((c.toNat:Int)≤102)=false:=decide_eq_false (by omega)
     go_enter Tryz.func168,Tryz.ntmps168
     go_wp2
     go_ret
     exact ⟨congrArg (fun z=>Ending.returned (.int .u8 z)) H.out,rfl⟩
end
section
open Go.RowKit
def OwnB (n0:Nat) (w:World) (v:Value) (bs:List UInt8):Prop:=w.ownsRow n0 5 1 v bs.length (Lib.byteCells bs)
end
section
open Go.RowKit
theorem fieldB_len {l:List UInt8} (h:fieldB l=true):l.length≤32:=by
 unfold fieldB spell at h
 cases l with
 | nil=>simp
 | cons c r=>simp at h;simp;omega
theorem fits_parts {f:Fld} (h:fitsB f=true):f.1.size≤32∧0<f.2.length∧f.2.length≤8∧(∀t∈f.2,t.size≤128)∧fieldB f.1.data.toList=true:=by
 unfold fitsB at h
 simp only [Bool.and_eq_true,Bool.not_eq_true',decide_eq_true_eq] at h
 obtain ⟨⟨⟨h1,h2⟩,h3⟩,h4⟩:=h
 refine ⟨by simpa using fieldB_len h1,?_,h3,fun t ht=>?_,h1⟩
 ·cases hf:f.2 with
  | nil=>rw [hf] at h2;simp at h2
  | cons _ _=>simp
 ·rw [List.any_eq_false] at h4
  have:=h4 t ht
  unfold longB at this
  simpa using this
theorem may_parts {fs:List Fld} (h:mayB fs=true):fs.length≤16∧∀i,i<fs.length→stepOk fs i=true:=by
 unfold mayB at h
 rw [Bool.and_eq_true,decide_eq_true_eq,List.all_eq_true] at h
 exact ⟨h.1,fun i hi=>h.2 i (List.mem_range.2 hi)⟩
theorem may_fits {fs:List Fld} (h:mayB fs=true):∀f∈fs,fitsB f=true:=by
 intro f hf
 obtain ⟨i,hi,rfl⟩:=List.mem_iff_getElem.1 hf
 have:=(may_parts h).2 i hi
 unfold stepOk at this
 rw [Bool.and_eq_true,List.getD_eq_getElem?_getD,List.getElem?_eq_getElem hi] at this
 exact this.1
end
section
open Go.RowKit
theorem step_of {fs:List Fld} {i:Nat} {f:Fld} (h:fs.getD i default=f) (h1:fieldB f.1.data.toList=true) (h2:0<f.2.length) (h3:f.2.length≤8) (h4:∀t∈f.2,t.size≤128) (h5:i=0∨ltN (fs.getD (i-1) default).1 f.1=true):stepOk fs i=true:=by
 unfold stepOk fitsB
 rw [h,h1,decide_eq_true h3]
 have e1:f.2.isEmpty=false:=by
  cases hf:f.2 with
  | nil=>rw [hf] at h2;simp at h2
  | cons _ _=>rfl
 have e2:f.2.any longB=false:=by
  rw [List.any_eq_false]
  intro t ht
  have:=h4 t ht
  unfold longB
  simpa using this
 rw [e1,e2]
 rcases h5 with h5|h5
 ·rw [decide_eq_true h5];rfl
 ·rw [h5];simp
theorem step_not {fs:List Fld} {i:Nat} {f:Fld} (h:fs.getD i default=f) (hn:fieldB f.1.data.toList=false∨f.2.length=0∨8<f.2.length∨(∃t∈f.2,128<t.size)∨(i≠0∧ltN (fs.getD (i-1) default).1 f.1=false)):stepOk fs i=false:=by
 unfold stepOk fitsB
 rw [h]
 rcases hn with hn|hn|hn|⟨t,ht,hn⟩|⟨hn,hm⟩
 ·rw [hn];rfl
 ·rw [List.length_eq_zero_iff] at hn
  rw [hn];simp
 ·rw [decide_eq_false (by omega)];simp
 ·have:f.2.any longB=true:=by
   rw [List.any_eq_true]
   exact ⟨t,ht,by unfold longB;simpa using hn⟩
  rw [this];simp
 ·rw [decide_eq_false hn,hm];simp
set_option maxHeartbeats 1000000 in
set_option maxRecDepth 100000 in
theorem rmay_any (v:Value) (d:List Fx) (w:World) (hv:IsXs w v d) (hf:FitX d):Calls Tryz.prog 84 #[v] w fun e w'=>e=.returned (.bool (mayB (d.map Fx.fld)))∧Grown w w':=by
 obtain ⟨p,cap,rfl,hd,ht⟩:=hv
 have HT:=hid ht
 have HF:=hid hf.2
 have hl:=hf.1
 unfold maxLen at hl
 have HD:=hid hd
 clear ht hf hd
 obtain ⟨r,hr⟩:∃r,mayB (d.map Fx.fld)=r:=⟨_,rfl⟩
 rw [hr]
 have HR:=hid hr
 clear hr
 go_enter Tryz.func84,Tryz.ntmps84
 go_wp2_with fail
 go_loopg [3] d.length (fun g vi wr=>∃i:Nat,vi=.int .i64 i∧i≤d.length∧i≤16∧d.length-i≤g∧Grown w wr∧Hid (∀j,j<i→stepOk (d.map Fx.fld) j=true))
 case atStart=>exact ⟨0,rfl,by omega,by omega,by omega,Grown.refl _,fun j h=>by omega⟩
 case round =>
  obtain ⟨i,rfl,hi,hi16,hg,hb,HJ⟩:=hrel
  by_cases hlt:i<d.length
  ·have hltz:(i:Int)<(d.length:Int):=by omega
   have hiz:(0:Int)≤i:=by omega
   obtain ⟨b,off,rfl,hxs⟩:∃b off,p=some ⟨b,off,none⟩∧XsAt w b off d:=by
    rcases HD.out with h|h
    ·subst h;simp at hlt
    ·exact h
   have hxr:=hxs.kept hb.below
   obtain ⟨c0,c1⟩:=hxr i hlt
   have hxi:(d[i]).at wr:=(HT.out _ (List.getElem_mem hlt)).kept hb.below
   have hfi:=HF.out _ (List.getElem_mem hlt)
   have hsx:=flds_at hlt
   obtain ⟨x,hx⟩:∃x,d[i]=x:=⟨_,rfl⟩
   rw [hx] at c0 c1 hxi hfi hsx
   have HXR:=hid hxr
   have HXI:=hid hxi
   have hns:x.name.size≤maxLen:=hfi.1
   have htl:x.txt.length≤maxLen:=hfi.2.1
   unfold maxLen at htl
   have HNS:=hid hns
   have HFI:=hid hfi
   have HSX:=hid hsx
   clear hxr hxs hxi hfi hx hsx hns
   unfold Fx.sl at c1
   have mixed:=Tryz.mixed
   have HFX:Hid (∀W,Calls Tryz.prog 126 #[.string x.name] W fun e w'=>e=.returned (.bool (fieldB x.name.data.toList))∧w'=W):=fun W=>rfield_any x.name W HNS.out
   by_cases h16:i=16
   ·subst h16
    have H0:Hid (r=false):=HR.out.symm.trans (may_long (by rw [List.length_map];omega))
    go_wp2_with fail
    go_quiet (fail)
    go_wp2_with fail
    go_ret
    exact ⟨ret_bool H0.out.symm,(hb.alloc _).drewN _⟩
   have h16z:decide ((16:Int)≤(i:Int))=false:=decide_eq_false (by omega)
   cases hfx:fieldB x.name.data.toList with
   | false =>
    rw [hfx] at HFX
    have H0:Hid (r=false):=HR.out.symm.trans (may_no (i:=i) (by rw [List.length_map];exact hlt) (step_not HSX.out (Or.inl hfx)))
    go_wp2_with fail
    refine wp_region_quiet_lit mixed (by kernel_rfl) ?_
    repeat (go_big_quiet_step (first|(go_at_call 126;refine Calls.quiet_of_same (HFX.out _))))
    refine wpQuiet_nil ?_
    intro _ hw'
    obtain ⟨nq,hw''⟩:=hw'
    subst hw''
    go_wp2_with fail
    go_ret
    exact ⟨ret_bool H0.out.symm,(hb.alloc _).drewN _⟩
   | true =>
    rw [hfx] at HFX
    by_cases h0:i=0
    ·have h0z:decide ((0:Int)<(i:Int))=false:=decide_eq_false (by omega)
     have h0y:decide (0<i)=false:=decide_eq_false (by omega)
     have H00:=hid h0
     clear h0
     by_cases ht0:x.txt.length=0
     ·have ht0z:(x.txt.length:Int)=0:=by omega
      have H0:Hid (r=false):=HR.out.symm.trans (may_no (i:=i) (by rw [List.length_map];exact hlt) (step_not HSX.out (Or.inr (Or.inl ht0))))
      go_wp2_with fail
      refine wp_region_quiet_lit mixed (by kernel_rfl) ?_
      repeat (go_big_quiet_step (first|(go_at_call 126;refine Calls.quiet_of_same (HFX.out _))))
      refine wpQuiet_nil ?_
      intro _ hw'
      obtain ⟨nq,hw''⟩:=hw'
      subst hw''
      go_wp2_with fail
      go_ret
      exact ⟨ret_bool H0.out.symm,(hb.alloc _).drewN _⟩
     have ht0z:¬ (x.txt.length:Int)=0:=by omega
     have ht0d:((x.txt.length:Int)==0)=false:=beq_eq_false_iff_ne.2 ht0z
     by_cases ht8:8<x.txt.length
     ·have ht8z:(8:Int)<(x.txt.length:Int):=by omega
      have H0:Hid (r=false):=HR.out.symm.trans (may_no (i:=i) (by rw [List.length_map];exact hlt) (step_not HSX.out (Or.inr (Or.inr (Or.inl ht8)))))
      go_wp2_with fail
      refine wp_region_quiet_lit mixed (by kernel_rfl) ?_
      repeat (go_big_quiet_step (first|(go_at_call 126;refine Calls.quiet_of_same (HFX.out _))))
      refine wpQuiet_nil ?_
      intro _ hw'
      obtain ⟨nq,hw''⟩:=hw'
      subst hw''
      go_wp2_with fail
      go_ret
      exact ⟨ret_bool H0.out.symm,(hb.alloc _).drewN _⟩
     have ht8z:decide ((8:Int)<(x.txt.length:Int))=false:=decide_eq_false (by omega)
     have HST:Hid ((∀t∈x.txt,t.size≤128)→stepOk (d.map Fx.fld) (i)=true):=fun h=>step_of HSX.out hfx (by show 0<x.txt.length;omega) (by show x.txt.length≤8;omega) h (Or.inl H00.out)
     obtain ⟨bt,ot,hpt,hct0⟩:∃bt ot,x.p=some ⟨bt,ot,none⟩∧∀l,(h:l<x.txt.length)→wr.cell? ⟨bt,ot+l,none⟩=some (.string x.txt[l]):=by
      rcases HXI.out with h|h
      ·exact absurd (by rw [h];rfl) ht0
      ·exact h
     have HCT0:=hid hct0
     rw [hpt] at c1
     clear hpt hct0
     go_wp2_with fail
     refine wp_region_quiet_lit mixed (by kernel_rfl) ?_
     repeat (go_big_quiet_step (first|(go_at_call 126;refine Calls.quiet_of_same (HFX.out _))))
     refine wpQuiet_nil ?_
     intro _ hw'
     obtain ⟨nq,hw''⟩:=hw'
     subst hw''
     go_wp2_with fail
     obtain ⟨W2,hW2⟩:∃W2,(wr.alloc (.cells #[.string x.name,.slice (some ⟨bt,ot,none⟩) x.txt.length x.cap] 45)).drewN nq=W2:=⟨_,rfl⟩
     have hgW:Grown wr W2:=by rw [←hW2];exact ((Grown.refl wr).alloc _).drewN _
     have q1:W2.cell? ⟨wr.heap.size,1,none⟩=some (.slice (some ⟨bt,ot,none⟩) x.txt.length x.cap):=by rw [←hW2];exact (x_new wr ⟨x.name,some ⟨bt,ot,none⟩,x.cap,x.txt⟩ (wr.alloc _) (Below.refl _ _)).2
     have hat:∀l,(h:l<x.txt.length)→W2.cell? ⟨bt,ot+l,none⟩=some (.string x.txt[l]):=fun l h=>(hgW.below.cell (p:=⟨bt,ot+l,none⟩) (cell_block (HCT0.out l h))).trans (HCT0.out l h)
     have HGW:=hid hgW
     have HAT:=hid hat
     rw [hW2]
     clear hgW hat hW2
     go_loopg [5] x.txt.length (fun g vj W=>∃j:Nat,vj=.int .i64 j∧j≤x.txt.length∧x.txt.length-j≤g∧W=W2∧Hid (∀l (h:l<x.txt.length),l<j→(x.txt[l]).size≤128))
     case atStart=>exact ⟨0,rfl,by omega,by omega,rfl,fun l _ h=>by omega⟩
     case round =>
      obtain ⟨j,rfl,hj,hgj,rfl,HL⟩:=hrel
      by_cases hjl:j<x.txt.length
      ·have hjz:(j:Int)<(x.txt.length:Int):=by omega
       have hj0:(0:Int)≤(j:Int):=by omega
       have ctj:=HAT.out j hjl
       obtain ⟨t,htt⟩:∃t,x.txt[j]=t:=⟨_,rfl⟩
       have HTT:=hid htt
       rw [htt] at ctj
       clear htt
       by_cases hts:128<t.size
       ·have htsz:(128:Int)<(t.size:Int):=by omega
        have H0:Hid (r=false):=HR.out.symm.trans (may_no (i:=i) (by rw [List.length_map];exact hlt) (step_not HSX.out (Or.inr (Or.inr (Or.inr (Or.inl ⟨t,by rw [←HTT.out];exact List.getElem_mem hjl,hts⟩))))))
        go_wp2_with fail
        go_ret
        exact ⟨ret_bool H0.out.symm,hb.trans HGW.out⟩
       ·have htsz:¬ (128:Int)<(t.size:Int):=by omega
        go_wp2_with fail
        go_roundg (x.txt.length-(j+1))
        case measure=>omega
        refine ⟨j+1,by go_num,by omega,by omega,rfl,fun l hl hlj=>?_⟩
        by_cases e:l=j
        ·subst e;rw [HTT.out];omega
        ·exact HL.out l hl (by omega)
      ·have hjz:¬ (j:Int)<(x.txt.length:Int):=by omega
       have H1:=hid (HST.out fun t ht=>by
        obtain ⟨l,hl,rfl⟩:=List.mem_iff_getElem.1 ht
        exact HL.out l hl (by omega))
       go_wp2_with fail
       go_roundg (d.length-(i+1))
       case measure=>omega
       refine ⟨i+1,by go_num,by omega,by omega,by omega,hb.trans HGW.out,fun l hl=>?_⟩
       by_cases e:l=i
       ·subst e;exact H1.out
       ·exact HJ.out l (by omega)
    ·obtain ⟨k,rfl⟩:∃k,i=k+1:=⟨i-1,by omega⟩
     obtain ⟨e0,_⟩:=HXR.out k (by omega)
     have hsy:=flds_at (d:=d) (i:=k) (by omega)
     obtain ⟨y,hy⟩:∃y,d[k]=y:=⟨_,rfl⟩
     rw [hy] at e0 hsy
     have HSY:=hid hsy
     clear hy hsy
     have k1:(0:Int)<(k:Int)+1:=by omega
     have hltk:(k:Int)+1<(d.length:Int):=by omega
     have h16y:decide ((16:Int)≤(k:Int)+1)=false:=decide_eq_false (by omega)
     have k2:(0:Int)≤(k:Int):=by omega
     have k3:(k:Int)<(d.length:Int):=by omega
     have e1:∀o,(wr.alloc o).cell? ⟨b,off+k * 2,none⟩=some (.string y.name):=fun o=>by
      rw [←e0];exact ((Below.refl wr.heap.size wr).alloc (Nat.le_refl _) _).cell (p:=⟨b,off+k * 2,none⟩) (cell_block e0)
     cases hlt2:Op.bytesLess y.name.toList x.name.toList with
     | false =>
      have H0:Hid (r=false):=HR.out.symm.trans (may_no (i:=k+1) (by rw [List.length_map];exact hlt) (step_not HSX.out (Or.inr (Or.inr (Or.inr (Or.inr ⟨by omega,by rw [Nat.add_sub_cancel,HSY.out];exact hlt2⟩))))))
      go_wp2_with fail
      refine wp_region_quiet_lit mixed (by kernel_rfl) ?_
      repeat (go_big_quiet_step (first|(go_at_call 126;refine Calls.quiet_of_same (HFX.out _))))
      refine wpQuiet_nil ?_
      intro _ hw'
      obtain ⟨nq,hw''⟩:=hw'
      subst hw''
      go_wp2_with fail
      go_ret
      exact ⟨ret_bool H0.out.symm,(hb.alloc _).drewN _⟩
     | true =>
      by_cases ht0:x.txt.length=0
      ·have ht0z:(x.txt.length:Int)=0:=by omega
       have H0:Hid (r=false):=HR.out.symm.trans (may_no (i:=k+1) (by rw [List.length_map];exact hlt) (step_not HSX.out (Or.inr (Or.inl ht0))))
       go_wp2_with fail
       refine wp_region_quiet_lit mixed (by kernel_rfl) ?_
       repeat (go_big_quiet_step (first|(go_at_call 126;refine Calls.quiet_of_same (HFX.out _))))
       refine wpQuiet_nil ?_
       intro _ hw'
       obtain ⟨nq,hw''⟩:=hw'
       subst hw''
       go_wp2_with fail
       go_ret
       exact ⟨ret_bool H0.out.symm,(hb.alloc _).drewN _⟩
      have ht0z:¬ (x.txt.length:Int)=0:=by omega
      have ht0d:((x.txt.length:Int)==0)=false:=beq_eq_false_iff_ne.2 ht0z
      by_cases ht8:8<x.txt.length
      ·have ht8z:(8:Int)<(x.txt.length:Int):=by omega
       have H0:Hid (r=false):=HR.out.symm.trans (may_no (i:=k+1) (by rw [List.length_map];exact hlt) (step_not HSX.out (Or.inr (Or.inr (Or.inl ht8)))))
       go_wp2_with fail
       refine wp_region_quiet_lit mixed (by kernel_rfl) ?_
       repeat (go_big_quiet_step (first|(go_at_call 126;refine Calls.quiet_of_same (HFX.out _))))
       refine wpQuiet_nil ?_
       intro _ hw'
       obtain ⟨nq,hw''⟩:=hw'
       subst hw''
       go_wp2_with fail
       go_ret
       exact ⟨ret_bool H0.out.symm,(hb.alloc _).drewN _⟩
      have ht8z:decide ((8:Int)<(x.txt.length:Int))=false:=decide_eq_false (by omega)
      have HST:Hid ((∀t∈x.txt,t.size≤128)→stepOk (d.map Fx.fld) (k+1)=true):=fun h=>step_of HSX.out hfx (by show 0<x.txt.length;omega) (by show x.txt.length≤8;omega) h (Or.inr (by rw [Nat.add_sub_cancel,HSY.out];exact hlt2))
      obtain ⟨bt,ot,hpt,hct0⟩:∃bt ot,x.p=some ⟨bt,ot,none⟩∧∀l,(h:l<x.txt.length)→wr.cell? ⟨bt,ot+l,none⟩=some (.string x.txt[l]):=by
       rcases HXI.out with h|h
       ·exact absurd (by rw [h];rfl) ht0
       ·exact h
      have HCT0:=hid hct0
      rw [hpt] at c1
      clear hpt hct0
      go_wp2_with fail
      refine wp_region_quiet_lit mixed (by kernel_rfl) ?_
      repeat (go_big_quiet_step (first|(go_at_call 126;refine Calls.quiet_of_same (HFX.out _))))
      refine wpQuiet_nil ?_
      intro _ hw'
      obtain ⟨nq,hw''⟩:=hw'
      subst hw''
      go_wp2_with fail
      obtain ⟨W2,hW2⟩:∃W2,(wr.alloc (.cells #[.string x.name,.slice (some ⟨bt,ot,none⟩) x.txt.length x.cap] 45)).drewN nq=W2:=⟨_,rfl⟩
      have hgW:Grown wr W2:=by rw [←hW2];exact ((Grown.refl wr).alloc _).drewN _
      have q1:W2.cell? ⟨wr.heap.size,1,none⟩=some (.slice (some ⟨bt,ot,none⟩) x.txt.length x.cap):=by rw [←hW2];exact (x_new wr ⟨x.name,some ⟨bt,ot,none⟩,x.cap,x.txt⟩ (wr.alloc _) (Below.refl _ _)).2
      have hat:∀l,(h:l<x.txt.length)→W2.cell? ⟨bt,ot+l,none⟩=some (.string x.txt[l]):=fun l h=>(hgW.below.cell (p:=⟨bt,ot+l,none⟩) (cell_block (HCT0.out l h))).trans (HCT0.out l h)
      have HGW:=hid hgW
      have HAT:=hid hat
      rw [hW2]
      clear hgW hat hW2
      go_loopg [5] x.txt.length (fun g vj W=>∃j:Nat,vj=.int .i64 j∧j≤x.txt.length∧x.txt.length-j≤g∧W=W2∧Hid (∀l (h:l<x.txt.length),l<j→(x.txt[l]).size≤128))
      case atStart=>exact ⟨0,rfl,by omega,by omega,rfl,fun l _ h=>by omega⟩
      case round =>
       obtain ⟨j,rfl,hj,hgj,rfl,HL⟩:=hrel
       by_cases hjl:j<x.txt.length
       ·have hjz:(j:Int)<(x.txt.length:Int):=by omega
        have hj0:(0:Int)≤(j:Int):=by omega
        have ctj:=HAT.out j hjl
        obtain ⟨t,htt⟩:∃t,x.txt[j]=t:=⟨_,rfl⟩
        have HTT:=hid htt
        rw [htt] at ctj
        clear htt
        by_cases hts:128<t.size
        ·have htsz:(128:Int)<(t.size:Int):=by omega
         have H0:Hid (r=false):=HR.out.symm.trans (may_no (i:=k+1) (by rw [List.length_map];exact hlt) (step_not HSX.out (Or.inr (Or.inr (Or.inr (Or.inl ⟨t,by rw [←HTT.out];exact List.getElem_mem hjl,hts⟩))))))
         go_wp2_with fail
         go_ret
         exact ⟨ret_bool H0.out.symm,hb.trans HGW.out⟩
        ·have htsz:¬ (128:Int)<(t.size:Int):=by omega
         go_wp2_with fail
         go_roundg (x.txt.length-(j+1))
         case measure=>omega
         refine ⟨j+1,by go_num,by omega,by omega,rfl,fun l hl hlj=>?_⟩
         by_cases e:l=j
         ·subst e;rw [HTT.out];omega
         ·exact HL.out l hl (by omega)
       ·have hjz:¬ (j:Int)<(x.txt.length:Int):=by omega
        have H1:=hid (HST.out fun t ht=>by
         obtain ⟨l,hl,rfl⟩:=List.mem_iff_getElem.1 ht
         exact HL.out l hl (by omega))
        go_wp2_with fail
        go_roundg (d.length-(k+1+1))
        case measure=>omega
        refine ⟨k+1+1,by go_num,by omega,by omega,by omega,hb.trans HGW.out,fun l hl=>?_⟩
        by_cases e:l=k+1
        ·subst e;exact H1.out
        ·exact HJ.out l (by omega)
  ·have hltz:¬ (i:Int)<(d.length:Int):=by omega
   have H0:Hid (r=true):=HR.out.symm.trans (may_yes (by rw [List.length_map];omega) (fun j hj=>HJ.out j (by rw [List.length_map] at hj;omega)))
   go_wp2_with fail
   go_ret
   exact ⟨ret_bool H0.out.symm,hb⟩
end
section
open Go.RowKit
theorem new_byte (w:World) (c:Int):∀j u,([.int .u8 c]:List Value)[j]? = some u→(w.alloc (.cells #[.int .u8 c] 5)).cell? ((⟨w.heap.size,0,none⟩:Addr).add j)=some u:=by
 intro j u hj
 match j,hj with
 | 0,hj=>simp at hj;subst hj;simp [Addr.add]
theorem one_byte (c:Int):∀u∈([.int .u8 c]:List Value),u.oneCell'=true:=by intro u hu;simp at hu;subst hu;rfl
theorem ownB_put {n0:Nat} {w:World} {v:Value} {bs:List UInt8} {c:UInt8} {k:Int} {n:Nat} (h:w.ownsRow n0 5 1 v n (Lib.byteCells bs++[.int .u8 k])) (hn:n=bs.length+1) (hk:(c.toNat:Int)=k):OwnB n0 w v (bs++[c]):=by
 subst hn
 unfold OwnB
 have e2:Lib.byteCells (bs++[c])=Lib.byteCells bs++[.int .u8 k]:=by simp [Lib.byteCells,hk]
 rw [e2,List.length_append]
 exact h
end
section
open Go.RowKit
def SeqB {α:Type} (F:Fence) (n:Nat) (P:Program) (g:Nat) (lb:Array Value) (encs:α→Array Value) (Kp:World→World→Prop) (S Sp:List α→Prop) (N Bs:Nat) (w:World):Prop :=
 ∀(l:Nat) (J Jx:List α→World→Prop) (W:World),Below w.heap.size w W→(∀s W v,J s W→J s (W.setCell ⟨Bs,0,none⟩ v)) →
  (∀pre x W1,J pre W1→pre.length<N→YieldAt F (n-1) P l (encs x) W1 fun e W' =>
   (e=.returned (.bool true)∧J (pre++[x]) W'∧Kp W1 W')∨(e=.returned (.bool false)∧Jx (pre++[x]) W')) →
  J [] W →
  CallsIn F n P g (#[.func (.yield l) #[] #[]]++lb) W fun e W'=>(∃v,e=.returned v)∧((∃xs,S xs∧J xs W')∨(∃pre,Sp pre∧Jx pre W'))
variable {F:Fence} {n:Nat} {P:Program}
theorem wpIn_rangeFunc_box {α:Type} {g:Operand} {ps:Array Tmp} {assign body:Code} {Q:Exit→Act→World→Prop} {a:Act} {w:World}
  (hro:F.round=none) (h1:1≤n) {gf:Nat} {lb:Array Value} (hg:a.eval g=.func (.func gf) #[] lb) (hFg:F.fn gf) (eg:∀args w,(callFunc gf args).run P w=.ok (.enter gf args) w)
  {encs:α→Array Value} {Kp:World→World→Prop} {S Sp:List α→Prop} {N Bs:Nat} (hBs:Bs<w.heap.size) (hseq:SeqB F (n-1) P gf lb encs Kp S Sp N Bs w)
  (hKt:∀{A B C:World},Kp A B→Kp B C→Kp A C) (hKb:∀(W:World) (l:Nat) (o':Obj),w.heap.size≤l→Kp W (W.putObj l o')) (hps:∀x,(encs x).size=ps.size)
  (I:List α→World→Prop) (Ix:Code→List α→World→Prop)
  (hIp:∀s W o',I s W→I s (W.putObj (w.heap.size+1) o')) (hIb:∀s W v,I s W→I s (W.setCell ⟨Bs,0,none⟩ v)) (hXp:∀c s W o',Ix c s W→Ix c s (W.putObj (w.heap.size+1) o'))
  (h0:∀o1 o2,I [] ((w.alloc o1).alloc o2)) (a₁:α→Act)
  (hassign:∀(l:Nat) (x:α) (W:World) (K:Act→World→Prop),K (a₁ x) W →
   assign.wpIn (F.inRound l) (n-1-1) P (Exit.then K (fun _ _ _=>False)) { tmps:=(ps.zip (encs x)).foldl (fun t (p,v)=>t.setIfInBounds p v) a.tmps,defers:=[] } W)
  (hbody:∀(l:Nat) (pre:List α) (x:α) (W:World),w.heap.size+1<W.heap.size→I pre W→pre.length<N→body.wpIn (F.inRound l) (n-1-1) P (ownPostG w.heap.size Kp I Ix (pre++[x]) W) (a₁ x) W)
  (hdone:∀(xs:List α) (W:World),S xs→I xs W→W.heap[w.heap.size]? = some (.deferred (some []))→Q .normal { a with defers:={ target:=.collected w.heap.size,args:=#[] }::a.defers } W)
  (hstop:∀(c:Code) (pre:List α) (W:World),Sp pre→Ix c pre W→W.heap[w.heap.size]? = some (.deferred (some []))→c.wpIn F n P Q { a with defers:={ target:=.collected w.heap.size,args:=#[] }::a.defers } W) :
  (Code.rangeFunc g ps assign body).wpIn F n P Q a w:=by
 refine wpIn_rangeFunc ?_
 intro fn hfn
 rw [hro]
 obtain ⟨rec,hrec⟩:∃rec:LoopState→Option Code→Loop,rec=fun st pe=>{ state:=st,pending:=pe,fn,tmps:=a.tmps,params:=ps,assign,body,defers:=w.heap.size }:=⟨_,rfl⟩
 obtain ⟨W1,hW1⟩:∃W1,(w.alloc (.deferred (some []))).alloc (.loop (rec .ready none))=W1:=⟨_,rfl⟩
 have hL1:W1.heap[w.heap.size+1]? = some (.loop (rec .ready none)):=by
  rw [←hW1];have:=World.alloc_heap_new (w.alloc (.deferred (some []))) (.loop (rec .ready none));rwa [World.size_alloc] at this
 have hK1:W1.heap[w.heap.size]? = some (.deferred (some [])):=by
  rw [←hW1];exact (Below.heap_alloc _ _ _ (by simp)).trans (World.alloc_heap_new w _)
 have hb1:Below w.heap.size w W1:=by
  rw [←hW1];exact ((Below.refl _ w).alloc (Nat.le_refl _) _).alloc (by simp) _
 refine ⟨w.heap.size+1,[{ target:=.collected w.heap.size,args:=#[] }],W1,{ target:=.fn (.func gf) lb,args:=#[.func (.yield (w.heap.size+1)) #[] #[]] },W1,gf,
  #[.func (.yield (w.heap.size+1)) #[] #[]]++lb,W1,?_,?_,?_,?_,fun _=>h1,?_⟩
 ·rw [←hW1,hrec];exact run_enterLoop_outer _ _ _ _ _
 ·simp only [resolve,hg]
  simp [go_sem]
 ·intro f' hf';simp [Target.leads] at hf';subst hf';exact hFg
 ·simp [invoke,go_sem,eg]
 ·refine (hseq (w.heap.size+1)
   (fun pre W=>I pre W∧W.heap[w.heap.size+1]? = some (.loop (rec .ready none))∧W.heap[w.heap.size]? = some (.deferred (some [])))
   (fun pre W=>∃c,Ix c pre W∧W.heap[w.heap.size+1]? = some (.loop (rec .done (some c)))∧W.heap[w.heap.size]? = some (.deferred (some [])))
   W1 hb1
   (fun s W v hs=>⟨hIb s W v hs.1,(Below.heap_setCell W ⟨Bs,0,none⟩ v _ (by show _≠Bs;omega)).trans hs.2.1,(Below.heap_setCell W ⟨Bs,0,none⟩ v _ (by show _≠Bs;omega)).trans hs.2.2⟩)
   ?_ ⟨by rw [←hW1];exact h0 _ _,hL1,hK1⟩).mono ?_
  ·rintro pre x W ⟨hi,hl,hk⟩ hlen
   have hlt:w.heap.size+1<W.heap.size:=(Array.getElem?_eq_some_iff.1 hl).1
   have hy:=run_yield (P:=P) (args:=encs x) hl (by rw [hrec];exact hps x)
   rw [hrec] at hy
   refine ⟨fn,_,assign,body,hy,roundIn_of_wpIn hfn (hassign _ x W _ ⟨_,run_beginRound hl (by rw [hrec]),?_⟩)⟩
   have hl2:(W.putObj (w.heap.size+1) (.loop { rec .ready none with state:=.busy })).heap[w.heap.size+1]? = some (.loop { rec .ready none with state:=.busy }):=World.putObj_heap_same hlt
   have hk2:(W.putObj (w.heap.size+1) (.loop { rec .ready none with state:=.busy })).heap[w.heap.size]? = some (.deferred (some [])):=(World.putObj_heap_other (by omega)).trans hk
   have hw2:Kp W (W.putObj (w.heap.size+1) (.loop { rec .ready none with state:=.busy })):=hKb _ _ _ (by omega)
   refine wpIn_mono (hbody _ pre x _ (Array.getElem?_eq_some_iff.1 hl2).1 (hIp _ _ _ hi) hlen) ?_
   have fin:∀(jump:Option Code) (W3:World),KeepsFrom w.heap.size (W.putObj (w.heap.size+1) (.loop { rec .ready none with state:=.busy })) W3 →
     (Instr.endRound (w.heap.size+1) jump).run P W3=.ok (.bool jump.isNone) (W3.putObj (w.heap.size+1) (.loop (rec (if jump.isNone then .ready else .done) jump))) ∧
     (W3.putObj (w.heap.size+1) (.loop (rec (if jump.isNone then .ready else .done) jump))).heap[w.heap.size+1]? = some (.loop (rec (if jump.isNone then .ready else .done) jump)) ∧
     (W3.putObj (w.heap.size+1) (.loop (rec (if jump.isNone then .ready else .done) jump))).heap[w.heap.size]? = some (.deferred (some [])):=fun jump W3 hk3=>by
    have hl3:=hk3.same _ _ (by omega) hl2 rfl
    have:=run_endRound (P:=P) jump hl3
    rw [hrec] at this ⊢
    exact ⟨this,World.putObj_heap_same (Array.getElem?_eq_some_iff.1 hl3).1,(World.putObj_heap_other (by omega)).trans (hk3.same _ _ (Nat.le_refl _) hk2 rfl)⟩
   rintro e a3 W3 hp
   cases e with
   | normal =>
    obtain ⟨hk3,hkp3,hi3⟩:=hp
    obtain ⟨hr,hl4,hk4⟩:=fin none W3 hk3
    exact ⟨_,_,hr,.inl ⟨rfl,⟨hIp _ _ _ hi3,hl4,hk4⟩,hKt (hKt hw2 hkp3) (hKb _ _ _ (by omega))⟩⟩
   | ret =>
    obtain ⟨hk3,hi3⟩:=hp
    obtain ⟨hr,hl4,hk4⟩:=fin (some .ret) W3 hk3
    exact ⟨_,_,hr,.inr ⟨rfl,.ret,hXp _ _ _ _ hi3,hl4,hk4⟩⟩
   | exit id =>
    obtain ⟨hk3,hi3⟩:=hp
    obtain ⟨hr,hl4,hk4⟩:=fin (some (.exit id)) W3 hk3
    exact ⟨_,_,hr,.inr ⟨rfl,.exit id,hXp _ _ _ _ hi3,hl4,hk4⟩⟩
   | goto t =>
    obtain ⟨hk3,hi3⟩:=hp
    obtain ⟨hr,hl4,hk4⟩:=fin (some (.goto t)) W3 hk3
    exact ⟨_,_,hr,.inr ⟨rfl,.goto t,hXp _ _ _ _ hi3,hl4,hk4⟩⟩
   | panic ch=>exact hp.elim
   | outgrown=>exact hp.elim
  ·rintro e W2 ⟨⟨v,rfl⟩,(⟨xs,hS,hi,hl,hk⟩|⟨pre,hSp,c,hi,hl,hk⟩)⟩
   ·exact ⟨none,_,by have:=run_endLoop (P:=P) hl (by rw [hrec];simp);rw [hrec] at this;exact this,hdone xs _ hS (hIp _ _ _ hi) ((World.putObj_heap_other (by omega)).trans hk)⟩
   ·exact ⟨some c,_,by have:=run_endLoop (P:=P) hl (by rw [hrec];simp);rw [hrec] at this;exact this,hstop c pre _ hSp (hXp _ _ _ _ hi) ((World.putObj_heap_other (by omega)).trans hk)⟩
end
end Go.Proofs.YtjeogllmpjihaaaGreatDoor
namespace Go.Proofs
open Go.Shelf
def Tryz.lays110_ren:Go.Shelf.Ren:=⟨fun|110=>34|109=>65|n=>n,fun|31=>43|9=>9|4=>4|3=>3|0=>0|n=>n,fun|n=>n⟩
theorem Tryz.lays110:Go.Proofs.Lays.n110 Tryz.prog Tryz.lays110_ren:={
 mixed:=by kernel_rfl
 f109:=Tryz.func65.trans (congrArg some (by kernel_rfl))
 f110:=Tryz.func34.trans (congrArg some (by kernel_rfl))
 t0:=Tryz.underlying0
 a0:=Tryz.isAgg0
 z0:=Tryz.sizeOf0
 v0:=Tryz.zeroValue0
 t3:=Tryz.underlying3
 a3:=Tryz.isAgg3
 z3:=Tryz.sizeOf3
 v3:=Tryz.zeroValue3
 t4:=Tryz.underlying4
 a4:=Tryz.isAgg4
 z4:=Tryz.sizeOf4
 v4:=Tryz.zeroValue4
 t9:=Tryz.underlying9
 a9:=Tryz.isAgg9
 z9:=Tryz.sizeOf9
 v9:=Tryz.zeroValue9
 t31:=Tryz.underlying43
 a31:=Tryz.isAgg43
 z31:=Tryz.sizeOf43
 v31:=Tryz.zeroValue43 }
open Go.Lib in
theorem Tryz.slices_Contains_string (b off n c:Nat) (zs:List ByteArray) (x:ByteArray) (w:World) (hz:n≤zs.length) (hbig:n≤9223372036854775807) (hc:∀j,j<zs.length→w.cell? ⟨b,off+j,none⟩=some (.string (zs.getD j ByteArray.empty))) :
  Calls Tryz.prog 34 #[.slice (some ⟨b,off,none⟩) n c,.string x] w fun e w'=>e=.returned (.bool (Lib.containsS (zs.take n) x))∧w'=w:=Any.slices_Contains_string Tryz.lays110 b off n c zs x w hz hbig hc
def Tryz.lays109_ren:Go.Shelf.Ren:=⟨fun|109=>65|n=>n,fun|31=>43|9=>9|3=>3|0=>0|4=>4|n=>n,fun|n=>n⟩
theorem Tryz.lays109:Go.Proofs.Lays.n109 Tryz.prog Tryz.lays109_ren:={
 mixed:=by kernel_rfl
 f109:=Tryz.func65.trans (congrArg some (by kernel_rfl))
 t0:=Tryz.underlying0
 a0:=Tryz.isAgg0
 z0:=Tryz.sizeOf0
 v0:=Tryz.zeroValue0
 t3:=Tryz.underlying3
 a3:=Tryz.isAgg3
 z3:=Tryz.sizeOf3
 v3:=Tryz.zeroValue3
 t4:=Tryz.underlying4
 a4:=Tryz.isAgg4
 z4:=Tryz.sizeOf4
 v4:=Tryz.zeroValue4
 t9:=Tryz.underlying9
 a9:=Tryz.isAgg9
 z9:=Tryz.sizeOf9
 v9:=Tryz.zeroValue9
 t31:=Tryz.underlying43
 a31:=Tryz.isAgg43
 z31:=Tryz.sizeOf43
 v31:=Tryz.zeroValue43 }
open Go.Lib in
theorem Tryz.slices_Index_string (b off n c:Nat) (zs:List ByteArray) (x:ByteArray) (w:World) (hz:n≤zs.length) (hbig:n≤9223372036854775807) (hc:∀j,j<zs.length→w.cell? ⟨b,off+j,none⟩=some (.string (zs.getD j ByteArray.empty))) :
  Calls Tryz.prog 65 #[.slice (some ⟨b,off,none⟩) n c,.string x] w fun e w'=>e=.returned (.int .i64 (Lib.idxOfS (zs.take n) x))∧w'=w:=Any.slices_Index_string Tryz.lays109 b off n c zs x w hz hbig hc
end Go.Proofs
namespace Go.Proofs.YtjeogllmpjihaaaGreatDoor
section
theorem ix_cases (l:List UInt8) (c:UInt8) :
  (Lib.indexByte l c=-1∧c ∉ l)∨∃i:Nat,Lib.indexByte l c=(i:Int)∧i<l.length∧l[i]? = some c∧c ∉ l.take i:=by
 induction l with
 | nil=>left;exact ⟨rfl,by simp⟩
 | cons b l ih =>
  by_cases hb:b=c
  ·right
   refine ⟨0,?_,by simp,by simp [hb],by simp⟩
   unfold Lib.indexByte;simp [hb]
  ·have hbc:(b==c)=false:=by simp [hb]
   rcases ih with ⟨h1,h2⟩|⟨i,h1,h2,h3,h4⟩
   ·left
    refine ⟨?_,?_⟩
    ·unfold Lib.indexByte;rw [hbc];simp [h1]
    ·simp only [List.mem_cons,not_or];exact ⟨fun h=>hb h.symm,h2⟩
   ·right
    refine ⟨i+1,?_,by simp;omega,by simpa using h3,?_⟩
    ·unfold Lib.indexByte;rw [hbc,h1]
     have:((i:Int) == -1)=false:=by rw [beq_eq_false_iff_ne];omega
     simp [this]
    ·simp only [List.take_succ_cons,List.mem_cons,not_or];exact ⟨fun h=>hb h.symm,h4⟩
theorem ix_split (l:List UInt8) (c:UInt8) (i:Nat) (h1:i<l.length) (h2:l[i]? = some c):l=l.take i++c::l.drop (i+1):=by
 have h3:l[i]=c:=by rw [List.getElem?_eq_getElem h1] at h2;exact Option.some.inj h2
 calc l=l.take i++l.drop i:=(List.take_append_drop i l).symm
  _=l.take i++c::l.drop (i+1):=by rw [List.drop_eq_getElem_cons h1,h3]
theorem ix_uniq {a b a' b':List UInt8} {c:UInt8} (h:a++c::b=a'++c::b') (ha:c ∉ a) (ha':c ∉ a'):a=a'∧b=b':=by
 induction a generalizing a' with
 | nil =>
  cases a' with
  | nil=>simp at h;exact ⟨rfl,h⟩
  | cons x a'=>simp at h;simp [h.1] at ha'
 | cons x a ih =>
  cases a' with
  | nil=>simp at h;simp [h.1] at ha
  | cons y a' =>
   simp only [List.cons_append,List.cons.injEq] at h
   simp only [List.mem_cons,not_or] at ha ha'
   obtain ⟨e1,e2⟩:=ih h.2 ha.2 ha'.2
   exact ⟨by rw [h.1,e1],e2⟩
theorem ext_head (s:ByteArray) (i:Nat):(s.extract 0 i).data.toList=s.data.toList.take i:=by
 rw [Lib.extract_data];simp
theorem ext_tail (s:ByteArray) (i:Nat):(s.extract i s.size).data.toList=s.data.toList.drop i:=Lib.extract_to_end s i
end
section
open Go.RowKit
attribute [local go_sem] Oper.semAt_some
theorem ix_lt (l:List UInt8) (c:UInt8) (h:¬ Lib.indexByte l c=-1):(Lib.indexByte l c).toNat<l.length:=by
 rcases ix_cases l c with ⟨h1,_⟩|⟨i,h1,h2,_⟩
 ·exact absurd h1 h
 ·rw [h1];simpa using h2
def splitL (l:List UInt8):List (List UInt8) :=
 if h:Lib.indexByte l 32=-1 then [l] else l.take (Lib.indexByte l 32).toNat::splitL (l.drop ((Lib.indexByte l 32).toNat+1))
 termination_by l.length
 decreasing_by have:=ix_lt l 32 h;rw [List.length_drop];omega
theorem splitL_no {l:List UInt8} (h:Lib.indexByte l 32=-1):splitL l=[l]:=by unfold splitL;rw [dif_pos h]
theorem splitL_yes {l:List UInt8} {i:Nat} (h:Lib.indexByte l 32=(i:Int)):splitL l=l.take i::splitL (l.drop (i+1)):=by
 conv=>lhs;unfold splitL
 rw [dif_neg (by rw [h];omega),h,Int.toNat_natCast]
abbrev Wd (M:Nat):Type:={ t:ByteArray // t.size≤M }
def encW {M:Nat} (x:Wd M):Array Value:=#[.string x.1]
def plainW {M:Nat} (xs:List (Wd M)):List (List UInt8):=xs.map fun x=>x.1.data.toList
def Kp3 (b1 b2 b3:Nat) (W W':World):Prop:=W'.heap[b1]? = W.heap[b1]?∧W'.heap[b2]? = W.heap[b2]?∧W'.heap[b3]? = W.heap[b3]?
def Boxes (b1 b2 b3:Nat) (t:ByteArray) (W:World):Prop :=
 W.heap[b1]? = some (.cells #[.string ⟨#[32]⟩] 9 (0,0))∧W.heap[b2]? = some (.cells #[.string t] 9 (0,0))∧W.heap[b3]? = some (.cells #[.int .i64 0] 3 (0,0))∧b1≠b2∧b3≠b2
def leftOf (b2:Nat) (W:World):Nat:=match W.cell? ⟨b2,0,none⟩ with
 | some (.string t)=>t.size
 | _=>0
def SplitSt {M:Nat} (b1 b2 b3:Nat) (s:ByteArray) (J:List (Wd M)→World→Prop) (wr:World):Prop :=
 ∃(pre:List (Wd M)) (t:ByteArray),Boxes b1 b2 b3 t wr∧t.size≤M∧splitL s.data.toList=plainW pre++splitL t.data.toList∧J pre wr
theorem splitL_pos (l:List UInt8):0<(splitL l).length:=by
 rcases ix_cases l 32 with ⟨h,_⟩|⟨i,h,_⟩
 ·rw [splitL_no h];simp
 ·rw [splitL_yes h];simp
theorem boxes_cells {b1 b2 b3:Nat} {t:ByteArray} {W:World} (h:Boxes b1 b2 b3 t W):W.cell? ⟨b1,0,none⟩=some (.string ⟨#[32]⟩)∧W.cell? ⟨b2,0,none⟩=some (.string t)∧W.cell? ⟨b3,0,none⟩=some (.int .i64 0)∧W.frozen? ⟨b2,0,none⟩=false :=
 ⟨by rw [Lib.cell_of_heap h.1];rfl,by rw [Lib.cell_of_heap h.2.1];rfl,by rw [Lib.cell_of_heap h.2.2.1];rfl,Lib.frozen_of_heap h.2.1 0⟩
theorem Boxes.kp {b1 b2 b3:Nat} {t:ByteArray} {W W':World} (h:Boxes b1 b2 b3 t W) (hk:Kp3 b1 b2 b3 W W'):Boxes b1 b2 b3 t W' :=
 ⟨hk.1.trans h.1,hk.2.1.trans h.2.1,hk.2.2.trans h.2.2.1,h.2.2.2⟩
theorem Boxes.put {b1 b2 b3:Nat} {t u:ByteArray} {W:World} (h:Boxes b1 b2 b3 t W):Boxes b1 b2 b3 u (W.setCell ⟨b2,0,none⟩ (.string u)) :=
 ⟨(Below.heap_setCell W ⟨b2,0,none⟩ _ b1 h.2.2.2.1).trans h.1,heap_setCell_same W b2 0 _ _ _ h.2.1,(Below.heap_setCell W ⟨b2,0,none⟩ _ b3 h.2.2.2.2).trans h.2.2.1,h.2.2.2⟩
theorem leftOf_eq {b1 b2 b3:Nat} {t:ByteArray} {W:World} (h:Boxes b1 b2 b3 t W):leftOf b2 W=t.size:=by
 unfold leftOf
 rw [(boxes_cells h).2.1]
set_option maxHeartbeats 4000000 in
set_option maxRecDepth 100000 in
theorem split1_in (n:Nat) (hn:1≤n) (M l b1 b2 b3:Nat) (s:ByteArray) (hs:s.size≤M) (hM:M≤maxLen) (J Jx:List (Wd M)→World→Prop)
  (hJ:∀s W v,J s W→J s (W.setCell ⟨b2,0,none⟩ v))
  (hY:∀pre x W,J pre W→pre.length<(splitL s.data.toList).length→YieldAt Fence.wide (n-1) Tryz.prog l (encW x) W fun e W' =>
   (e=.returned (.bool true)∧J (pre++[x]) W'∧Kp3 b1 b2 b3 W W')∨(e=.returned (.bool false)∧Jx (pre++[x]) W'))
  (W:World) (hB:Boxes b1 b2 b3 s W) (h0:J [] W) :
  CallsIn Fence.wide n Tryz.prog 61 #[.func (.yield l) #[] #[],.pointer (some ⟨b1,0,none⟩),.pointer (some ⟨b2,0,none⟩),.pointer (some ⟨b3,0,none⟩)] W fun e W'=>(∃v,e=.returned v) ∧
   ((∃ys,plainW ys=splitL s.data.toList∧J ys W')∨(∃pre,plainW pre <+: splitL s.data.toList∧Jx pre W')):=by
 refine callsIn_of_wp Tryz.func61 rfl trivial ?_ rfl
 simp only [Tryz.ntmps61,List.size_toArray,List.length_cons,List.length_nil,Nat.reduceAdd,Nat.reduceSub,Array.replicate_succ,Array.replicate_zero,List.push_toArray,List.append_toArray,List.nil_append,List.cons_append]
 have c1:W.cell? ⟨b1,0,none⟩=some (.string ⟨#[32]⟩):=by rw [Lib.cell_of_heap hB.1];rfl
 have HB:=hid hB
 clear hB
 gi_wp2
 clear c1
 have ST0:Hid (SplitSt b1 b2 b3 s J W):=⟨[],s,HB.out,hs,rfl,h0⟩
 gi_loopw [7] (fun _ wr=>SplitSt b1 b2 b3 s J wr) (fun _ wr=>leftOf b2 wr)
 case atStart=>exact ST0.out
 case round =>
  obtain ⟨pre,t,hB,ht,hsp,hJs⟩:=hrel
  obtain ⟨k1,k2,k3,k4⟩:=boxes_cells hB
  have hlen:pre.length<(splitL s.data.toList).length:=by
   rw [hsp,List.length_append]
   have:=splitL_pos t.data.toList
   have e:(plainW pre).length=pre.length:=by simp [plainW]
   omega
  unfold maxLen at hM
  rcases ix_cases t.data.toList 32 with ⟨hix,_⟩|⟨i,hix,hil,_,_⟩
  ·have HX:=hid hix
   have hsn:=splitL_no hix
   have HF:Hid (plainW (pre++[⟨t,ht⟩])=splitL s.data.toList):=by
    show _=_
    rw [hsp,hsn];simp [plainW]
   obtain ⟨fn,tmps,assign,body,hy,hR⟩:=hY pre ⟨t,ht⟩ wr hJs hlen
   simp only [encW] at hy
   clear hix hsn hsp
   gi_wp2_with (refine ⟨trivial,?_⟩;gi_at_call 63;refine (callsIn_wide.2 (Tryz.strings_Index_one _ _ _)).mono ?_;rintro e w' ⟨rfl,rfl⟩;rw [HX.out])
   refine hR.mono ?_
   rintro e W3 (⟨rfl,hJ3,_⟩|⟨rfl,hJx3⟩)
   ·gi_wp2
    go_end0
    exact ⟨⟨_,rfl⟩,.inl ⟨_,HF.out,hJ3⟩⟩
   ·gi_wp2
    go_end0
    exact ⟨⟨_,rfl⟩,.inr ⟨_,⟨[],by rw [HF.out];simp⟩,hJx3⟩⟩
  ·have HX:=hid hix
   have hsn:=splitL_yes hix
   have hil':i<t.size:=by simpa using hil
   have hxs:(t.extract 0 i).size≤M:=by simp;omega
   have e1:(t.extract 0 i).data.toList=t.data.toList.take i:=by rw [Lib.extract_data];simp
   have e2:(t.extract (i+1) t.size).data.toList=t.data.toList.drop (i+1):=Lib.extract_to_end t (i+1)
   have HF:Hid (splitL s.data.toList=plainW (pre++[(⟨t.extract 0 i,hxs⟩:Wd M)])++splitL (t.extract (i+1) t.size).data.toList):=by
    show _=_
    rw [hsp,hsn,e2]
    simp only [plainW,List.map_append,List.map_cons,List.map_nil,e1,List.append_assoc,List.cons_append,List.nil_append]
   obtain ⟨fn,tmps,assign,body,hy,hR⟩:=hY pre ⟨t.extract 0 i,hxs⟩ wr hJs hlen
   simp only [encW] at hy
   have z0:(0:Int)≤(i:Int):=by omega
   have z1:(i:Int)≤(t.size:Int):=by omega
   have z2:(0:Int)≤(i:Int)+1:=by omega
   have z3:(i:Int)+1≤(t.size:Int):=by omega
   have HB2:=hid hB
   clear hix hsn hsp e1 e2 hil hB
   gi_wp2_with (refine ⟨trivial,?_⟩;gi_at_call 63;refine (callsIn_wide.2 (Tryz.strings_Index_one _ _ _)).mono ?_;rintro e w' ⟨rfl,rfl⟩;rw [HX.out])
   refine hR.mono ?_
   rintro e W3 (⟨rfl,hJ3,hk3⟩|⟨rfl,hJx3⟩)
   ·have hB3:=HB2.out.kp hk3
    obtain ⟨m1,m2,m3,m4⟩:=boxes_cells hB3
    have HJ3:=hid (hJ _ W3 (.string (t.extract (i+1) t.size)) hJ3)
    have HB4:Hid (Boxes b1 b2 b3 (t.extract (i+1) t.size) (W3.setCell ⟨b2,0,none⟩ (.string (t.extract (i+1) t.size)))):=hB3.put
    have HM1:=hid (leftOf_eq HB2.out)
    have HM2:=hid (leftOf_eq HB4.out)
    clear hJ3 hB3 hk3
    gi_wp2
    go_roundw
    case rel=>exact ⟨_,_,HB4.out,by simp;omega,HF.out,HJ3.out⟩
    case measure=>rw [HM1.out,HM2.out];simp;omega
   ·gi_wp2
    refine bodyPost_ret (results_none rfl _ _ _) rfl ?_
    exact ⟨⟨_,rfl⟩,.inr ⟨_,⟨_,HF.out.symm⟩,hJx3⟩⟩
theorem split1_seq (n:Nat) (hn:1≤n) (M b1 b2 b3:Nat) (s:ByteArray) (hs:s.size≤M) (hM:M≤maxLen) (w:World) (hB:Boxes b1 b2 b3 s w) :
  SeqB Fence.wide n Tryz.prog 61 #[.pointer (some ⟨b1,0,none⟩),.pointer (some ⟨b2,0,none⟩),.pointer (some ⟨b3,0,none⟩)] (encW (M:=M)) (Kp3 b1 b2 b3) (fun xs=>plainW xs=splitL s.data.toList) (fun pre=>plainW pre <+: splitL s.data.toList) (splitL s.data.toList).length b2 w:=by
 intro l J Jx W hb hJ hY h0
 have l1:b1<w.heap.size:=(Array.getElem?_eq_some_iff.1 hB.1).1
 have l2:b2<w.heap.size:=(Array.getElem?_eq_some_iff.1 hB.2.1).1
 have l3:b3<w.heap.size:=(Array.getElem?_eq_some_iff.1 hB.2.2.1).1
 exact split1_in n hn M l b1 b2 b3 s hs hM J Jx hJ hY W (hB.kp ⟨hb.block _ l1,hb.block _ l2,hb.block _ l3⟩) h0
set_option maxHeartbeats 1000000 in
theorem splitSeq_any (s:ByteArray) (w:World) :
  Calls Tryz.prog 16 #[.string s,.string ⟨#[32]⟩] w fun e w'=>e=.returned (.func (.func 61) #[] #[.pointer (some ⟨w.heap.size+1,0,none⟩),.pointer (some ⟨w.heap.size,0,none⟩),.pointer (some ⟨w.heap.size+2,0,none⟩)])∧Boxes (w.heap.size+1) w.heap.size (w.heap.size+2) s w'∧Below w.heap.size w w'∧w'.heap.size=w.heap.size+3:=by
 have hin:Calls Tryz.prog 32 #[.string s,.string ⟨#[32]⟩,.int .i64 0] w fun e w'=>e=.returned (.func (.func 61) #[] #[.pointer (some ⟨w.heap.size+1,0,none⟩),.pointer (some ⟨w.heap.size,0,none⟩),.pointer (some ⟨w.heap.size+2,0,none⟩)])∧w'=((w.alloc (.cells #[.string s] 9)).alloc (.cells #[.string ⟨#[32]⟩] 9)).alloc (.cells #[.int .i64 0] 3):=by
  go_enter Tryz.func32,Tryz.ntmps32
  go_wp2_with fail
  go_ret
  exact ⟨rfl,rfl⟩
 have HI:=hid hin
 clear hin
 go_enter Tryz.func16,Tryz.ntmps16
 go_wp2_with (first|(go_at_call 32;refine HI.out.mono ?_;rintro e w1 ⟨rfl,rfl⟩))
 go_ret
 refine ⟨rfl,⟨?_,?_,?_,by omega,by omega⟩,(((Below.refl _ w).alloc (Nat.le_refl _) _).alloc (by simp) _).alloc (by simp;omega) _,by simp⟩
 ·rw [Below.heap_alloc _ _ _ (by simp)]
  have:=heap_alloc_new (w.alloc (.cells #[.string s] 9)) (.cells #[.string ⟨#[32]⟩] 9)
  simpa using this
 ·rw [Below.heap_alloc _ _ _ (by simp;omega),Below.heap_alloc _ _ _ (by simp)]
  exact heap_alloc_new w _
 ·have:=heap_alloc_new ((w.alloc (.cells #[.string s] 9)).alloc (.cells #[.string ⟨#[32]⟩] 9)) (.cells #[.int .i64 0] 3)
  simpa using this
end
section
open Go.RowKit
set_option maxHeartbeats 400000 in
theorem cutl_no (s:ByteArray) (c:UInt8) (w:World) (hix:Lib.indexByte s.data.toList c=-1) :
  Calls Tryz.prog 151 #[.string s,.string ⟨#[c]⟩] w fun e w'=>e=.returned (.tuple #[.string s,.string ⟨#[]⟩,.bool false])∧w'=w:=by
 have HX:Hid (Lib.indexByte s.data.toList c=-1):=hix
 clear hix
 go_enter Tryz.func151,Tryz.ntmps151
 go_wp2_with (go_at_call 105;refine (Tryz.stringslite_Index_one _ _ _).mono ?_;rintro e w' ⟨rfl,rfl⟩;rw [HX.out])
 go_ret3
 exact ⟨rfl,rfl⟩
set_option maxHeartbeats 400000 in
theorem cutl_yes (s:ByteArray) (c:UInt8) (w:World) (i:Nat) (hix:Lib.indexByte s.data.toList c=(i:Int)) (hi:i<s.size) (hs:s.size≤maxLen) :
  Calls Tryz.prog 151 #[.string s,.string ⟨#[c]⟩] w fun e w'=>e=.returned (.tuple #[.string (s.extract 0 i),.string (s.extract (i+1) s.size),.bool true])∧∃n,w'=w.drewN n:=by
 have HX:Hid (Lib.indexByte s.data.toList c=(i:Int)):=hix
 clear hix
 unfold maxLen at hs
 have c1:(0:Int)≤↑i:=by omega
 have c2:(↑i:Int)≤↑s.size:=by omega
 have c3:(0:Int)≤↑i+1:=by omega
 have c4:(↑i+1:Int)≤↑s.size:=by omega
 go_enter Tryz.func151,Tryz.ntmps151
 go_wp2_with (go_at_call 105;refine (Tryz.stringslite_Index_one _ _ _).mono ?_;rintro e w' ⟨rfl,rfl⟩;rw [HX.out])
 go_quiet (fail)
 go_wp2_with fail
 go_ret3
 exact ⟨rfl,_,rfl⟩
set_option maxHeartbeats 400000 in
theorem cut_no (s:ByteArray) (c:UInt8) (w:World) (hix:Lib.indexByte s.data.toList c=-1) :
  Calls Tryz.prog 111 #[.string s,.string ⟨#[c]⟩] w fun e w'=>e=.returned (.tuple #[.string s,.string ⟨#[]⟩,.bool false])∧w'=w:=by
 have HX:Hid (Lib.indexByte s.data.toList c=-1):=hix
 clear hix
 go_enter Tryz.func111,Tryz.ntmps111
 go_wp2_with (go_at_call 151;refine (cutl_no _ _ _ HX.out).mono ?_;rintro e w' ⟨rfl,rfl⟩)
 go_ret3
 exact ⟨rfl,rfl⟩
set_option maxHeartbeats 400000 in
theorem cut_yes (s:ByteArray) (c:UInt8) (w:World) (i:Nat) (hix:Lib.indexByte s.data.toList c=(i:Int)) (hi:i<s.size) (hs:s.size≤maxLen) :
  Calls Tryz.prog 111 #[.string s,.string ⟨#[c]⟩] w fun e w'=>e=.returned (.tuple #[.string (s.extract 0 i),.string (s.extract (i+1) s.size),.bool true])∧∃n,w'=w.drewN n:=by
 have HX:Hid (Lib.indexByte s.data.toList c=(i:Int)):=hix
 clear hix
 go_enter Tryz.func111,Tryz.ntmps111
 go_wp2_with (go_at_call 151;refine (cutl_yes _ _ _ i HX.out hi hs).mono ?_;rintro e w' ⟨rfl,n,rfl⟩)
 go_ret3
 exact ⟨rfl,n,rfl⟩
end
section
open Go.RowKit
theorem firstP_some {l:List UInt8} {c:UInt8} {n:Nat} (h:firstP l=some (c,n)):0<n∧n≤l.length:=by
 match l,h with
 | [],h=>simp [firstP] at h
 | x::r,h =>
  simp only [firstP] at h
  by_cases c1:plainB (x.toNat:Int)=true
  ·rw [if_pos c1] at h;simp at h;obtain ⟨_,rfl⟩:=h;simp
  ·rw [if_neg c1] at h
   by_cases c2:x≠37
   ·rw [if_pos c2] at h;simp at h
   ·rw [if_neg c2] at h
    match r,h with
    | [],h=>simp at h
    | [a],h=>simp at h
    | a::b::t,h =>
     simp only at h
     split at h
     ·simp at h
     ·split at h
      ·simp at h
      ·simp at h;obtain ⟨_,rfl⟩:=h;simp
def readL (l:List UInt8):Option (List UInt8) :=
 if l=[] then some [] else
  match _h:firstP l with
  | none=>none
  | some (c,n)=>(readL (l.drop n)).map (c :: ·)
 termination_by l.length
 decreasing_by have:=firstP_some _h;rw [List.length_drop];omega
theorem readL_nil:readL []=some []:=by unfold readL;simp
theorem readL_none {l:List UInt8} (h0:l≠[]) (h:firstP l=none):readL l=none:=by
 unfold readL
 rw [if_neg h0]
 split
 ·rfl
 ·rename_i h2;rw [h] at h2;simp at h2
theorem readL_some {l:List UInt8} {c:UInt8} {n:Nat} (h:firstP l=some (c,n)):readL l=(readL (l.drop n)).map (c :: ·):=by
 have h0:l≠[]:=by rintro rfl;simp [firstP] at h
 conv=>lhs;unfold readL
 rw [if_neg h0]
 split
 ·rename_i h2;rw [h] at h2;simp at h2
 ·rename_i c2 n2 h2;rw [h] at h2;simp at h2;obtain ⟨rfl,rfl⟩:=h2;rfl
theorem readL_len:∀(k:Nat) (l:List UInt8) (m:List UInt8),l.length≤k→readL l=some m→m.length≤l.length
 | 0,l,m,hk,h=>by
  obtain rfl:l=[]:=List.length_eq_zero_iff.1 (by omega)
  rw [readL_nil] at h;simp at h;subst h;simp
 | k+1,l,m,hk,h=>by
  by_cases h0:l=[]
  ·subst h0;rw [readL_nil] at h;simp at h;subst h;simp
  ·cases hf:firstP l with
   | none=>rw [readL_none h0 hf] at h;simp at h
   | some o =>
    obtain ⟨c,n⟩:=o
    have hn:=firstP_some hf
    rw [readL_some hf] at h
    cases hr:readL (l.drop n) with
    | none=>rw [hr] at h;simp at h
    | some m' =>
     rw [hr] at h;simp at h;subst h
     have:=readL_len k (l.drop n) m' (by rw [List.length_drop];omega) hr
     rw [List.length_drop] at this
     rw [List.length_cons];omega
def readV (o:Option (List UInt8)):Value:=match o with
 | some l=>.tuple #[.string ⟨l.toArray⟩,.int .i64 0]
 | none=>.tuple #[.string ⟨#[]⟩,.int .i64 4]
theorem ext_drop (s:ByteArray) (n:Nat):(s.extract n s.size).data.toList=s.data.toList.drop n:=by
 obtain ⟨⟨l⟩⟩:=s
 simp [ByteArray.size]
 exact List.take_of_length_le (by simp)
set_option maxHeartbeats 4000000 in
set_option maxRecDepth 100000 in
theorem read_any (s:ByteArray) (w:World) (hp:PlainAt w) (hs:s.size≤140737488355327) :
  Calls Tryz.prog 153 #[.string s] w fun e w'=>e=.returned (readV (readL s.data.toList))∧Below w.heap.size w w':=by
 have HP:=hid hp
 clear hp
 go_enter Tryz.func153,Tryz.ntmps153
 go_wp2_with fail
 go_loopg [0] s.size (fun g vs wr=>∃(t:ByteArray) (acc:List UInt8),vs=.string t∧t.size≤g∧acc.length+t.size≤s.size∧Below w.heap.size w wr∧Lib.IsBuilder 91 5 w.heap.size w.heap.size (Lib.byteCells acc) wr∧Hid (readL s.data.toList=(readL t.data.toList).map (acc ++ ·)))
 case atStart=>exact ⟨s,[],rfl,Nat.le_refl _,by simp,(Below.refl _ _).alloc (Nat.le_refl _) _,Lib.fresh_isBuilder _ _ _,by show _=_;simp⟩
 case round =>
  obtain ⟨t,acc,rfl,hg,hlen,hb,hbu,HR⟩:=hrel
  have HB:=hid hbu
  have HL:=hid hlen
  clear hbu hlen
  by_cases h0:0<t.size
  ·have h0z:(0:Int)<(t.size:Int):=by omega
   have HPr:PlainAt wr:=HP.out.on hb
   have hne:t.data.toList≠[]:=by
    intro e
    have:t.data.toList.length=t.size:=by simp
    rw [e] at this;simp at this;omega
   cases hf:firstP t.data.toList with
   | none =>
    have HF:=hid hf
    have HN:Hid (readL s.data.toList=none):=by show _=_;rw [HR.out,readL_none hne hf];rfl
    go_wp2_with (first|(go_at_call 183;refine (first_any _ _ HPr h0).mono ?_;rintro e w1 ⟨rfl,hb1⟩;rw [HF.out];simp only [firstV]))
    go_ret2
    rw [HN.out]
    exact ⟨rfl,hb.trans (hb1.mono hb.size)⟩
   | some o =>
    obtain ⟨c,n⟩:=o
    have HF:=hid hf
    obtain ⟨hn0,hn1⟩:=firstP_some hf
    have hn2:n≤t.size:=by simpa using hn1
    have HN:Hid (readL s.data.toList=(readL (t.data.toList.drop n)).map ((acc++[c]) ++ ·)):=by
     show _=_;rw [HR.out,readL_some hf,Option.map_map];congr 1;funext x;simp
    have hz:¬ (n:Int)=0:=by omega
    have hz1:(0:Int)≤n:=by omega
    have hz2:(n:Int)≤(t.size:Int):=by omega
    clear hne hn1
    go_wp2_with (first|(go_at_call 183;refine (first_any _ _ HPr h0).mono ?_;rintro e w1 ⟨rfl,hb1⟩;rw [HF.out];simp only [firstV])|(go_at_call 171;refine (wbyte_any w.heap.size w.heap.size _ _ _ (bld_on HB.out hb1) (by rw [Lib.byteCells_length];have:=HL.out;omega) (Nat.le_trans hb.size hb1.size)).mono ?_;rintro e w2 ⟨rfl,hbu2,hb2⟩))
    go_roundg (t.size-n)
    case measure=>omega
    refine ⟨t.extract n t.size,acc++[c],rfl,?_,?_,(hb.trans (hb1.mono hb.size)).trans hb2,?_,?_⟩
    ·simp
    ·have:=HL.out;simp;omega
    ·simpa [Lib.byteCells] using hbu2
    ·show _=_
     rw [ext_drop];exact HN.out
  ·have h0z:¬ (0:Int)<(t.size:Int):=by omega
   have hnil:t.data.toList=[]:=by
    apply List.length_eq_zero_iff.1
    have:t.data.toList.length=t.size:=by simp
    omega
   have HN:Hid (readL s.data.toList=some acc):=by show _=_;rw [HR.out,hnil,readL_nil];simp
   clear hnil
   go_wp2_with (go_at_call 49;refine (Tryz.Builder_String_any _ _ _ _ HB.out hb.size).mono ?_;rintro e w1 ⟨rfl,hb1⟩)
   go_ret2
   rw [HN.out]
   exact ⟨rfl,hb.trans hb1⟩
end
section
open Go.RowKit
def wordO (l:List UInt8):Option (List UInt8 × List UInt8) :=
 if Lib.indexByte l 61=-1 then none else (readL (l.drop ((Lib.indexByte l 61).toNat+1))).map fun t=>(l.take (Lib.indexByte l 61).toNat,t)
def WordPost (w : World) (l : List UInt8) (e : Ending) (w' : World) : Prop :=
  ((wordO l = none ∧ e = .returned (.tuple #[.agg #[.string ⟨#[]⟩, .slice none 0 0], .int .i64 4])) ∨
   ∃ n t, wordO l = some (n, t) ∧ ∃ p, e = .returned (.tuple #[.agg #[.string ⟨n.toArray⟩, .slice p 1 1], .int .i64 0]) ∧ OwnT w.heap.size w' (.slice p 1 1) [⟨t.toArray⟩]) ∧ Below w.heap.size w w'
theorem ext_take (s:ByteArray) (i:Nat):s.extract 0 i=⟨(s.data.toList.take i).toArray⟩:=by
 obtain ⟨⟨l⟩⟩:=s
 simp [ByteArray.extract,ByteArray.copySlice]
theorem box_facts {w:World} {B:Nat} {u v:Value} {T:TypeId} (h:w.heap[B]? = some (.cells #[u,v] T (0,0))) :
  w.cell? ⟨B,0,none⟩=some u∧w.cell? ⟨B,1,none⟩=some v∧w.frozen? ⟨B,0,none⟩=false∧w.frozen? ⟨B,1,none⟩=false :=
 ⟨by rw [Lib.cell_of_heap h];rfl,by rw [Lib.cell_of_heap h];rfl,Lib.frozen_of_heap h 0,Lib.frozen_of_heap h 1⟩
set_option maxHeartbeats 2000000 in
set_option maxRecDepth 100000 in
theorem word_any (s:ByteArray) (w:World) (hp:PlainAt w) (hs:s.size≤140737488355327) :
  Calls Tryz.prog 114 #[.string s] w fun e w'=>WordPost w s.data.toList e w':=by
 have hb0:Below w.heap.size w (w.alloc (.cells #[.string ⟨#[]⟩,.slice none 0 0] 45)):=(Below.refl _ _).alloc (Nat.le_refl _) _
 have HP:=hid (hp.on hb0)
 have HB0:=hid hb0
 clear hp hb0
 rcases ix_cases s.data.toList 61 with ⟨hix,_⟩|⟨i,hix,hil,_,_⟩
 ·have HX:=hid hix
  have HO:Hid (wordO s.data.toList=none):=by show _=_;unfold wordO;rw [if_pos hix]
  clear hix
  go_enter Tryz.func114,Tryz.ntmps114
  go_wp2_with (first|(go_at_call 111;refine (cut_no _ _ _ HX.out).mono ?_;rintro e w1 ⟨rfl,rfl⟩)|(go_at_call 153;refine (read_any _ _ HP.out (by decide)).mono ?_;rintro e w2 ⟨rfl,hb2⟩;rw [show (⟨#[]⟩:ByteArray).data.toList=[] from rfl,readL_nil];simp only [readV];obtain ⟨k0,k1,k2,k3⟩:=box_facts ((hb2.block w.heap.size (by simp)).trans (heap_alloc_new w _))))
  have hbw:Below w.heap.size w ((w2.setCell ⟨w.heap.size,0,none⟩ (.string ⟨#[]⟩)).setCell ⟨w.heap.size,1,none⟩ (.slice none 0 0)):=((HB0.out.trans (hb2.mono (by simp))).setCell (p:=⟨w.heap.size,0,none⟩) (Nat.le_refl _) _).setCell (p:=⟨w.heap.size,1,none⟩) (Nat.le_refl _) _
  have j0:((w2.setCell ⟨w.heap.size,0,none⟩ (.string ⟨#[]⟩)).setCell ⟨w.heap.size,1,none⟩ (.slice none 0 0)).cell? ⟨w.heap.size,0,none⟩=some (.string ⟨#[]⟩):=by simp [go_sem,k0]
  have j1:((w2.setCell ⟨w.heap.size,0,none⟩ (.string ⟨#[]⟩)).setCell ⟨w.heap.size,1,none⟩ (.slice none 0 0)).cell? ⟨w.heap.size,1,none⟩=some (.slice none 0 0):=by simp [go_sem,k1]
  exact bodyPost_ret (v:=.tuple #[.agg #[.string ⟨#[]⟩,.slice none 0 0],.int .i64 4]) (by simp [results,Tryz.results114,go_sem,j0,j1]) rfl ⟨Or.inl ⟨HO.out,rfl⟩,hbw⟩
 ·have HX:=hid hix
  have hil':i<s.size:=by simpa using hil
  have hrs:(s.extract (i+1) s.size).size≤140737488355327:=by simp;omega
  cases hrd:readL (s.data.toList.drop (i+1)) with
  | none =>
   have HO:Hid (wordO s.data.toList=none):=by
    show _=_;unfold wordO;rw [if_neg (by rw [hix];omega),hix,Int.toNat_natCast,hrd];rfl
   have HR:=hid hrd
   clear hix
   go_enter Tryz.func114,Tryz.ntmps114
   go_wp2_with (first|(go_at_call 111;refine (cut_yes _ _ _ i HX.out hil' (by unfold maxLen;omega)).mono ?_;rintro e w1 ⟨rfl,n,rfl⟩)|(go_at_call 153;refine (read_any _ _ (HP.out.on (bel_drewN (Below.refl _ _) n)) hrs).mono ?_;rintro e w2 ⟨rfl,hb2⟩;rw [ext_drop,HR.out];simp only [readV];obtain ⟨k0,k1,k2,k3⟩:=box_facts ((hb2.block w.heap.size (by simp)).trans (heap_alloc_new w _))))
   have hbw:Below w.heap.size w ((w2.setCell ⟨w.heap.size,0,none⟩ (.string ⟨#[]⟩)).setCell ⟨w.heap.size,1,none⟩ (.slice none 0 0)):=(((bel_drewN HB0.out n).trans (hb2.mono (by simp))).setCell (p:=⟨w.heap.size,0,none⟩) (Nat.le_refl _) _).setCell (p:=⟨w.heap.size,1,none⟩) (Nat.le_refl _) _
   have j0:((w2.setCell ⟨w.heap.size,0,none⟩ (.string ⟨#[]⟩)).setCell ⟨w.heap.size,1,none⟩ (.slice none 0 0)).cell? ⟨w.heap.size,0,none⟩=some (.string ⟨#[]⟩):=by simp [go_sem,k0]
   have j1:((w2.setCell ⟨w.heap.size,0,none⟩ (.string ⟨#[]⟩)).setCell ⟨w.heap.size,1,none⟩ (.slice none 0 0)).cell? ⟨w.heap.size,1,none⟩=some (.slice none 0 0):=by simp [go_sem,k1]
   exact bodyPost_ret (v:=.tuple #[.agg #[.string ⟨#[]⟩,.slice none 0 0],.int .i64 4]) (by simp [results,Tryz.results114,go_sem,j0,j1]) rfl ⟨Or.inl ⟨HO.out,rfl⟩,hbw⟩
  | some t =>
   have HO:Hid (wordO s.data.toList=some (s.data.toList.take i,t)):=by
    show _=_;unfold wordO;rw [if_neg (by rw [hix];omega),hix,Int.toNat_natCast,hrd];rfl
   have HR:=hid hrd
   have HE:=hid (ext_take s i)
   clear hix
   go_enter Tryz.func114,Tryz.ntmps114
   go_wp2_with (first|(go_at_call 111;refine (cut_yes _ _ _ i HX.out hil' (by unfold maxLen;omega)).mono ?_;rintro e w1 ⟨rfl,n,rfl⟩)|(go_at_call 153;refine (read_any _ _ (HP.out.on (bel_drewN (Below.refl _ _) n)) hrs).mono ?_;rintro e w2 ⟨rfl,hb2⟩;rw [ext_drop,HR.out];simp only [readV];have hbx2:=(hb2.block w.heap.size (by simp)).trans (heap_alloc_new w _);obtain ⟨k0,k1,k2,k3⟩:=box_facts ((Below.heap_alloc w2 (.cells #[.string ⟨t.toArray⟩] 9) w.heap.size (by have:=hb2.size;simp at this;omega)).trans hbx2)))
   have hw2:w.heap.size<w2.heap.size:=by have:=hb2.size;simp at this;omega
   obtain ⟨W3,hW3⟩:∃W3,w2.alloc (.cells #[.string ⟨t.toArray⟩] 9)=W3:=⟨_,rfl⟩
   have hot:OwnT w2.heap.size W3 (.slice (some ⟨w2.heap.size,0,none⟩) 1 1) [⟨t.toArray⟩]:=by
    rw [←hW3]
    exact World.ownsRow_lit w2 #[.string ⟨t.toArray⟩] 1 (Nat.le_refl _) (by decide) rfl
   have hb3:Below w.heap.size w W3:=by
    rw [←hW3]
    exact ((bel_drewN HB0.out n).trans (hb2.mono (by simp))).alloc (by omega) _
   rw [hW3] at k0 k1 k2 k3 ⊢
   have hbw:Below w.heap.size w ((W3.setCell ⟨w.heap.size,0,none⟩ (.string (s.extract 0 i))).setCell ⟨w.heap.size,1,none⟩ (.slice (some ⟨w2.heap.size,0,none⟩) 1 1)):=(hb3.setCell (p:=⟨w.heap.size,0,none⟩) (Nat.le_refl _) _).setCell (p:=⟨w.heap.size,1,none⟩) (Nat.le_refl _) _
   have hgB:W3.grownBy ((W3.setCell ⟨w.heap.size,0,none⟩ (.string (s.extract 0 i))).setCell ⟨w.heap.size,1,none⟩ (.slice (some ⟨w2.heap.size,0,none⟩) 1 1)) (some w.heap.size):=grown_trans (grown_set W3 _ 0 _) (grown_set _ _ 1 _)
   have hot2:OwnT w.heap.size ((W3.setCell ⟨w.heap.size,0,none⟩ (.string (s.extract 0 i))).setCell ⟨w.heap.size,1,none⟩ (.slice (some ⟨w2.heap.size,0,none⟩) 1 1)) (.slice (some ⟨w2.heap.size,0,none⟩) 1 1) [⟨t.toArray⟩]:=own_weak (OwnT.grown hot hgB hw2) (by omega)
   have j0:((W3.setCell ⟨w.heap.size,0,none⟩ (.string (s.extract 0 i))).setCell ⟨w.heap.size,1,none⟩ (.slice (some ⟨w2.heap.size,0,none⟩) 1 1)).cell? ⟨w.heap.size,0,none⟩=some (.string (s.extract 0 i)):=by simp [go_sem,k0]
   have j1:((W3.setCell ⟨w.heap.size,0,none⟩ (.string (s.extract 0 i))).setCell ⟨w.heap.size,1,none⟩ (.slice (some ⟨w2.heap.size,0,none⟩) 1 1)).cell? ⟨w.heap.size,1,none⟩=some (.slice (some ⟨w2.heap.size,0,none⟩) 1 1):=by simp [go_sem,k1]
   exact bodyPost_ret (v:=.tuple #[.agg #[.string (s.extract 0 i),.slice (some ⟨w2.heap.size,0,none⟩) 1 1],.int .i64 0]) (by simp [results,Tryz.results114,go_sem,j0,j1]) rfl ⟨Or.inr ⟨_,t,HO.out,_,by rw [HE.out],hot2⟩,hbw⟩
end
section
open Go.Sort
set_option linter.unusedSectionVars false
variable {α:Type} [Inhabited α] {κ:Type} [DecidableEq κ]
def Stab (K:α→κ) (d d':Array α):Prop:=∀c,d'.toList.filter (fun x=>decide (K x=c))=d.toList.filter (fun x=>decide (K x=c))
theorem Stab.refl (K:α→κ) (d:Array α):Stab K d d:=fun _=>rfl
theorem Stab.trans {K:α→κ} {d d' d'':Array α} (h:Stab K d d') (h':Stab K d' d''):Stab K d d'':=fun c=>(h' c).trans (h c)
def Rot (s m e:Nat) (d d':Array α):Prop :=
 d'.size=d.size∧(∀t,t<e-m→d'[s+t]! = d[m+t]!)∧(∀t,t<m-s→d'[s+(e-m)+t]! = d[s+t]!)∧(∀i,i<s∨e≤i→d'[i]! = d[i]!)
theorem toList_range (d:Array α):d.toList=(List.range' 0 d.size).map (fun i=>d[i]!):=by
 have h:=extract_toList d 0 d.size (Nat.le_refl _)
 rw [Array.extract_size,Nat.sub_zero] at h
 exact h
theorem range'_cut (s k l:Nat):List.range' s (k+l)=List.range' s k++List.range' (s+k) l:=by
 rw [←List.range'_append_1]
theorem map_range'_shift (f g:Nat→α) (s s' n:Nat) (h:∀t,t<n→f (s+t)=g (s'+t)):(List.range' s n).map f=(List.range' s' n).map g:=by
 apply List.ext_getElem
 ·simp
 ·intro i h1 h2
  simp only [List.length_map,List.length_range'] at h1
  simp only [List.getElem_map,List.getElem_range',Nat.one_mul]
  exact h i h1
theorem Rot.parts {s m e:Nat} {d d':Array α} (h:Rot s m e d d') (hsm:s≤m) (hme:m≤e) (he:e≤d.size) :
  ∃A L R B:List α,d.toList=A++L++R++B∧d'.toList=A++R++L++B∧L=(List.range' s (m-s)).map (fun i=>d[i]!)∧R=(List.range' m (e-m)).map (fun i=>d[i]!):=by
 obtain ⟨hz,h1,h2,h3⟩:=h
 refine ⟨(List.range' 0 s).map (fun i=>d[i]!),_,_,(List.range' e (d.size-e)).map (fun i=>d[i]!),?_,?_,rfl,rfl⟩
 ·rw [toList_range]
  have e1:d.size=s+(m-s)+(e-m)+(d.size-e):=by omega
  conv=>lhs;rw [e1]
  rw [range'_cut,range'_cut,range'_cut]
  simp only [List.map_append]
  rw [show 0+s=s by omega,show 0+(s+(m-s))=m by omega,show 0+(s+(m-s)+(e-m))=e by omega]
 ·rw [toList_range,hz]
  have e1:d.size=s+(e-m)+(m-s)+(d.size-e):=by omega
  conv=>lhs;rw [e1]
  rw [range'_cut,range'_cut,range'_cut]
  simp only [List.map_append]
  rw [show 0+s=s by omega,show 0+(s+(e-m))=s+(e-m) by omega,show 0+(s+(e-m)+(m-s))=e by omega]
  congr 1
  ·congr 1
   ·congr 1
    ·exact map_range'_shift _ _ 0 0 s (fun t ht=>h3 _ (Or.inl (by omega)))
    ·exact map_range'_shift _ _ _ _ _ (fun t ht=>h1 t ht)
   ·exact map_range'_shift _ _ _ _ _ (fun t ht=>h2 t ht)
  ·exact map_range'_shift _ _ _ _ _ (fun t ht=>h3 _ (Or.inr (by omega)))
theorem Rot.stab {K:α→κ} {s m e:Nat} {d d':Array α} (h:Rot s m e d d') (hsm:s≤m) (hme:m≤e) (he:e≤d.size)
  (hK:∀i j,s≤i→i<m→m≤j→j<e→K d[i]!≠K d[j]!):Stab K d d':=by
 obtain ⟨A,L,R,B,e1,e2,hL,hR⟩:=h.parts hsm hme he
 intro c
 rw [e1,e2]
 simp only [List.filter_append]
 have:L.filter (fun x=>decide (K x=c))=[]∨R.filter (fun x=>decide (K x=c))=[]:=by
  rcases hl:L.filter (fun x=>decide (K x=c)) with _|⟨x,l⟩
  ·exact Or.inl rfl
  ·right
   have hx:x∈L.filter (fun x=>decide (K x=c)):=by rw [hl];simp
   rw [List.filter_eq_nil_iff]
   intro y hy hyc
   simp only [decide_eq_true_eq] at hyc
   obtain ⟨hx1,hx2⟩:=List.mem_filter.1 hx
   simp only [decide_eq_true_eq] at hx2
   rw [hL,List.mem_map] at hx1
   rw [hR,List.mem_map] at hy
   obtain ⟨i,hi,rfl⟩:=hx1
   obtain ⟨j,hj,rfl⟩:=hy
   rw [List.mem_range'_1] at hi hj
   exact hK i j (by omega) (by omega) (by omega) (by omega) (hx2.trans hyc.symm)
 rcases this with h0|h0<;>rw [h0]<;>simp
theorem Rot.perm {s m e:Nat} {d d':Array α} (h:Rot s m e d d') (hsm:s≤m) (hme:m≤e) (he:e≤d.size):PermIn s e d d':=by
 obtain ⟨hz,h1,h2,h3⟩:=h
 refine ⟨hz,h3,?_⟩
 rw [extract_toList _ _ _ (by omega),extract_toList _ _ _ he]
 have e1:e-s=(m-s)+(e-m):=by omega
 have e2:e-s=(e-m)+(m-s):=by omega
 conv=>lhs;rw [e2]
 conv=>rhs;rw [e1]
 rw [range'_cut,range'_cut]
 simp only [List.map_append]
 rw [map_range'_shift (fun i=>d'[i]!) (fun i=>d[i]!) s m (e-m) (fun t ht=>h1 t ht),map_range'_shift (fun i=>d'[i]!) (fun i=>d[i]!) (s+(e-m)) s (m-s) (fun t ht=>h2 t ht),show s+(m-s)=m by omega]
 exact List.perm_append_comm
theorem rot_swp (d:Array α) (j:Nat) (h:j+1<d.size):Rot j (j+1) (j+2) d (swp d (j+1) j):=by
 refine ⟨size_swp _ _ _,fun t ht=>?_,fun t ht=>?_,fun i hi=>?_⟩
 ·obtain rfl:t=0:=by omega
  exact swp_right d (j+1) j (by omega)
 ·obtain rfl:t=0:=by omega
  rw [show j+(j+2-(j+1))+0=j+1 by omega]
  exact swp_left d (j+1) j h (by omega)
 ·exact swp_other d (j+1) j i (by omega) (by omega)
theorem insInner_stab {K:α→κ} {lt:α→α→Bool} (hK:∀x y,lt x y=true→K x≠K y) (a:Nat):∀(j:Nat) (d:Array α),j<d.size→Stab K d (insInner lt a j d)
 | 0,d,_=>Stab.refl K d
 | j+1,d,hj=>by
  unfold insInner
  split
  ·rename_i hc
   simp only [Bool.and_eq_true,decide_eq_true_eq] at hc
   refine Stab.trans ((rot_swp d j hj).stab (by omega) (by omega) (by omega) fun i i' h1 h2 h3 h4=>?_) (insInner_stab hK a j _ (by rw [size_swp];omega))
   obtain rfl:i=j:=by omega
   obtain rfl:i'=i+1:=by omega
   exact fun e=>hK _ _ hc.2 e.symm
  ·exact Stab.refl K d
theorem insInner_size {lt:α→α→Bool} (a:Nat):∀(j:Nat) (d:Array α),(insInner lt a j d).size=d.size
 | 0,d=>rfl
 | j+1,d=>by
  unfold insInner
  split
  ·rw [insInner_size a j,size_swp]
  ·rfl
theorem insOuter_stab {K:α→κ} {lt:α→α→Bool} (hK:∀x y,lt x y=true→K x≠K y) (a b:Nat):∀(n i:Nat) (d:Array α),b-i≤n→b≤d.size→Stab K d (insOuter lt a b i d)
 | 0,i,d,hn,hb=>by
  unfold insOuter
  rw [if_neg (by omega)]
  exact Stab.refl K d
 | n+1,i,d,hn,hb=>by
  unfold insOuter
  split
  ·exact (insInner_stab hK a i d (by omega)).trans (insOuter_stab hK a b n (i+1) _ (by omega) (by rw [insInner_size];exact hb))
  ·exact Stab.refl K d
theorem insertionSort_stab {K:α→κ} {lt:α→α→Bool} (hK:∀x y,lt x y=true→K x≠K y) (d:Array α) (a b:Nat) (hb:b≤d.size):Stab K d (insertionSort lt d a b) :=
 insOuter_stab hK a b _ _ d (Nat.le_refl _) hb
theorem Rot.left {s m e j:Nat} {d dk d':Array α} (hsm:s≤m) (hme:m≤e) (hj:j=e-m) (hij:j≤m-s) (hz:dk.size=d.size) (h1:∀t,t<j→dk[s+t]! = d[m+t]!) (h2:∀t,t<j→dk[m+t]! = d[s+t]!)
  (h3:∀i,(i<s∨s+j≤i)→(i<m∨m+j≤i)→dk[i]! = d[i]!) (h:Rot (s+j) m e dk d'):Rot s m e d d':=by
 obtain ⟨k1,k2,k3,k4⟩:=h
 refine ⟨k1.trans hz,fun t ht=>?_,fun t ht=>?_,fun i hi=>?_⟩
 ·rw [k4 _ (Or.inl (by omega))];exact h1 t (by omega)
 ·by_cases hlt:t<j
  ·have:=k2 t (by omega)
   rw [show s+(e-m)+t=s+j+t by omega,this]
   exact h2 t hlt
  ·have:=k3 (t-j) (by omega)
   rw [show s+(e-m)+t=s+j+(e-m)+(t-j) by omega,this,h3 _ (by omega) (by omega)]
   congr 1;omega
 ·rw [k4 _ (by omega),h3 _ (by omega) (by omega)]
theorem Rot.right {s m e i:Nat} {d dk d':Array α} (hsm:s≤m) (hme:m≤e) (hi:i=m-s) (hij:i≤e-m) (hz:dk.size=d.size) (h1:∀t,t<i→dk[s+t]! = d[e-i+t]!) (h2:∀t,t<i→dk[e-i+t]! = d[s+t]!)
  (h3:∀x,(x<s∨s+i≤x)→(x<e-i∨e≤x)→dk[x]! = d[x]!) (h:Rot s m (e-i) dk d'):Rot s m e d d':=by
 obtain ⟨k1,k2,k3,k4⟩:=h
 refine ⟨k1.trans hz,fun t ht=>?_,fun t ht=>?_,fun x hx=>?_⟩
 ·by_cases hlt:t<e-i-m
  ·rw [k2 t hlt,h3 _ (by omega) (by omega)]
  ·have:=k3 (t-(e-i-m)) (by omega)
   rw [show s+t=s+(e-i-m)+(t-(e-i-m)) by omega,this,h1 _ (by omega)]
   congr 1;omega
 ·rw [k4 _ (by omega),show s+(e-m)+t=e-i+t by omega]
  exact h2 t (by omega)
 ·rw [k4 _ (by omega),h3 _ (by omega) (by omega)]
theorem Rot.even {s m e i:Nat} {d d':Array α} (hi:i=m-s) (hsm:s≤m) (hme:m≤e) (hij:i=e-m) (hz:d'.size=d.size) (h1:∀t,t<i→d'[s+t]! = d[m+t]!) (h2:∀t,t<i→d'[m+t]! = d[s+t]!)
  (h3:∀x,(x<s∨s+i≤x)→(x<m∨m+i≤x)→d'[x]! = d[x]!):Rot s m e d d' :=
 ⟨hz,fun t ht=>h1 t (by omega),fun t ht=>by rw [show s+(e-m)+t=m+t by omega];exact h2 t (by omega),fun x hx=>h3 x (by omega) (by omega)⟩
end
section
open Go.Sort
set_option linter.unusedSectionVars false
variable {α:Type} [Inhabited α] {κ:Type} [DecidableEq κ]
def Mrg (lt:α→α→Bool) (K:α→κ) (a b:Nat) (d d':Array α):Prop:=PermIn a b d d'∧SortedIn lt a b d'∧Stab K d d'
theorem SWO.le_le {lt:α→α→Bool} (hS:SWO lt) {x y z:α} (h1:lt y x=false) (h2:lt z y=false):lt z x=false:=hS.ntrans _ _ _ h2 h1
theorem SWO.lt_le {lt:α→α→Bool} (hS:SWO lt) {x y z:α} (h1:lt x y=true) (h2:lt z y=false):lt x z=true:=by
 cases h:lt x z
 ·exact absurd (hS.ntrans _ _ _ h h2) (by rw [h1];simp)
 ·rfl
theorem SWO.le_lt {lt:α→α→Bool} (hS:SWO lt) {x y z:α} (h1:lt y x=false) (h2:lt y z=true):lt x z=true:=by
 cases h:lt x z
 ·exact absurd (hS.ntrans _ _ _ h1 h) (by rw [h2];simp)
 ·rfl
theorem SortedIn.le {lt:α→α→Bool} (hS:SWO lt) {a b:Nat} {d:Array α} (h:SortedIn lt a b d) {i j:Nat} (h1:a≤i) (h2:i≤j) (h3:j<b):lt d[j]! d[i]! = false:=by
 rcases Nat.eq_or_lt_of_le h2 with rfl|h4
 ·exact hS.irrefl _
 ·exact h i j h1 h4 h3
theorem Rot.shift_up {a k:Nat} {d dk:Array α} (h:Rot a (a+1) (k+1) d dk) (hak:a≤k) (hk:k+1<d.size):Rot a (a+1) (k+2) d (swp dk k (k+1)):=by
 obtain ⟨h1,h2,h3,h4⟩:=h
 refine ⟨by rw [size_swp,h1],fun t ht=>?_,fun t ht=>?_,fun i hi=>?_⟩
 ·by_cases hlt:t<k+1-(a+1)
  ·rw [swp_other _ _ _ _ (by omega) (by omega)];exact h2 t hlt
  ·rw [show a+t=k by omega,swp_left _ _ _ (by omega) (by omega),h4 _ (Or.inr (by omega))];congr 1;omega
 ·obtain rfl:t=0:=by omega
  rw [show a+(k+2-(a+1))+0=k+1 by omega,swp_right _ _ _ (by omega)]
  have:=h3 0 (by omega)
  rw [show a+(k+1-(a+1))+0=k by omega] at this
  exact this
 ·rw [swp_other _ _ _ _ (by omega) (by omega)];exact h4 _ (by omega)
theorem Rot.shift_down {k m:Nat} {d dk:Array α} (h:Rot (k+1) m (m+1) d dk) (hkm:k+1≤m) (hm:m<d.size):Rot k m (m+1) d (swp dk (k+1) k):=by
 obtain ⟨h1,h2,h3,h4⟩:=h
 refine ⟨by rw [size_swp,h1],fun t ht=>?_,fun t ht=>?_,fun i hi=>?_⟩
 ·obtain rfl:t=0:=by omega
  show (swp dk (k+1) k)[k]! = d[m+0]!
  rw [swp_right _ _ _ (by omega)]
  exact h2 0 (by omega)
 ·by_cases h0:t=0
  ·subst h0
   rw [show k+(m+1-m)+0=k+1 by omega,swp_left _ _ _ (by omega) (by omega),h4 _ (Or.inl (by omega)),Nat.add_zero]
  ·rw [swp_other _ _ _ _ (by omega) (by omega)]
   have:=h3 (t-1) (by omega)
   rw [show k+1+(m+1-m)+(t-1)=k+(m+1-m)+t by omega] at this
   rw [this];congr 1;omega
 ·rw [swp_other _ _ _ _ (by omega) (by omega)];exact h4 _ (by omega)
theorem rot_none (s m:Nat) (d:Array α):Rot s m m d d:=by
 refine ⟨rfl,fun t ht=>by omega,fun t _=>by rw [show s+(m-m)+t=s+t by omega],fun _ _=>rfl⟩
theorem rot_none' (m e:Nat) (d:Array α):Rot m m e d d:=by
 refine ⟨rfl,fun t _=>rfl,fun t ht=>by omega,fun _ _=>rfl⟩
theorem Rot.at1 {s m e:Nat} {d d':Array α} (h:Rot s m e d d') {p:Nat} (h1:s≤p) (h2:p<s+(e-m)):d'[p]! = d[p+(m-s)]!∨m<s:=by
 by_cases hms:m<s
 ·exact Or.inr hms
 ·left
  have:=h.2.1 (p-s) (by omega)
  rw [show s+(p-s)=p by omega] at this
  rw [this];congr 1;omega
theorem Rot.lo {s m e:Nat} {d d':Array α} (h:Rot s m e d d') (hsm:s≤m) {p:Nat} (h1:s≤p) (h2:p<s+(e-m)):d'[p]! = d[p+(m-s)]!:=by
 rcases h.at1 h1 h2 with h|h
 ·exact h
 ·omega
theorem Rot.hi {s m e:Nat} {d d':Array α} (h:Rot s m e d d') {p:Nat} (h1:s+(e-m)≤p) (h2:p<e) (hme:m≤e):d'[p]! = d[p-(e-m)]!:=by
 have:=h.2.2.1 (p-(s+(e-m))) (by omega)
 rw [show s+(e-m)+(p-(s+(e-m)))=p by omega] at this
 rw [this];congr 1;omega
theorem Rot.out {s m e:Nat} {d d':Array α} (h:Rot s m e d d') {p:Nat} (h1:p<s∨e≤p):d'[p]! = d[p]!:=h.2.2.2 p h1
theorem Rot.merge {lt:α→α→Bool} {K:α→κ} (hS:SWO lt) (hK:∀x y,lt x y=true→K x≠K y) {a s m e b:Nat} {d d1:Array α} (h:Rot s m e d d1) (has:a≤s) (hsm:s≤m) (hme:m≤e) (heb:e≤b) (hb:b≤d.size)
  (hL:SortedIn lt a m d) (hR:SortedIn lt m b d)
  (hlow:a<s→e<b→lt d[e]! d[s-1]! = false) (hhigh:s<m→m<e→lt d[e-1]! d[s]! = true) :
  PermIn a b d d1∧Stab K d d1∧SortedIn lt a s d1∧SortedIn lt s (s+(e-m)) d1∧SortedIn lt (s+(e-m)) e d1∧SortedIn lt e b d1 ∧
   (∀p q,a≤p→p<s+(e-m)→s+(e-m)≤q→q<b→lt d1[q]! d1[p]! = false):=by
 have hx:∀i j,s≤i→i<m→m≤j→j<e→lt d[j]! d[i]! = true:=fun i j h1 h2 h3 h4=>by
  have t:=hhigh (by omega) (by omega)
  exact SWO.lt_le hS (SWO.le_lt hS (SortedIn.le hS hR h3 (show j≤e-1 by omega) (by omega)) t) (SortedIn.le hS hL has h1 h2)
 have hy:∀i j,a≤i→i<s→e≤j→j<b→lt d[j]! d[i]! = false:=fun i j h1 h2 h3 h4=>by
  have t:=hlow (by omega) (by omega)
  exact SWO.le_le hS (SWO.le_le hS (SortedIn.le hS hL h1 (show i≤s-1 by omega) (by omega)) t) (SortedIn.le hS hR hme h3 h4)
 refine ⟨permIn_mono _ _ _ _ _ _ has heb hb (h.perm hsm hme (by omega)),h.stab hsm hme (by omega) (fun i j h1 h2 h3 h4 e=>hK _ _ (hx i j h1 h2 h3 h4) e.symm),fun i j h1 h2 h3=>?_,fun i j h1 h2 h3=>?_,fun i j h1 h2 h3=>?_,fun i j h1 h2 h3=>?_,fun p q h1 h2 h3 h4=>?_⟩
 ·rw [h.out (Or.inl (by omega)),h.out (Or.inl (by omega))];exact hL i j h1 h2 (by omega)
 ·rw [h.lo hsm (by omega) (by omega),h.lo hsm (by omega) (by omega)];exact hR _ _ (by omega) (by omega) (by omega)
 ·rw [h.hi (by omega) (by omega) hme,h.hi (by omega) (by omega) hme];exact hL _ _ (by omega) (by omega) (by omega)
 ·rw [h.out (Or.inr (by omega)),h.out (Or.inr (by omega))];exact hR i j (by omega) h2 (by omega)
 ·by_cases c1:p<s
  ·rw [h.out (p:=p) (Or.inl c1)]
   by_cases c2:q<e
   ·rw [h.hi h3 c2 hme];exact SortedIn.le hS hL h1 (by omega) (by omega)
   ·rw [h.out (Or.inr (by omega))];exact hy p q h1 c1 (by omega) h4
  ·rw [h.lo (p:=p) hsm (by omega) h2]
   by_cases c2:q<e
   ·rw [h.hi h3 c2 hme];exact SWO.asymmA hS (hx _ _ (by omega) (by omega) (by omega) (by omega))
   ·rw [h.out (Or.inr (by omega))];exact SortedIn.le hS hR (by omega) (by omega) h4
theorem sorted_halves {lt:α→α→Bool} {a c b:Nat} {d1 d2 d3:Array α} (hac:a≤c) (hcb:c≤b) (hb:b≤d1.size)
  (hX:∀p q,a≤p→p<c→c≤q→q<b→lt d1[q]! d1[p]! = false) (p2:PermIn a c d1 d2) (s2:SortedIn lt a c d2) (p3:PermIn c b d2 d3) (s3:SortedIn lt c b d3) :
  PermIn a b d1 d3∧SortedIn lt a b d3:=by
 have z2:=p2.1
 have hX2:∀q,c≤q→q<b→∀p,a≤p→p<c→lt d2[q]! d2[p]! = false:=fun q h1 h2=>by
  rw [p2.2.1 q (Or.inr h1)]
  exact permIn_all d1 d2 a c (fun x=>lt d1[q]! x=false) (by omega) p2 (fun p h3 h4=>hX p q h3 h4 h1 h2)
 have hX3:∀p,a≤p→p<c→∀q,c≤q→q<b→lt d3[q]! d3[p]! = false:=fun p h1 h2=>by
  rw [p3.2.1 p (Or.inl h2)]
  exact permIn_all d2 d3 c b (fun x=>lt x d2[p]! = false) (by omega) p3 (fun q h3 h4=>hX2 q h3 h4 p h1 h2)
 refine ⟨permIn_trans _ _ _ _ _ (permIn_mono _ _ _ _ _ _ (Nat.le_refl _) hcb hb p2) (permIn_mono _ _ _ _ _ _ hac (Nat.le_refl _) (by omega) p3),fun i j h1 h2 h3=>?_⟩
 by_cases c1:i<c
 ·by_cases c2:j<c
  ·rw [p3.2.1 i (Or.inl c1),p3.2.1 j (Or.inl c2)];exact s2 i j h1 h2 c2
  ·exact hX3 i h1 c1 j (by omega) h3
 ·exact s3 i j (by omega) h2 h3
theorem Mrg.of_rot {lt:α→α→Bool} {K:α→κ} (hS:SWO lt) (hK:∀x y,lt x y=true→K x≠K y) {a s m e b:Nat} {d d1 d2 d3:Array α} (h:Rot s m e d d1) (has:a≤s) (hsm:s≤m) (hme:m≤e) (heb:e≤b) (hb:b≤d.size)
  (hL:SortedIn lt a m d) (hR:SortedIn lt m b d) (hlow:a<s→e<b→lt d[e]! d[s-1]! = false) (hhigh:s<m→m<e→lt d[e-1]! d[s]! = true)
  (m2:Mrg lt K a (s+(e-m)) d1 d2) (m3:Mrg lt K (s+(e-m)) b d2 d3):Mrg lt K a b d d3:=by
 obtain ⟨p1,st1,_,_,_,_,hX⟩:=h.merge (K:=K) hS hK has hsm hme heb hb hL hR hlow hhigh
 obtain ⟨p2,s2,st2⟩:=m2
 obtain ⟨p3,s3,st3⟩:=m3
 obtain ⟨p,s⟩:=sorted_halves (by omega) (by omega) (by rw [h.1];exact hb) hX p2 s2 p3 s3
 exact ⟨permIn_trans _ _ _ _ _ p1 p,s,st1.trans (st2.trans st3)⟩
theorem Mrg.none {lt:α→α→Bool} {K:α→κ} {a b:Nat} {d:Array α} (h:SortedIn lt a b d):Mrg lt K a b d d:=⟨permIn_refl _ _ _,h,Stab.refl K d⟩
theorem Mrg.one_left {lt:α→α→Bool} {K:α→κ} (hS:SWO lt) (hK:∀x y,lt x y=true→K x≠K y) {a i b:Nat} {d d':Array α} (h:Rot a (a+1) i d d') (hi:a+1≤i) (hib:i≤b) (hb:b≤d.size) (hR:SortedIn lt (a+1) b d)
  (hlo:a+1<i→lt d[i-1]! d[a]! = true) (hhi:i<b→lt d[i]! d[a]! = false):Mrg lt K a b d d':=by
 have hL:SortedIn lt a (a+1) d:=fun i j h1 h2 h3=>by omega
 obtain ⟨p1,st1,_,s2,_,s4,hX⟩:=h.merge (K:=K) hS hK (Nat.le_refl _) (by omega) hi hib hb hL hR (fun h=>by omega) (fun _ h=>hlo h)
 refine ⟨p1,fun p q h1 h2 h3=>?_,st1⟩
 have e1:a+(i-(a+1))=i-1:=by omega
 rw [e1] at s2 hX
 by_cases c1:p<i-1
 ·by_cases c2:q<i-1
  ·exact s2 p q h1 h2 c2
  ·exact hX p q h1 c1 (by omega) h3
 ·by_cases c3:p=i-1
  ·rw [h.out (p:=q) (Or.inr (by omega)),h.hi (p:=p) (by omega) (by omega) hi,show p-(i-(a+1))=a by omega]
   exact SWO.le_le hS (hhi (by omega)) (SortedIn.le hS hR (by omega) (show i≤q by omega) h3)
  ·exact s4 p q (by omega) h2 h3
theorem Mrg.one_right {lt:α→α→Bool} {K:α→κ} (hS:SWO lt) (hK:∀x y,lt x y=true→K x≠K y) {a i m:Nat} {d d':Array α} (h:Rot i m (m+1) d d') (hai:a≤i) (him:i≤m) (hb:m+1≤d.size) (hL:SortedIn lt a m d)
  (hlo:a<i→lt d[m]! d[i-1]! = false) (hhi:i<m→lt d[m]! d[i]! = true):Mrg lt K a (m+1) d d':=by
 have hR:SortedIn lt m (m+1) d:=fun i j h1 h2 h3=>by omega
 obtain ⟨p1,st1,s1,_,s3,_,hX⟩:=h.merge (K:=K) hS hK hai him (by omega) (Nat.le_refl _) hb hL hR (fun _ h=>by omega) (fun h _=>by rw [show m+1-1=m by omega];exact hhi h)
 rw [show i+(m+1-m)=i+1 by omega] at s3 hX
 refine ⟨p1,fun p q h1 h2 h3=>?_,st1⟩
 by_cases c1:i+1≤q
 ·by_cases c2:i+1≤p
  ·exact s3 p q c2 h2 h3
  ·exact hX p q h1 (by omega) c1 h3
 ·by_cases c3:q=i
  ·rw [h.lo (p:=q) him (by omega) (by omega),h.out (p:=p) (Or.inl (by omega)),show q+(m-i)=m by omega]
   exact SWO.le_le hS (SortedIn.le hS hL h1 (show p≤i-1 by omega) (by omega)) (hlo (by omega))
  ·exact s1 p q h1 h2 (by omega)
end
section
open Go.RowKit Go.Sort Go.Lib
def cmpF (x y:Fx):Int:=Lib.compareBytes x.name.data.toList y.name.data.toList
theorem ltF (x y:Fx):ltOf cmpF x y=decide (Lib.compareBytes x.name.data.toList y.name.data.toList<0):=rfl
theorem swoF:SWO (ltOf cmpF) where
 irrefl x:=by rw [ltF,(cb_zero _ _).2 rfl];rfl
 trans x y z h1 h2:=by
  rw [ltF,decide_eq_true_iff] at *
  exact cb_lt_trans _ _ _ h1 h2
 ntrans x y z h1 h2:=by
  rw [ltF,decide_eq_false_iff_not] at *
  intro h
  have n1:=cb_neg x.name.data.toList y.name.data.toList
  have n2:=cb_neg y.name.data.toList z.name.data.toList
  rcases cb_range y.name.data.toList x.name.data.toList with h3|h3|h3
  ·have h4:=cb_lt_trans _ _ _ (show Lib.compareBytes y.name.data.toList x.name.data.toList<0 by omega) h
   exact h2 h4
  ·have e:=(cb_zero _ _).1 h3
   rw [e] at h2
   exact h2 h
  ·omega
theorem ltF_ne (x y:Fx) (h:ltOf cmpF x y=true):x.name≠y.name:=by
 rw [ltF,decide_eq_true_iff] at h
 intro e
 rw [e,cb_self] at h
 omega
set_option maxHeartbeats 1000000 in
theorem byName_any (x y:Fx) (w:World):Calls Tryz.prog 187 #[x.val,y.val] w fun e w'=>e=.returned (.int .i64 (cmpF x y))∧Grown w w':=by
 obtain ⟨nm,p,cap,ts⟩:=x
 obtain ⟨nm',p',cap',ts'⟩:=y
 simp only [Fx.val,encX,Fx.sl]
 have HC:Hid (cmpF ⟨nm,p,cap,ts⟩ ⟨nm',p',cap',ts'⟩=Lib.compareBytes nm.data.toList nm'.data.toList):=rfl
 go_enter Tryz.func187,Tryz.ntmps187
 go_wp2_with (first|(go_at_call 199;refine (Tryz.strings_Compare _ _ _).mono ?_;rintro e w1 ⟨rfl,rfl⟩))
 go_ret
 exact ⟨ret_int HC.out.symm,((Grown.refl _).alloc _).alloc _⟩
theorem cmpLaysF (blk off size:Nat) (w:World):CmpLays Tryz.prog 187 #[] encX 2 cmpF blk off size w :=
 fun _ _ _ _ x y=>byName_any x y _
theorem enters_byName:∀args w,(callFunc 187 args).run Tryz.prog w=.ok (.enter 187 args) w:=enters_of Tryz.func187 (by kernel_rfl) rfl
theorem encX_one (x:Fx):∀v∈encX x,v.oneCell'=true:=fun v hv=>by simp [encX] at hv;rcases hv with rfl|rfl<;>rfl
theorem ins_any (blk off cap a b:Nat) (d:Array Fx) (w:World) (hH:HoldsK encX 2 w blk off d) (hblk:blk<w.heap.size) (hab:a≤b) (hb:b≤d.size) (hsz:d.size<4611686018427387904) :
  Calls Tryz.prog 231 #[.slice (some ⟨blk,off,none⟩) d.size cap,.int .i64 a,.int .i64 b,.func (.func 187) #[] #[]] w fun e w' =>
   e=.returned (.tuple #[])∧∃n os,w'=sortWorldK encX 2 w blk off n (Sort.insertionSort (ltOf cmpF) d a b) os :=
 AnyQ.insertionSortCmpFunc Tryz.insFld 2 Tryz.isAgg45 Tryz.sizeOf45 encX (fun _=>rfl) encX_one cmpF 187 #[] blk off cap a b d w enters_byName (cmpLaysF blk off d.size w) hH hblk hab hb hsz
def Sorts (w:World) (blk off:Nat) (d:Array Fx) (w':World):Prop :=
 ∃d' n os,PermIn 0 d.size d d'∧SortedIn (ltOf cmpF) 0 d.size d'∧Stab Fx.name d d'∧w'=sortWorldK encX 2 w blk off n d' os
set_option maxHeartbeats 2000000 in
set_option maxRecDepth 100000 in
theorem ins_none (p:Option Addr) (cap:Nat) (fv:Value) (w:World) :
  Calls Tryz.prog 231 #[.slice p 0 cap,.int .i64 0,.int .i64 0,fv] w fun e w'=>e=.returned (.tuple #[])∧w'=w:=by
 go_enter Tryz.func231,Tryz.ntmps231
 go_wp2_with fail
 refine wp_loop_rounds 1 ?_
 rw [rounds_succ]
 go_wp2_with fail
 go_end0
 exact ⟨rfl,rfl⟩
set_option maxHeartbeats 2000000 in
set_option maxRecDepth 100000 in
theorem stable_none (p:Option Addr) (cap:Nat) (fv:Value) (w:World) :
  Calls Tryz.prog 213 #[.slice p 0 cap,.int .i64 0,fv] w fun e w'=>e=.returned (.tuple #[])∧w'=w:=by
 go_enter Tryz.func213,Tryz.ntmps213
 go_wp2_with fail
 refine wp_loop_rounds 1 ?_
 rw [rounds_succ]
 go_wp2_with (first|(go_at_call 231;refine (ins_none _ _ _ _).mono ?_;rintro e w1 ⟨rfl,rfl⟩))
 refine wp_loop_rounds 1 ?_
 rw [rounds_succ]
 go_wp2_with fail
 go_end0
 exact ⟨rfl,rfl⟩
set_option maxHeartbeats 1000000 in
theorem sort_none (p:Option Addr) (cap:Nat) (fv:Value) (w:World) :
  Calls Tryz.prog 186 #[.slice p 0 cap,fv] w fun e w'=>e=.returned (.tuple #[])∧w'=w:=by
 go_enter Tryz.func186,Tryz.ntmps186
 go_wp2_with (first|(go_at_call 213;refine (stable_none _ _ _ _).mono ?_;rintro e w1 ⟨rfl,rfl⟩))
 go_end0
 exact ⟨rfl,rfl⟩
end
section
open Go.RowKit
theorem eqTexts_any (p q:Option Addr) (c c':Nat) (xs ys:List ByteArray) (w:World) (hx:TxtAt w p xs) (hy:TxtAt w q ys) (hlx:xs.length≤maxLen) (hly:ys.length≤maxLen) :
  Calls Tryz.prog 144 #[.slice p xs.length c,.slice q ys.length c'] w fun e w'=>e=.returned (.bool (decide (xs=ys)))∧∃n,w'=w.drewN n:=by
 unfold maxLen at hlx hly
 rcases hx with rfl|⟨b,off,rfl,hx⟩
 ·refine (Tryz.slices_Equal_string_empty p q c ys.length c' w (by omega)).mono ?_
  rintro e w' ⟨rfl,rfl⟩
  refine ⟨ret_bool ?_,0,rfl⟩
  cases ys<;>simp
 ·rcases hy with rfl|⟨b',off',rfl,hy⟩
  ·by_cases h0:xs.length=0
   ·obtain rfl:=List.length_eq_zero_iff.1 h0
    refine (Tryz.slices_Equal_string_empty _ q c 0 c' w (by omega)).mono ?_
    rintro e w' ⟨rfl,rfl⟩
    exact ⟨rfl,0,rfl⟩
   ·refine (Tryz.slices_Equal_string_lens _ q xs.length c 0 c' w h0).mono ?_
    rintro e w' ⟨rfl,rfl⟩
    refine ⟨ret_bool ?_,0,rfl⟩
    rw [eq_comm,decide_eq_false_iff_not]
    rintro rfl
    exact h0 rfl
  ·refine (Tryz.slices_Equal_string b off xs.length c b' off' ys.length c' xs ys w (Nat.le_refl _) (Nat.le_refl _) (by omega) (by omega) (fun j hj=>?_) (fun j hj=>?_)).mono ?_
   ·rw [hx j hj,List.getD_eq_getElem?_getD,List.getElem?_eq_getElem hj];rfl
   ·rw [hy j hj,List.getD_eq_getElem?_getD,List.getElem?_eq_getElem hj];rfl
   ·rintro e w' ⟨rfl,hq⟩
    rw [List.take_length,List.take_length]
    exact ⟨rfl,hq⟩
theorem toList_eq (a b:ByteArray):(a.toList==b.toList)=decide (a=b):=by
 rw [Bool.eq_iff_iff]
 simp only [beq_iff_eq,decide_eq_true_eq]
 constructor
 ·intro h
  rw [Lib.toList_data,Lib.toList_data] at h
  obtain ⟨⟨l⟩⟩:=a
  obtain ⟨⟨m⟩⟩:=b
  simp at h
  rw [h]
 ·rintro rfl;rfl
set_option maxHeartbeats 1000000 in
theorem sameField_any (x y:Fx) (w:World) (hx:x.at w) (hy:y.at w) (hlx:x.txt.length≤maxLen) (hly:y.txt.length≤maxLen) :
  Calls Tryz.prog 102 #[x.val,y.val] w fun e w'=>e=.returned (.bool (decide (x.fld=y.fld)))∧Grown w w':=by
 obtain ⟨nm,p,cap,ts⟩:=x
 obtain ⟨nm',p',cap',ts'⟩:=y
 simp only [Fx.val,encX,Fx.sl,Fx.fld,Fx.at] at *
 have hg0:Grown w ((w.alloc (.cells #[.string nm,.slice p ts.length cap] 45)).alloc (.cells #[.string nm',.slice p' ts'.length cap'] 45)):=((Grown.refl _).alloc _).alloc _
 have HE:=hid (eqTexts_any p p' cap cap' ts ts' _ (hx.kept hg0.below) (hy.kept hg0.below) hlx hly)
 clear hx hy
 cases hn:(nm.toList==nm'.toList) with
 | false =>
  have H0:Hid (decide ((nm,ts)=(nm',ts'))=false):=by
   show _=_
   rw [toList_eq,decide_eq_false_iff_not] at hn
   rw [decide_eq_false_iff_not]
   intro h;exact hn (Prod.mk.inj h).1
  go_enter Tryz.func102,Tryz.ntmps102
  go_wp2_with (first|(go_at_call 144;refine HE.out.mono ?_;rintro e w1 ⟨rfl,q,rfl⟩))
  go_ret
  exact ⟨ret_bool H0.out.symm,hg0⟩
 | true =>
  have H0:Hid (decide ((nm,ts)=(nm',ts'))=decide (ts=ts')):=by
   show _=_
   rw [toList_eq,decide_eq_true_eq] at hn
   subst hn
   simp
  go_enter Tryz.func102,Tryz.ntmps102
  go_wp2_with (first|(go_at_call 144;refine HE.out.mono ?_;rintro e w1 ⟨rfl,q,rfl⟩))
  go_ret
  exact ⟨ret_bool H0.out.symm,hg0.drewN q⟩
theorem enters_same:∀args w,(callFunc 102 args).run Tryz.prog w=.ok (.enter 102 args) w:=enters_of Tryz.func102 (by kernel_rfl) rfl
set_option maxHeartbeats 4000000 in
set_option maxRecDepth 100000 in
theorem equalFunc_any (v v':Value) (d d':List Fx) (w:World) (hv:IsXs w v d) (hv':IsXs w v' d') (hf:FitX d) (hf':FitX d') :
  Calls Tryz.prog 101 #[v,v',.func (.func 102) #[] #[]] w fun e w'=>e=.returned (.bool (decide (d.map Fx.fld=d'.map Fx.fld)))∧Grown w w':=by
 obtain ⟨p,cap,rfl,hd,ht⟩:=hv
 obtain ⟨p',cap',rfl,hd',ht'⟩:=hv'
 have HT:=hid ht
 have HT':=hid ht'
 have HD:=hid hd
 have HD':=hid hd'
 have HF:=hid hf.2
 have HF':=hid hf'.2
 have hl:=hf.1
 have hl':=hf'.1
 unfold maxLen at hl hl'
 clear ht ht' hd hd' hf hf'
 obtain ⟨r,hr⟩:∃r,decide (d.map Fx.fld=d'.map Fx.fld)=r:=⟨_,rfl⟩
 rw [hr]
 have HR:=hid hr
 clear hr
 by_cases hlen:d.length=d'.length
 ·have HL:=hid hlen
  rw [←hlen]
  clear hlen hl'
  go_enter Tryz.func101,Tryz.ntmps101
  go_wp2_with fail
  go_loopg [17] d.length (fun g vi wr=>∃i:Nat,vi=.int .i64 i∧i≤d.length∧d.length-i≤g∧Grown w wr∧Hid ((d.map Fx.fld).take i=(d'.map Fx.fld).take i))
  case atStart=>exact ⟨0,rfl,by omega,by omega,Grown.refl _,rfl⟩
  case round =>
   obtain ⟨i,rfl,hi,hg,hb,HJ⟩:=hrel
   by_cases hlt:i<d.length
   ·have hltz:(i:Int)<(d.length:Int):=by omega
    have hiz:(0:Int)≤i:=by omega
    have hlt':i<d'.length:=by have:=HL.out;omega
    obtain ⟨b,off,rfl,hxs⟩:∃b off,p=some ⟨b,off,none⟩∧XsAt w b off d:=by
     rcases HD.out with h|h
     ·subst h;simp at hlt
     ·exact h
    obtain ⟨b',off',rfl,hxs'⟩:∃b off,p'=some ⟨b,off,none⟩∧XsAt w b off d':=by
     rcases HD'.out with h|h
     ·rw [h] at hlt';simp at hlt'
     ·exact h
    obtain ⟨c0,c1⟩:=hxs.kept hb.below i hlt
    obtain ⟨e0,e1⟩:=hxs'.kept hb.below i hlt'
    have hxi:(d[i]).at w:=HT.out _ (List.getElem_mem hlt)
    have hyi:(d'[i]).at w:=HT'.out _ (List.getElem_mem hlt')
    have hfi:=(HF.out _ (List.getElem_mem hlt)).2.1
    have hfi':=(HF'.out _ (List.getElem_mem hlt')).2.1
    have hst:decide ((d[i]).fld=(d'[i]).fld)=true→(d.map Fx.fld).take (i+1)=(d'.map Fx.fld).take (i+1):=fun h=>by
     rw [List.take_succ_eq_append_getElem (by rw [List.length_map];exact hlt),List.take_succ_eq_append_getElem (by rw [List.length_map];exact hlt'),HJ.out]
     simp only [List.getElem_map]
     rw [of_decide_eq_true h]
    have hno:decide ((d[i]).fld=(d'[i]).fld)=false→r=false:=fun h=>by
     rw [←HR.out,decide_eq_false_iff_not]
     intro e
     have:(d.map Fx.fld)[i]'(by rw [List.length_map];exact hlt)=(d'.map Fx.fld)[i]'(by rw [List.length_map];exact hlt'):=by simp only [e]
     simp only [List.getElem_map] at this
     exact (of_decide_eq_false h) this
    obtain ⟨x,hx⟩:∃x,d[i]=x:=⟨_,rfl⟩
    obtain ⟨y,hy⟩:∃y,d'[i]=y:=⟨_,rfl⟩
    rw [hx] at c0 c1 hxi hfi hst hno
    rw [hy] at e0 e1 hyi hfi' hst hno
    have HXI:=hid hxi
    have HYI:=hid hyi
    have HFI:=hid (And.intro hfi hfi')
    have HST:=hid hst
    have HNO:=hid hno
    clear hxs hxs' hxi hyi hfi hfi' hx hy hst hno
    unfold Fx.sl at c1 e1
    have hgW:Grown w ((wr.alloc (.cells #[.string x.name,.slice x.p x.txt.length x.cap] 45)).alloc (.cells #[.string y.name,.slice y.p y.txt.length y.cap] 45)):=(hb.alloc _).alloc _
    have e0':(wr.alloc (.cells #[.string x.name,.slice x.p x.txt.length x.cap] 45)).cell? ⟨b',off'+i * 2,none⟩=some (.string y.name):=by
     rw [World.cell?_alloc_lt _ _ ⟨b',off'+i * 2,none⟩ (cell_block e0)];exact e0
    have e1':(wr.alloc (.cells #[.string x.name,.slice x.p x.txt.length x.cap] 45)).cell? ⟨b',off'+i * 2+1,none⟩=some (.slice y.p y.txt.length y.cap):=by
     rw [World.cell?_alloc_lt _ _ ⟨b',off'+i * 2+1,none⟩ (cell_block e1)];exact e1
    have HC:=hid (sameField_any x y _ (HXI.out.kept hgW.below) (HYI.out.kept hgW.below) HFI.out.1 HFI.out.2)
    have HGW:=hid hgW
    have hen:=enters_same
    clear hgW e0 e1
    cases hq:decide (x.fld=y.fld) with
    | false =>
     rw [hq] at HC
     go_wp2_with (first|(go_at_call 102;refine HC.out.mono ?_;rintro e w2 ⟨rfl,hg2⟩))
     go_ret
     exact ⟨ret_bool (HNO.out hq).symm,HGW.out.trans hg2⟩
    | true =>
     rw [hq] at HC
     go_wp2_with (first|(go_at_call 102;refine HC.out.mono ?_;rintro e w2 ⟨rfl,hg2⟩))
     go_roundg (d.length-(i+1))
     case measure=>omega
     exact ⟨i+1,by go_num,by omega,by omega,HGW.out.trans hg2,HST.out hq⟩
   ·have hltz:¬ (i:Int)<(d.length:Int):=by omega
    have H0:Hid (r=true):=by
     show r=true
     rw [←HR.out,decide_eq_true_eq]
     have h:=HJ.out
     rw [List.take_of_length_le (by rw [List.length_map];omega),List.take_of_length_le (by rw [List.length_map];have:=HL.out;omega)] at h
     exact h
    go_wp2_with fail
    go_ret
    exact ⟨ret_bool H0.out.symm,hb⟩
 ·have H0:Hid (r=false):=by
   show r=false
   rw [←HR.out,decide_eq_false_iff_not]
   intro e
   have:=congrArg List.length e
   simp at this
   exact hlen this
  have hz:¬ (d.length:Int)=(d'.length:Int):=by omega
  go_enter Tryz.func101,Tryz.ntmps101
  go_wp2_with fail
  go_ret
  exact ⟨ret_bool H0.out.symm,Grown.refl _⟩
set_option maxHeartbeats 1000000 in
theorem equal_any (v v':Value) (d d':List Fx) (w:World) (hv:IsXs w v d) (hv':IsXs w v' d') (hf:FitX d) (hf':FitX d') :
  Calls Tryz.prog 57 #[v,v'] w fun e w'=>e=.returned (.bool (decide (d.map Fx.fld=d'.map Fx.fld)))∧Grown w w':=by
 have HC:=hid (equalFunc_any v v' d d' w hv hv' hf hf')
 clear hv hv'
 go_enter Tryz.func57,Tryz.ntmps57
 go_wp2_with (first|(go_at_call 101;refine HC.out.mono ?_;rintro e w2 ⟨rfl,hg2⟩))
 go_ret
 exact ⟨rfl,hg2⟩
end
section
open Go.RowKit
theorem cloneT_any (p:Option Addr) (cap:Nat) (ts:List ByteArray) (w:World) (h:TxtAt w p ts) (hs:ts.length * 16≤140737488355328) :
  Calls Tryz.prog 188 #[.slice p ts.length cap] w fun e w'=>∃v,e=.returned v∧OwnT w.heap.size w' v ts∧Below w.heap.size w w':=by
 rcases h with rfl|⟨b,off,rfl,hc⟩
 ·cases p with
  | none =>
   refine (Tryz.slices_Clone_string_nil 0 cap w).mono ?_
   rintro e w' ⟨rfl,rfl⟩
   exact ⟨_,rfl,World.ownsRow_nil _ _ _ _,Below.refl _ _⟩
  | some a =>
   refine (Tryz.slices_Clone_string_zero a cap w).mono ?_
   rintro e w' ⟨v,rfl,ho,_,hb⟩
   exact ⟨_,rfl,ho,hb⟩
 ·refine (Tryz.slices_Clone_string b off ts.length cap ts w (Nat.le_refl _) hs (fun j hj=>?_)).mono ?_
  ·rw [hc j hj,List.getD_eq_getElem?_getD,List.getElem?_eq_getElem hj];rfl
  ·rintro e w' ⟨v,rfl,ho,_,hb⟩
   rw [List.take_length] at ho
   exact ⟨_,rfl,ho,hb⟩
end
section
open Go.RowKit Go.Sort Go.Lib
def joinStep (o:List Fld) (f:Fld):List Fld :=
 match o.getLast? with
 | some l=>if l.1=f.1 then o.dropLast++[(l.1,l.2++f.2)] else o++[f]
 | none=>[f]
def joinS (fs:List Fld):List Fld:=fs.foldl joinStep []
def totF (fs:List Fld):Nat:=(fs.map fun f=>f.2.length).sum
theorem joinStep_nil (f:Fld):joinStep [] f=[f]:=rfl
theorem joinStep_same (o:List Fld) (l f:Fld) (h:l.1=f.1):joinStep (o++[l]) f=o++[(l.1,l.2++f.2)]:=by
 simp [joinStep,h]
theorem joinStep_other (o:List Fld) (l f:Fld) (h:l.1≠f.1):joinStep (o++[l]) f=o++[l]++[f]:=by
 simp [joinStep,h]
theorem joinS_snoc (fs:List Fld) (f:Fld):joinS (fs++[f])=joinStep (joinS fs) f:=by simp [joinS]
theorem totF_append (a b:List Fld):totF (a++b)=totF a+totF b:=by simp [totF]
theorem totF_one (f:Fld):totF [f]=f.2.length:=by simp [totF]
theorem totF_step (o:List Fld) (f:Fld):totF (joinStep o f)=totF o+f.2.length:=by
 rcases List.eq_nil_or_concat o with rfl|⟨o',l,rfl⟩
 ·rw [joinStep_nil,totF_one];simp [totF]
 ·rw [List.concat_eq_append]
  by_cases h:l.1=f.1
  ·rw [joinStep_same _ _ _ h,totF_append,totF_append,totF_one,totF_one,List.length_append];omega
  ·rw [joinStep_other _ _ _ h,totF_append,totF_one]
theorem totF_joinS (fs:List Fld):totF (joinS fs)=totF fs:=by
 have:∀(l o:List Fld),totF (l.foldl joinStep o)=totF o+totF l:=by
  intro l
  induction l with
  | nil=>intro o;simp [totF]
  | cons f l ih =>
   intro o
   rw [List.foldl_cons,ih,totF_step]
   have:totF (f::l)=f.2.length+totF l:=by simp [totF]
   omega
 have h:=this fs []
 simpa [joinS,totF] using h
theorem joinStep_len (o:List Fld) (f:Fld):(joinStep o f).length≤o.length+1:=by
 rcases List.eq_nil_or_concat o with rfl|⟨o',l,rfl⟩
 ·simp [joinStep_nil]
 ·rw [List.concat_eq_append]
  by_cases h:l.1=f.1
  ·rw [joinStep_same _ _ _ h];simp
  ·rw [joinStep_other _ _ _ h];simp
theorem joinS_len (fs:List Fld):(joinS fs).length≤fs.length:=by
 have:∀(l o:List Fld),(l.foldl joinStep o).length≤o.length+l.length:=by
  intro l
  induction l with
  | nil=>intro o;simp
  | cons f l ih =>
   intro o
   rw [List.foldl_cons,List.length_cons]
   have h1:=ih (joinStep o f)
   have h2:=joinStep_len o f
   omega
 have h:=this fs []
 simpa [joinS] using h
theorem totF_mem {fs:List Fld} {f:Fld} (h:f∈fs):f.2.length≤totF fs:=by
 obtain ⟨a,b,rfl⟩:=List.append_of_mem h
 have:totF (a++f::b)=totF a+(f.2.length+totF b):=by simp [totF]
 omega
def Apart (o:List Fx):Prop:=o.Pairwise fun x y=>x.sl.ownBlock=none∨x.sl.ownBlock≠y.sl.ownBlock
def OwnJ (N:Nat) (w:World) (v:Value) (o:List Fx):Prop:=OwnXs N w v o∧Apart o
theorem OwnJ.on {N:Nat} {w w':World} {v:Value} {o:List Fx} (h:OwnJ N w v o) (hb:Below w.heap.size w w'):OwnJ N w' v o:=⟨h.1.on hb,h.2⟩
theorem apart_snoc {o:List Fx} {x:Fx} (h:Apart o) (hx:∀y∈o,y.sl.ownBlock=none∨y.sl.ownBlock≠x.sl.ownBlock):Apart (o++[x]):=by
 unfold Apart
 rw [List.pairwise_append]
 exact ⟨h,List.pairwise_singleton _ _,fun a ha b hb=>by rw [List.mem_singleton] at hb;subst hb;exact hx a ha⟩
theorem apart_init {o:List Fx} {x:Fx} (h:Apart (o++[x])):Apart o∧∀y∈o,y.sl.ownBlock=none∨y.sl.ownBlock≠x.sl.ownBlock:=by
 unfold Apart at h
 rw [List.pairwise_append] at h
 exact ⟨h.1,fun y hy=>h.2.2 y hy x (by simp)⟩
theorem own_type {w:World} {n0:Nat} {e:TypeId} {size:Nat} {v:Value} {n:Nat} {xs:List Value} {k:Nat} (h:w.ownsRow n0 e size v n xs) (hk:v.ownBlock=some k):∃cs,w.heap[k]? = some (.cells cs e (0,0)):=by
 rcases h.2 with ⟨rfl,_⟩|⟨g,cap,cur,rfl,_,hg,_⟩
 ·cases hk
 ·have:g=k:=by simpa [Value.ownBlock] using hk
  subst this
  exact ⟨cur,hg⟩
theorem own_else {w w':World} {n0 m0:Nat} {e e':TypeId} {size size':Nat} {v u:Value} {n m:Nat} {xs ys:List Value} (h:w.ownsRow n0 e size v n xs) (hu:w.ownsRow m0 e' size' u m ys) (hne:e≠e') (hg:w.grownBy w' u.ownBlock):w'.ownsRow n0 e size v n xs:=by
 refine h.kept hg ?_
 rcases hv:v.ownBlock with _|k
 ·exact Or.inl rfl
 ·right
  intro e2
  obtain ⟨cs,h1⟩:=own_type h hv
  obtain ⟨cs',h2⟩:=own_type hu e2.symm
  rw [h1] at h2
  injection h2 with h2
  injection h2 with _ h2
  exact hne h2
theorem joined_grown {N:Nat} {w w4:World} {o:List Fx} {x:Fx} {ts:List ByteArray} {g cap go cp:Nat} (h:OwnJ N w (.slice (some ⟨go,0,none⟩) (o.length+1) cp) (o++[x]))
  (hown:w4.ownsRow N 9 1 (.slice (some ⟨g,0,none⟩) (x.txt.length+ts.length) cap) (x.txt.length+ts.length) (x.txt.map Value.string++ts.map Value.string))
  (hg:w.grownBy w4 x.sl.ownBlock) (hat:x.sl.ownBlock=some g∨g=w.heap.size) :
  w4.cell? ⟨go,o.length * 2+1,none⟩=some x.sl∧w4.frozen? ⟨go,o.length * 2+1,none⟩=false ∧
   OwnJ N (w4.setCell ⟨go,o.length * 2+1,none⟩ (.slice (some ⟨g,0,none⟩) (x.txt.length+ts.length) cap)) (.slice (some ⟨go,0,none⟩) (o.length+1) cp) (o++[⟨x.name,some ⟨g,0,none⟩,cap,x.txt++ts⟩]):=by
 obtain ⟨⟨hrow,htx⟩,hap⟩:=h
 obtain ⟨hap1,hap2⟩:=apart_init hap
 have hx:=htx x (by simp)
 have hrow4:w4.ownsRow N 45 2 (.slice (some ⟨go,0,none⟩) (o.length+1) cp) (o++[x]).length (cellsX (o++[x])):=own_else hrow hx (by decide) hg
 have hlen:(o++[x]).length=o.length+1:=by simp
 rw [hlen] at hrow4
 have hget:=cellsX_get (o++[x]) o.length (by simp)
 simp only [List.getElem_concat_length] at hget
 have c1:w4.cell? ⟨go,o.length * 2+1,none⟩=some x.sl:=by rw [hrow4.cellAt _ (by omega)];exact hget.2
 refine ⟨c1,hrow4.frozenAt _,⟨?_,?_⟩,?_⟩
 ·have hst:=hrow4.stored (o.length * 2+1) (.slice (some ⟨g,0,none⟩) (x.txt.length+ts.length) cap)
  have e1:(cellsX (o++[x])).set (o.length * 2+1) (.slice (some ⟨g,0,none⟩) (x.txt.length+ts.length) cap)=cellsX (o++[⟨x.name,some ⟨g,0,none⟩,cap,x.txt++ts⟩]):=by
   rw [cellsX_append,cellsX_append,List.set_append_right _ _ (by rw [cellsX_len];omega),cellsX_len]
   simp [cellsX,encX,Fx.sl]
  rw [e1] at hst
  rw [List.length_append]
  exact hst.1
 ·intro y hy
  have hset:w4.grownBy (w4.setCell ⟨go,o.length * 2+1,none⟩ (.slice (some ⟨g,0,none⟩) (x.txt.length+ts.length) cap)) (Value.slice (some ⟨go,0,none⟩) (o.length+1) cp).ownBlock:=grown_set w4 go _ _
  rw [List.mem_append,List.mem_singleton] at hy
  rcases hy with hy|rfl
  ·have hy0:=htx y (by simp [hy])
   have hy4:w4.ownsRow N 9 1 y.sl y.txt.length (y.txt.map Value.string):=hy0.kept hg (hap2 y hy)
   exact own_else hy4 hrow4 (by decide) hset
  ·have:w4.ownsRow N 9 1 (.slice (some ⟨g,0,none⟩) (x.txt.length+ts.length) cap) (x.txt++ts).length ((x.txt++ts).map Value.string):=by
    rw [List.length_append,List.map_append];exact hown
   show World.ownsRow _ N 9 1 (.slice (some ⟨g,0,none⟩) (x.txt++ts).length cap) (x.txt++ts).length ((x.txt++ts).map Value.string)
   rw [List.length_append] at this ⊢
   exact own_else this hrow4 (by decide) hset
 ·refine apart_snoc hap1 fun y hy=>?_
  have hy0:=htx y (by simp [hy])
  show y.sl.ownBlock=none∨y.sl.ownBlock≠some g
  rcases hat with hat|hat
  ·rw [←hat];exact hap2 y hy
  ·rcases hb:y.sl.ownBlock with _|k
   ·exact Or.inl rfl
   ·right
    have:=(World.ownsRow.lt hy0 k hb).2
    intro e
    simp at e;omega
end
section
open Go.RowKit Go.Sort Go.Lib
theorem xs_cells {w:World} {b off:Nat} {d:List Fx} (h:XsAt w b off d):∀j u,(cellsX d)[j]? = some u→w.cell? ⟨b,off+j,none⟩=some u:=by
 intro j u hj
 have hjl:=(List.getElem?_eq_some_iff.1 hj).1
 rw [cellsX_len] at hjl
 obtain ⟨c0,c1⟩:=h (j / 2) (by omega)
 obtain ⟨g0,g1⟩:=cellsX_get d (j / 2) (by omega)
 rcases Nat.mod_two_eq_zero_or_one j with h2|h2
 ·have e:j / 2 * 2=j:=by omega
  rw [e] at c0 g0
  rw [g0] at hj
  rw [c0];exact hj
 ·have e:j / 2 * 2+1=j:=by omega
  rw [show off+j / 2 * 2+1=off+j by omega] at c1
  rw [e] at g1
  rw [g1] at hj
  rw [c1];exact hj
set_option maxHeartbeats 2000000 in
set_option maxRecDepth 100000 in
theorem cloneX_any (v:Value) (d:List Fx) (w:World) (hv:IsXs w v d) (hs:d.length * 40≤140737488355328) :
  Calls Tryz.prog 185 #[v] w fun e w'=>∃u,e=.returned u∧w'.ownsRow w.heap.size 45 2 u d.length (cellsX d)∧Below w.heap.size w w':=by
 obtain ⟨i0,hi,hz0,hz1,hz2⟩:=info_parts Tryz.infoFld
 obtain ⟨p,cap,rfl,hd,_⟩:=hv
 have q22:∀(w:World) (a:Option Addr) (n c n' c':Nat),(binOp .eql 37 (.slice a n c) (.slice none n' c')).run Tryz.prog w=.ok (.bool a.isNone) w:=fun w a n c n' c'=>Lib.run_eql_slice_nil w _ _ a n c n' c' Tryz.underlying37
 have HD:=hid hd
 clear hd
 cases p with
 | none =>
  have h0:d=[]:=by
   rcases HD.out with h|⟨b,off,h,_⟩
   ·exact h
   ·cases h
  subst h0
  go_enter Tryz.func185,Tryz.ntmps185
  go_wp2_with fail
  go_ret
  exact ⟨_,rfl,World.ownsRow_nil _ _ _ _,Below.refl _ _⟩
 | some a =>
  have hcells:∀j u,(cellsX d)[j]? = some u→(w.alloc (.cells #[] 45)).cell? (a.add j)=some u:=by
   rcases HD.out with h|⟨b,off,h,hx⟩
   ·subst h;intro j u hj;simp [cellsX] at hj
   ·intro j u hj
    obtain rfl:a=⟨b,off,none⟩:=by simpa using h
    rw [addr_add]
    have:=xs_cells hx j u hj
    rw [World.cell?_alloc_lt _ _ ⟨b,off+j,none⟩ (cell_block this)];exact this
  have HC:=hid hcells
  clear hcells
  go_enter Tryz.func185,Tryz.ntmps185
  go_wp2_with (at_builtin;refine wpList_append_own _ rfl _ _ 37 rfl w.heap.size 45 i0 (.agg #[.string ⟨#[]⟩,.slice none 0 0]) 2 40 Tryz.underlying37 hi hz0 hz1 hz2 rfl (by decide) _ _ _ rfl (World.ownsRow_made w #[] 0 (Nat.le_refl _) (Nat.zero_le _) (by simp)) a d.length cap (cellsX d) rfl ?c0 ?c1 ?c2 ?c3 ?c4 ?c5 ?_)
  case c0=>exact cellsX_len d
  case c1=>exact HC.out
  case c2=>exact cellsX_one d
  case c3=>unfold maxLen;omega
  case c4=>omega
  case c5=>simp
  intro v' w1 hown hgrow hnil
  have hb1:Below w.heap.size w w1:=((Below.refl _ w).alloc (Nat.le_refl _) _).grown hgrow (by simp) (by intro k hk;simp [Value.ownBlock] at hk;omega)
  have HO:Hid (w1.ownsRow w.heap.size 45 2 v' d.length (cellsX d)):=hid (by simpa using hown)
  clear hown hgrow hnil
  go_wp2_with fail
  go_ret
  exact ⟨_,rfl,HO.out,hb1⟩
theorem flat_get (l:List Fx) (t:Nat) (h:t<l.length * 2):(l.flatMap encX)[t]? = some (encX (l[t / 2]!))[t % 2]!:=by
 induction l generalizing t with
 | nil=>simp at h
 | cons x l ih =>
  rw [List.flatMap_cons]
  by_cases h2:t<2
  ·rcases (show t=0∨t=1 by omega) with rfl|rfl<;>simp [encX]
  ·obtain ⟨u,rfl⟩:∃u,t=u+2:=⟨t-2,by omega⟩
   have hl:(encX x).length=2:=rfl
   rw [List.getElem?_append_right (by omega),hl,show u+2-2=u by omega,ih u (by simp at h;omega),show (u+2) / 2=u / 2+1 by omega,show (u+2) % 2=u % 2 by omega]
   simp
theorem holds_of_heap {w:World} {g:Nat} {cur:Array Value} {e:TypeId} (d:Array Fx) (hheap:w.heap[g]? = some (.cells cur e (0,0))) (htake:cur.toList.take (d.size * 2)=cellsX d.toList):HoldsK encX 2 w g 0 d:=by
 intro j hj
 rw [size_flatK] at hj
 have hg:=flat_get d.toList j (by simpa using hj)
 have h1:(cur.toList.take (d.size * 2))[j]? = some (encX (d.toList[j / 2]!))[j % 2]!:=by rw [htake];exact hg
 rw [List.getElem?_take_of_lt hj] at h1
 rw [get_flatK _ _ _ _ hj]
 constructor
 ·simp only [World.cell?,hheap,Nat.zero_add]
  have he:d.toList[j / 2]! = d[j / 2]!:=by
   rw [getElem!_pos d (j / 2) (by omega),getElem!_pos d.toList (j / 2) (by simp;omega)];simp
  rw [←Array.getElem?_toList,h1,he]
  rfl
 ·simp [World.frozen?,hheap]
theorem below_sortWorld {B:Nat} {w0 w:World} (h:Below B w0 w) (hB:B≤w.heap.size) (blk off n:Nat) (d:Array Fx) (os:Array Obj) (hb:B≤blk):Below B w0 (sortWorldK encX 2 w blk off n d os):=by
 refine h.trans ⟨rfl,rfl,rfl,?_,?_⟩
 ·simp [sortWorldK,putRowK]
 ·intro k hk
  have hks:k<w.heap.size:=by omega
  simp only [sortWorldK,Sort.grow,putRowK,putRow,mapBlock,Sort.ahead]
  rw [Array.getElem?_append_left (by simpa using hks),Array.getElem?_modify,if_neg (by omega)]
theorem sorted_xs {w w':World} {g:Nat} {d:Array Fx} (hH:HoldsK encX 2 w g 0 d) (hg:g<w.heap.size) (h:Sorts w g 0 d w'):∃d':List Fx,d'.length=d.size∧XsAt w' g 0 d'∧d'.Perm d.toList∧(d'.Pairwise fun x y=>ltOf cmpF y x=false)∧(∀c,d'.filter (fun x=>decide (x.name=c))=d.toList.filter fun x=>decide (x.name=c)):=by
 obtain ⟨e,n,os,hp,hs,hst,rfl⟩:=h
 have hsz:e.size=d.size:=hp.1
 have hH2:HoldsK encX 2 (sortWorldK encX 2 w g 0 n e os) g 0 e:=by
  exact holdsK_grow encX 2 _ os g 0 _ (by simpa [putRowK] using hg) (holdsK_putRowK encX 2 (Sort.ahead w n) g 0 _ _ (holdsK_ahead encX 2 w n g 0 _ hH) hsz)
 refine ⟨e.toList,by simpa using hsz,fun i hi=>?_,?_,?_,hst⟩
 ·have hi':i<e.size:=by simpa using hi
  have k0:=(hH2.cell (i:=i) (c:=0) hi' (by simp)).1
  have k1:=(hH2.cell (i:=i) (c:=1) hi' (by simp)).1
  have he:e[i]! = e.toList[i]:=by rw [getElem!_pos e i hi'];simp
  rw [he] at k0 k1
  exact ⟨by simpa [encX] using k0,by simpa [encX,Nat.add_assoc] using k1⟩
 ·have:=hp.2.2
  have e1:e.extract 0 d.size=e:=by rw [←hsz];simp
  have e2:d.extract 0 d.size=d:=by simp
  rw [e1,e2] at this
  exact this
 ·rw [List.pairwise_iff_getElem]
  intro i j hi hj hij
  have hi':i<e.size:=by simpa using hi
  have hj':j<e.size:=by simpa using hj
  have:=hs i j (Nat.zero_le _) hij (by omega)
  rw [getElem!_pos e i hi',getElem!_pos e j hj'] at this
  simpa using this
end
section
open Go.Sort
set_option linter.unusedSectionVars false
variable {α:Type} [Inhabited α] {κ:Type} [DecidableEq κ]
def Way (K:α→κ) (d dk:Array α):Prop:=PermIn 0 d.size d dk∧Stab K d dk
theorem Way.refl (K:α→κ) (d:Array α):Way K d d:=⟨permIn_refl _ _ _,Stab.refl K d⟩
theorem Way.size {K:α→κ} {d dk:Array α} (h:Way K d dk):dk.size=d.size:=h.1.1
theorem Way.step {K:α→κ} {d dk dl:Array α} {a b:Nat} (h:Way K d dk) (p:PermIn a b dk dl) (hb:b≤d.size) (s:Stab K dk dl):Way K d dl:=by
 have e:dk.size=d.size:=h.1.1
 exact ⟨permIn_trans _ _ _ _ _ h.1 (permIn_mono _ _ _ _ _ _ (Nat.zero_le _) hb (Nat.le_of_eq e.symm) p),h.2.trans s⟩
def SegTo (lt:α→α→Bool) (c q:Nat) (d:Array α):Prop:=∀t,t<q→SortedIn lt (t * c) (t * c+c) d
def SegFrom (lt:α→α→Bool) (c a n:Nat) (d:Array α):Prop:=∀t,SortedIn lt (a+t * c) (min (a+t * c+c) n) d
theorem sorted_out {lt:α→α→Bool} {a b x y:Nat} {d d':Array α} (p:PermIn a b d d') (h:SortedIn lt x y d) (hd:y≤a∨b≤x):SortedIn lt x y d':=fun i j h1 h2 h3=>by
 rw [p.2.1 i (by omega),p.2.1 j (by omega)]
 exact h i j h1 h2 h3
theorem sorted_mono {lt:α→α→Bool} {a b x y:Nat} {d:Array α} (h:SortedIn lt a b d) (h1:a≤x) (h2:y≤b):SortedIn lt x y d:=fun i j k1 k2 k3=>h i j (by omega) k2 (by omega)
theorem segTo_zero (lt:α→α→Bool) (c:Nat) (d:Array α):SegTo lt c 0 d:=fun _ ht=>absurd ht (Nat.not_lt_zero _)
theorem blk_le {t q:Nat} (c:Nat) (h:t<q):t * c+c≤q * c:=by
 have:=Nat.mul_le_mul_right c (show t+1≤q from h)
 rwa [Nat.add_mul,Nat.one_mul] at this
theorem SegTo.step {lt:α→α→Bool} {c q:Nat} {d d':Array α} (h:SegTo lt c q d) (p:PermIn (q * c) (q * c+c) d d') (s:SortedIn lt (q * c) (q * c+c) d'):SegTo lt c (q+1) d':=fun t ht=>by
 by_cases e:t<q
 ·exact sorted_out p (h t e) (Or.inl (blk_le c e))
 ·obtain rfl:t=q:=by omega
  exact s
theorem SegTo.last {lt:α→α→Bool} {c q n:Nat} {d d':Array α} (h:SegTo lt c q d) (hn:n<q * c+c) (p:PermIn (q * c) n d d') (s:SortedIn lt (q * c) n d'):SegFrom lt c 0 n d':=fun t=>by
 rw [Nat.zero_add]
 rcases Nat.lt_trichotomy t q with e|e|e
 ·exact sorted_mono (sorted_out p (h t e) (Or.inl (blk_le c e))) (Nat.le_refl _) (by omega)
 ·subst e
  exact sorted_mono s (Nat.le_refl _) (by omega)
 ·have:=blk_le c e
  intro i j h1 h2 h3
  omega
theorem SegFrom.first {lt:α→α→Bool} {c a n:Nat} {d:Array α} (h:SegFrom lt c a n d) (hn:a+c≤n):SortedIn lt a (a+c) d:=by
 have:=h 0
 rw [Nat.zero_mul,Nat.add_zero,Nat.min_eq_left hn] at this
 exact this
theorem SegFrom.second {lt:α→α→Bool} {c a n e:Nat} {d:Array α} (h:SegFrom lt c a n d) (h1:e≤a+c+c) (h2:e≤n):SortedIn lt (a+c) e d:=by
 have:=h 1
 rw [Nat.one_mul] at this
 exact sorted_mono this (Nat.le_refl _) (by omega)
theorem SegFrom.short {lt:α→α→Bool} {c a n:Nat} {d:Array α} (h:SegFrom lt c a n d) (hn:n≤a+c):SortedIn lt a n d:=by
 have:=h 0
 rw [Nat.zero_mul,Nat.add_zero,Nat.min_eq_right hn] at this
 exact this
theorem SegFrom.step {lt:α→α→Bool} {c a n:Nat} {d d':Array α} (h:SegFrom lt c a n d) (p:PermIn a (a+2 * c) d d'):SegFrom lt c (a+2 * c) n d':=fun t=>by
 have:=h (t+2)
 have e:a+(t+2) * c=a+2 * c+t * c:=by rw [Nat.add_mul];omega
 rw [e] at this
 exact sorted_out p this (Or.inr (by omega))
theorem merge_cut {lt:α→α→Bool} {K:α→κ} (hS:SWO lt) (hK:∀x y,lt x y=true→K x≠K y) {a s m e b mid:Nat} {d d1:Array α} (h:Rot s m e d d1) (has:a≤s) (hsm:s≤m) (hme:m≤e) (heb:e≤b) (hb:b≤d.size) (hmid:s+(e-m)=mid)
  (hL:SortedIn lt a m d) (hR:SortedIn lt m b d) (hlow:a<s→e<b→lt d[e]! d[s-1]! = false) (hhigh:s<m→m<e→lt d[e-1]! d[s]! = true) :
  SortedIn lt a s d1∧SortedIn lt s mid d1∧(¬ (a<s∧s<mid)→Mrg lt K a mid d1 d1) ∧
   (∀d2,Mrg lt K a mid d1 d2→SortedIn lt mid e d2∧SortedIn lt e b d2∧(¬ (mid<e∧e<b)→Mrg lt K mid b d2 d2)∧∀d3,Mrg lt K mid b d2 d3→Mrg lt K a b d d3):=by
 subst hmid
 obtain ⟨_,_,s1,s2,s3,s4,_⟩:=h.merge (K:=K) hS hK has hsm hme heb hb hL hR hlow hhigh
 refine ⟨s1,s2,fun hn=>Mrg.none ?_,fun d2 m2=>?_⟩
 ·by_cases e1:a<s
  ·rw [show s+(e-m)=s by omega];exact s1
  ·rw [show a=s by omega];exact s2
 ·have t3:=sorted_out m2.1 s3 (Or.inr (Nat.le_refl _))
  have t4:=sorted_out m2.1 s4 (Or.inr (by omega))
  refine ⟨t3,t4,fun hn=>Mrg.none ?_,fun d3 m3=>Mrg.of_rot hS hK h has hsm hme heb hb hL hR hlow hhigh m2 m3⟩
  by_cases e1:s+(e-m)<e
  ·rw [show b=e by omega];exact t3
  ·rw [show s+(e-m)=e by omega];exact t4
end
section
open Go.RowKit Go.Sort Go.Lib Go.Shelf
def Swapd (a b n:Nat) (d dk:Array Fx):Prop :=
 dk.size=d.size∧(∀t,t<n→dk[a+t]! = d[b+t]!)∧(∀t,t<n→dk[b+t]! = d[a+t]!)∧∀i,(i<a∨a+n≤i)→(i<b∨b+n≤i)→dk[i]! = d[i]!
theorem Swapd.zero (a b:Nat) (d:Array Fx):Swapd a b 0 d d:=⟨rfl,fun t ht=>by omega,fun t ht=>by omega,fun _ _ _=>rfl⟩
theorem Swapd.step {a b n:Nat} {d dk:Array Fx} (h:Swapd a b n d dk) (hab:a+n<b) (hb:b+n<d.size):Swapd a b (n+1) d (swp dk (a+n) (b+n)):=by
 obtain ⟨h1,h2,h3,h4⟩:=h
 refine ⟨by rw [size_swp,h1],fun t ht=>?_,fun t ht=>?_,fun i hi hj=>?_⟩
 ·by_cases e:t=n
  ·subst e
   rw [swp_left _ _ _ (by omega) (by omega)]
   exact h4 _ (by omega) (by omega)
  ·rw [swp_other _ _ _ _ (by omega) (by omega)];exact h2 t (by omega)
 ·by_cases e:t=n
  ·subst e
   rw [swp_right _ _ _ (by omega)]
   exact h4 _ (by omega) (by omega)
  ·rw [swp_other _ _ _ _ (by omega) (by omega)];exact h3 t (by omega)
 ·rw [swp_other _ _ _ _ (by omega) (by omega)]
  exact h4 _ (by omega) (by omega)
theorem swk_cells {w0 W:World} {blk off:Nat} {d0 dk:Array Fx} (h:SWK encX 2 w0 blk off dk W) (R:RowK encX 2 w0 blk off d0) (hs:dk.size=d0.size) (i:Nat) (hi:i<dk.size) :
  W.cell? ⟨blk,off+i * 2,none⟩=some (.string dk[i]!.name)∧W.frozen? ⟨blk,off+i * 2,none⟩=false∧W.cell? ⟨blk,off+i * 2+1,none⟩=some dk[i]!.sl∧W.frozen? ⟨blk,off+i * 2+1,none⟩=false:=by
 have H:=h.holds R.hblk R.hH hs
 have e0:=H (i * 2) (by rw [size_flatK];omega)
 have e1:=H (i * 2+1) (by rw [size_flatK];omega)
 rw [get_flatK _ _ _ _ (by omega)] at e0 e1
 rw [show i * 2 / 2=i by omega,show i * 2 % 2=0 by omega] at e0
 rw [show (i * 2+1) / 2=i by omega,show (i * 2+1) % 2=1 by omega] at e1
 exact ⟨e0.1,e0.2,e1.1,e1.2⟩
theorem swk_swapped {w0 W:World} {blk off:Nat} {d0 dk:Array Fx} (h:SWK encX 2 w0 blk off dk W) (R:RowK encX 2 w0 blk off d0) (i j:Nat) (hi:i<dk.size) (hj:j<dk.size) :
  SWK encX 2 w0 blk off (swp dk i j) ((((W.drew.setCell ⟨blk,off+i * 2,none⟩ (.string dk[j]!.name)).setCell ⟨blk,off+i * 2+1,none⟩ dk[j]!.sl).setCell ⟨blk,off+j * 2,none⟩ (.string dk[i]!.name)).setCell ⟨blk,off+j * 2+1,none⟩ dk[i]!.sl) :=
 h.swapped R i j hi hj
set_option maxHeartbeats 4000000 in
set_option maxRecDepth 1000000 in
theorem swapR_any (blk off cap a b n:Nat) (fv:Value) (d0 d:Array Fx) (w0 w:World) (R:RowK encX 2 w0 blk off d0) (hs:d0.size=d.size) (S:SWK encX 2 w0 blk off d w) (hab:a+n≤b) (hb:b+n≤d.size) (hsz:d.size<2305843009213693952) :
  Calls Tryz.prog 241 #[.slice (some ⟨blk,off,none⟩) d.size cap,.int .i64 a,.int .i64 b,.int .i64 n,fv] w fun e w' =>
   e=.returned (.tuple #[])∧∃dk,SWK encX 2 w0 blk off dk w'∧Swapd a b n d dk:=by
 have mixed:=Tryz.mixed
 have S0:Aside (SWK encX 2 w0 blk off d w):=S
 have RR:Aside (RowK encX 2 w0 blk off d0):=R
 clear S R
 go_enter Tryz.func241,Tryz.ntmps241
 go_wp2_with fail
 go_loopg [10] n (fun kx s8 wr=>∃(i:Nat) (dk:Array Fx),s8=.int .i64 i∧i≤n∧n-i≤kx∧Aside (Swapd a b i d dk)∧Aside (SWK encX 2 w0 blk off dk wr))
 case atStart=>exact ⟨0,d,rfl,by omega,by omega,Swapd.zero a b d,S0⟩
 case round =>
  clear S0
  obtain ⟨i,dk,rfl,hi,hkx,HS,S1⟩:=hrel
  by_cases hlt:i<n
  ·have hltz:(i:Int)<(n:Int):=by omega
   have hds:dk.size=d.size:=HS.out.1
   go_wp2_with fail
   have ea44:((a:Int)+(i:Int)).toNat=a+i:=by omega
   have pa44:(0:Int)≤(a:Int)+(i:Int):=by omega
   have ba44:(a:Int)+(i:Int)<(d.size:Int):=by omega
   have ra44:IntKind.i64.wrap ((a:Int)+(i:Int))=(a:Int)+(i:Int):=by rw [IntKind.wrap_i64];omega
   have ec44:((b:Int)+(i:Int)).toNat=b+i:=by omega
   have pc44:(0:Int)≤(b:Int)+(i:Int):=by omega
   have bc44:(b:Int)+(i:Int)<(d.size:Int):=by omega
   have rc44:IntKind.i64.wrap ((b:Int)+(i:Int))=(b:Int)+(i:Int):=by rw [IntKind.wrap_i64];omega
   obtain ⟨a0,a1,a2,a3⟩:=swk_cells S1.out RR.out (by omega) (a+i) (by omega)
   obtain ⟨b0,b1,b2,b3⟩:=swk_cells S1.out RR.out (by omega) (b+i) (by omega)
   have S2:Aside _:=swk_swapped S1.out RR.out (a+i) (b+i) (by omega) (by omega)
   generalize dk[a+i]! = x at a0 a2 S2
   generalize dk[b+i]! = y at b0 b2 S2
   unfold Fx.sl at a2 b2 S2
   obtain ⟨p,hp⟩:∃p,off+(a+i) * 2=p:=⟨_,rfl⟩
   obtain ⟨q,hq⟩:∃q,off+(b+i) * 2=q:=⟨_,rfl⟩
   have n1:¬ p=q:=by omega
   have n2:¬ q=p:=by omega
   have n3:¬ p+1=q:=by omega
   have n4:¬ q=p+1:=by omega
   have n5:¬ p=q+1:=by omega
   have n6:¬ q+1=p:=by omega
   rw [hp] at a0 a1 a2 a3 S2
   rw [hq] at b0 b1 b2 b3 S2
   clear S1
   go_wp2_with fail
   go_big_region_o
   clear a0 a1 a2 a3 b0 b1 b2 b3
   go_wp2_with fail
   go_roundg (n-(i+1))
   case measure=>omega
   case rel=>exact ⟨i+1,swp dk (a+i) (b+i),by go_num,by omega,by omega,HS.out.step (by omega) (by omega),S2⟩
  ·have hltz:¬ (i:Int)<(n:Int):=by omega
   obtain rfl:i=n:=by omega
   go_wp2_with fail
   go_end0
   exact ⟨rfl,dk,S1.out,HS.out⟩
set_option maxHeartbeats 4000000 in
set_option maxRecDepth 1000000 in
theorem rotate_any (blk off cap a m b:Nat) (fv:Value) (d0 d:Array Fx) (w0 w:World) (R:RowK encX 2 w0 blk off d0) (hs:d0.size=d.size) (S:SWK encX 2 w0 blk off d w) (ham:a<m) (hmb:m<b) (hb:b≤d.size) (hsz:d.size<2305843009213693952) :
  Calls Tryz.prog 239 #[.slice (some ⟨blk,off,none⟩) d.size cap,.int .i64 a,.int .i64 m,.int .i64 b,fv] w fun e w' =>
   e=.returned (.tuple #[])∧∃dk,SWK encX 2 w0 blk off dk w'∧Rot a m b d dk:=by
 have S0:Aside (SWK encX 2 w0 blk off d w):=S
 have RR:Aside (RowK encX 2 w0 blk off d0):=R
 clear S R
 have ei:IntKind.i64.wrap ((m:Int)-(a:Int))=((m-a:Nat):Int):=by rw [IntKind.wrap_i64];omega
 have ej:IntKind.i64.wrap ((b:Int)-(m:Int))=((b-m:Nat):Int):=by rw [IntKind.wrap_i64];omega
 go_enter Tryz.func239,Tryz.ntmps239
 go_wp2_with fail
 go_loopg [10,11] (b-a) (fun kx vi vj wr=>∃(i j:Nat) (dk:Array Fx),vi=.int .i64 i∧vj=.int .i64 j∧0<i∧0<j∧a+i≤m∧m+j≤b∧i+j≤kx∧dk.size=d.size∧Aside (∀d',Rot (m-i) m (m+j) dk d'→Rot a m b d d')∧Aside (SWK encX 2 w0 blk off dk wr))
 case atStart=>exact ⟨m-a,b-m,d,rfl,rfl,by omega,by omega,by omega,by omega,by omega,rfl,fun d' h=>by rw [show m-(m-a)=a by omega,show m+(b-m)=b by omega] at h;exact h,S0⟩
 case round =>
  clear S0
  obtain ⟨i,j,dk,rfl,rfl,hi,hj,hai,hjb,hkx,hds,HR,S1⟩:=hrel
  have emi:IntKind.i64.wrap ((m:Int)-(i:Int))=((m-i:Nat):Int):=by rw [IntKind.wrap_i64];omega
  rcases Nat.lt_trichotomy i j with hij|hij|hij
  ·have hc:((i:Int)==(j:Int))=false:=beq_eq_false_iff_ne.2 (by omega)
   have hne:¬ (i:Int)=(j:Int):=by omega
   have hg:¬ (j:Int)<(i:Int):=by omega
   have e2:IntKind.i64.wrap ((m:Int)+(j:Int))=(m:Int)+(j:Int):=by rw [IntKind.wrap_i64];omega
   have e3:IntKind.i64.wrap ((m:Int)+(j:Int)-(i:Int))=((m+j-i:Nat):Int):=by rw [IntKind.wrap_i64];omega
   have e4:IntKind.i64.wrap ((j:Int)-(i:Int))=((j-i:Nat):Int):=by rw [IntKind.wrap_i64];omega
   have hc:=swapR_any blk off cap (m-i) (m+j-i) i fv d0 dk w0 wr RR.out (by omega) S1.out (by omega) (by omega) (by omega)
   rw [hds] at hc
   have HC:=hid hc
   clear hc S1
   go_wp2_with (first|(go_at_call 241;refine HC.out.mono ?_;rintro e w1 ⟨rfl,dl,hsl,hsw⟩;have HSL:Aside _:=hsl;have HSW:Aside _:=hsw;clear hsl hsw))
   go_roundg j
   case measure=>omega
   case rel =>
    refine ⟨i,j-i,dl,rfl,rfl,hi,by omega,hai,by omega,by omega,HSW.out.1.trans hds,fun d' h=>HR.out d' ?_,HSL⟩
    obtain ⟨k1,k2,k3,k4⟩:=HSW.out
    refine Rot.right (i:=i) (dk:=dl) (by omega) (by omega) (by omega) (by omega) k1 k2 (fun t ht=>?_) (fun x h1 h2=>k4 x (by omega) (by omega)) (by rw [show m+j-i=m+(j-i) by omega];exact h)
    exact k3 t ht
  ·subst hij
   have hc:=swapR_any blk off cap (m-i) m i fv d0 dk w0 wr RR.out (by omega) S1.out (by omega) (by omega) (by omega)
   rw [hds] at hc
   have HC:=hid hc
   clear hc S1
   go_wp2_with (first|(go_at_call 241;refine HC.out.mono ?_;rintro e w1 ⟨rfl,dl,hsl,hsw⟩;have HSL:Aside _:=hsl;have HSW:Aside _:=hsw;clear hsl hsw))
   go_end0
   obtain ⟨k1,k2,k3,k4⟩:=HSW.out
   exact ⟨rfl,dl,HSL.out,HR.out dl (Rot.even (i:=i) (by omega) (by omega) (by omega) (by omega) k1 k2 k3 k4)⟩
  ·have hc0:((i:Int)==(j:Int))=false:=beq_eq_false_iff_ne.2 (by omega)
   have hne:¬ (i:Int)=(j:Int):=by omega
   have hg:(j:Int)<(i:Int):=by omega
   have e4:IntKind.i64.wrap ((i:Int)-(j:Int))=((i-j:Nat):Int):=by rw [IntKind.wrap_i64];omega
   have hc:=swapR_any blk off cap (m-i) m j fv d0 dk w0 wr RR.out (by omega) S1.out (by omega) (by omega) (by omega)
   rw [hds] at hc
   have HC:=hid hc
   clear hc S1
   go_wp2_with (first|(go_at_call 241;refine HC.out.mono ?_;rintro e w1 ⟨rfl,dl,hsl,hsw⟩;have HSL:Aside _:=hsl;have HSW:Aside _:=hsw;clear hsl hsw))
   go_roundg i
   case measure=>omega
   case rel =>
    refine ⟨i-j,j,dl,rfl,rfl,by omega,hj,by omega,hjb,by omega,HSW.out.1.trans hds,fun d' h=>HR.out d' ?_,HSL⟩
    obtain ⟨k1,k2,k3,k4⟩:=HSW.out
    exact Rot.left (j:=j) (dk:=dl) (by omega) (by omega) (by omega) (by omega) k1 k2 k3 (fun x h1 h2=>k4 x (by omega) (by omega)) (by rw [show m-i+j=m-(i-j) by omega];exact h)
end
section
open Go.RowKit Go.Sort Go.Lib Go.Shelf
theorem swk_in {w0 W:World} {blk off:Nat} {d0 dk:Array Fx} (h:SWK encX 2 w0 blk off dk W) (R:RowK encX 2 w0 blk off d0) (hs:dk.size=d0.size) (i:Nat) (hi:i<dk.size) (n:Nat) (os:Array Obj) :
  (grow (W.drewN n) os).cell? ⟨blk,off+i * 2,none⟩=some (.string dk[i]!.name)∧(grow (W.drewN n) os).cell? ⟨blk,off+i * 2+1,none⟩=some (.slice dk[i]!.p dk[i]!.txt.length dk[i]!.cap):=by
 have:=swk_cells (h.grown n os) R hs i hi
 exact ⟨this.1,this.2.2.1⟩
theorem cmp_in (x y:Fx) (W:World) (n:Nat) (os:Array Obj) :
  Calls Tryz.prog 187 #[.agg #[.string x.name,.slice x.p x.txt.length x.cap],.agg #[.string y.name,.slice y.p y.txt.length y.cap]] (grow (W.drewN n) os) fun e w'=>e=.returned (.int .i64 (cmpF x y))∧∃q os',w'=grow ((grow (W.drewN n) os).drewN q) os':=byName_any x y _
theorem ltF_true {x y:Fx} (h:ltOf cmpF x y=true):cmpF x y<0:=of_decide_eq_true h
theorem ltF_false {x y:Fx} (h:ltOf cmpF x y=false):¬ cmpF x y<0:=of_decide_eq_false h
set_option maxHeartbeats 4000000 in
set_option maxRecDepth 1000000 in
theorem sym_left (blk off cap a m b:Nat) (d0 d:Array Fx) (w0 w:World) (R:RowK encX 2 w0 blk off d0) (hs:d0.size=d.size) (S:SWK encX 2 w0 blk off d w) (hm:m=a+1) (hmb:m<b) (hb:b≤d.size) (hsz:d.size<2305843009213693952) (hR:SortedIn (ltOf cmpF) m b d) :
  Calls Tryz.prog 232 #[.slice (some ⟨blk,off,none⟩) d.size cap,.int .i64 a,.int .i64 m,.int .i64 b,.func (.func 187) #[] #[]] w fun e w' =>
   e=.returned (.tuple #[])∧∃dk,SWK encX 2 w0 blk off dk w'∧Mrg (ltOf cmpF) Fx.name a b d dk:=by
 have mixed:=Tryz.mixed
 have eg:=enters_byName
 have S0:Aside (SWK encX 2 w0 blk off d w):=S
 have RR:Aside (RowK encX 2 w0 blk off d0):=R
 have HR:=hid hR
 have HM:=hid hm
 have e0:IntKind.i64.wrap ((m:Int)-(a:Int))=1:=by rw [IntKind.wrap_i64];omega
 have ham:a<m:=by omega
 clear S R hR hm
 go_enter Tryz.func232,Tryz.ntmps232
 go_wp2_with fail
 go_loopg [10,11] (b-m) (fun kx vi vj wr=>∃(i j:Nat),vi=.int .i64 i∧vj=.int .i64 j∧m≤i∧i≤j∧j≤b∧j-i≤kx∧Hid (m<i→ltOf cmpF d[i-1]! d[a]! = true)∧Hid (j<b→ltOf cmpF d[j]! d[a]! = false)∧Aside (SWK encX 2 w0 blk off d wr))
 case atStart=>exact ⟨m,b,rfl,rfl,by omega,by omega,by omega,by omega,fun h=>absurd h (Nat.lt_irrefl _),fun h=>absurd h (Nat.lt_irrefl _),S0⟩
 case round =>
  clear S0
  obtain ⟨i,j,rfl,rfl,hmi,hij,hjb,hkx,HLO,HHI,S1⟩:=hrel
  by_cases hlt:i<j
  ·have hltz:(i:Int)<(j:Int):=by omega
   obtain ⟨h,hh⟩:∃h,(i+j) / 2=h:=⟨_,rfl⟩
   have hz:((i:Int)+(j:Int)) / 2=(h:Int):=by omega
   have h1:i≤h:=by omega
   have h2:h<j:=by omega
   clear hh
   go_wp2_with fail
   cases hL:ltOf cmpF d[h]! d[a]! with
   | true =>
    have ea:((h:Int)).toNat=h:=by omega
    have pa:(0:Int)≤(h:Int):=by omega
    have ba:(h:Int)<(d.size:Int):=by omega
    have ec:((a:Int)).toNat=a:=by omega
    have pc:(0:Int)≤(a:Int):=by omega
    have bc:(a:Int)<(d.size:Int):=by omega
    have la:=swk_in S1.out RR.out (by omega) (h) (by omega)
    have lb:=swk_in S1.out RR.out (by omega) (a) (by omega)
    have hv:=ltF_true hL
    have HL:=hid hL
    clear hL
    generalize d[h]! = x at la hv
    generalize d[a]! = y at lb hv
    have la0:=fun n os=>(la n os).1
    have la1:=fun n os=>(la n os).2
    have lb0:=fun n os=>(lb n os).1
    have lb1:=fun n os=>(lb n os).2
    clear la lb
    have hd:decide (cmpF x y<0)=true:=decide_eq_true hv
    have hc:=cmp_in x y wr
    go_wp2_with fail
    go_quiet_grown (first|(go_at_fn 187;refine Calls.grown_of (hc _ _)))
    have S2:Aside (SWK encX 2 w0 blk off d (grow (wr.drewN nq) osq)):=S1.out.grown nq osq
    clear la0 la1 lb0 lb1 hc S1
    generalize grow (wr.drewN nq) osq=w2 at S2 ⊢
    clear nq osq
    go_wp2_with fail
    go_roundg (j-(h+1))
    case measure=>omega
    case rel=>exact ⟨h+1,j,by go_num,rfl,by omega,by omega,hjb,by omega,fun _=>HL.out,HHI,S2⟩
   | false =>
    have ea:((h:Int)).toNat=h:=by omega
    have pa:(0:Int)≤(h:Int):=by omega
    have ba:(h:Int)<(d.size:Int):=by omega
    have ec:((a:Int)).toNat=a:=by omega
    have pc:(0:Int)≤(a:Int):=by omega
    have bc:(a:Int)<(d.size:Int):=by omega
    have la:=swk_in S1.out RR.out (by omega) (h) (by omega)
    have lb:=swk_in S1.out RR.out (by omega) (a) (by omega)
    have hv:=ltF_false hL
    have HL:=hid hL
    clear hL
    generalize d[h]! = x at la hv
    generalize d[a]! = y at lb hv
    have la0:=fun n os=>(la n os).1
    have la1:=fun n os=>(la n os).2
    have lb0:=fun n os=>(lb n os).1
    have lb1:=fun n os=>(lb n os).2
    clear la lb
    have hd:decide (cmpF x y<0)=false:=decide_eq_false hv
    have hc:=cmp_in x y wr
    go_wp2_with fail
    go_quiet_grown (first|(go_at_fn 187;refine Calls.grown_of (hc _ _)))
    have S2:Aside (SWK encX 2 w0 blk off d (grow (wr.drewN nq) osq)):=S1.out.grown nq osq
    clear la0 la1 lb0 lb1 hc S1
    generalize grow (wr.drewN nq) osq=w2 at S2 ⊢
    clear nq osq
    go_wp2_with fail
    go_roundg (h-i)
    case measure=>omega
    case rel=>exact ⟨i,h,rfl,rfl,hmi,h1,by omega,by omega,HLO,fun _=>HL.out,S2⟩
  ·have hltz:¬ (i:Int)<(j:Int):=by omega
   obtain rfl:i=j:=by omega
   have e1:IntKind.i64.wrap ((i:Int)-1)=((i-1:Nat):Int):=by rw [IntKind.wrap_i64];omega
   clear hij hkx hlt
   have SA:=S1
   go_wp2_with fail
   go_loopg [13] (b-a) (fun kx vk wr=>∃(k:Nat) (dk:Array Fx),vk=.int .i64 k∧a≤k∧k≤i-1∧i-1-k≤kx∧dk.size=d.size∧Aside (Rot a (a+1) (k+1) d dk)∧Aside (SWK encX 2 w0 blk off dk wr))
   case atStart=>exact ⟨a,d,rfl,by omega,by omega,by omega,rfl,rot_none _ _ _,SA⟩
   case round =>
    clear SA S1
    obtain ⟨k,dk,rfl,hak,hki,hkx,hds,HT,S1⟩:=hrel
    by_cases hlt:k<i-1
    ·have hltz2:(k:Int)<((i-1:Nat):Int):=by omega
     go_wp2_with fail
     have ea:((k:Int)).toNat=k:=by omega
     have pa:(0:Int)≤(k:Int):=by omega
     have ba:(k:Int)<(d.size:Int):=by omega
     have ra:IntKind.i64.wrap ((k:Int))=(k:Int):=by rw [IntKind.wrap_i64];omega
     have ec:((k:Int)+1).toNat=k+1:=by omega
     have pc:(0:Int)≤(k:Int)+1:=by omega
     have bc:(k:Int)+1<(d.size:Int):=by omega
     have rc:IntKind.i64.wrap ((k:Int)+1)=(k:Int)+1:=by rw [IntKind.wrap_i64];omega
     obtain ⟨a0,a1,a2,a3⟩:=swk_cells S1.out RR.out (by omega) (k) (by omega)
     obtain ⟨b0,b1,b2,b3⟩:=swk_cells S1.out RR.out (by omega) (k+1) (by omega)
     have S2:Aside _:=swk_swapped S1.out RR.out (k) (k+1) (by omega) (by omega)
     generalize dk[k]! = x at a0 a2 S2
     generalize dk[k+1]! = y at b0 b2 S2
     unfold Fx.sl at a2 b2 S2
     obtain ⟨p,hp⟩:∃p,off+(k) * 2=p:=⟨_,rfl⟩
     obtain ⟨q,hq⟩:∃q,off+(k+1) * 2=q:=⟨_,rfl⟩
     have n1:¬ p=q:=by omega
     have n2:¬ q=p:=by omega
     have n3:¬ p+1=q:=by omega
     have n4:¬ q=p+1:=by omega
     have n5:¬ p=q+1:=by omega
     have n6:¬ q+1=p:=by omega
     rw [hp] at a0 a1 a2 a3 S2
     rw [hq] at b0 b1 b2 b3 S2
     clear S1
     go_wp2_with fail
     go_big_region_o
     clear a0 a1 a2 a3 b0 b1 b2 b3
     go_wp2_with fail
     go_roundg (i-1-(k+1))
     case measure=>omega
     case rel=>exact ⟨k+1,swp dk k (k+1),by go_num,by omega,by omega,by omega,by rw [size_swp];exact hds,HT.out.shift_up hak (by omega),S2⟩
    ·have hltz2:¬ (k:Int)<((i-1:Nat):Int):=by omega
     go_wp2_with fail
     (try simp only [Exit.inBlock,Exit.then]);refine bodyPost_ret (results_none rfl _ _ _) rfl ?_
     have hk:k+1=i:=by omega
     have ht:=HT.out
     rw [hk] at ht
     have hlo:=HLO.out
     have hhi:=HHI.out
     have hr:=HR.out
     rw [HM.out] at hlo hr
     exact ⟨rfl,dk,S1.out,Mrg.one_left swoF ltF_ne ht (by omega) hjb hb hr hlo hhi⟩
set_option maxHeartbeats 4000000 in
set_option maxRecDepth 1000000 in
theorem sym_right (blk off cap a m b:Nat) (d0 d:Array Fx) (w0 w:World) (R:RowK encX 2 w0 blk off d0) (hs:d0.size=d.size) (S:SWK encX 2 w0 blk off d w) (hm:a+1<m) (hmb:b=m+1) (hb:b≤d.size) (hsz:d.size<2305843009213693952) (hL:SortedIn (ltOf cmpF) a m d) :
  Calls Tryz.prog 232 #[.slice (some ⟨blk,off,none⟩) d.size cap,.int .i64 a,.int .i64 m,.int .i64 b,.func (.func 187) #[] #[]] w fun e w' =>
   e=.returned (.tuple #[])∧∃dk,SWK encX 2 w0 blk off dk w'∧Mrg (ltOf cmpF) Fx.name a b d dk:=by
 have mixed:=Tryz.mixed
 have eg:=enters_byName
 have S0:Aside (SWK encX 2 w0 blk off d w):=S
 have RR:Aside (RowK encX 2 w0 blk off d0):=R
 have HR:=hid hL
 have HM:=hid hmb
 have e0:IntKind.i64.wrap ((m:Int)-(a:Int))=((m-a:Nat):Int):=by rw [IntKind.wrap_i64];omega
 have e1:(((m-a:Nat):Int)==1)=false:=beq_eq_false_iff_ne.2 (by omega)
 have e2:IntKind.i64.wrap ((b:Int)-(m:Int))=1:=by rw [IntKind.wrap_i64];omega
 have hms:m<d.size:=by omega
 clear S R hL hmb
 go_enter Tryz.func232,Tryz.ntmps232
 go_wp2_with fail
 go_loopg [14,15] (m-a) (fun kx vi vj wr=>∃(i j:Nat),vi=.int .i64 i∧vj=.int .i64 j∧a≤i∧i≤j∧j≤m∧j-i≤kx∧Hid (a<i→ltOf cmpF d[m]! d[i-1]! = false)∧Hid (j<m→ltOf cmpF d[m]! d[j]! = true)∧Aside (SWK encX 2 w0 blk off d wr))
 case atStart=>exact ⟨a,m,rfl,rfl,by omega,by omega,by omega,by omega,fun h=>absurd h (Nat.lt_irrefl _),fun h=>absurd h (Nat.lt_irrefl _),S0⟩
 case round =>
  clear S0
  obtain ⟨i,j,rfl,rfl,hmi,hij,hjb,hkx,HLO,HHI,S1⟩:=hrel
  by_cases hlt:i<j
  ·have hltz:(i:Int)<(j:Int):=by omega
   obtain ⟨h,hh⟩:∃h,(i+j) / 2=h:=⟨_,rfl⟩
   have hz:((i:Int)+(j:Int)) / 2=(h:Int):=by omega
   have h1:i≤h:=by omega
   have h2:h<j:=by omega
   clear hh
   go_wp2_with fail
   cases hL:ltOf cmpF d[m]! d[h]! with
   | false =>
    have ea:((m:Int)).toNat=m:=by omega
    have pa:(0:Int)≤(m:Int):=by omega
    have ba:(m:Int)<(d.size:Int):=by omega
    have ec:((h:Int)).toNat=h:=by omega
    have pc:(0:Int)≤(h:Int):=by omega
    have bc:(h:Int)<(d.size:Int):=by omega
    have la:=swk_in S1.out RR.out (by omega) (m) (by omega)
    have lb:=swk_in S1.out RR.out (by omega) (h) (by omega)
    have hv:=ltF_false hL
    have HL:=hid hL
    clear hL
    generalize d[m]! = x at la hv
    generalize d[h]! = y at lb hv
    have la0:=fun n os=>(la n os).1
    have la1:=fun n os=>(la n os).2
    have lb0:=fun n os=>(lb n os).1
    have lb1:=fun n os=>(lb n os).2
    clear la lb
    have hd:decide (cmpF x y<0)=false:=decide_eq_false hv
    have hc:=cmp_in x y wr
    go_wp2_with fail
    go_quiet_grown (first|(go_at_fn 187;refine Calls.grown_of (hc _ _)))
    have S2:Aside (SWK encX 2 w0 blk off d (grow (wr.drewN nq) osq)):=S1.out.grown nq osq
    clear la0 la1 lb0 lb1 hc S1
    generalize grow (wr.drewN nq) osq=w2 at S2 ⊢
    clear nq osq
    go_wp2_with fail
    go_roundg (j-(h+1))
    case measure=>omega
    case rel=>exact ⟨h+1,j,by go_num,rfl,by omega,by omega,hjb,by omega,fun _=>HL.out,HHI,S2⟩
   | true =>
    have ea:((m:Int)).toNat=m:=by omega
    have pa:(0:Int)≤(m:Int):=by omega
    have ba:(m:Int)<(d.size:Int):=by omega
    have ec:((h:Int)).toNat=h:=by omega
    have pc:(0:Int)≤(h:Int):=by omega
    have bc:(h:Int)<(d.size:Int):=by omega
    have la:=swk_in S1.out RR.out (by omega) (m) (by omega)
    have lb:=swk_in S1.out RR.out (by omega) (h) (by omega)
    have hv:=ltF_true hL
    have HL:=hid hL
    clear hL
    generalize d[m]! = x at la hv
    generalize d[h]! = y at lb hv
    have la0:=fun n os=>(la n os).1
    have la1:=fun n os=>(la n os).2
    have lb0:=fun n os=>(lb n os).1
    have lb1:=fun n os=>(lb n os).2
    clear la lb
    have hd:decide (cmpF x y<0)=true:=decide_eq_true hv
    have hc:=cmp_in x y wr
    go_wp2_with fail
    go_quiet_grown (first|(go_at_fn 187;refine Calls.grown_of (hc _ _)))
    have S2:Aside (SWK encX 2 w0 blk off d (grow (wr.drewN nq) osq)):=S1.out.grown nq osq
    clear la0 la1 lb0 lb1 hc S1
    generalize grow (wr.drewN nq) osq=w2 at S2 ⊢
    clear nq osq
    go_wp2_with fail
    go_roundg (h-i)
    case measure=>omega
    case rel=>exact ⟨i,h,rfl,rfl,hmi,h1,by omega,by omega,HLO,fun _=>HL.out,S2⟩
  ·have hltz:¬ (i:Int)<(j:Int):=by omega
   obtain rfl:i=j:=by omega
   clear hij hkx hlt
   have SA:=S1
   go_wp2_with fail
   go_loopg [17] (m-a) (fun kx vk wr=>∃(k:Nat) (dk:Array Fx),vk=.int .i64 k∧i≤k∧k≤m∧k-i≤kx∧dk.size=d.size∧Aside (Rot k m (m+1) d dk)∧Aside (SWK encX 2 w0 blk off dk wr))
   case atStart=>exact ⟨m,d,rfl,by omega,by omega,by omega,rfl,rot_none' _ _ _,SA⟩
   case round =>
    clear SA S1
    obtain ⟨k,dk,rfl,hak,hki,hkx,hds,HT,S1⟩:=hrel
    by_cases hlt:i<k
    ·obtain ⟨kp,rfl⟩:∃kp,k=kp+1:=⟨k-1,by omega⟩
     have hltz2:(i:Int)<(kp:Int)+1:=by omega
     go_wp2_with fail
     have ea:((kp:Int)+1).toNat=kp+1:=by omega
     have pa:(0:Int)≤(kp:Int)+1:=by omega
     have ba:(kp:Int)+1<(d.size:Int):=by omega
     have ra:IntKind.i64.wrap ((kp:Int)+1)=(kp:Int)+1:=by rw [IntKind.wrap_i64];omega
     have ec:((kp:Int)).toNat=kp:=by omega
     have pc:(0:Int)≤(kp:Int):=by omega
     have bc:(kp:Int)<(d.size:Int):=by omega
     have rc:IntKind.i64.wrap ((kp:Int))=(kp:Int):=by rw [IntKind.wrap_i64];omega
     obtain ⟨a0,a1,a2,a3⟩:=swk_cells S1.out RR.out (by omega) (kp+1) (by omega)
     obtain ⟨b0,b1,b2,b3⟩:=swk_cells S1.out RR.out (by omega) (kp) (by omega)
     have S2:Aside _:=swk_swapped S1.out RR.out (kp+1) (kp) (by omega) (by omega)
     generalize dk[kp+1]! = x at a0 a2 S2
     generalize dk[kp]! = y at b0 b2 S2
     unfold Fx.sl at a2 b2 S2
     obtain ⟨p,hp⟩:∃p,off+(kp+1) * 2=p:=⟨_,rfl⟩
     obtain ⟨q,hq⟩:∃q,off+(kp) * 2=q:=⟨_,rfl⟩
     have n1:¬ p=q:=by omega
     have n2:¬ q=p:=by omega
     have n3:¬ p+1=q:=by omega
     have n4:¬ q=p+1:=by omega
     have n5:¬ p=q+1:=by omega
     have n6:¬ q+1=p:=by omega
     rw [hp] at a0 a1 a2 a3 S2
     rw [hq] at b0 b1 b2 b3 S2
     clear S1
     go_wp2_with fail
     go_big_region_o
     clear a0 a1 a2 a3 b0 b1 b2 b3
     go_wp2_with fail
     go_roundg (kp-i)
     case measure=>omega
     case rel=>exact ⟨kp,swp dk (kp+1) kp,by first|rfl|go_num,by omega,by omega,by omega,by rw [size_swp];exact hds,HT.out.shift_down (by omega) (by omega),S2⟩
    ·have hltz2:¬ (i:Int)<(k:Int):=by omega
     go_wp2_with fail
     (try simp only [Exit.inBlock,Exit.then]);refine bodyPost_ret (results_none rfl _ _ _) rfl ?_
     obtain rfl:k=i:=by omega
     have hlo:=HLO.out
     have hhi:=HHI.out
     rw [HM.out]
     exact ⟨rfl,dk,S1.out,Mrg.one_right swoF ltF_ne HT.out (by omega) (by omega) (by omega) HR.out hlo hhi⟩
end
end Go.Proofs.YtjeogllmpjihaaaGreatDoor
