/-
  Texts of this claim, one behind the other: Mq2 Mq5 Mq6 Mq7 Mq8 Mq9 Yq4 Yqm Yq5 Mq3 Mq4 Yq6 Yq8 Yr2 Yq9.
-/
import Derived.Test.YtmhlcnmfbolgdaaGreatPd
import Derived.Lib.AppendZerosOnto
import Derived.Laws.CopyRow
import Derived.Laws.IdiomCopy
import Derived.Lib.Overlaps
import Derived.Deep.RegionLaw
namespace Go.Proofs.YtmhlcnmfbolgdaaGreat
section
open Go.RowKit
set_option maxHeartbeats 2000000 in
set_option maxRecDepth 100000 in
theorem msame12_any (a b:Rx) (w:World) (ha:a.at w) (hb:b.at w) :
  Calls Tryz.prog 297 #[.agg (encRx a).toArray,.agg (encRx b).toArray] w fun e w'=>e=.returned (.bool (decide (a.rg=b.rg)))∧Below w.heap.size w w':=by
 obtain ⟨hbV,h1,h2,hs⟩:=two_boxes w (encRx a).toArray (encRx b).toArray 125 125
 obtain ⟨V,hV⟩:∃V,(w.alloc (.cells (encRx a).toArray 125)).alloc (.cells (encRx b).toArray 125)=V:=⟨_,rfl⟩
 obtain ⟨M,hM⟩:∃M,w.heap.size=M:=⟨_,rfl⟩
 rw [hV] at hbV h1 h2 hs
 rw [hM] at h1 h2 hs
 have HS:=hid (pequal_any a.sl b.sl a.tm b.tm V (ha.on hbV).1 (hb.on hbV).1 ha.2.1.1 hb.2.1.1)
 have HB:=hid hbV
 obtain ⟨at',ap,ac,am⟩:=a
 obtain ⟨bt,bp,bc,bm⟩:=b
 simp only [encRx,Rx.sl,Rx.rg] at *
 have c0:V.cell? ⟨M,0,none⟩=some (.string at'):=cz h1
 have c1:V.cell? ⟨M,1,none⟩=some (.slice ap am.length ac):=cz h1
 have d0:V.cell? ⟨M+1,0,none⟩=some (.string bt):=cz h2
 have d1:V.cell? ⟨M+1,1,none⟩=some (.slice bp bm.length bc):=cz h2
 clear ha hb hbV h1 h2 hs
 go_enter Tryz.func297,Tryz.ntmps297
 by_cases ht:at'=bt
 ·have q1:(at'.toList==bt.toList)=true:=seq_true ht
  have HD:Hid (decide ((at',am)=(bt,bm))=decide (am=bm)):=by show _=_;rw [ht];simp
  clear ht
  go_wp2_with fail
  try rw [hV]
  refine HS.out.mono ?_
  rintro e w1 ⟨rfl,hb1⟩
  have HB1:=hid (bel_then HB.out HB.out.size hb1)
  clear hb1
  generalize decide (am=bm)=R at *
  go_wp2_with fail
  go_ret
  exact ⟨ret_bool HD.out.symm,HB1.out⟩
 ·have q1:(at'.toList==bt.toList)=false:=seq_false ht
  have HD:Hid (decide ((at',am)=(bt,bm))=false):=by show _=_;rw [decide_eq_false_iff_not];intro h;exact ht (congrArg Prod.fst h)
  clear ht
  go_wp2_with fail
  try rw [hV]
  go_ret
  exact ⟨ret_bool HD.out.symm,HB.out⟩
set_option maxHeartbeats 4000000 in
set_option maxRecDepth 100000 in
theorem mtouches12_any (r:Rx) (c:Cx) (w:World) (hr:r.at w) (hc:CIn w c) :
  Calls Tryz.prog 354 #[.agg (encRx r).toArray,.agg (encCx c).toArray] w fun e w'=>e=.returned (.bool (touchesM r.rg c.ch))∧Below w.heap.size w w':=by
 obtain ⟨hbV,h1,h2,hs⟩:=two_boxes w (encRx r).toArray (encCx c).toArray 125 105
 obtain ⟨V,hV⟩:∃V,(w.alloc (.cells (encRx r).toArray 125)).alloc (.cells (encCx c).toArray 105)=V:=⟨_,rfl⟩
 obtain ⟨M,hM⟩:∃M,w.heap.size=M:=⟨_,rfl⟩
 rw [hV] at hbV h1 h2 hs
 rw [hM] at h1 h2 hs
 have HMT:Hid (∀W',Below V.heap.size V W'→(Calls Tryz.prog 169 #[r.sl,.slice c.wp c.wo.length c.wc] W' fun e w'=>e=.returned (.bool (matchM r.tm (c.wo.map Fx.fld)))∧Below W'.heap.size W' w')∧(Calls Tryz.prog 169 #[r.sl,.slice c.ip c.io.length c.ic] W' fun e w'=>e=.returned (.bool (matchM r.tm (c.io.map Fx.fld)))∧Below W'.heap.size W' w')):=fun W' hW=>by
  have hb:Below w.heap.size w W':=bel_then hbV hbV.size hW
  have hr':=hr.on hb
  have hc':=hc.on hb
  exact ⟨pmatch_any _ _ r.tm c.wo W' hr'.1 hr'.2.1 hc'.was hc'.wfit hc'.wcp.2,pmatch_any _ _ r.tm c.io W' hr'.1 hr'.2.1 hc'.is hc'.ifit hc'.icp.2⟩
 have HB:=hid hbV
 have HBX:Hid (∀W':World,Below V.heap.size V W'→(W'.cell? ⟨M,0,none⟩=some (.string r.typ)∧W'.cell? ⟨M,1,none⟩=some r.sl)∧W'.cell? ⟨M+1,0,none⟩=some (.string c.a)∧W'.cell? ⟨M+1,1,none⟩=some (.string c.b)∧W'.cell? ⟨M+1,2,none⟩=some (.bool c.wl)∧W'.cell? ⟨M+1,3,none⟩=some (.slice c.wp c.wo.length c.wc)∧W'.cell? ⟨M+1,4,none⟩=some (.bool c.il)∧W'.cell? ⟨M+1,5,none⟩=some (.slice c.ip c.io.length c.ic)):=fun W' hW=>by
  have e1:=(hW.block M (by omega)).trans h1
  have e2:=(hW.block (M+1) (by omega)).trans h2
  exact ⟨⟨by rw [Lib.cell_of_heap e1];rfl,by rw [Lib.cell_of_heap e1];rfl⟩,by rw [Lib.cell_of_heap e2];rfl,by rw [Lib.cell_of_heap e2];rfl,by rw [Lib.cell_of_heap e2];rfl,by rw [Lib.cell_of_heap e2];rfl,by rw [Lib.cell_of_heap e2];rfl,by rw [Lib.cell_of_heap e2];rfl⟩
 clear hr hc hbV h1 h2 hs
 obtain ⟨rt,rp,rc,rm⟩:=r
 obtain ⟨ca,cb,wl,wp,wc,wo,il,ip,ic,io⟩:=c
 have HTV:Hid (∀R1 R2,matchM rm (wo.map Fx.fld)=R1→matchM rm (io.map Fx.fld)=R2→touchesM (⟨rt,rp,rc,rm⟩:Rx).rg (⟨ca,cb,wl,wp,wc,wo,il,ip,ic,io⟩:Cx).ch=(decide (rt=ca)&&((wl&&R1)||(il&&R2)))):=by rintro _ _ rfl rfl;rfl
 generalize touchesM (⟨rt,rp,rc,rm⟩:Rx).rg (⟨ca,cb,wl,wp,wc,wo,il,ip,ic,io⟩:Cx).ch=TT at *
 simp only [encRx,encCx,Rx.sl] at *
 obtain ⟨⟨a0,a1⟩,b0,b1,b2,b3,b4,b5⟩:=HBX.out V (Below.refl _ _)
 go_enter Tryz.func354,Tryz.ntmps354
 by_cases ht:rt=ca
 ·have q1:(rt.toList==ca.toList)=true:=seq_true ht
  have q2:(ca.toList==rt.toList)=true:=seq_true ht.symm
  obtain ⟨R1,hR1⟩:∃R1,matchM rm (wo.map Fx.fld)=R1:=⟨_,rfl⟩
  obtain ⟨R2,hR2⟩:∃R2,matchM rm (io.map Fx.fld)=R2:=⟨_,rfl⟩
  have HT:=hid (HTV.out R1 R2 hR1 hR2)
  rw [decide_eq_true ht] at HT
  rw [hR1,hR2] at HMT
  clear ht hR1 hR2 HTV
  obtain ⟨HM1,HM2⟩:=HMT.out V (Below.refl _ _)
  have H1:=hid HM1
  have H2:=hid HM2
  have HM3:Hid (∀W',Below V.heap.size V W'→Calls Tryz.prog 169 #[.slice rp rm.length rc,.slice ip io.length ic] W' fun e w'=>e=.returned (.bool R2)∧Below W'.heap.size W' w'):=fun W' hW=>(HMT.out W' hW).2
  clear HM1 HM2 HMT
  cases wl with
  | true =>
   go_wp2_with fail
   try rw [hV]
   refine H1.out.mono ?_
   rintro e w1 ⟨rfl,hb1⟩
   have HB1:=hid (bel_then HB.out HB.out.size hb1)
   have H3:=hid (HM3.out w1 hb1)
   obtain ⟨⟨a0,a1⟩,b0,b1,b2,b3,b4,b5⟩:=HBX.out w1 hb1
   clear hb1 H1 H2 HM3
   cases R1 with
   | true =>
    go_wp2_with fail
    go_ret
    exact ⟨ret_bool HT.out.symm,HB1.out⟩
   | false =>
    cases il with
    | true =>
     go_wp2_with fail
     refine H3.out.mono ?_
     rintro e w2 ⟨rfl,hb2⟩
     have HB2:=hid (bel_then HB1.out HB1.out.size hb2)
     clear hb2 H3
     go_wp2_with fail
     go_ret
     exact ⟨ret_bool (by rw [HT.out];cases R2<;>rfl),HB2.out⟩
    | false =>
     go_wp2_with fail
     go_ret
     exact ⟨ret_bool HT.out.symm,HB1.out⟩
  | false =>
   cases il with
   | true =>
    go_wp2_with fail
    try rw [hV]
    refine H2.out.mono ?_
    rintro e w2 ⟨rfl,hb2⟩
    have HB2:=hid (bel_then HB.out HB.out.size hb2)
    clear hb2 H1 H2 HM3
    go_wp2_with fail
    go_ret
    exact ⟨ret_bool (by rw [HT.out];cases R2<;>rfl),HB2.out⟩
   | false =>
    go_wp2_with fail
    try rw [hV]
    go_ret
    exact ⟨ret_bool HT.out.symm,HB.out⟩
 ·have q1:(rt.toList==ca.toList)=false:=seq_false ht
  have q2:(ca.toList==rt.toList)=false:=seq_false (Ne.symm ht)
  have HT:=hid (HTV.out _ _ rfl rfl)
  rw [decide_eq_false ht] at HT
  clear ht HTV
  go_wp2_with fail
  try rw [hV]
  go_ret
  exact ⟨ret_bool HT.out.symm,HB.out⟩
set_option maxHeartbeats 4000000 in
set_option maxRecDepth 100000 in
theorem idxRange_any (f:Rx→Bool) (k:Nat) (lb:Array Value) (eg:∀args w,(callFunc k args).run Tryz.prog w=.ok (.enter k args) w) (v:Value) (l:List Rx) (w:World) (hv:KRx.Is w v l) (hl:l.length≤9000000000000000000)
  (hk:∀(W:World) (x:Rx),Below w.heap.size w W→x∈l→Calls Tryz.prog k (#[.agg (encRx x).toArray]++lb) W fun e w'=>e=.returned (.bool (f x))∧Below W.heap.size W w') :
  Calls Tryz.prog 346 #[v,.func (.func k) #[] lb] w fun e w'=>(∃n:Int,e=.returned (.int .i64 n)∧decide (n≥0)=l.any f)∧Below w.heap.size w w':=by
 obtain ⟨p,cap,rfl,hd⟩:=hv
 have HD:=hid hd
 have HK:=hid hk
 clear hd hk
 go_enter Tryz.func346,Tryz.ntmps346
 go_wp2_with fail
 go_loopg [8] l.length (fun gg vi wr=>∃i:Nat,vi=.int .i64 i∧i≤l.length∧l.length-i≤gg∧Hid (Below w.heap.size w wr∧∀x∈l.take i,f x=false))
 case atStart=>exact ⟨0,rfl,by omega,by omega,Below.refl _ _,fun x hx=>by simp at hx⟩
 case round =>
  obtain ⟨i,rfl,hi,hgk,HI⟩:=hrel
  by_cases hlt:i<l.length
  ·have hltz:(i:Int)<(l.length:Int):=by omega
   have hiz:(0:Int)≤i:=by omega
   obtain ⟨b1,o1,rfl,k1⟩:∃b off,p=some ⟨b,off,none⟩∧KRx.At w b off l:=by
    rcases HD.out with h|h
    ·rw [h] at hlt;simp at hlt
    ·exact h
   obtain ⟨y0,y1⟩:=krx_at (Kind.at_kept k1 HI.out.1) i hlt
   have hmem:l[i]∈l:=List.getElem_mem hlt
   have htk:l.take (i+1)=l.take i++[l[i]]:=List.take_succ_eq_append_getElem hlt
   have HC:=hid (HK.out wr l[i] HI.out.1 hmem)
   have HNO:Hid (f l[i]=false→∀x∈l.take (i+1),f x=false):=fun h x hx=>by
    rw [htk] at hx
    rcases List.mem_append.1 hx with hx|hx
    ·exact HI.out.2 x hx
    ·rw [List.mem_singleton.1 hx];exact h
   have HYES:Hid (f l[i]=true→l.any f=true):=fun h=>List.any_eq_true.2 ⟨_,hmem,h⟩
   have HB:=hid HI.out.1
   clear HI k1 hmem htk
   generalize l[i]=x at *
   cases hq:f x with
   | true =>
    rw [hq] at HC
    have HY:=hid (HYES.out hq)
    clear HNO HYES hq
    simp only [encRx,Rx.sl] at *
    go_wp2_with (go_at_fn k;refine HC.out.mono ?_;rintro e w1 ⟨rfl,hb1⟩)
    go_ret
    exact ⟨⟨i,rfl,by rw [HY.out];exact decide_eq_true hiz⟩,bel_then HB.out HB.out.size hb1⟩
   | false =>
    rw [hq] at HC
    have HN:=hid (HNO.out hq)
    clear HNO HYES hq
    simp only [encRx,Rx.sl] at *
    go_wp2_with (go_at_fn k;refine HC.out.mono ?_;rintro e w1 ⟨rfl,hb1⟩)
    have HB1:=hid (bel_then HB.out HB.out.size hb1)
    clear hb1
    go_roundg (l.length-(i+1))
    case measure=>omega
    exact ⟨i+1,by go_num,by omega,by omega,HB1.out,HN.out⟩
  ·have hltz:¬ (i:Int)<(l.length:Int):=by omega
   have hti:l.take i=l:=List.take_of_length_le (by omega)
   rw [hti] at HI
   go_wp2_with fail
   go_ret
   refine ⟨⟨-1,rfl,?_⟩,HI.out.1⟩
   have:l.any f=false:=by
    rw [List.any_eq_false]
    exact fun x hx=>by rw [HI.out.2 x hx];simp
   rw [this]
   decide
set_option maxHeartbeats 2000000 in
theorem hasRange_any (f:Rx→Bool) (k:Nat) (lb:Array Value) (eg:∀args w,(callFunc k args).run Tryz.prog w=.ok (.enter k args) w) (v:Value) (l:List Rx) (w:World) (hv:KRx.Is w v l) (hl:l.length≤9000000000000000000)
  (hk:∀(W:World) (x:Rx),Below w.heap.size w W→x∈l→Calls Tryz.prog k (#[.agg (encRx x).toArray]++lb) W fun e w'=>e=.returned (.bool (f x))∧Below W.heap.size W w') :
  Calls Tryz.prog 295 #[v,.func (.func k) #[] lb] w fun e w'=>e=.returned (.bool (l.any f))∧Below w.heap.size w w':=by
 have HX:=hid (idxRange_any f k lb eg v l w hv hl hk)
 clear hv hk
 go_enter Tryz.func295,Tryz.ntmps295
 go_wp2_with fail
 refine HX.out.mono ?_
 rintro e w1 ⟨⟨n,rfl,hn⟩,hb1⟩
 have HN:=hid hn
 clear hn
 go_wp2_with fail
 go_ret
 exact ⟨ret_bool HN.out,hb1⟩
set_option maxHeartbeats 4000000 in
set_option maxRecDepth 100000 in
theorem idxChange_any (f:Cx→Bool) (k:Nat) (lb:Array Value) (eg:∀args w,(callFunc k args).run Tryz.prog w=.ok (.enter k args) w) (v:Value) (l:List Cx) (w:World) (hv:KCx.Is w v l) (hl:l.length≤9000000000000000000)
  (hk:∀(W:World) (x:Cx),Below w.heap.size w W→x∈l→Calls Tryz.prog k (#[.agg (encCx x).toArray]++lb) W fun e w'=>e=.returned (.bool (f x))∧Below W.heap.size W w') :
  Calls Tryz.prog 351 #[v,.func (.func k) #[] lb] w fun e w'=>(∃n:Int,e=.returned (.int .i64 n)∧decide (n≥0)=l.any f)∧Below w.heap.size w w':=by
 obtain ⟨p,cap,rfl,hd⟩:=hv
 have HD:=hid hd
 have HK:=hid hk
 clear hd hk
 go_enter Tryz.func351,Tryz.ntmps351
 go_wp2_with fail
 go_loopg [8] l.length (fun gg vi wr=>∃i:Nat,vi=.int .i64 i∧i≤l.length∧l.length-i≤gg∧Hid (Below w.heap.size w wr∧∀x∈l.take i,f x=false))
 case atStart=>exact ⟨0,rfl,by omega,by omega,Below.refl _ _,fun x hx=>by simp at hx⟩
 case round =>
  obtain ⟨i,rfl,hi,hgk,HI⟩:=hrel
  by_cases hlt:i<l.length
  ·have hltz:(i:Int)<(l.length:Int):=by omega
   have hiz:(0:Int)≤i:=by omega
   obtain ⟨b1,o1,rfl,k1⟩:∃b off,p=some ⟨b,off,none⟩∧KCx.At w b off l:=by
    rcases HD.out with h|h
    ·rw [h] at hlt;simp at hlt
    ·exact h
   obtain ⟨y0,y1,y2,y3,y4,y5⟩:=kcx_at (Kind.at_kept k1 HI.out.1) i hlt
   have hmem:l[i]∈l:=List.getElem_mem hlt
   have htk:l.take (i+1)=l.take i++[l[i]]:=List.take_succ_eq_append_getElem hlt
   have HC:=hid (HK.out wr l[i] HI.out.1 hmem)
   have HNO:Hid (f l[i]=false→∀x∈l.take (i+1),f x=false):=fun h x hx=>by
    rw [htk] at hx
    rcases List.mem_append.1 hx with hx|hx
    ·exact HI.out.2 x hx
    ·rw [List.mem_singleton.1 hx];exact h
   have HYES:Hid (f l[i]=true→l.any f=true):=fun h=>List.any_eq_true.2 ⟨_,hmem,h⟩
   have HB:=hid HI.out.1
   clear HI k1 hmem htk
   generalize l[i]=x at *
   cases hq:f x with
   | true =>
    rw [hq] at HC
    have HY:=hid (HYES.out hq)
    clear HNO HYES hq
    simp only [encCx] at *
    go_wp2_with (go_at_fn k;refine HC.out.mono ?_;rintro e w1 ⟨rfl,hb1⟩)
    go_ret
    exact ⟨⟨i,rfl,by rw [HY.out];exact decide_eq_true hiz⟩,bel_then HB.out HB.out.size hb1⟩
   | false =>
    rw [hq] at HC
    have HN:=hid (HNO.out hq)
    clear HNO HYES hq
    simp only [encCx] at *
    go_wp2_with (go_at_fn k;refine HC.out.mono ?_;rintro e w1 ⟨rfl,hb1⟩)
    have HB1:=hid (bel_then HB.out HB.out.size hb1)
    clear hb1
    go_roundg (l.length-(i+1))
    case measure=>omega
    exact ⟨i+1,by go_num,by omega,by omega,HB1.out,HN.out⟩
  ·have hltz:¬ (i:Int)<(l.length:Int):=by omega
   have hti:l.take i=l:=List.take_of_length_le (by omega)
   rw [hti] at HI
   go_wp2_with fail
   go_ret
   refine ⟨⟨-1,rfl,?_⟩,HI.out.1⟩
   have:l.any f=false:=by
    rw [List.any_eq_false]
    exact fun x hx=>by rw [HI.out.2 x hx];simp
   rw [this]
   decide
set_option maxHeartbeats 2000000 in
theorem hasChange_any (f:Cx→Bool) (k:Nat) (lb:Array Value) (eg:∀args w,(callFunc k args).run Tryz.prog w=.ok (.enter k args) w) (v:Value) (l:List Cx) (w:World) (hv:KCx.Is w v l) (hl:l.length≤9000000000000000000)
  (hk:∀(W:World) (x:Cx),Below w.heap.size w W→x∈l→Calls Tryz.prog k (#[.agg (encCx x).toArray]++lb) W fun e w'=>e=.returned (.bool (f x))∧Below W.heap.size W w') :
  Calls Tryz.prog 306 #[v,.func (.func k) #[] lb] w fun e w'=>e=.returned (.bool (l.any f))∧Below w.heap.size w w':=by
 have HX:=hid (idxChange_any f k lb eg v l w hv hl hk)
 clear hv hk
 go_enter Tryz.func306,Tryz.ntmps306
 go_wp2_with fail
 refine HX.out.mono ?_
 rintro e w1 ⟨⟨n,rfl,hn⟩,hb1⟩
 have HN:=hid hn
 clear hn
 go_wp2_with fail
 go_ret
 exact ⟨ret_bool HN.out,hb1⟩
theorem enters_mhas:∀args w,(callFunc 296 args).run Tryz.prog w=.ok (.enter 296 args) w:=enters_of Tryz.func296 (by kernel_rfl) rfl
set_option maxHeartbeats 2000000 in
theorem has1_any (r x:Rx) (M:Nat) (w:World) (hM:w.heap[M]? = some (.cells (encRx r).toArray 125 (0,0))) (hr:r.at w) (hx:x.at w) :
  Calls Tryz.prog 296 #[.agg (encRx x).toArray,.pointer (some ⟨M,0,none⟩)] w fun e w'=>e=.returned (.bool (decide (x.rg=r.rg)))∧Below w.heap.size w w':=by
 obtain ⟨hb,h1,hs⟩:=one_box w (encRx x).toArray 125
 obtain ⟨V,hV⟩:∃V,w.alloc (.cells (encRx x).toArray 125)=V:=⟨_,rfl⟩
 rw [hV] at hb h1 hs
 have hlt:M<w.heap.size:=(Array.getElem?_eq_some_iff.1 hM).1
 have h2:=(hb.block M hlt).trans hM
 have HS:=hid (msame12_any x r V (hx.on hb) (hr.on hb))
 have HB:=hid hb
 generalize decide (x.rg=r.rg)=R at *
 obtain ⟨K,hK⟩:∃K,w.heap.size=K:=⟨_,rfl⟩
 rw [hK] at h1
 obtain ⟨xt,xp,xc,xm⟩:=x
 obtain ⟨rt,rp,rc,rm⟩:=r
 simp only [encRx,Rx.sl] at *
 have c0:V.cell? ⟨K,0,none⟩=some (.string xt):=cz h1
 have c1:V.cell? ⟨K,1,none⟩=some (.slice xp xm.length xc):=cz h1
 have d0:V.cell? ⟨M,0,none⟩=some (.string rt):=cz h2
 have d1:V.cell? ⟨M,1,none⟩=some (.slice rp rm.length rc):=cz h2
 clear hM hr hx h1 h2 hb hs
 go_enter Tryz.func296,Tryz.ntmps296
 go_wp2_with fail
 try rw [hV]
 try rw [hK]
 refine HS.out.mono ?_
 rintro e w1 ⟨rfl,hb1⟩
 have HB1:=hid (bel_then HB.out HB.out.size hb1)
 clear hb1
 go_wp2_with fail
 go_ret
 exact ⟨rfl,HB1.out⟩
set_option maxHeartbeats 2000000 in
theorem mhas12_any (v:Value) (l:List Rx) (r:Rx) (w:World) (hv:KRx.Is w v l) (hl:l.length≤9000000000000000000) (he:∀x∈l,x.at w) (hr:r.at w) :
  Calls Tryz.prog 220 #[v,.agg (encRx r).toArray] w fun e w'=>e=.returned (.bool ((l.map Rx.rg).any fun x=>decide (x=r.rg)))∧Below w.heap.size w w':=by
 obtain ⟨hb,h1,hs⟩:=one_box w (encRx r).toArray 125
 obtain ⟨V,hV⟩:∃V,w.alloc (.cells (encRx r).toArray 125)=V:=⟨_,rfl⟩
 obtain ⟨M,hM⟩:∃M,w.heap.size=M:=⟨_,rfl⟩
 rw [hV] at hb h1 hs
 rw [hM] at h1 hs
 have HH:=hid (hasRange_any (fun x=>decide (x.rg=r.rg)) 296 #[.pointer (some ⟨M,0,none⟩)] enters_mhas v l V (Kind.is_kept hv hb) hl (fun W x hW hx=>has1_any r x M W ((hW.block M (by omega)).trans h1) ((hr.on hb).on hW) (((he x hx).on hb).on hW)))
 have HE:Hid (l.any (fun x=>decide (x.rg=r.rg))=(l.map Rx.rg).any fun x=>decide (x=r.rg)):=by show _=_;rw [List.any_map];rfl
 have HB:=hid hb
 generalize l.any (fun x=>decide (x.rg=r.rg))=R at *
 clear hv he hr hb h1 hs
 obtain ⟨rt,rp,rc,rm⟩:=r
 simp only [encRx,Rx.sl] at *
 go_enter Tryz.func220,Tryz.ntmps220
 go_wp2_with fail
 try rw [hV]
 try rw [hM]
 refine HH.out.mono ?_
 rintro e w1 ⟨rfl,hb1⟩
 have HB1:=hid (bel_then HB.out HB.out.size hb1)
 clear hb1
 go_wp2_with fail
 go_ret
 exact ⟨ret_bool HE.out,HB1.out⟩
end
section
open Go.RowKit
theorem infoKg12:(Tryz.prog.info? 39).map (fun i=>(i.zero,i.size,i.bytes))=some (some (.agg #[.string ⟨#[]⟩,.string ⟨#[]⟩]),2,32):=by kernel_rfl
theorem growKy_room (n:Nat) (w:World) (hn:0<n) (hn2:n * 32≤140737488355328):∃(g cap:Nat) (w':World),(∀ty,(Builtin.append_ #[50,3] ty #[.slice none 0 0,.int .i64 (n:Int)]).run Tryz.prog w=.ok (.slice (some ⟨g,0,none⟩) n cap) w')∧n≤cap∧cap≤maxLen∧KK.Own w.heap.size w' (.slice (some ⟨g,0,none⟩) 0 cap) []∧Below w.heap.size w w':=by
 obtain ⟨i0,hi0,hz0,hz1,hz2⟩:=info_parts infoKg12
 have hold:(Builtin.firstCells i0.size 0 (.slice none 0 0)).run Tryz.prog w.drew=.ok ([]:List Value).toArray w.drew:=run_firstCells_none w.drew i0.size 0 0 0
 have h:=fun ty=>Lib.run_append_grow_zeros (P:=Tryz.prog) w 50 3 ty 39 i0 _ .i64 .i64 Tryz.underlying50 Tryz.underlying3 hi0 hz0 none 0 0 [] hold n hn (by omega) (by omega) (by omega) (by rw [hz2];omega) (growslice_fits (by omega) (by rw [hz2];omega))
 simp only [Nat.zero_add] at h
 have hG:=grownCap_ge w n 0 39
 have hM:=grownCap_le_maxLen w n 0 39 (by unfold maxLen;omega)
 generalize grownCap w n 0 39=G at *
 refine ⟨_,_,_,h,hG,hM,?_,?_⟩
 ·refine World.ownsRow_made w.drew _ G (Nat.le_refl _) hM ?_
  have e:∀m,(Builtin.zeroCells (Value.agg #[.string ⟨#[]⟩,.string ⟨#[]⟩]).cells m).size=m * 2:=fun m=>by
   have:=congrArg List.length (Z.zero_cells (.string ⟨#[]⟩) m)
   simpa [Value.cells] using this
  rw [Array.size_append,Array.size_append,e,e]
  show 0+n * 2+(G-n) * 2=G * 2
  omega
 ·exact ((Below.refl _ w).drew).alloc (Nat.le_refl _) _
theorem wpList_append_made {ops:Array Oper} {rest:List Oper} {o:Oper} {a:Act} {Q:Exit→Act→World→Prop} (w:World) (hgd:o.guard=none) (s x:Operand) (t tn:TypeId)
  (ho:o.op=.call { callee:=.builtin .append,args:=#[s,x],argTypes:=#[t,tn] }) (vs vx v':Value) (w':World) (hs:a.eval s=vs) (hx:a.eval x=vx) (hrun:∀ty,(Builtin.append_ #[t,tn] ty #[vs,vx]).run Tryz.prog w=.ok v' w')
  (h:wpList Tryz.prog ops Q rest (a.put o.dst v') w'):wpList Tryz.prog ops Q (o::rest) a w:=by
 refine wpList_plain hgd fun K hK'=>?_
 unfold Oper.wp
 simp [execOp,ho,resolve,invoke,builtin,hs,hx,hrun,Result.andThen]
 exact hK' _ _ h
set_option maxHeartbeats 2000000 in
theorem growKy_any (n:Nat) (w:World) (hn:n * 32≤140737488355328) :
  Calls Tryz.prog 294 #[.slice none 0 0,.int .i64 (n:Int)] w fun e w'=>(∃u,e=.returned u∧KK.Own w.heap.size w' u [])∧Below w.heap.size w w':=by
 by_cases h0:n=0
 ·subst h0
  go_enter Tryz.func294,Tryz.ntmps294
  go_wp2_with fail
  go_ret
  exact ⟨⟨_,rfl,KK.own_nil _ _⟩,Below.refl _ _⟩
 ·obtain ⟨g,cap,w',hap,hc1,hc2,ho,hb⟩:=growKy_room n w (by omega) hn
  have HO:=hid ho
  have HB:=hid hb
  have q1:¬ ((n:Int)<0):=by omega
  have q2:(n:Int) > 0:=by omega
  have q3:wrap64 (n:Int)=n:=by unfold wrap64;omega
  unfold maxLen at hc2
  have HAP:=hid hap
  clear ho hb hap
  go_enter Tryz.func294,Tryz.ntmps294
  go_wp2_with (at_builtin;refine wpList_append_made _ rfl _ _ 50 3 rfl _ _ _ _ rfl rfl HAP.out ?_)
  go_ret
  exact ⟨⟨_,rfl,HO.out⟩,HB.out⟩
set_option maxHeartbeats 4000000 in
set_option maxRecDepth 100000 in
theorem concatKy_any (B : Nat) (pa pb : Option Addr) (ca cb : Nat) (a b : List Ky) (w : World) (hB : w.heap[B]? = some (.cells #[.slice pa a.length ca, .slice pb b.length cb] 50 (0, 0)))
    (ha : KK.Is w (.slice pa a.length ca) a) (hb : KK.Is w (.slice pb b.length cb) b) (hl : (a.length + b.length) * 32 ≤ 140737488355328) :
    Calls Tryz.prog 219 #[.slice (some ⟨B, 0, none⟩) 2 2] w fun e w' => (∃ u, e = .returned u ∧ KK.Own w.heap.size w' u (a ++ b)) ∧ Below w.heap.size w w' := by
  obtain ⟨i0, hi0, hz0, hz1, hz2⟩ := info_parts infoKg12
  have HI0 := hid hi0
  clear hi0
  have hBl : B < w.heap.size := (Array.getElem?_eq_some_iff.1 hB).1
  have HBX : Hid (∀ W', Below w.heap.size w W' → (W'.cell? ⟨B, 0, none⟩ = some (.slice pa a.length ca) ∧ W'.cell? ⟨B, 1, none⟩ = some (.slice pb b.length cb)) ∧ KK.Is W' (.slice pa a.length ca) a ∧ KK.Is W' (.slice pb b.length cb) b) := fun W' hW => by
    have e1 := (hW.block B hBl).trans hB
    exact ⟨⟨by rw [Lib.cell_of_heap e1]; rfl, by rw [Lib.cell_of_heap e1]; rfl⟩, Kind.is_kept ha hW, Kind.is_kept hb hW⟩
  obtain ⟨n, hn⟩ : ∃ n, a.length + b.length = n := ⟨_, rfl⟩
  have q1 : wrap64 (a.length : Int) = a.length := by unfold wrap64; omega
  have q2 : wrap64 ((a.length : Int) + (b.length : Int)) = (n : Int) := by unfold wrap64; omega
  have q3 : ¬ ((a.length : Int) < 0) := by omega
  have q4 : ¬ ((n : Int) < 0) := by omega
  have hG := growKy_any n w (by omega)
  rw [show (n : Int) = (a.length : Int) + (b.length : Int) by omega] at hG
  have HG := hid hG
  clear hG
  obtain ⟨⟨c0, c1⟩, _, _⟩ := HBX.out w (Below.refl _ _)
  have HN := hid hn
  clear ha hb hB hn
  go_enter Tryz.func219, Tryz.ntmps219
  go_wp2_with fail
  refine wp_loop_rounds 3 ?_
  rw [rounds_succ]
  go_wp2_with fail
  rw [rounds_succ]
  go_wp2_with fail
  rw [rounds_succ]
  go_wp2_with fail
  refine HG.out.mono ?_
  rintro e w1 ⟨⟨u1, rfl, ho1⟩, hb1⟩
  obtain ⟨⟨c0, c1⟩, ha1, hb1'⟩ := HBX.out w1 hb1
  have HA1 : Hid (a.length = 0 ∨ ∃ ad, pa = some ad ∧ ∀ j u, (KK.cells a)[j]? = some u → w1.cell? (ad.add j) = some u) := by
    obtain ⟨p9, c9, he, h⟩ := ha1
    injection he with e1 _ _
    subst e1
    exact Kind.src h
  have HO1 := hid ho1
  have HB1 := hid hb1
  have hs1 := hb1.size
  clear ho1 hb1 ha1 hb1' HG
  go_wp2_with fail
  refine wp_loop_rounds 3 ?_
  rw [rounds_succ]
  go_wp2_with (at_builtin; refine wpList_append_rows _ rfl _ _ 50 rfl w.heap.size 39 i0 _ 2 32 Tryz.underlying50 HI0.out hz0 hz1 hz2 rfl (by decide) _ 0 [] rfl HO1.out pa a.length ca (KK.cells a) rfl (KK.cells_len a) HA1.out (KK.cells_ones a) (by unfold maxLen; have := HN.out; omega) (by omega) hs1 ?_
               intro u2 w2 ho2 hg2
               have hb2 := below_grown HB1.out hg2 (fun k hk => (World.ownsRow.lt (show w1.ownsRow w.heap.size KK.T KK.k u1 0 (KK.cells []) from HO1.out) k hk).1) hs1
               obtain ⟨⟨c0, c1⟩, ha2, hb2'⟩ := HBX.out w2 hb2
               have HA2 : Hid (b.length = 0 ∨ ∃ ad, pb = some ad ∧ ∀ j u, (KK.cells b)[j]? = some u → w2.cell? (ad.add j) = some u) := by
                 obtain ⟨p9, c9, he, h⟩ := hb2'
                 injection he with e1 _ _
                 subst e1
                 exact Kind.src h
               have HO2 : Hid (KK.Own w.heap.size w2 u2 a) := by
                 have := ho2
                 rw [Nat.zero_add, List.nil_append] at this
                 exact this
               have HB2 := hid hb2
               have hs2 := hb2.size
               clear ho2 hg2 hb2 ha2 hb2')
  rw [rounds_succ]
  go_wp2_with (at_builtin; refine wpList_append_rows _ rfl _ _ 50 rfl w.heap.size 39 i0 _ 2 32 Tryz.underlying50 HI0.out hz0 hz1 hz2 rfl (by decide) _ a.length (KK.cells a) rfl HO2.out pb b.length cb (KK.cells b) rfl (KK.cells_len b) HA2.out (KK.cells_ones b) (by unfold maxLen; have := HN.out; omega) (by omega) hs2 ?_
               intro u3 w3 ho3 hg3
               have HB3 := hid (below_grown HB2.out hg3 (fun k hk => (World.ownsRow.lt (show w2.ownsRow w.heap.size KK.T KK.k u2 a.length (KK.cells a) from HO2.out) k hk).1) hs2)
               have HO3 : Hid (KK.Own w.heap.size w3 u3 (a ++ b)) := by
                 show w3.ownsRow _ _ _ _ _ _
                 rw [List.length_append, KK.cells_append]
                 exact ho3
               clear ho3 hg3)
  rw [rounds_succ]
  go_wp2_with fail
  go_ret
  exact ⟨⟨_, rfl, HO3.out⟩, HB3.out⟩
end
section
open Go.RowKit
set_option maxHeartbeats 4000000 in
set_option maxRecDepth 100000 in
theorem mrising12_any (B:Nat) (pa pb:Option Addr) (ca cb:Nat) (a b:List Ky) (w:World) (hB:w.heap[B]? = some (.cells #[.slice pa a.length ca,.slice pb b.length cb] 50 (0,0)))
  (ha:KK.Is w (.slice pa a.length ca) a) (hb:KK.Is w (.slice pb b.length cb) b) (hl:a.length+b.length≤4398046511104) :
  Calls Tryz.prog 141 #[.slice (some ⟨B,0,none⟩) 2 2] w fun e w'=>KeyRPost w (sortK (a++b)) e w':=by
 have HC:=hid (concatKy_any B pa pb ca cb a b w hB ha hb (by omega))
 have HN:Hid (∀(u:Value) (w1:World),KK.Own w.heap.size w1 u (a++b)→Calls Tryz.prog 218 #[u] w1 fun e w'=>∃u',e=.returned u'∧KK.Own w1.heap.size w' u' (sortK (a++b))∧Below w1.heap.size w1 w'):=fun u w1 h=>nsort_own _ u _ w1 h (by rw [List.length_append];omega)
 generalize sortK (a++b)=R at *
 generalize a++b=L at *
 clear hB ha hb
 go_enter Tryz.func141,Tryz.ntmps141
 go_wp2_with fail
 refine HC.out.mono ?_
 rintro e w1 ⟨⟨u1,rfl,ho1⟩,hb1⟩
 have HN1:=hid (HN.out u1 w1 ho1)
 have HB1:=hid hb1
 have hs1:=hb1.size
 clear ho1 hb1 HC
 go_wp2_with fail
 refine HN1.out.mono ?_
 rintro e w2 ⟨u2,rfl,ho2,hb2⟩
 have HO2:=hid (Kind.own_weak ho2 hs1)
 have HB2:=hid (bel_then HB1.out HB1.out.size hb2)
 clear ho2 hb2
 go_wp2_with fail
 go_ret
 exact ⟨_,rfl,HO2.out,HB2.out⟩
theorem putR_in {l:List Rg} {r:Rg} (h:(l.any fun x=>decide (x=r))=true):putR l r=l:=if_pos h
theorem putR_out {l:List Rg} {r:Rg} (h:(l.any fun x=>decide (x=r))=false):putR l r=l++[r]:=if_neg (by rw [h];simp)
end
section
open Go.RowKit
theorem kk_one {w:World} {B:Nat} {a b:ByteArray} {t:TypeId} (h:w.heap[B]? = some (.cells #[.string a,.string b] t (0,0))):KK.Is w (.slice (some ⟨B,0,none⟩) 1 1) [(a,b)]:=by
 refine ⟨_,_,rfl,Or.inr ⟨_,_,rfl,fun i hi j u hu=>?_⟩⟩
 have hi':i=0:=by simpa using hi
 subst hi'
 have hj:j<2:=(List.getElem?_eq_some_iff.1 hu).1
 rw [Lib.cell_of_heap h]
 rcases j with _|_|j
 all_goals first|exact hu|omega
set_option maxHeartbeats 8000000 in
set_option maxRecDepth 100000 in
theorem mkey12_any (m:Mx) (k:Ky) (w:World) (hm:MIn w m) (hw:LotM m) :
  Calls Tryz.prog 157 #[.agg (encMx m).toArray,.agg #[.string k.1,.string k.2]] w fun e w'=>MOwnPost w (keyM m.mk' k) e w':=by
 obtain ⟨V,hV⟩:∃V,((w.alloc (.cells (encMx m).toArray 53)).alloc (.cells #[.string k.1,.string k.2] 39)).alloc (.cells #[.slice none 0 0,.slice none 0 0] 53)=V:=⟨_,rfl⟩
 obtain ⟨M,hM⟩:∃M,w.heap.size=M:=⟨_,rfl⟩
 obtain ⟨hbV,h1,h2,h3,hs⟩:=three_boxes w _ _ _ _ _ _ V hV
 rw [hM] at h1 h2 h3 hs
 have HBX:Hid (∀W':World,(∀b,b<M+2→W'.heap[b]? = V.heap[b]?)→(W'.cell? ⟨M,0,none⟩=some m.ksl∧W'.cell? ⟨M,1,none⟩=some m.rsl)∧W'.cell? ⟨M+1,0,none⟩=some (.string k.1)∧W'.cell? ⟨M+1,1,none⟩=some (.string k.2)):=fun W' hW=>by
  have e1:=(hW M (by omega)).trans h1
  have e2:=(hW (M+1) (by omega)).trans h2
  exact ⟨⟨by rw [Lib.cell_of_heap e1];rfl,by rw [Lib.cell_of_heap e1];rfl⟩,by rw [Lib.cell_of_heap e2];rfl,by rw [Lib.cell_of_heap e2];rfl⟩
 have HRS:Hid (∀W':World,Below V.heap.size V W'→(W'.cell? ⟨M+2,0,none⟩=some (.slice none 0 0)∧W'.cell? ⟨M+2,1,none⟩=some (.slice none 0 0))∧W'.frozen? ⟨M+2,0,none⟩=false∧W'.frozen? ⟨M+2,1,none⟩=false):=fun W' hW=>by
  have e3:=(hW.block (M+2) (by omega)).trans h3
  exact ⟨⟨by rw [Lib.cell_of_heap e3];rfl,by rw [Lib.cell_of_heap e3];rfl⟩,Lib.frozen_of_heap e3 0,Lib.frozen_of_heap e3 1⟩
 have HIN:Hid (∀W',Below V.heap.size V W'→MIn W' m):=fun W' hW=>hm.on (bel_then hbV hbV.size hW)
 have HB0:Hid (∀W',Below V.heap.size V W'→Below w.heap.size w W'):=fun W' hW=>bel_then hbV hbV.size hW
 have hw1:=hw.1
 have hw2:=hw.2
 have HKM:Hid (keyM m.mk' k=(sortK (m.ks++[k]),m.rs.map Rx.rg)):=by show _=_;rw [sortK_snoc];rfl
 obtain ⟨W1,hW1⟩:∃W1,V.drew.alloc (.cells #[.string k.1,.string k.2] 39)=W1:=⟨_,rfl⟩
 have hbW1:Below V.drew.heap.size V.drew W1:=by rw [←hW1];exact (Below.refl _ _).alloc (Nat.le_refl _) _
 have hn1:W1.heap[M+3]? = some (.cells #[.string k.1,.string k.2] 39 (0,0)):=by rw [←hW1,←hs];exact heap_alloc_new V.drew _
 have hs1:W1.heap.size=M+4:=by rw [←hW1];simp;omega
 obtain ⟨W2,hW2⟩:∃W2,W1.alloc (.cells #[m.ksl,.slice (some ⟨M+3,0,none⟩) 1 1] 50)=W2:=⟨_,rfl⟩
 have hbW2:Below W1.heap.size W1 W2:=by rw [←hW2];exact (Below.refl _ _).alloc (Nat.le_refl _) _
 have hn2:W2.heap[M+4]? = some (.cells #[m.ksl,.slice (some ⟨M+3,0,none⟩) 1 1] 50 (0,0)):=by rw [←hW2,←hs1];exact heap_alloc_new W1 _
 have hb1V:Below V.heap.size V W1:=(bel_drewN (Below.refl _ _) 1).trans hbW1
 have hb2V:Below V.heap.size V W2:=bel_then hb1V hb1V.size hbW2
 have HRI:=hid (mrising12_any (M+4) m.kp (some ⟨M+3,0,none⟩) m.kc 1 m.ks [k] W2 hn2 (HIN.out W2 hb2V).keys (kk_one ((hbW2.block (M+3) (by omega)).trans hn1)) (by simp;omega))
 have HW2:Hid (Below V.heap.size V W2):=hb2V
 obtain ⟨⟨a0,a1⟩,b0,b1⟩:=HBX.out V (fun _ _=>rfl)
 obtain ⟨⟨a01,a11⟩,b01,b11⟩:=HBX.out W1 (fun b hb=>hb1V.block b (by omega))
 obtain ⟨⟨a02,a12⟩,b02,b12⟩:=HBX.out W2 (fun b hb=>hb2V.block b (by omega))
 have hVs:V.drew.heap.size=M+3:=hs
 clear hm hw hbV h1 h2 h3 hbW1 hbW2 hn1 hn2 hb1V hb2V
 obtain ⟨kp,kc,ks,rp,rc,rs⟩:=m
 obtain ⟨ka,kb⟩:=k
 simp only [encMx,Mx.ksl,Mx.rsl] at *
 generalize keyM _ _=KM' at *
 obtain ⟨L1,hL1⟩:∃L1,sortK (ks++[(ka,kb)])=L1:=⟨_,rfl⟩
 rw [hL1] at HKM HRI
 clear hL1
 go_enter Tryz.func157,Tryz.ntmps157
 go_wp2_with fail
 try rw [hV]
 try rw [hM]
 clear hV
 refine wp_region_held_drew (S:=fun w'=>w'.cell? ⟨M,0,none⟩=some (.slice kp ks.length kc)∧w'.cell? ⟨M,1,none⟩=some (.slice rp rs.length rc)∧w'.cell? ⟨M+1,0,none⟩=some (.string ka)∧w'.cell? ⟨M+1,1,none⟩=some (.string kb)) (by kernel_rfl) ⟨a0,a1,b0,b1⟩ (fun hHeld=>?_)
 refine tkv 0 (.pointer (some ⟨M,0,none⟩)) hHeld ?_
 simp only [Act.put,sz]
 refine tkv 1 (.slice kp ks.length kc) hHeld ?_
 simp only [Act.put,sz]
 refine tkv 2 (.agg #[.string ka,.string kb]) hHeld ?_
 simp only [Act.put,sz]
 refine tkv 6 (.pointer (some ⟨M,1,none⟩)) hHeld ?_
 simp only [Act.put,sz]
 refine tkv 7 (.slice rp rs.length rc) hHeld ?_
 simp only [Act.put,sz]
 clear hHeld a0 a1 b0 b1
 refine wpAnyH_ready (rs:=[3]) (by kernel_rfl) (by simp) ?_
 refine AllReadyH.cons (at_drop0 rfl) (fun K hK=>?_) AllReadyH.nil
 rw [if_pos (by rfl)]
 go_simp
 go_wp2_with fail
 try rw [hVs]
 try rw [hs]
 try rw [hW1]
 refine hK.out _ _ (⟨a01,a11,b01,b11⟩) (fun hHeld=>?_)
 clear hK K
 try simp only [Act.put,sz]
 clear hHeld a01 a11 b01 b11
 refine wpAnyH_ready (rs:=[4]) (by kernel_rfl) (by simp) ?_
 refine AllReadyH.cons (at_drop0 rfl) (fun K hK=>?_) AllReadyH.nil
 rw [if_pos (by rfl)]
 go_simp
 go_wp2_with fail
 try rw [hs1]
 try rw [hW2]
 refine hK.out _ _ (⟨a02,a12,b02,b12⟩) (fun hHeld=>?_)
 clear hK K
 try simp only [Act.put,sz]
 clear hHeld a02 a12 b02 b12 hW1 hW2
 refine wpAnyH_ready (rs:=[5]) (by kernel_rfl) (by simp) ?_
 refine AllReadyH.cons (at_drop0 rfl) (fun K hK=>?_) AllReadyH.nil
 rw [if_pos (by rfl)]
 go_simp
 refine HRI.out.mono ?_
 rintro e w2 ⟨u2,rfl,ho2,hb2⟩
 obtain ⟨p2,c2,rfl⟩:=Kind.own_shape ho2
 have hb2':Below V.heap.size V w2:=bel_then HW2.out HW2.out.size hb2
 obtain ⟨⟨a0,a1⟩,b0,b1⟩:=HBX.out w2 (fun b hb=>hb2'.block b (by omega))
 have HR:=hid (mcopied12_any (.slice rp rs.length rc) rs w2 (HIN.out w2 hb2').rows (HIN.out w2 hb2').each (by omega))
 have HO2:=hid (Kind.own_weak ho2 HW2.out.size)
 have HB2:=hid hb2'
 clear ho2 hb2 hb2' HRI
 go_wp2_with fail
 refine hK.out _ _ (⟨a0,a1,b0,b1⟩) (fun hHeld=>?_)
 clear hK K
 try simp only [Act.put,sz]
 clear hHeld a0 a1 b0 b1
 refine wpAnyH_ready (rs:=[8]) (by kernel_rfl) (by simp) ?_
 refine AllReadyH.cons (at_drop0 rfl) (fun K hK=>?_) AllReadyH.nil
 rw [if_pos (by rfl)]
 go_simp
 refine HR.out.mono ?_
 rintro e w3 ⟨p3,c3,L3,rfl,hst3,hm3⟩
 have hb3':Below V.heap.size V w3:=bel_then HB2.out HB2.out.size hst3.row.bel
 obtain ⟨⟨a0,a1⟩,b0,b1⟩:=HBX.out w3 (fun b hb=>hb3'.block b (by omega))
 obtain ⟨⟨q0,q1⟩,r0,r1⟩:=HRS.out w3 hb3'
 have HO3:=hid (Kind.own_on HO2.out hst3.row.bel)
 have HS3:Hid (KRx.Own V.heap.size w3 (.slice p3 L3.length c3) L3∧(∀r∈L3,KM.Own V.heap.size w3 r.sl r.tm∧FitP r.tm)∧ApartR L3):=⟨Kind.own_weak hst3.row.own HB2.out.size,fun r hr=>⟨Kind.own_weak (hst3.each r hr).1 HB2.out.size,(hst3.each r hr).2⟩,hst3.apart⟩
 have HM3:=hid hm3
 have HB3:=hid hb3'
 obtain ⟨W4,hW4⟩:∃W4,(w3.setCell ⟨M+2,0,none⟩ (.slice p2 L1.length c2)).setCell ⟨M+2,1,none⟩ (.slice p3 L3.length c3)=W4:=⟨_,rfl⟩
 obtain ⟨⟨e0,e1⟩,e2,e3⟩:=HBX.out W4 (fun b hb=>by
  rw [←hW4,heap_setCell_other _ _ b _ (by show b≠M+2;omega),heap_setCell_other _ _ b _ (by show b≠M+2;omega)]
  exact hb3'.block b (by omega))
 have g0:W4.cell? ⟨M+2,0,none⟩=some (.slice p2 L1.length c2):=by rw [←hW4];simp [go_sem,q0]
 have g1:W4.cell? ⟨M+2,1,none⟩=some (.slice p3 L3.length c3):=by rw [←hW4];simp [go_sem,q1]
 have HG:=hid (And.intro g0 g1)
 have HB4:Hid (Below w.heap.size w W4):=by
  rw [←hW4]
  have h3:=HB0.out w3 hb3'
  rw [hM] at h3 ⊢
  exact (h3.setCell (show M≤M+2 by omega) _).setCell (show M≤M+2 by omega) _
 have HK4:Hid (KK.Own V.heap.size W4 (.slice p2 L1.length c2) L1∧KRx.Own V.heap.size W4 (.slice p3 L3.length c3) L3∧∀r∈L3,KM.Own V.heap.size W4 r.sl r.tm∧FitP r.tm):=by
  rw [←hW4]
  exact ⟨own_cell (own_cell HO3.out (by omega) _ _) (by omega) _ _,own_cell (own_cell HS3.out.1 (by omega) _ _) (by omega) _ _,fun r hr=>⟨own_cell (own_cell (HS3.out.2.1 r hr).1 (by omega) _ _) (by omega) _ _,(HS3.out.2.1 r hr).2⟩⟩
 clear hst3 hb3' HR HO2 g0 g1 hm3
 go_wp2_with fail
 refine hK.out _ _ (⟨a0,a1,b0,b1⟩) (fun hHeld=>?_)
 clear hK K
 try simp only [Act.put,sz]
 refine tkv 9 (.agg #[.slice p2 L1.length c2,.slice p3 L3.length c3]) hHeld ?_
 simp only [Act.put,sz]
 clear hHeld a0 a1 b0 b1
 refine wpAnyH_ready (rs:=[10]) (by kernel_rfl) (by simp) ?_
 refine AllReadyH.cons (at_drop0 rfl) (fun K hK=>?_) AllReadyH.nil
 rw [if_pos (by rfl)]
 go_simp
 go_wp2_with fail
 try rw [hW4]
 refine hK.out _ _ (⟨e0,e1,e2,e3⟩) (fun hHeld=>?_)
 clear hK K
 try simp only [Act.put,sz]
 refine wpAnyH_done (by kernel_rfl) ?_ _
 clear hHeld e0 e1 e2 e3 q0 q1 r0 r1
 obtain ⟨g0,g1⟩:=HG.out
 have hwV:w.heap.size≤V.heap.size:=by omega
 go_wp2_with fail
 refine bodyPost_ret (v:=.agg #[.slice p2 L1.length c2,.slice p3 L3.length c3]) (by simp [results,Tryz.results157,go_sem,g0,g1]) rfl ⟨⟨p2,c2,L1,p3,c3,L3⟩,rfl,⟨Kind.own_weak HK4.out.1 hwV,Kind.own_weak HK4.out.2.1 hwV,fun r hr=>⟨Kind.own_weak (HK4.out.2.2 r hr).1 hwV,(HK4.out.2.2 r hr).2⟩,HS3.out.2.2⟩,?_,HB4.out⟩
 rw [HKM.out]
 show (L1,L3.map Rx.rg)=_
 rw [HM3.out]
end
section
open Go.RowKit
def RgOwn (N:Nat) (w:World) (v:Value) (rg:List Rg):Prop :=
 ∃p c L,v=.slice p L.length c∧KRx.Own N w (.slice p L.length c) L∧(∀r∈L,KM.Own N w r.sl r.tm∧FitP r.tm)∧ApartR L∧L.map Rx.rg=rg
def KyOwn (N:Nat) (w:World) (v:Value) (ks:List Ky):Prop:=∃p c,v=.slice p ks.length c∧KK.Own N w (.slice p ks.length c) ks
section
variable {N:Nat} {w w':World} {v:Value} {rg:List Rg} {ks:List Ky}
theorem RgOwn.on (h:RgOwn N w v rg) (hb:Below w.heap.size w w'):RgOwn N w' v rg:=by
 obtain ⟨p,c,L,h1,h2,h3,h4,h5⟩:=h
 exact ⟨p,c,L,h1,Kind.own_on h2 hb,fun r hr=>⟨Kind.own_on (h3 r hr).1 hb,(h3 r hr).2⟩,h4,h5⟩
theorem RgOwn.weak {M:Nat} (h:RgOwn N w v rg) (hM:M≤N):RgOwn M w v rg:=by
 obtain ⟨p,c,L,h1,h2,h3,h4,h5⟩:=h
 exact ⟨p,c,L,h1,Kind.own_weak h2 hM,fun r hr=>⟨Kind.own_weak (h3 r hr).1 hM,(h3 r hr).2⟩,h4,h5⟩
theorem KyOwn.on (h:KyOwn N w v ks) (hb:Below w.heap.size w w'):KyOwn N w' v ks:=by
 obtain ⟨p,c,h1,h2⟩:=h
 exact ⟨p,c,h1,Kind.own_on h2 hb⟩
theorem KyOwn.weak {M:Nat} (h:KyOwn N w v ks) (hM:M≤N):KyOwn M w v ks:=by
 obtain ⟨p,c,h1,h2⟩:=h
 exact ⟨p,c,h1,Kind.own_weak h2 hM⟩
theorem KyOwn.cell (h:KyOwn N w v ks) {b:Nat} (hb:b<N) (j:Nat) (x:Value):KyOwn N (w.setCell ⟨b,j,none⟩ x) v ks:=by
 obtain ⟨p,c,h1,h2⟩:=h
 exact ⟨p,c,h1,own_cell h2 hb _ _⟩
theorem rgown_post {W:World} {e:Ending} (h:RgPost W rg e w'):∃u,e=.returned u∧RgOwn W.heap.size w' u rg∧Below W.heap.size W w':=by
 obtain ⟨p,c,L,rfl,h1,h2⟩:=h
 exact ⟨_,rfl,⟨p,c,L,rfl,h1.row.own,h1.each,h1.apart,h2⟩,h1.row.bel⟩
theorem kyown_post {W:World} {e:Ending} (h:KeyRPost W ks e w'):∃u,e=.returned u∧KyOwn W.heap.size w' u ks∧Below W.heap.size W w':=by
 obtain ⟨u,rfl,h1,h2⟩:=h
 obtain ⟨p,c,rfl⟩:=Kind.own_shape h1
 exact ⟨_,rfl,⟨p,c,rfl,h1⟩,h2⟩
end
section
variable {V:World} {M2:Nat} {c9 c15:Array Value} {ks:List Ky} {rg:List Rg} {k:Nat} {f:Bool} {t9 t10 t15 t16 t17:Value} {w w':World}
theorem blk_on {b:Nat} {o:Obj} (h:w.heap[b]? = some o) (hb:Below w.heap.size w w'):w'.heap[b]? = some o:=(hb.block b (Array.getElem?_eq_some_iff.1 h).1).trans h
theorem alloc_on (w:World) (o:Obj):Below w.heap.size w (w.alloc o):=(Below.refl _ _).alloc (Nat.le_refl _) _
end
end
section
open Go.RowKit
theorem infoRk12:(Tryz.prog.info? 39).map (fun i=>(i.zero,i.size,i.bytes))=some (some (.agg #[.string ⟨#[]⟩,.string ⟨#[]⟩]),2,32):=by kernel_rfl
theorem kcells12 {w:World} {b off:Nat} {p:List Ky} (h:KK.At w b off p) (j:Nat) (u:Value) (hu:(KK.cells p)[j]? = some u):w.cell? ⟨b,off+j,none⟩=some u:=by
 rcases Kind.src (K:=KK) (w:=w) (p:=some ⟨b,off,none⟩) (d:=p) (Or.inr ⟨b,off,rfl,h⟩) with h0|⟨ad,e,hc⟩
 ·obtain rfl:=List.length_eq_zero_iff.1 h0
  simp [Kind.cells] at hu
 ·cases e
  have:=hc j u hu
  rwa [addr_add] at this
set_option maxHeartbeats 2000000 in
set_option maxRecDepth 100000 in
theorem cloneKy_any (v:Value) (p:List Ky) (w:World) (hv:KK.Is w v p) (hs:p.length * 32≤140737488355328) :
  Calls Tryz.prog 248 #[v] w fun e w'=>∃u,e=.returned u∧KK.Own w.heap.size w' u p∧Below w.heap.size w w':=by
 obtain ⟨i0,hi,hz0,hz1,hz2⟩:=info_parts infoRk12
 obtain ⟨q,cap,rfl,hd⟩:=hv
 have q22:∀(w:World) (a:Option Addr) (n c n' c':Nat),(binOp .eql 50 (.slice a n c) (.slice none n' c')).run Tryz.prog w=.ok (.bool a.isNone) w:=fun w a n c n' c'=>Lib.run_eql_slice_nil w _ _ a n c n' c' Tryz.underlying50
 have HD:=hid hd
 clear hd
 cases q with
 | none =>
  have h0:p=[]:=by
   rcases HD.out with h|⟨b,off,h,_⟩
   ·exact h
   ·cases h
  subst h0
  go_enter Tryz.func248,Tryz.ntmps248
  go_wp2_with fail
  go_ret
  exact ⟨_,rfl,KK.own_nil _ _,Below.refl _ _⟩
 | some a =>
  have hcells:∀j u,(KK.cells p)[j]? = some u→(w.alloc (.cells #[] 39)).cell? (a.add j)=some u:=by
   rcases HD.out with h|⟨b,off,h,hx⟩
   ·subst h;intro j u hj;simp [Kind.cells] at hj
   ·intro j u hj
    obtain rfl:a=⟨b,off,none⟩:=by simpa using h
    rw [addr_add]
    have:=kcells12 hx j u hj
    rw [World.cell?_alloc_lt _ _ ⟨b,off+j,none⟩ (cell_block this)];exact this
  have HC:=hid hcells
  clear hcells
  go_enter Tryz.func248,Tryz.ntmps248
  go_wp2_with (at_builtin;refine wpList_append_own _ rfl _ _ 50 rfl w.heap.size 39 i0 (.agg #[.string ⟨#[]⟩,.string ⟨#[]⟩]) 2 32 Tryz.underlying50 hi hz0 hz1 hz2 rfl (by decide) _ _ _ rfl (World.ownsRow_made w #[] 0 (Nat.le_refl _) (Nat.zero_le _) (by simp)) a p.length cap (KK.cells p) rfl ?c0 ?c1 ?c2 ?c3 ?c4 ?c5 ?_)
  case c0=>exact KK.cells_len p
  case c1=>exact HC.out
  case c2=>exact KK.cells_ones p
  case c3=>unfold maxLen;omega
  case c4=>omega
  case c5=>simp
  intro v' w1 hown hgrow hnil
  have hb1:Below w.heap.size w w1:=((Below.refl _ w).alloc (Nat.le_refl _) _).grown hgrow (by simp) (by intro k hk;simp [Value.ownBlock] at hk;omega)
  have HO:Hid (KK.Own w.heap.size w1 v' p):=hid (by show w1.ownsRow w.heap.size 39 2 v' p.length (KK.cells p);simpa using hown)
  clear hown hgrow hnil
  go_wp2_with fail
  go_ret
  exact ⟨_,rfl,HO.out,hb1⟩
theorem own_mset {α:Type} {K:Kind α} {N O:Nat} {w:World} {v:Value} {l:List α} {c:Array Value} {T:TypeId} (h:K.Own N w v l) (hO:w.heap[O]? = some (.cells c T (0,0))) (ht:K.T≠T) (j:Nat) (x:Value):K.Own N (w.setCell ⟨O,j,none⟩ x) v l :=
 Fr.row (P:=fun k=>k=O) (Fr.of_grown (grown_set w O j x) fun k hk=>by simpa using hk.symm) (show w.ownsRow N K.T K.k v l.length (K.cells l) from h) fun k hk e=>by
  obtain ⟨c1,e1⟩:=own_type (show w.ownsRow N K.T K.k v l.length (K.cells l) from h) hk
  rw [e,hO] at e1
  injection e1 with e1
  injection e1 with _ e3
  exact ht e3.symm
theorem KyOwn.mset {N O:Nat} {w:World} {v:Value} {ks:List Ky} {c:Array Value} (h:KyOwn N w v ks) (hO:w.heap[O]? = some (.cells c 53 (0,0))) (j:Nat) (x:Value):KyOwn N (w.setCell ⟨O,j,none⟩ x) v ks:=by
 obtain ⟨p,c,h1,h2⟩:=h
 exact ⟨p,c,h1,own_mset h2 hO (by decide) j x⟩
theorem RgOwn.mset {N O:Nat} {w:World} {v:Value} {rg:List Rg} {c:Array Value} (h:RgOwn N w v rg) (hO:w.heap[O]? = some (.cells c 53 (0,0))) (j:Nat) (x:Value):RgOwn N (w.setCell ⟨O,j,none⟩ x) v rg:=by
 obtain ⟨p,c,L,h1,h2,h3,h4,h5⟩:=h
 exact ⟨p,c,L,h1,own_mset h2 hO (by decide) j x,fun r hr=>⟨own_mset (h3 r hr).1 hO (by decide) j x,(h3 r hr).2⟩,h4,h5⟩
structure RnSt (V:World) (ks:List Ky) (rg:List Rg) (k:Nat) (f:Bool) (t7 t11 t14 t15:Value) (w:World):Prop where
 bel:Below V.heap.size V w
 k11:1≤k→KyOwn V.heap.size w t11 ks
 r14:2≤k→RgOwn V.heap.size w t14 rg
 b15:3≤k→t15=.agg #[t11,t14]
 box0:f=true→k≤3→∃b,t7=.pointer (some ⟨b,0,none⟩)∧V.heap.size≤b∧w.heap[b]? = some (.cells #[.slice none 0 0,.slice none 0 0] 53 (0,0))
 box4:4≤k→∃b,t7=.pointer (some ⟨b,0,none⟩)∧V.heap.size≤b∧w.heap[b]? = some (.cells #[t11,t14] 53 (0,0))
 d7:4≤k→f=true
section
variable {V:World} {ks:List Ky} {rg:List Rg} {k:Nat} {f:Bool} {t7 t11 t14 t15:Value} {w w':World}
theorem RnSt.on (h:RnSt V ks rg k f t7 t11 t14 t15 w) (hb:Below w.heap.size w w'):RnSt V ks rg k f t7 t11 t14 t15 w' :=
 ⟨bel_then h.bel h.bel.size hb,fun hk=>(h.k11 hk).on hb,fun hk=>(h.r14 hk).on hb,h.b15,fun hf hk=>by obtain ⟨b,h1,h2,h3⟩:=h.box0 hf hk;exact ⟨b,h1,h2,blk_on h3 hb⟩,fun hk=>by obtain ⟨b,h1,h2,h3⟩:=h.box4 hk;exact ⟨b,h1,h2,blk_on h3 hb⟩,h.d7⟩
theorem rn_start (V:World) (ks:List Ky) (rg:List Rg) (t7 t11 t14 t15:Value):RnSt V ks rg 0 false t7 t11 t14 t15 V :=
 ⟨Below.refl _ _,(fun h=>by omega),(fun h=>by omega),(fun h=>by omega),(fun h=>by cases h),(fun h=>by omega),(fun h=>by omega)⟩
theorem rn_c2 {u:Value} (h:RnSt V ks rg 0 f t7 t11 t14 t15 w) (hb:Below w.heap.size w w') (hu:KyOwn w.heap.size w' u ks):RnSt V ks rg 1 f t7 u t14 t15 w':=by
 have g:=h.on hb
 exact ⟨g.bel,fun _=>hu.weak h.bel.size,(fun h=>by omega),(fun h=>by omega),fun hf _=>g.box0 hf (by omega),(fun h=>by omega),(fun h=>by omega)⟩
theorem rn_c5 {u:Value} (h:RnSt V ks rg 1 f t7 t11 t14 t15 w) (hb:Below w.heap.size w w') (hu:RgOwn w.heap.size w' u rg):RnSt V ks rg 2 f t7 t11 u t15 w':=by
 have g:=h.on hb
 exact ⟨g.bel,fun _=>g.k11 (by omega),fun _=>hu.weak h.bel.size,(fun h=>by omega),fun hf _=>g.box0 hf (by omega),(fun h=>by omega),(fun h=>by omega)⟩
theorem rn_b6 (h:RnSt V ks rg 2 f t7 t11 t14 t15 w):RnSt V ks rg 3 f t7 t11 t14 (.agg #[t11,t14]) w :=
 ⟨h.bel,fun _=>h.k11 (by omega),fun _=>h.r14 (by omega),fun _=>rfl,fun hf _=>h.box0 hf (by omega),(fun h=>by omega),(fun h=>by omega)⟩
theorem rn_s8 {b:Nat} (h:RnSt V ks rg 3 true (.pointer (some ⟨b,0,none⟩)) t11 t14 t15 w):RnSt V ks rg 4 true (.pointer (some ⟨b,0,none⟩)) t11 t14 t15 ((w.setCell ⟨b,0,none⟩ t11).setCell ⟨b,1,none⟩ t14):=by
 obtain ⟨b',e,hb,hx⟩:=h.box0 rfl (by omega)
 injection e with e
 injection e with e
 injection e with e _ _
 subst e
 have h1:(w.setCell ⟨b,0,none⟩ t11).heap[b]? = some (.cells #[t11,.slice none 0 0] 53 (0,0)):=heap_setCell_same _ b 0 _ _ _ hx
 have h2:((w.setCell ⟨b,0,none⟩ t11).setCell ⟨b,1,none⟩ t14).heap[b]? = some (.cells #[t11,t14] 53 (0,0)):=heap_setCell_same _ b 1 _ _ _ h1
 exact ⟨(h.bel.setCell (p:=⟨b,0,none⟩) hb _).setCell (p:=⟨b,1,none⟩) hb _,fun _=>((h.k11 (by omega)).mset hx _ _).mset h1 _ _,fun _=>((h.r14 (by omega)).mset hx _ _).mset h1 _ _,fun _=>h.b15 (by omega),(fun _ h=>by omega),fun _=>⟨b,rfl,hb,h2⟩,fun _=>rfl⟩
theorem rn_a7 (h:RnSt V ks rg k false t7 t11 t14 t15 w):RnSt V ks rg k true (.pointer (some ⟨w.heap.size,0,none⟩)) t11 t14 t15 (w.alloc (.cells #[.slice none 0 0,.slice none 0 0] 53)):=by
 have hk:¬ 4≤k:=fun h3=>by have:=h.d7 h3;cases this
 have g:=h.on (alloc_on w (.cells #[.slice none 0 0,.slice none 0 0] 53))
 exact ⟨g.bel,g.k11,g.r14,g.b15,fun _ _=>⟨_,rfl,h.bel.size,heap_alloc_new w _⟩,(fun h=>by omega),(fun h=>by omega)⟩
end
structure RmSt (V:World) (b:Nat) (kv:Value) (p:Option Addr) (c:Nat) (L:List Rx) (ks:List Ky) (w:World):Prop where
 ge:V.heap.size≤b
 box:w.heap[b]? = some (.cells #[kv,.slice p L.length c] 53 (0,0))
 key:KyOwn V.heap.size w kv ks
 rng:RgSt V.heap.size V (.slice p L.length c) L w
section
variable {V:World} {b:Nat} {kv:Value} {p:Option Addr} {c:Nat} {L:List Rx} {ks:List Ky} {w w':World}
theorem RmSt.bel (h:RmSt V b kv p c L ks w):Below V.heap.size V w:=h.rng.row.bel
theorem RmSt.on (h:RmSt V b kv p c L ks w) (hb:Below w.heap.size w w'):RmSt V b kv p c L ks w':=⟨h.ge,blk_on h.box hb,h.key.on hb,h.rng.on hb⟩
theorem RmSt.more {g c':Nat} {x:Rx} (h:RmSt V b kv p c L ks w) (hg:w.grownBy w' (Value.slice p L.length c).ownBlock) (hst:RgSt V.heap.size V (.slice (some ⟨g,0,none⟩) (L++[x]).length c') (L++[x]) w') :
  w'.heap[b]? = some (.cells #[kv,.slice p L.length c] 53 (0,0))∧RmSt V b kv (some ⟨g,0,none⟩) c' (L++[x]) ks (w'.setCell ⟨b,1,none⟩ (.slice (some ⟨g,0,none⟩) (L++[x]).length c')):=by
 have ho:=h.rng.row.own
 have hlt:b<w.heap.size:=(Array.getElem?_eq_some_iff.1 h.box).1
 have hbx:w'.heap[b]? = some (.cells #[kv,.slice p L.length c] 53 (0,0)):=by
  refine (hg.block b hlt fun e=>?_).trans h.box
  obtain ⟨c1,e1⟩:=own_type (show w.ownsRow V.heap.size KRx.T KRx.k (.slice p L.length c) L.length (KRx.cells L) from ho) e.symm
  rw [h.box] at e1
  injection e1 with e1
  injection e1 with _ e3
  exact absurd e3 (by decide)
 refine ⟨hbx,⟨h.ge,heap_setCell_same _ b 1 _ _ _ hbx,?_,?_⟩⟩
 ·obtain ⟨p1,c1,e,h1⟩:=h.key
  refine KyOwn.mset ⟨p1,c1,e,?_⟩ hbx _ _
  exact own_else (show w.ownsRow V.heap.size KK.T KK.k (.slice p1 ks.length c1) ks.length (KK.cells ks) from h1) (show w.ownsRow V.heap.size KRx.T KRx.k (.slice p L.length c) L.length (KRx.cells L) from ho) (by decide) hg
 ·exact ⟨⟨own_mset hst.row.own hbx (by decide) _ _,hst.row.bel.setCell (p:=⟨b,1,none⟩) h.ge _,by rw [World.size_setCell];exact hst.row.base⟩,fun r hr=>⟨own_mset (hst.each r hr).1 hbx (by decide) _ _,(hst.each r hr).2⟩,hst.apart⟩
theorem RmSt.post {w0:World} {M1:Nat} {mk:Mk} {p2:Option Addr} {c2:Nat} (h:RmSt V b (.slice p2 ks.length c2) p c L ks w) (hb0:Below w0.heap.size w0 V) (h0:w0.heap.size≤M1) (hM1:M1<V.heap.size) (hmk:mk=(ks,L.map Rx.rg)) :
  MOwnPost w0 mk (.returned (.agg #[.slice p2 ks.length c2,.slice p L.length c])) ((w.setCell ⟨M1,0,none⟩ (.slice p2 ks.length c2)).setCell ⟨M1,1,none⟩ (.slice p L.length c)):=by
 have hwV:w0.heap.size≤V.heap.size:=hb0.size
 obtain ⟨p4,c4,e4,hk⟩:=(h.key.cell hM1 0 (.slice p2 ks.length c2)).cell hM1 1 (.slice p L.length c)
 rw [←e4] at hk
 refine ⟨⟨p2,c2,ks,p,c,L⟩,rfl,⟨Kind.own_weak hk hwV,Kind.own_weak (own_cell (own_cell h.rng.row.own hM1 _ _) hM1 _ _) hwV,fun r hr=>⟨Kind.own_weak (own_cell (own_cell (h.rng.each r hr).1 hM1 _ _) hM1 _ _) hwV,(h.rng.each r hr).2⟩,h.rng.apart⟩,?_,?_⟩
 ·rw [hmk]
  rfl
 ·have hB:=bel_then hb0 hb0.size h.bel
  exact (hB.setCell (p:=⟨M1,0,none⟩) h0 _).setCell (p:=⟨M1,1,none⟩) h0 _
end
structure RqSt (V:World) (b:Nat) (kv:Value) (p:Option Addr) (c:Nat) (L:List Rx) (ks:List Ky) (rt:ByteArray) (rv:Value) (tm:List Tm) (Q:Nat) (k:Nat) (f:Bool) (t25 t27 t28 t29 t30:Value) (w:World):Prop where
 rm:k≤2→RmSt V b kv p c L ks w
 qb:w.heap[Q]? = some (.cells #[.string rt,rv] 125 (0,0))
 f25:f=true→t25=.slice p L.length c
 o27:1≤k→k≤2→∃p1 c1,t27=.agg #[.string rt,.slice p1 tm.length c1]∧KM.Own V.heap.size w (.slice p1 tm.length c1) tm∧(∀r∈L,∀j,r.sl.ownBlock=some j→¬ (Value.slice p1 tm.length c1).ownBlock=some j)∧(k=2→∃B,t28=.slice (some ⟨B,0,none⟩) 1 1∧w.heap[B]? = some (.cells #[.string rt,.slice p1 tm.length c1] 125 (0,0)))
 m29:3≤k→∃g c' x,x.rg=(rt,tm)∧t29=.slice (some ⟨g,0,none⟩) (L++[x]).length c'∧(k≤4→w.heap[b]? = some (.cells #[kv,.slice p L.length c] 53 (0,0))∧RmSt V b kv (some ⟨g,0,none⟩) c' (L++[x]) ks (w.setCell ⟨b,1,none⟩ (.slice (some ⟨g,0,none⟩) (L++[x]).length c')))∧(5≤k→RmSt V b kv (some ⟨g,0,none⟩) c' (L++[x]) ks w)
 p30:4≤k→t30=.pointer (some ⟨b,1,none⟩)
 d25:3≤k→f=true
section
variable {V:World} {b:Nat} {kv:Value} {p:Option Addr} {c:Nat} {L:List Rx} {ks:List Ky} {rt:ByteArray} {rv:Value} {tm:List Tm} {Q k:Nat} {f:Bool} {t25 t27 t28 t29 t30:Value} {w w':World}
theorem rq_start (h:RmSt V b kv p c L ks w) (hq:w.heap[Q]? = some (.cells #[.string rt,rv] 125 (0,0))) (tm:List Tm) (t25 t27 t28 t29 t30:Value):RqSt V b kv p c L ks rt rv tm Q 0 false t25 t27 t28 t29 t30 w :=
 ⟨fun _=>h,hq,(fun h=>by cases h),(fun h=>by omega),(fun h=>by omega),(fun h=>by omega),(fun h=>by omega)⟩
theorem rq_l1 (h:RqSt V b kv p c L ks rt rv tm Q k false t25 t27 t28 t29 t30 w):RqSt V b kv p c L ks rt rv tm Q k true (.slice p L.length c) t27 t28 t29 t30 w :=
 ⟨h.rm,h.qb,fun _=>rfl,h.o27,h.m29,h.p30,fun _=>rfl⟩
theorem rq_c3 {p1:Option Addr} {c1:Nat} (h:RqSt V b kv p c L ks rt rv tm Q 0 f t25 t27 t28 t29 t30 w) (hb:Below w.heap.size w w') (ho:KM.Own w.heap.size w' (.slice p1 tm.length c1) tm):RqSt V b kv p c L ks rt rv tm Q 1 f t25 (.agg #[.string rt,.slice p1 tm.length c1]) t28 t29 t30 w' :=
 ⟨fun _=>(h.rm (by omega)).on hb,blk_on h.qb hb,h.f25,fun _ _=>⟨p1,c1,rfl,Kind.own_weak ho (h.rm (by omega)).bel.size,(h.rm (by omega)).rng.fresh (x:=⟨rt,p1,c1,tm⟩) ho,(fun h=>by omega)⟩,(fun h=>by omega),(fun h=>by omega),(fun h=>by omega)⟩
theorem rq_b4 {p1:Option Addr} {c1:Nat} (h:RqSt V b kv p c L ks rt rv tm Q 1 f t25 (.agg #[.string rt,.slice p1 tm.length c1]) t28 t29 t30 w):RqSt V b kv p c L ks rt rv tm Q 2 f t25 (.agg #[.string rt,.slice p1 tm.length c1]) (.slice (some ⟨w.heap.size,0,none⟩) 1 1) t29 t30 (w.alloc (.cells #[.string rt,.slice p1 tm.length c1] 125)):=by
 have hb:=alloc_on w (.cells #[.string rt,.slice p1 tm.length c1] 125)
 obtain ⟨p2,c2,e,h1,h2,_⟩:=h.o27 (by omega) (by omega)
 have hp:Value.slice p1 tm.length c1=.slice p2 tm.length c2:=by simpa using e
 refine ⟨fun _=>(h.rm (by omega)).on hb,blk_on h.qb hb,h.f25,fun _ _=>⟨p1,c1,rfl,?_,?_,fun _=>⟨_,rfl,heap_alloc_new w _⟩⟩,(fun h=>by omega),(fun h=>by omega),(fun h=>by omega)⟩
 ·rw [←hp] at h1
  exact Kind.own_on h1 hb
 ·rw [←hp] at h2
  exact h2
theorem rq_a5 {g c':Nat} {x:Rx} (h:RqSt V b kv p c L ks rt rv tm Q 2 true t25 t27 t28 t29 t30 w) (hx:x.rg=(rt,tm)) (hox:KM.Own V.heap.size w x.sl x.tm) (hf:FitP x.tm) (hfr:∀r∈L,∀j,r.sl.ownBlock=some j→¬ x.sl.ownBlock=some j) (hqL:∀j,(Value.slice p L.length c).ownBlock=some j→j<Q)
  (hst:RowSt KRx V.heap.size V (.slice (some ⟨g,0,none⟩) (L.length+1) c') (L++[x]) w') (hg:w.grownBy w' (Value.slice p L.length c).ownBlock):RqSt V b kv p c L ks rt rv tm Q 3 true t25 t27 t28 (.slice (some ⟨g,0,none⟩) (L.length+1) c') t30 w':=by
 have hr:=h.rm (by omega)
 have hlen:(L++[x]).length=L.length+1:=by simp
 have hm:=hr.more (g:=g) (c':=c') (x:=x) hg (by rw [hlen];exact hr.rng.push hox hf hfr hst hg)
 refine ⟨(fun h=>by omega),?_,h.f25,(fun _ h=>by omega),fun _=>⟨g,c',x,hx,by rw [hlen],fun _=>hm,(fun h=>by omega)⟩,(fun h=>by omega),fun _=>rfl⟩
 refine (hg.block Q (Array.getElem?_eq_some_iff.1 h.qb).1 fun e=>?_).trans h.qb
 have:=hqL Q e.symm
 omega
theorem rq_p6 (h:RqSt V b kv p c L ks rt rv tm Q 3 f t25 t27 t28 t29 t30 w):RqSt V b kv p c L ks rt rv tm Q 4 f t25 t27 t28 t29 (.pointer (some ⟨b,1,none⟩)) w:=by
 obtain ⟨g,c',x,h1,h2,h3,_⟩:=h.m29 (by omega)
 exact ⟨(fun h=>by omega),h.qb,h.f25,(fun _ h=>by omega),fun _=>⟨g,c',x,h1,h2,fun _=>h3 (by omega),(fun h=>by omega)⟩,fun _=>rfl,fun _=>h.d25 (by omega)⟩
theorem rq_s7 (h:RqSt V b kv p c L ks rt rv tm Q 4 f t25 t27 t28 t29 t30 w) (hbQ:b<Q):RqSt V b kv p c L ks rt rv tm Q 5 f t25 t27 t28 t29 t30 (w.setCell ⟨b,1,none⟩ t29):=by
 obtain ⟨g,c',x,h1,h2,h3,_⟩:=h.m29 (by omega)
 refine ⟨(fun h=>by omega),?_,h.f25,(fun _ h=>by omega),fun _=>⟨g,c',x,h1,h2,(fun h=>by omega),fun _=>?_⟩,fun _=>h.p30 (by omega),fun _=>h.d25 (by omega)⟩
 ·rw [heap_setCell_other _ _ Q _ (by show Q≠b;omega)]
  exact h.qb
 ·rw [h2]
  exact (h3 (by omega)).2
end
set_option maxHeartbeats 8000000 in
set_option maxRecDepth 100000 in
theorem mrange12_any (m:Mx) (r:Rx) (w:World) (hm:MIn w m) (hw:LotM m) (hr:r.at w) :
  Calls Tryz.prog 161 #[.agg (encMx m).toArray,.string r.typ,r.sl] w fun e w'=>MOwnPost w (rangeM m.mk' r.rg) e w':=by
 obtain ⟨i0,hi0,hz0,hz1,hz2⟩:=info_parts infoRx12
 have HI0:=hid hi0
 obtain ⟨hbV,h1,h2,hs⟩:=two_boxes w (encMx m).toArray #[.slice none 0 0,.slice none 0 0] 53 53
 obtain ⟨V,hV⟩:∃V,(w.alloc (.cells (encMx m).toArray 53)).alloc (.cells #[.slice none 0 0,.slice none 0 0] 53)=V:=⟨_,rfl⟩
 obtain ⟨M,hM⟩:∃M,w.heap.size=M:=⟨_,rfl⟩
 rw [hV] at hbV h1 h2 hs
 rw [hM] at h1 h2 hs
 have w1:=hw.1
 have w2:=hw.2
 have HVD:Hid (∀W',Below V.drew.heap.size V.drew W'→Below w.heap.size w W'∧(W'.cell? ⟨M,0,none⟩=some m.ksl∧W'.cell? ⟨M,1,none⟩=some m.rsl)∧W'.heap[M+1]? = some (.cells #[.slice none 0 0,.slice none 0 0] 53 (0,0))):=fun W' hW=>by
  have e1:=(hW.block M (by show M<V.heap.size;omega)).trans h1
  exact ⟨bel_then hbV hbV.size ((bel_drewN (Below.refl _ V) 1).trans hW),⟨by rw [Lib.cell_of_heap e1];rfl,by rw [Lib.cell_of_heap e1];rfl⟩,(hW.block (M+1) (by show M+1<V.heap.size;omega)).trans h2⟩
 have HIN:Hid (∀W',Below V.drew.heap.size V.drew W'→MIn W' m∧r.at W'):=fun W' hW=>⟨hm.on (HVD.out W' hW).1,hr.on (HVD.out W' hW).1⟩
 have HCL:Hid (∀W',Below V.drew.heap.size V.drew W'→Calls Tryz.prog 248 #[m.ksl] W' fun e w'=>KeyRPost W' m.ks e w'):=fun W' hW=>cloneKy_any m.ksl m.ks W' (HIN.out W' hW).1.keys (by omega)
 have HCO:Hid (∀W',Below V.drew.heap.size V.drew W'→Calls Tryz.prog 239 #[m.rsl] W' fun e w'=>RgPost W' (m.rs.map Rx.rg) e w'):=fun W' hW=>mcopied12_any m.rsl m.rs W' (HIN.out W' hW).1.rows (HIN.out W' hW).1.each (by omega)
 have HHA:Hid (∀W',Below V.drew.heap.size V.drew W'→Calls Tryz.prog 220 #[m.rsl,.agg (encRx r).toArray] W' fun e w'=>e=.returned (.bool ((m.rs.map Rx.rg).any fun x=>decide (x=r.rg)))∧Below W'.heap.size W' w'):=fun W' hW=>mhas12_any m.rsl m.rs r W' (HIN.out W' hW).1.rows (by omega) (HIN.out W' hW).1.each (HIN.out W' hW).2
 have HOW:Hid (∀W',Below V.drew.heap.size V.drew W'→Calls Tryz.prog 221 #[.agg (encRx r).toArray] W' fun e w'=>OwnPost W' r e w'):=fun W' hW=>mown12_any r W' (HIN.out W' hW).2
 have HBV:Hid (Below w.heap.size w V.drew):=(HVD.out V.drew (Below.refl _ _)).1
 have HF:=hid hr.2
 obtain ⟨B,hB⟩:∃B,((m.rs.map Rx.rg).any fun x=>decide (x=r.rg))=B:=⟨_,rfl⟩
 rw [hB] at HHA
 have HRM:Hid (rangeM m.mk' r.rg=(m.ks,putR (m.rs.map Rx.rg) r.rg)):=rfl
 have HRL:Hid ((m.rs.map Rx.rg).length=m.rs.length):=by show _=_;rw [List.length_map]
 have HBB:=hid hB
 obtain ⟨⟨a0,a1⟩,_⟩:=(HVD.out V.drew (Below.refl _ _)).2
 have hsz:M+1<V.drew.heap.size:=by show M+1<V.heap.size;omega
 clear hm hw hr hbV h1 h2 hi0 hB
 obtain ⟨kp,kc,ks,rp,rc,rs⟩:=m
 obtain ⟨rt,tp,tc,tm⟩:=r
 simp only [encMx,encRx,Mx.ksl,Mx.rsl,Rx.sl] at *
 generalize rangeM _ _=RM at *
 generalize rs.map Rx.rg=rg at *
 obtain ⟨rr,hrr⟩:∃rr,(⟨rt,tp,tc,tm⟩:Rx).rg=rr:=⟨_,rfl⟩
 rw [hrr] at HRM HBB
 have HRR:=hid hrr
 clear hrr
 go_enter Tryz.func161,Tryz.ntmps161
 go_wp2_with fail
 try rw [hV]
 try rw [hM]
 clear hV
 refine wp_region_held_drew (S:=fun w'=>w'.cell? ⟨M,0,none⟩=some (.slice kp ks.length kc)∧w'.cell? ⟨M,1,none⟩=some (.slice rp rs.length rc)) (by kernel_rfl) ⟨a0,a1⟩ (fun hHeld=>?_)
 refine tkv 0 (.pointer (some ⟨M,0,none⟩)) hHeld ?_
 simp only [Act.put,sz]
 refine tkv 1 (.slice kp ks.length kc) hHeld ?_
 simp only [Act.put,sz]
 refine tkv 3 (.pointer (some ⟨M,1,none⟩)) hHeld ?_
 simp only [Act.put,sz]
 refine tkv 4 (.slice rp rs.length rc) hHeld ?_
 simp only [Act.put,sz]
 clear hHeld a0 a1
 refine wpAnyH_floats [2,5,6,8] [7] (fun a0 k fl a w'=>∃t7 t11 t14 t15,a=putS a0 [(7,t7),(11,t11),(14,t14),(15,t15)]∧RnSt V.drew ks rg k (fl.headD false) t7 t11 t14 t15 w') (by kernel_rfl) (by decide) ⟨_,_,_,_,(putS_self _ [7,11,14,15]).symm,rn_start _ _ _ _ _ _ _⟩ ?hS ?hmain ?halloc ?hend
 case hS =>
  rintro k fl a w' ⟨t7,t11,t14,t15,rfl,hst⟩
  exact (HVD.out w' hst.bel).2.1
 case hmain =>
  rintro k i' fl a w' hk hfl hrd ⟨t7,t11,t14,t15,rfl,hst⟩
  obtain ⟨f1,rfl⟩:∃f1,fl=[f1]:=by
   match fl,hfl with
   | [f1],_=>exact ⟨f1,rfl⟩
  simp only [List.headD_cons] at hst ⊢
  rcases k with _|_|_|_|k
  ·obtain rfl:i'=2:=by simpa using hk.symm
   have HC:=hid (HCL.out w' hst.bel)
   have HST:=hid hst
   clear hst hrd hk hfl
   refine ⟨_,at_drop0 rfl,fun K hK=>?_⟩
   simp only [putS,List.foldl_cons,List.foldl_nil,Act.put,sz]
   rw [if_pos (by rfl)]
   go_simp
   refine HC.out.mono ?_
   rintro e w2 hp
   obtain ⟨u,rfl,ho,hb2⟩:=kyown_post hp
   have HS2:=hid (rn_c2 HST.out hb2 ho)
   clear hp ho hb2
   go_wp2_with fail
   exact hK.out _ _ ⟨t7,u,t14,t15,rfl,HS2.out⟩
  ·obtain rfl:i'=5:=by simpa using hk.symm
   have HC:=hid (HCO.out w' hst.bel)
   have HST:=hid hst
   clear hst hrd hk hfl
   refine ⟨_,at_drop0 rfl,fun K hK=>?_⟩
   simp only [putS,List.foldl_cons,List.foldl_nil,Act.put,sz]
   rw [if_pos (by rfl)]
   go_simp
   refine HC.out.mono ?_
   rintro e w2 hp
   obtain ⟨u,rfl,ho,hb2⟩:=rgown_post hp
   have HS2:=hid (rn_c5 HST.out hb2 ho)
   clear hp ho hb2
   go_wp2_with fail
   exact hK.out _ _ ⟨t7,t11,u,t15,rfl,HS2.out⟩
  ·obtain rfl:i'=6:=by simpa using hk.symm
   obtain ⟨p1,c1,rfl,_⟩:=hst.k11 (by omega)
   obtain ⟨p2,c2,L2,rfl,_⟩:=hst.r14 (by omega)
   have HS2:=hid (rn_b6 hst)
   clear hst hrd hk hfl
   refine ⟨_,at_drop0 rfl,fun K hK=>?_⟩
   simp only [putS,List.foldl_cons,List.foldl_nil,Act.put,sz]
   rw [if_pos (by rfl)]
   go_simp
   go_wp2_with fail
   exact hK.out _ _ ⟨t7,_,_,_,rfl,HS2.out⟩
  ·obtain rfl:i'=8:=by simpa using hk.symm
   cases f1 with
   | false=>exact (not_ready hrd (by kernel_rfl)).elim
   | true =>
   obtain ⟨p1,c1,rfl,_⟩:=hst.k11 (by omega)
   obtain ⟨p2,c2,L2,rfl,_⟩:=hst.r14 (by omega)
   obtain rfl:=hst.b15 (by omega)
   obtain ⟨b,rfl,_,hbx⟩:=hst.box0 rfl (by omega)
   have q0:w'.cell? ⟨b,0,none⟩=some (.slice none 0 0):=cz hbx
   have q1:w'.cell? ⟨b,1,none⟩=some (.slice none 0 0):=cz hbx
   have r0:w'.frozen? ⟨b,0,none⟩=false:=Lib.frozen_of_heap hbx 0
   have r1:w'.frozen? ⟨b,1,none⟩=false:=Lib.frozen_of_heap hbx 1
   have HS2:=hid (rn_s8 hst)
   clear hst hrd hk hfl hbx
   refine ⟨_,at_drop0 rfl,fun K hK=>?_⟩
   simp only [putS,List.foldl_cons,List.foldl_nil,Act.put,sz]
   rw [if_pos (by rfl)]
   go_simp
   go_wp2_with fail
   exact hK.out _ _ ⟨_,_,_,_,rfl,HS2.out⟩
  ·simp at hk
 case halloc =>
  rintro j i' k fl a w' hj hk hfl hf ⟨t7,t11,t14,t15,rfl,hst⟩
  obtain ⟨f1,rfl⟩:∃f1,fl=[f1]:=by
   match fl,hfl with
   | [f1],_=>exact ⟨f1,rfl⟩
  rcases j with _|j
  ·obtain rfl:i'=7:=by simpa using hj.symm
   obtain rfl:f1=false:=by simpa using hf
   simp only [List.headD_cons,List.set_cons_zero] at hst ⊢
   have HS2:=hid (rn_a7 hst)
   clear hst hf hj hk hfl
   refine ⟨_,at_drop0 rfl,fun K hK=>?_⟩
   simp only [putS,List.foldl_cons,List.foldl_nil,Act.put,sz]
   rw [if_pos (by rfl)]
   go_simp
   go_wp2_with fail
   exact hK.out _ _ ⟨_,t11,t14,t15,rfl,HS2.out⟩
  ·simp at hj
 case hend =>
  rintro a w3 ⟨t7,t11,t14,t15,rfl,hst⟩
  obtain ⟨p2,c2,rfl,_⟩:=hst.k11 (by decide)
  obtain ⟨p3,c3,L3,rfl,ho3,he3,ha3,hm3⟩:=hst.r14 (by decide)
  obtain ⟨b,rfl,hge,hbx⟩:=hst.box4 (by decide)
  have hrm:RmSt V.drew b (.slice p2 ks.length c2) p3 c3 L3 ks w3:=⟨hge,hbx,hst.k11 (by decide),⟨⟨ho3,hst.bel,hst.bel.size⟩,he3,ha3⟩⟩
  obtain ⟨Q,hQ⟩:∃Q,w3.heap.size=Q:=⟨_,rfl⟩
  have hL3:L3.length≤3518437208800:=by
   have h1:=congrArg List.length hm3
   rw [List.length_map,HRL.out] at h1
   omega
  have hbQ:b<Q:=by rw [←hQ];exact (Array.getElem?_eq_some_iff.1 hbx).1
  have HQL:Hid (∀j,(Value.slice p3 L3.length c3).ownBlock=some j→j<Q):=fun j hj=>by rw [←hQ];exact (World.ownsRow.lt (show w3.ownsRow V.drew.heap.size KRx.T KRx.k (.slice p3 L3.length c3) L3.length (KRx.cells L3) from ho3) j hj).2
  obtain ⟨W4,hW4⟩:∃W4,w3.alloc (.cells #[.string rt,.slice tp tm.length tc] 125)=W4:=⟨_,rfl⟩
  have hb4:Below w3.heap.size w3 W4:=by rw [←hW4];exact alloc_on _ _
  have hn4:W4.heap[Q]? = some (.cells #[.string rt,.slice tp tm.length tc] 125 (0,0)):=by rw [←hW4,←hQ];exact heap_alloc_new w3 _
  have hR4:=hrm.on hb4
  have HR4:=hid hR4
  have HH:=hid (HHA.out W4 hR4.bel)
  obtain ⟨_,x1⟩:=(HVD.out W4 hR4.bel).2.1
  have y0:W4.cell? ⟨Q,0,none⟩=some (.string rt):=cz hn4
  have y1:W4.cell? ⟨Q,1,none⟩=some (.slice tp tm.length tc):=cz hn4
  have HN4:=hid hn4
  have HM3:=hid hm3
  clear hst hrm hbx hge hb4 hn4 hR4 ho3 he3 ha3 hm3
  simp only [putS,List.foldl_cons,List.foldl_nil,Act.put,sz]
  go_upto_region 3 with fail
  try rw [hQ]
  try rw [hW4]
  clear hW4 hQ
  cases B with
  | true =>
   have HP:=hid (putR_in HBB.out)
   go_wp2_with fail
   refine HH.out.mono ?_
   rintro e w5 ⟨rfl,hb5⟩
   have hR5:=HR4.out.on hb5
   have f0:w5.cell? ⟨b,0,none⟩=some (.slice p2 ks.length c2):=by rw [Lib.cell_of_heap hR5.box];rfl
   have f1:w5.cell? ⟨b,1,none⟩=some (.slice p3 L3.length c3):=by rw [Lib.cell_of_heap hR5.box];rfl
   have hx5:=(HVD.out w5 hR5.bel).2.2
   have q0:w5.cell? ⟨M+1,0,none⟩=some (.slice none 0 0):=cz hx5
   have q1:w5.cell? ⟨M+1,1,none⟩=some (.slice none 0 0):=cz hx5
   have r0:=Lib.frozen_of_heap hx5 0
   have r1:=Lib.frozen_of_heap hx5 1
   have HPO:Hid (MOwnPost w RM (.returned (.agg #[.slice p2 ks.length c2,.slice p3 L3.length c3])) ((w5.setCell ⟨M+1,0,none⟩ (.slice p2 ks.length c2)).setCell ⟨M+1,1,none⟩ (.slice p3 L3.length c3))):=hR5.post HBV.out (by omega) hsz (by rw [HRM.out,HP.out,HM3.out])
   obtain ⟨W6,hW6⟩:∃W6,(w5.setCell ⟨M+1,0,none⟩ (.slice p2 ks.length c2)).setCell ⟨M+1,1,none⟩ (.slice p3 L3.length c3)=W6:=⟨_,rfl⟩
   rw [hW6] at HPO
   have g0:W6.cell? ⟨M+1,0,none⟩=some (.slice p2 ks.length c2):=by rw [←hW6];simp [go_sem,q0]
   have g1:W6.cell? ⟨M+1,1,none⟩=some (.slice p3 L3.length c3):=by rw [←hW6];simp [go_sem,q1]
   have HG:=hid (And.intro g0 g1)
   clear hb5 hR5 hx5 x1 y0 y1 HH g0 g1
   go_wp2_with fail
   try rw [hW6]
   obtain ⟨g0,g1⟩:=HG.out
   exact bodyPost_ret (v:=.agg #[.slice p2 ks.length c2,.slice p3 L3.length c3]) (by simp [results,Tryz.results161,go_sem,g0,g1]) rfl HPO.out
  | false =>
   have HP:=hid (putR_out HBB.out)
   go_wp2_with fail
   refine HH.out.mono ?_
   rintro e w5 ⟨rfl,hb5⟩
   have hR5:=HR4.out.on hb5
   have hn5:=blk_on HN4.out hb5
   have z0:w5.drew.cell? ⟨Q,0,none⟩=some (.string rt):=by rw [Lib.cell_of_heap (show w5.drew.heap[Q]? = _ from hn5)];rfl
   have z1:w5.drew.cell? ⟨Q,1,none⟩=some (.slice tp tm.length tc):=by rw [Lib.cell_of_heap (show w5.drew.heap[Q]? = _ from hn5)];rfl
   have HR5:Hid (RmSt V.drew b (.slice p2 ks.length c2) p3 c3 L3 ks w5.drew):=hR5.on (bel_drewN (Below.refl _ _) 1)
   have HN5:Hid (w5.drew.heap[Q]? = some (.cells #[.string rt,.slice tp tm.length tc] 125 (0,0))):=hn5
   clear hb5 hR5 hn5 HH x1 y0 y1 HR4 HN4
   go_wp2_with fail
   refine wp_region_held_drew (S:=fun w'=>w'.cell? ⟨Q,0,none⟩=some (.string rt)∧w'.cell? ⟨Q,1,none⟩=some (.slice tp tm.length tc)) (by kernel_rfl) ⟨z0,z1⟩ (fun hHeld=>?_)
   refine tkv 0 (.pointer (some ⟨b,1,none⟩)) hHeld ?_
   simp only [Act.put,sz]
   refine tkv 2 (.agg #[.string rt,.slice tp tm.length tc]) hHeld ?_
   simp only [Act.put,sz]
   clear hHeld z0 z1
   refine wpAnyH_floats [3,4,5,6,7] [1] (fun a0 k fl a w'=>∃t25 t27 t28 t29 t30,a=putS a0 [(25,t25),(27,t27),(28,t28),(29,t29),(30,t30)]∧RqSt V.drew b (.slice p2 ks.length c2) p3 c3 L3 ks rt (.slice tp tm.length tc) tm Q k (fl.headD false) t25 t27 t28 t29 t30 w') (by kernel_rfl) (by decide) ⟨_,_,_,_,_,(putS_self _ [25,27,28,29,30]).symm,rq_start HR5.out HN5.out tm _ _ _ _ _⟩ ?hS ?hmain ?halloc ?hend
   case hS =>
    rintro k fl a w' ⟨t25,t27,t28,t29,t30,rfl,hst⟩
    exact ⟨by rw [Lib.cell_of_heap hst.qb];rfl,by rw [Lib.cell_of_heap hst.qb];rfl⟩
   case hmain =>
    rintro k i' fl a w' hk hfl hrd ⟨t25,t27,t28,t29,t30,rfl,hst⟩
    obtain ⟨f1,rfl⟩:∃f1,fl=[f1]:=by
     match fl,hfl with
     | [f1],_=>exact ⟨f1,rfl⟩
    simp only [List.headD_cons] at hst ⊢
    rcases k with _|_|_|_|_|k
    ·obtain rfl:i'=3:=by simpa using hk.symm
     have HC:=hid (HOW.out w' (hst.rm (by omega)).bel)
     have HST:=hid hst
     clear hst hrd hk hfl
     refine ⟨_,at_drop0 rfl,fun K hK=>?_⟩
     simp only [putS,List.foldl_cons,List.foldl_nil,Act.put,sz]
     rw [if_pos (by rfl)]
     go_simp
     refine HC.out.mono ?_
     rintro e w6 ⟨p1,c1,rfl,ho6,hb6⟩
     have HS2:=hid (rq_c3 HST.out hb6 ho6)
     simp only at ho6 ⊢
     clear ho6 hb6
     go_wp2_with fail
     exact hK.out _ _ ⟨t25,_,t28,t29,t30,rfl,HS2.out⟩
    ·obtain rfl:i'=4:=by simpa using hk.symm
     obtain ⟨p1,c1,rfl,_⟩:=hst.o27 (by omega) (by omega)
     have HS2:=hid (rq_b4 hst)
     clear hst hrd hk hfl
     refine ⟨_,at_drop0 rfl,fun K hK=>?_⟩
     simp only [putS,List.foldl_cons,List.foldl_nil,Act.put,sz]
     rw [if_pos (by rfl)]
     go_simp
     go_wp2_with fail
     exact hK.out _ _ ⟨t25,_,_,t29,t30,rfl,HS2.out⟩
    ·obtain rfl:i'=5:=by simpa using hk.symm
     cases f1 with
     | false=>exact (not_ready hrd (by kernel_rfl)).elim
     | true =>
     obtain rfl:=hst.f25 rfl
     obtain ⟨p1,c1,rfl,hox,hfr,hB⟩:=hst.o27 (by omega) (by omega)
     obtain ⟨BB,rfl,hBB⟩:=hB rfl
     have HBB2:=hid hBB
     have HRW:=hid (hst.rm (by omega)).rng.row
     have HPU:Hid (∀g c' w'',RowSt KRx V.drew.heap.size V.drew (.slice (some ⟨g,0,none⟩) (L3.length+1) c') (L3++[⟨rt,p1,c1,tm⟩]) w''→w'.grownBy w'' (Value.slice p3 L3.length c3).ownBlock→RqSt V.drew b (.slice p2 ks.length c2) p3 c3 L3 ks rt (.slice tp tm.length tc) tm Q 3 true (.slice p3 L3.length c3) (.agg #[.string rt,.slice p1 tm.length c1]) (.slice (some ⟨BB,0,none⟩) 1 1) (.slice (some ⟨g,0,none⟩) (L3.length+1) c') t30 w''):=fun g c' w'' h1 h2=>rq_a5 (x:=⟨rt,p1,c1,tm⟩) hst rfl hox HF.out hfr HQL.out h1 h2
     clear hst hrd hk hfl hox hfr hB hBB
     refine ⟨_,at_drop0 rfl,fun K hK=>?_⟩
     simp only [putS,List.foldl_cons,List.foldl_nil,Act.put,sz]
     rw [if_pos (by rfl)]
     refine wp_push KRx rfl _ _ 51 rfl i0 _ 40 Tryz.underlying51 HI0.out hz0 hz1 hz2 rfl V.drew.heap.size V.drew (.slice p3 L3.length c3) L3 rfl HRW.out ⟨rt,p1,c1,tm⟩ BB _ _ rfl rfl _ _ HBB2.out (by unfold maxLen;omega) (by omega) ?_
     intro g8 c8 w8 hst8 hg8 _
     exact hK.out _ _ ⟨_,_,_,_,t30,rfl,HPU.out g8 c8 w8 hst8 hg8⟩
    ·obtain rfl:i'=6:=by simpa using hk.symm
     have HS2:=hid (rq_p6 hst)
     clear hst hrd hk hfl
     refine ⟨_,at_drop0 rfl,fun K hK=>?_⟩
     simp only [putS,List.foldl_cons,List.foldl_nil,Act.put,sz]
     rw [if_pos (by rfl)]
     go_simp
     go_wp2_with fail
     exact hK.out _ _ ⟨t25,t27,t28,t29,_,rfl,HS2.out⟩
    ·obtain rfl:i'=7:=by simpa using hk.symm
     obtain ⟨g,c',x,_,rfl,h3,_⟩:=hst.m29 (by omega)
     obtain rfl:=hst.p30 (by omega)
     have hbx:=(h3 (by omega)).1
     have q1:w'.cell? ⟨b,1,none⟩=some (.slice p3 L3.length c3):=cz hbx
     have r1:w'.frozen? ⟨b,1,none⟩=false:=Lib.frozen_of_heap hbx 1
     have HS2:=hid (rq_s7 hst hbQ)
     clear hst hrd hk hfl hbx h3
     refine ⟨_,at_drop0 rfl,fun K hK=>?_⟩
     simp only [putS,List.foldl_cons,List.foldl_nil,Act.put,sz]
     rw [if_pos (by rfl)]
     generalize (L3++[x]).length=LL at *
     go_simp
     go_wp2_with fail
     exact hK.out _ _ ⟨t25,t27,t28,_,_,rfl,HS2.out⟩
    ·simp at hk
   case halloc =>
    rintro j i' k fl a w' hj hk hfl hf ⟨t25,t27,t28,t29,t30,rfl,hst⟩
    obtain ⟨f1,rfl⟩:∃f1,fl=[f1]:=by
     match fl,hfl with
     | [f1],_=>exact ⟨f1,rfl⟩
    rcases j with _|j
    ·obtain rfl:i'=1:=by simpa using hj.symm
     obtain rfl:f1=false:=by simpa using hf
     simp only [List.headD_cons,List.set_cons_zero] at hst ⊢
     have hk3:¬ 3≤k:=fun h=>by have:=hst.d25 h;cases this
     have hbx:=(hst.rm (by omega)).box
     have f1:w'.cell? ⟨b,1,none⟩=some (.slice p3 L3.length c3):=cz hbx
     have HS2:=hid (rq_l1 hst)
     clear hst hf hj hk hfl hbx hk3
     refine ⟨_,at_drop0 rfl,fun K hK=>?_⟩
     simp only [putS,List.foldl_cons,List.foldl_nil,Act.put,sz]
     rw [if_pos (by rfl)]
     go_simp
     go_wp2_with fail
     exact hK.out _ _ ⟨_,t27,t28,t29,t30,rfl,HS2.out⟩
    ·simp at hj
   case hend =>
    rintro a w8 ⟨t25,t27,t28,t29,t30,rfl,hst⟩
    obtain ⟨g,c',x,hxr,rfl,_,h5⟩:=hst.m29 (by decide)
    have hR8:=h5 (by decide)
    have f0:w8.cell? ⟨b,0,none⟩=some (.slice p2 ks.length c2):=by rw [Lib.cell_of_heap hR8.box];rfl
    have f1:w8.cell? ⟨b,1,none⟩=some (.slice (some ⟨g,0,none⟩) (L3++[x]).length c'):=by rw [Lib.cell_of_heap hR8.box];rfl
    have hx8:=(HVD.out w8 hR8.bel).2.2
    have q0:w8.cell? ⟨M+1,0,none⟩=some (.slice none 0 0):=cz hx8
    have q1:w8.cell? ⟨M+1,1,none⟩=some (.slice none 0 0):=cz hx8
    have r0:=Lib.frozen_of_heap hx8 0
    have r1:=Lib.frozen_of_heap hx8 1
    have HPO:Hid (MOwnPost w RM (.returned (.agg #[.slice p2 ks.length c2,.slice (some ⟨g,0,none⟩) (L3++[x]).length c'])) ((w8.setCell ⟨M+1,0,none⟩ (.slice p2 ks.length c2)).setCell ⟨M+1,1,none⟩ (.slice (some ⟨g,0,none⟩) (L3++[x]).length c'))):=hR8.post HBV.out (by omega) hsz (by rw [HRM.out,HP.out,List.map_append,HM3.out,←HRR.out];show _=(ks,rg++[x.rg]);rw [hxr];rfl)
    generalize (L3++[x]).length=LL at *
    obtain ⟨W6,hW6⟩:∃W6,(w8.setCell ⟨M+1,0,none⟩ (.slice p2 ks.length c2)).setCell ⟨M+1,1,none⟩ (.slice (some ⟨g,0,none⟩) LL c')=W6:=⟨_,rfl⟩
    rw [hW6] at HPO
    have g0:W6.cell? ⟨M+1,0,none⟩=some (.slice p2 ks.length c2):=by rw [←hW6];simp [go_sem,q0]
    have g1:W6.cell? ⟨M+1,1,none⟩=some (.slice (some ⟨g,0,none⟩) LL c'):=by rw [←hW6];simp [go_sem,q1]
    have HG:=hid (And.intro g0 g1)
    clear hst h5 hR8 hx8 g0 g1 hxr
    simp only [putS,List.foldl_cons,List.foldl_nil,Act.put,sz]
    go_wp2_with fail
    try rw [hW6]
    obtain ⟨g0,g1⟩:=HG.out
    exact bodyPost_ret (v:=.agg #[.slice p2 ks.length c2,.slice (some ⟨g,0,none⟩) LL c']) (by simp [results,Tryz.results161,go_sem,g0,g1]) rfl HPO.out
end
section
open Go.RowKit
def QD:MadeK Dx where
 E N w x:=DOwn N w x∧SzD x.m x.cs∧(0≤x.snap∧x.snap≤18446744073709551615)∧0≤x.stamp∧x.stamp≤18446744073709551615
 Blk x k:=BlkD13 x k
 fr h f hP:=⟨h.1.frB f hP,h.2⟩
 blk h k hk:=h.1.blk k hk
 weak h hM:=⟨h.1.weak hM,h.2⟩
theorem ownK_fr {α:Type} {K:Kind α} {N:Nat} {w w':World} {v:Value} {d:List α} {P:Nat→Prop} (h:K.Own N w v d) (f:Fr P w w') (hP:∀k,P k→k<N):K.Own N w' v d :=
 f.row (show w.ownsRow N K.T K.k v d.length (K.cells d) from h) fun k hk hp=>by
  have h1:=(World.ownsRow.lt (show w.ownsRow N K.T K.k v d.length (K.cells d) from h) k hk).1
  have h2:=hP k hp
  omega
set_option linter.unusedSimpArgs false in
set_option maxHeartbeats 8000000 in
set_option maxRecDepth 100000 in
theorem ownD_any (x:Dx) (w:World) (hx:DIn w x):Calls Tryz.prog 235 #[.agg (encDx x).toArray] w fun e w'=>MadePost KDx QD Dx.dn w x.dn e w':=by
 obtain ⟨hbV,h1,h2,hs⟩:=two_boxes w (encDx x).toArray #[.int .u64 0,.int .u64 0,.bool false,.slice none 0 0,.slice none 0 0,.slice none 0 0] 177 177
 obtain ⟨V,hV⟩:∃V,(w.alloc (.cells (encDx x).toArray 177)).alloc (.cells #[.int .u64 0,.int .u64 0,.bool false,.slice none 0 0,.slice none 0 0,.slice none 0 0] 177)=V:=⟨_,rfl⟩
 obtain ⟨M,hM⟩:∃M,w.heap.size=M:=⟨_,rfl⟩
 rw [hV] at hbV h1 h2 hs
 rw [hM] at h1 h2 hs
 have HX:=hid hx
 have HIN:Hid (∀W,Below w.heap.size w W→MIn W x.m∧ChgIn W x.csl x.cs):=fun W hW=>⟨hx.mrk.on hW,hx.chg.on hW⟩
 have HBV:=hid hbV
 clear hx hbV
 obtain ⟨xs,xt,xo,⟨mkp,mkc,mks,mrp,mrc,mrs⟩,xcp,xcc,xcs⟩:=x
 have HK1:=hid (cloneKy_any (.slice mkp mks.length mkc) mks V (HIN.out V HBV.out).1.keys (by have:=HX.out.sz.keys;simp only at this;omega))
 have HK2:Hid (∀W,Below w.heap.size w W→Calls Tryz.prog 311 #[.slice mrp mrs.length mrc,.func (.func 312) #[] #[]] W fun e w'=>EachPost KRx QR Rx.rg W (mrs.map Rx.rg) e w'):=fun W hW=>copyR_any _ mrs W (HIN.out W hW).1.rows (HIN.out W hW).1.each (by have:=HX.out.sz.rows;simp only at this;omega)
 have HK3:Hid (∀W,Below w.heap.size w W→Calls Tryz.prog 313 #[.slice xcp xcs.length xcc,.func (.func 314) #[] #[]] W fun e w'=>EachPost KCx QC Cx.ch W (xcs.map Cx.ch) e w'):=fun W hW=>copyC_any _ xcs W (HIN.out W hW).2 (by have:=HX.out.sz.chg;simp only at this;omega)
 simp only [encDx,Mx.ksl,Mx.rsl,Dx.csl] at *
 have a3:V.cell? ⟨M,3,none⟩=some (.slice mkp mks.length mkc):=cz h1
 have HO1:=hid h1
 have HO2:=hid h2
 clear h1 h2
 go_enter Tryz.func235,Tryz.ntmps235
 go_wp2_with fail
 try rw [hV]
 try rw [hM]
 clear hV a3
 refine HK1.out.mono ?_
 rintro e w1 ⟨u1,rfl,ho1,hb1⟩
 obtain ⟨p1,c1,rfl⟩:=Kind.own_shape ho1
 clear HK1
 have e1:=(hb1.block M (by omega)).trans HO1.out
 have e2:=(hb1.block (M+1) (by omega)).trans HO2.out
 obtain ⟨W1,hW1⟩:∃W',w1.setCell ⟨M,3,none⟩ (.slice p1 mks.length c1)=W':=⟨_,rfl⟩
 have q1:W1.heap[M]? = some (.cells #[.int .u64 xs,.int .u64 xt,.bool xo,.slice p1 mks.length c1,.slice mrp mrs.length mrc,.slice xcp xcs.length xcc] 177 (0,0)):=by rw [←hW1];exact heap_setCell_same _ M 3 _ _ _ e1
 have hf:Fr (fun b=>b=M) w1 W1:=by rw [←hW1];exact fr_set w1 M 3 _
 have q2:W1.heap[M+1]? = some (.cells #[.int .u64 0,.int .u64 0,.bool false,.slice none 0 0,.slice none 0 0,.slice none 0 0] 177 (0,0)):=(hf.block (M+1) (Array.getElem?_eq_some_iff.1 e2).1 (by omega)).trans e2
 have HB1:Hid (Below w.heap.size w W1):=(bel_then HBV.out HBV.out.size hb1).trans (hf.below (by have:=hb1.size;omega) fun k hk=>by omega)
 have hs1:M+2≤W1.heap.size:=by have:=hb1.size;have:=hf.size;omega
 have HN1:Hid (KK.Own (M+2) W1 (.slice p1 mks.length c1) mks):=by
  have:=ownK_fr ho1 hf fun k hk=>by omega
  rw [hs] at this
  exact this
 have HP1:=hid q1
 have HZ1:=hid q2
 have k0:w1.cell? ⟨M,3,none⟩=some (.slice mkp mks.length mkc):=cz e1
 have z0:=Lib.frozen_of_heap e1 3
 have d0:W1.cell? ⟨M,4,none⟩=some (.slice mrp mrs.length mrc):=cz q1
 have HQ:=hid (HK2.out W1 HB1.out)
 clear e1 e2 q1 q2 hf hb1 ho1 HK2
 go_wp2_with fail
 try rw [hW1]
 clear k0 z0 hW1 d0
 refine HQ.out.mono ?_
 rintro e w2 ⟨p2,c2,L2,rfl,hst2,hm2⟩
 have hb2:Below W1.heap.size W1 w2:=hst2.row.bel
 clear HQ
 have e1:=(hb2.block M (by omega)).trans HP1.out
 have e2:=(hb2.block (M+1) (by omega)).trans HZ1.out
 obtain ⟨W2,hW2⟩:∃W',w2.setCell ⟨M,4,none⟩ (.slice p2 L2.length c2)=W':=⟨_,rfl⟩
 have q1:W2.heap[M]? = some (.cells #[.int .u64 xs,.int .u64 xt,.bool xo,.slice p1 mks.length c1,.slice p2 L2.length c2,.slice xcp xcs.length xcc] 177 (0,0)):=by rw [←hW2];exact heap_setCell_same _ M 4 _ _ _ e1
 have hf:Fr (fun b=>b=M) w2 W2:=by rw [←hW2];exact fr_set w2 M 4 _
 have q2:W2.heap[M+1]? = some (.cells #[.int .u64 0,.int .u64 0,.bool false,.slice none 0 0,.slice none 0 0,.slice none 0 0] 177 (0,0)):=(hf.block (M+1) (Array.getElem?_eq_some_iff.1 e2).1 (by omega)).trans e2
 have HB2:Hid (Below w.heap.size w W2):=(bel_then HB1.out HB1.out.size hb2).trans (hf.below (by have:=hb2.size;omega) fun k hk=>by omega)
 have hs2:M+2≤W2.heap.size:=by have:=hb2.size;have:=hf.size;omega
 have HN1':Hid (KK.Own (M+2) W2 (.slice p1 mks.length c1) mks):=ownK_fr (Kind.own_on HN1.out hb2) hf fun k hk=>by omega
 have HN2:Hid (EachSt KRx QR W1 L2 p2 c2 w2∧KRx.Own (M+2) W2 (.slice p2 L2.length c2) L2∧∀r∈L2,QR.E (M+2) W2 r) :=
  ⟨hst2,Kind.own_weak (ownK_fr hst2.row.own hf fun k hk=>by omega) hs1,fun r hr=>QR.weak (QR.fr (hst2.each r hr).1 hf fun k hk hp=>by have:=(QR.blk (hst2.each r hr).1 k hk).1;omega) hs1⟩
 have HP2:=hid q1
 have HZ2:=hid q2
 have k0:w2.cell? ⟨M,4,none⟩=some (.slice mrp mrs.length mrc):=cz e1
 have z0:=Lib.frozen_of_heap e1 4
 have d0:W2.cell? ⟨M,5,none⟩=some (.slice xcp xcs.length xcc):=cz q1
 have HQ:=hid (HK3.out W2 HB2.out)
 clear e1 e2 q1 q2 hf hb2 hst2 HK3
 go_wp2_with fail
 try rw [hW2]
 clear k0 z0 hW2 d0
 refine HQ.out.mono ?_
 rintro e w3 ⟨p3,c3,L3,rfl,hst3,hm3⟩
 have hb3:Below W2.heap.size W2 w3:=hst3.row.bel
 clear HQ
 have e1:=(hb3.block M (by omega)).trans HP2.out
 have e2:=(hb3.block (M+1) (by omega)).trans HZ2.out
 obtain ⟨W3,hW3⟩:∃W',w3.setCell ⟨M,5,none⟩ (.slice p3 L3.length c3)=W':=⟨_,rfl⟩
 have q1:W3.heap[M]? = some (.cells #[.int .u64 xs,.int .u64 xt,.bool xo,.slice p1 mks.length c1,.slice p2 L2.length c2,.slice p3 L3.length c3] 177 (0,0)):=by rw [←hW3];exact heap_setCell_same _ M 5 _ _ _ e1
 have hf:Fr (fun b=>b=M) w3 W3:=by rw [←hW3];exact fr_set w3 M 5 _
 have q2:W3.heap[M+1]? = some (.cells #[.int .u64 0,.int .u64 0,.bool false,.slice none 0 0,.slice none 0 0,.slice none 0 0] 177 (0,0)):=(hf.block (M+1) (Array.getElem?_eq_some_iff.1 e2).1 (by omega)).trans e2
 have HB3:Hid (Below w.heap.size w W3):=(bel_then HB2.out HB2.out.size hb3).trans (hf.below (by have:=hb3.size;omega) fun k hk=>by omega)
 have hs3:M+2≤W3.heap.size:=by have:=hb3.size;have:=hf.size;omega
 have HN1'':Hid (KK.Own (M+2) W3 (.slice p1 mks.length c1) mks):=ownK_fr (Kind.own_on HN1'.out hb3) hf fun k hk=>by omega
 have HN2':Hid (KRx.Own (M+2) W3 (.slice p2 L2.length c2) L2∧∀r∈L2,QR.E (M+2) W3 r) :=
  ⟨ownK_fr (Kind.own_on HN2.out.2.1 hb3) hf fun k hk=>by omega,fun r hr=>by
   have h9:=MadeK.on (HN2.out.2.2 r hr) hb3
   exact QR.fr h9 hf fun k hk hp=>by have:=(QR.blk h9 k hk).1;omega⟩
 have HN3:Hid (KCx.Own (M+2) W3 (.slice p3 L3.length c3) L3∧(∀r∈L3,QC.E (M+2) W3 r)∧L3.Pairwise fun c d=>∀k,BlkCx c k→¬ BlkCx d k) :=
  ⟨Kind.own_weak (ownK_fr hst3.row.own hf fun k hk=>by omega) hs2,fun r hr=>QC.weak (QC.fr (hst3.each r hr).1 hf fun k hk hp=>by have:=(QC.blk (hst3.each r hr).1 k hk).1;omega) hs2,hst3.apart⟩
 have HP3:=hid q1
 have HZ3:=hid q2
 have k0:w3.cell? ⟨M,5,none⟩=some (.slice xcp xcs.length xcc):=cz e1
 have z0:=Lib.frozen_of_heap e1 5
 obtain ⟨W4,hW4⟩:∃W',((((((W3.setCell ⟨M+1,0,none⟩ (.int .u64 xs)).setCell ⟨M+1,1,none⟩ (.int .u64 xt)).setCell ⟨M+1,2,none⟩ (.bool xo)).setCell ⟨M+1,3,none⟩ (.slice p1 mks.length c1)).setCell ⟨M+1,4,none⟩ (.slice p2 L2.length c2)).setCell ⟨M+1,5,none⟩ (.slice p3 L3.length c3))=W':=⟨_,rfl⟩
 have q3:W4.heap[M+1]? = some (.cells #[.int .u64 xs,.int .u64 xt,.bool xo,.slice p1 mks.length c1,.slice p2 L2.length c2,.slice p3 L3.length c3] 177 (0,0)):=by
  rw [←hW4]
  exact heap_setCell_same _ (M+1) 5 _ _ _ (heap_setCell_same _ (M+1) 4 _ _ _ (heap_setCell_same _ (M+1) 3 _ _ _ (heap_setCell_same _ (M+1) 2 _ _ _ (heap_setCell_same _ (M+1) 1 _ _ _ (heap_setCell_same _ (M+1) 0 _ _ _ (q2))))))
 have hf4:Fr (fun b=>b=M+1) W3 W4:=by
  rw [←hW4]
  exact ((((((fr_set W3 (M+1) 0 _).then (fr_set _ (M+1) 1 _) fun k hk=>Or.inl hk).then (fr_set _ (M+1) 2 _) fun k hk=>Or.inl hk).then (fr_set _ (M+1) 3 _) fun k hk=>Or.inl hk).then (fr_set _ (M+1) 4 _) fun k hk=>Or.inl hk).then (fr_set _ (M+1) 5 _) fun k hk=>Or.inl hk)
 have HD:Hid (QD.E w.heap.size W4 ⟨xs,xt,xo,⟨p1,c1,mks,p2,c2,L2⟩,p3,c3,L3⟩∧Below w.heap.size w W4):=by
  have hd:DOwn (M+2) W3 ⟨xs,xt,xo,⟨p1,c1,mks,p2,c2,L2⟩,p3,c3,L3⟩:=⟨⟨HN1''.out,HN2'.out.1,HN2'.out.2,HN2.out.1.apart⟩,HN3.out.1,HN3.out.2.1,HN3.out.2.2⟩
  refine ⟨⟨(hd.fr hf4 fun k hk=>by omega).weak (by omega),HX.out.sz.same ?_ hm3 fun y hy=>⟨(HN3.out.2.1 y hy).wcp,(HN3.out.2.1 y hy).icp⟩,HX.out.snap,HX.out.stamp⟩,HB3.out.trans (hf4.below HB3.out.size fun k hk=>by omega)⟩
  show (mks,L2.map Rx.rg)=(mks,mrs.map Rx.rg)
  rw [hm2]
 have HDN:Hid ((⟨xs,xt,xo,⟨p1,c1,mks,p2,c2,L2⟩,p3,c3,L3⟩:Dx).dn=(⟨xs,xt,xo,⟨mkp,mkc,mks,mrp,mrc,mrs⟩,xcp,xcc,xcs⟩:Dx).dn):=by
  show _=_
  simp only [Dx.dn,Mx.mk',hm2,hm3]
 have d0:W3.cell? ⟨M,0,none⟩=some (.int .u64 xs):=cz q1
 have d1:W3.cell? ⟨M,1,none⟩=some (.int .u64 xt):=cz q1
 have d2:W3.cell? ⟨M,2,none⟩=some (.bool xo):=cz q1
 have d3:W3.cell? ⟨M,3,none⟩=some (.slice p1 mks.length c1):=cz q1
 have d4:W3.cell? ⟨M,4,none⟩=some (.slice p2 L2.length c2):=cz q1
 have d5:W3.cell? ⟨M,5,none⟩=some (.slice p3 L3.length c3):=cz q1
 have t0:W3.cell? ⟨M+1,0,none⟩=some (.int .u64 0):=cz q2
 have t1:W3.cell? ⟨M+1,1,none⟩=some (.int .u64 0):=cz q2
 have t2:W3.cell? ⟨M+1,2,none⟩=some (.bool false):=cz q2
 have t3:W3.cell? ⟨M+1,3,none⟩=some (.slice none 0 0):=cz q2
 have t4:W3.cell? ⟨M+1,4,none⟩=some (.slice none 0 0):=cz q2
 have t5:W3.cell? ⟨M+1,5,none⟩=some (.slice none 0 0):=cz q2
 have r0:=Lib.frozen_of_heap q2 0
 have r1:=Lib.frozen_of_heap q2 1
 have r2:=Lib.frozen_of_heap q2 2
 have r3:=Lib.frozen_of_heap q2 3
 have r4:=Lib.frozen_of_heap q2 4
 have r5:=Lib.frozen_of_heap q2 5
 have HE:Hid (W4.cell? ⟨M+1,0,none⟩=some (.int .u64 xs)∧W4.cell? ⟨M+1,1,none⟩=some (.int .u64 xt)∧W4.cell? ⟨M+1,2,none⟩=some (.bool xo)∧W4.cell? ⟨M+1,3,none⟩=some (.slice p1 mks.length c1)∧W4.cell? ⟨M+1,4,none⟩=some (.slice p2 L2.length c2)∧W4.cell? ⟨M+1,5,none⟩=some (.slice p3 L3.length c3)):=⟨by rw [Lib.cell_of_heap q3];rfl,by rw [Lib.cell_of_heap q3];rfl,by rw [Lib.cell_of_heap q3];rfl,by rw [Lib.cell_of_heap q3];rfl,by rw [Lib.cell_of_heap q3];rfl,by rw [Lib.cell_of_heap q3];rfl⟩
 clear e1 e2 q1 q2 q3 hf hf4 hb3 hst3 hm2 hm3
 go_upto_region 4 with fail
 try rw [hW3]
 clear k0 z0 hW3
 go_wp2_with fail
 try rw [hW4]
 obtain ⟨g0,g1,g2,g3,g4,g5⟩:=HE.out
 exact bodyPost_ret (v:=.agg #[.int .u64 xs,.int .u64 xt,.bool xo,.slice p1 mks.length c1,.slice p2 L2.length c2,.slice p3 L3.length c3]) (by simp [results,Tryz.results235,go_sem,g0,g1,g2,g3,g4,g5]) rfl ⟨⟨xs,xt,xo,⟨p1,c1,mks,p2,c2,L2⟩,p3,c3,L3⟩,rfl,HD.out.1,HDN.out,HD.out.2⟩
end
section
structure CutT (l:List Dn) (s:Int) (k:Nat):Prop where
 le:k≤l.length
 low:∀d∈l.take k,d.stamp≤s
 up:∀d∈l.drop k,s<d.stamp
theorem cut_rise {l:List Dn} {s:Int} {k:Nat} (hr:l.Pairwise fun a b=>a.stamp≤b.stamp) (hk:k≤l.length) (h1:∀d∈l.take k,d.stamp≤s) (h2:(h:k<l.length)→s<(l[k]).stamp):CutT l s k:=by
 refine ⟨hk,h1,fun d hd=>?_⟩
 obtain ⟨i,hi,rfl⟩:=List.mem_iff_getElem.1 hd
 rw [List.length_drop] at hi
 rw [List.getElem_drop]
 have hkl:k<l.length:=by omega
 have h3:=h2 hkl
 rcases Nat.eq_zero_or_pos i with h0|h0
 ·subst h0
  exact h3
 ·have:=List.pairwise_iff_getElem.1 hr k (k+i) hkl (by omega) (by omega)
  omega
section
variable {l:List Dn} {s:Int} {k:Nat}
theorem CutT.filter (h:CutT l s k):(l.filter fun d=>decide (s<d.stamp))=l.drop k:=by
 have h0:l=l.take k++l.drop k:=(List.take_append_drop k l).symm
 have e1:((l.take k).filter fun d=>decide (s<d.stamp))=[]:=by
  rw [List.filter_eq_nil_iff]
  intro d hd
  have:=h.low d hd
  simp only [decide_eq_true_eq]
  omega
 have e2:((l.drop k).filter fun d=>decide (s<d.stamp))=l.drop k:=by
  rw [List.filter_eq_self]
  intro d hd
  exact decide_eq_true (h.up d hd)
 have e3:(l.filter fun d=>decide (s<d.stamp))=((l.take k++l.drop k).filter fun d=>decide (s<d.stamp)):=by rw [List.take_append_drop]
 rw [e3,List.filter_append,e1,e2,List.nil_append]
theorem CutT.any (h:CutT l s k) (f:Dn→Bool):(l.any fun d=>besideT s d&&f d)=(l.drop k).any f:=by
 have e1:((l.take k).any fun d=>besideT s d&&f d)=false:=by
  rw [List.any_eq_false]
  intro d hd
  have:=h.low d hd
  unfold besideT
  rw [decide_eq_false (by omega)]
  simp
 have e2:((l.drop k).any fun d=>besideT s d&&f d)=(l.drop k).any f:=by
  have:∀m:List Dn,(∀d∈m,s<d.stamp)→(m.any fun d=>besideT s d&&f d)=m.any f:=fun m=>by
   induction m with
   | nil=>intro _;rfl
   | cons a m ih =>
    intro hm
    rw [List.any_cons,List.any_cons,ih fun d hd=>hm d (List.mem_cons_of_mem _ hd)]
    unfold besideT
    rw [decide_eq_true (hm a (List.mem_cons_self ..)),Bool.true_and]
  exact this _ h.up
 have e3:(l.any fun d=>besideT s d&&f d)=((l.take k++l.drop k).any fun d=>besideT s d&&f d):=by rw [List.take_append_drop]
 rw [e3,List.any_append,e1,e2,Bool.false_or]
theorem CutT.kept (h:CutT l s k) (t:Tk) (ht:t.kept=l):(dropT t s).kept=l.drop k:=by
 show t.kept.filter _=_
 rw [ht]
 exact h.filter
end
structure SeenT (m:Mk) (c:List Ch) (l:List Dn) (out inn:Bool):Prop where
 hout:out=l.any fun d=>hitsM m d.chg
 hinn:inn=l.any fun d=>hitsM d.marks c
 deep:(l.any fun d=>hitsM m d.chg&&d.out)=false
 both:(out&&inn)=false
theorem seen_nil (m:Mk) (c:List Ch):SeenT m c [] false false:=⟨rfl,rfl,rfl,rfl⟩
theorem SeenT.snoc {m:Mk} {c:List Ch} {l:List Dn} {out inn:Bool} (h:SeenT m c l out inn) (d:Dn) {a b:Bool} (ha:hitsM m d.chg=a) (hb:(inn||hitsM d.marks c)=b) (h1:(a&&d.out)=false) (h2:((out||a)&&b)=false):SeenT m c (l++[d]) (out||a) b:=by
 subst ha hb
 refine ⟨?_,?_,?_,h2⟩
 ·rw [List.any_append,←h.hout];simp
 ·rw [List.any_append,←h.hinn];simp
 ·rw [List.any_append,h.deep];simpa using h1
theorem SeenT.clash {m:Mk} {c:List Ch} {l:List Dn} {out inn:Bool} (h:SeenT m c l out inn) (d:Dn) (r:List Dn) {a b:Bool} (ha:hitsM m d.chg=a) (hb:(inn||hitsM d.marks c)=b) (h1:(a&&d.out)=true∨((out||a)&&b)=true) :
  (((l++d::r).any fun d=>hitsM m d.chg&&d.out)||(((l++d::r).any fun d=>hitsM m d.chg)&&(l++d::r).any fun d=>hitsM d.marks c))=true:=by
 subst ha hb
 rw [List.any_append,List.any_append,List.any_append,List.any_cons,List.any_cons,List.any_cons,h.deep,←h.hout,←h.hinn]
 revert h1
 generalize hitsM m d.chg=A
 generalize hitsM d.marks c=B
 generalize d.out=O
 generalize (r.any fun d=>hitsM m d.chg&&d.out)=R1
 generalize (r.any fun d=>hitsM m d.chg)=R2
 generalize (r.any fun d=>hitsM d.marks c)=R3
 cases A<;>cases B<;>cases O<;>cases out<;>cases inn<;>cases R1<;>cases R2<;>cases R3<;>decide
theorem check_is {t:Tk} {s:Int} {k:Nat} (h:CutT t.kept s k) (m:Mk) (c:List Ch) (hs:¬ s<t.sum) :
  checkT t s m c=if (((t.kept.drop k).any fun d=>hitsM m d.chg&&d.out)||(((t.kept.drop k).any fun d=>hitsM m d.chg)&&(t.kept.drop k).any fun d=>hitsM d.marks c))=true then (false,11) else ((t.kept.drop k).any fun d=>hitsM m d.chg,0):=by
 unfold checkT clashT deepT outT inT
 rw [decide_eq_false hs,Bool.false_or,h.any fun d=>hitsM m d.chg&&d.out,h.any fun d=>hitsM m d.chg,h.any fun d=>hitsM d.marks c]
theorem check_low {t:Tk} {s:Int} (m:Mk) (c:List Ch) (hs:s<t.sum):checkT t s m c=(false,11):=by
 unfold checkT clashT
 rw [decide_eq_true hs,Bool.true_or,Bool.true_or,if_pos rfl]
theorem SeenT.check {t:Tk} {s:Int} {k:Nat} (h:CutT t.kept s k) {m:Mk} {c:List Ch} (hs:¬ s<t.sum) {out inn:Bool} (hz:SeenT m c (t.kept.drop k) out inn):checkT t s m c=(out,0):=by
 rw [check_is h m c hs,hz.deep,←hz.hout,←hz.hinn,hz.both]
 rfl
end
section
open Go.RowKit
def IdxP {α:Type} (f:α→Bool) (l:List α) (n:Int):Prop:=(n=-1∧∀x∈l,f x=false)∨∃j:Nat,n=j∧j<l.length∧(∀x∈l.take j,f x=false)∧∀h:j<l.length,f l[j]=true
set_option maxHeartbeats 4000000 in
set_option maxRecDepth 100000 in
theorem idxD_any (f:Dx→Bool) (k:Nat) (lb:Array Value) (eg:∀args w,(callFunc k args).run Tryz.prog w=.ok (.enter k args) w) (v:Value) (l:List Dx) (w:World) (hv:KDx.Is w v l) (hl:l.length≤9000000000000000000)
  (hk:∀(W:World) (x:Dx),Below w.heap.size w W→x∈l→Calls Tryz.prog k (#[.agg (encDx x).toArray]++lb) W fun e w'=>e=.returned (.bool (f x))∧Below W.heap.size W w') :
  Calls Tryz.prog 315 #[v,.func (.func k) #[] lb] w fun e w'=>(∃n:Int,e=.returned (.int .i64 n)∧IdxP f l n)∧Below w.heap.size w w':=by
 obtain ⟨p,cap,rfl,hd⟩:=hv
 have HD:=hid hd
 have HK:=hid hk
 clear hd hk
 go_enter Tryz.func315,Tryz.ntmps315
 go_wp2_with fail
 go_loopg [8] l.length (fun gg vi wr=>∃i:Nat,vi=.int .i64 i∧i≤l.length∧l.length-i≤gg∧Hid (Below w.heap.size w wr∧∀x∈l.take i,f x=false))
 case atStart=>exact ⟨0,rfl,by omega,by omega,Below.refl _ _,fun x hx=>by simp at hx⟩
 case round =>
  obtain ⟨i,rfl,hi,hgk,HI⟩:=hrel
  by_cases hlt:i<l.length
  ·have hltz:(i:Int)<(l.length:Int):=by omega
   have hiz:(0:Int)≤i:=by omega
   obtain ⟨b1,o1,rfl,k1⟩:∃b off,p=some ⟨b,off,none⟩∧KDx.At w b off l:=by
    rcases HD.out with h|h
    ·rw [h] at hlt;simp at hlt
    ·exact h
   obtain ⟨y0,y1,y2,y3,y4,y5⟩:=kdx_at (Kind.at_kept k1 HI.out.1) i hlt
   have hmem:l[i]∈l:=List.getElem_mem hlt
   have htk:l.take (i+1)=l.take i++[l[i]]:=List.take_succ_eq_append_getElem hlt
   have HC:=hid (HK.out wr l[i] HI.out.1 hmem)
   have HNO:Hid (f l[i]=false→∀x∈l.take (i+1),f x=false):=fun h x hx=>by
    rw [htk] at hx
    rcases List.mem_append.1 hx with hx|hx
    ·exact HI.out.2 x hx
    ·rw [List.mem_singleton.1 hx];exact h
   have HYES:Hid (f l[i]=true→IdxP f l (i:Int)):=fun h=>Or.inr ⟨i,rfl,hlt,HI.out.2,fun _=>h⟩
   have HB:=hid HI.out.1
   clear HI k1 hmem htk
   generalize l[i]=x at *
   cases hq:f x with
   | true =>
    rw [hq] at HC
    have HY:=hid (HYES.out hq)
    clear HNO HYES hq
    obtain ⟨xs,xt,xo,⟨mkp,mkc,mks,mrp,mrc,mrs⟩,xcp,xcc,xcs⟩:=x
    simp only [encDx,Mx.ksl,Mx.rsl,Dx.csl] at *
    go_wp2_with (go_at_fn k;refine HC.out.mono ?_;rintro e w1 ⟨rfl,hb1⟩)
    go_ret
    exact ⟨⟨i,rfl,HY.out⟩,bel_then HB.out HB.out.size hb1⟩
   | false =>
    rw [hq] at HC
    have HN:=hid (HNO.out hq)
    clear HNO HYES hq
    obtain ⟨xs,xt,xo,⟨mkp,mkc,mks,mrp,mrc,mrs⟩,xcp,xcc,xcs⟩:=x
    simp only [encDx,Mx.ksl,Mx.rsl,Dx.csl] at *
    go_wp2_with (go_at_fn k;refine HC.out.mono ?_;rintro e w1 ⟨rfl,hb1⟩)
    have HB1:=hid (bel_then HB.out HB.out.size hb1)
    clear hb1
    go_roundg (l.length-(i+1))
    case measure=>omega
    exact ⟨i+1,by go_num,by omega,by omega,HB1.out,HN.out⟩
  ·have hltz:¬ (i:Int)<(l.length:Int):=by omega
   have hti:l.take i=l:=List.take_of_length_le (by omega)
   rw [hti] at HI
   go_wp2_with fail
   go_ret
   exact ⟨⟨-1,rfl,Or.inl ⟨rfl,HI.out.2⟩⟩,HI.out.1⟩
theorem enters_thr:∀args w,(callFunc 316 args).run Tryz.prog w=.ok (.enter 316 args) w:=enters_of Tryz.func316 (by kernel_rfl) rfl
set_option maxHeartbeats 2000000 in
set_option maxRecDepth 100000 in
theorem thr1_any (x:Dx) (s:Int) (M:Nat) (w:World) (hM:w.heap[M]? = some (.cells #[.int .u64 s] 22 (0,0))) :
  Calls Tryz.prog 316 #[.agg (encDx x).toArray,.pointer (some ⟨M,0,none⟩)] w fun e w'=>e=.returned (.bool (decide (s<x.stamp)))∧Below w.heap.size w w':=by
 obtain ⟨hb,h1,hs⟩:=one_box w (encDx x).toArray 177
 obtain ⟨V,hV⟩:∃V,w.alloc (.cells (encDx x).toArray 177)=V:=⟨_,rfl⟩
 rw [hV] at hb h1 hs
 have hlt:M<w.heap.size:=(Array.getElem?_eq_some_iff.1 hM).1
 have h2:=(hb.block M hlt).trans hM
 have HB:=hid hb
 obtain ⟨K,hK⟩:∃K,w.heap.size=K:=⟨_,rfl⟩
 rw [hK] at h1
 obtain ⟨xs,xt,xo,⟨mkp,mkc,mks,mrp,mrc,mrs⟩,xcp,xcc,xcs⟩:=x
 simp only [encDx,Mx.ksl,Mx.rsl,Dx.csl] at *
 have c1:V.cell? ⟨K,1,none⟩=some (.int .u64 xt):=cz h1
 have d0:V.cell? ⟨M,0,none⟩=some (.int .u64 s):=cz h2
 clear hM h1 h2 hb hs
 go_enter Tryz.func316,Tryz.ntmps316
 go_wp2_with fail
 try rw [hV]
 go_ret
 exact ⟨rfl,HB.out⟩
def ThrP (l:List Dx) (s:Int) (k:Nat):Prop:=k≤l.length∧(∀x∈l.take k,x.stamp≤s)∧∀h:k<l.length,s<(l[k]).stamp
set_option maxHeartbeats 2000000 in
set_option maxRecDepth 100000 in
theorem through13_any (v:Value) (l:List Dx) (s:Int) (w:World) (hv:KDx.Is w v l) (hl:l.length≤9000000000000000000) :
  Calls Tryz.prog 237 #[v,.int .u64 s] w fun e w'=>(∃k:Nat,e=.returned (.int .i64 k)∧ThrP l s k)∧Below w.heap.size w w':=by
 obtain ⟨hb,h1,hs⟩:=one_box w #[.int .u64 s] 22
 obtain ⟨V,hV⟩:∃V,w.alloc (.cells #[.int .u64 s] 22)=V:=⟨_,rfl⟩
 obtain ⟨M,hM⟩:∃M,w.heap.size=M:=⟨_,rfl⟩
 rw [hV] at hb h1 hs
 rw [hM] at h1 hs
 have HX:=hid (idxD_any (fun x=>decide (s<x.stamp)) 316 #[.pointer (some ⟨M,0,none⟩)] enters_thr v l V (Kind.is_kept hv hb) hl (fun W x hW hx=>thr1_any x s M W ((hW.block M (by omega)).trans h1)))
 have HB:=hid hb
 obtain ⟨p,cap,rfl,_⟩:=hv
 clear hb h1 hs
 go_enter Tryz.func237,Tryz.ntmps237
 go_wp2_with fail
 try rw [hV]
 try rw [hM]
 refine HX.out.mono ?_
 rintro e w1 ⟨⟨n,rfl,hn⟩,hb1⟩
 have HB1:=hid (bel_then HB.out HB.out.size hb1)
 clear hb1 HX
 rcases hn with ⟨rfl,hno⟩|⟨j,rfl,hj,hlow,hat⟩
 ·have HR:Hid (ThrP l s l.length):=⟨Nat.le_refl _,fun x hx=>by
   rw [List.take_length] at hx
   have:=of_decide_eq_false (hno x hx)
   omega,fun h=>by omega⟩
  clear hno
  go_wp2_with fail
  go_ret
  exact ⟨⟨l.length,rfl,HR.out⟩,HB1.out⟩
 ·have HR:Hid (ThrP l s j):=⟨by omega,fun x hx=>by
   have:=of_decide_eq_false (hlow x hx)
   omega,fun h=>of_decide_eq_true (hat h)⟩
  have hj0:¬ ((j:Int)<0):=by omega
  clear hlow hat
  go_wp2_with fail
  go_ret
  exact ⟨⟨j,rfl,HR.out⟩,HB1.out⟩
structure TrkM (n0:Nat) (W:World) (g:Nat) (t:Tk) (ds:List Dx) (va:Value) (last:Int):Prop where
 obj:W.heap[g]? = some (.cells #[.int .i64 (t.most:Nat),va,.int .u64 t.sum,.int .u64 last] 220 (0,0))
 low:n0≤g
 all:KDx.Own n0 W va ds
 each:∀d∈ds,QD.E n0 W d
 kept:ds.map Dx.dn=t.kept
 hlast:(t.last=none∧last=0)∨t.last=some last
 lastb:0≤last∧last≤18446744073709551615
 sumb:t.sum≤18446744073709551615
 ok:OkT t
 room:t.most≤64
def BlkTr (g:Nat) (ds:List Dx) (va:Value) (k:Nat):Prop:=k=g∨va.ownBlock=some k∨∃d∈ds,BlkD13 d k
section
variable {n0:Nat} {W:World} {g:Nat} {t:Tk} {ds:List Dx} {va:Value} {last:Int}
theorem TrkM.lt (h:TrkM n0 W g t ds va last):g<W.heap.size:=(Array.getElem?_eq_some_iff.1 h.obj).1
theorem TrkM.len (h:TrkM n0 W g t ds va last):ds.length=t.kept.length:=by rw [←h.kept,List.length_map]
theorem TrkM.few (h:TrkM n0 W g t ds va last):ds.length≤64:=by have:=h.len;have:=h.ok.few;have:=h.room;omega
theorem TrkM.blk (h:TrkM n0 W g t ds va last) (k:Nat) (hk:BlkTr g ds va k):n0≤k∧k<W.heap.size:=by
 rcases hk with rfl|hk|⟨x,hx,hk⟩
 ·exact ⟨h.low,h.lt⟩
 ·exact World.ownsRow.lt (show W.ownsRow n0 KDx.T KDx.k va ds.length (KDx.cells ds) from h.all) k hk
 ·exact QD.blk (h.each x hx) k hk
theorem TrkM.fr {W':World} {P:Nat→Prop} (h:TrkM n0 W g t ds va last) (f:Fr P W W') (hP:∀k,BlkTr g ds va k→¬ P k):TrkM n0 W' g t ds va last :=
 ⟨(f.block g h.lt (hP g (Or.inl rfl))).trans h.obj,h.low,f.row (show W.ownsRow n0 KDx.T KDx.k va ds.length (KDx.cells ds) from h.all) fun k hk=>hP k (Or.inr (Or.inl hk)),fun x hx=>QD.fr (h.each x hx) f fun k hk=>hP k (Or.inr (Or.inr ⟨x,hx,hk⟩)),h.kept,h.hlast,h.lastb,h.sumb,h.ok,h.room⟩
theorem TrkM.on {W':World} (h:TrkM n0 W g t ds va last) (hb:Below W.heap.size W W'):TrkM n0 W' g t ds va last:=h.fr (P:=fun _=>False) (Fr.of_below hb) fun _ _ k=>k
theorem TrkM.shape (h:TrkM n0 W g t ds va last):∃p c,va=.slice p ds.length c:=Kind.own_shape h.all
theorem TrkM.inn (h:TrkM n0 W g t ds va last):∀d∈ds,DIn W d:=fun d hd=>⟨(h.each d hd).1.inn.1,(h.each d hd).1.inn.2,(h.each d hd).2.1,(h.each d hd).2.2.1,(h.each d hd).2.2.2⟩
theorem TrkM.cut (h:TrkM n0 W g t ds va last) {s:Int} {k:Nat} (hk:ThrP ds s k):CutT t.kept s k:=by
 have hl:=h.len
 refine cut_rise h.ok.rise (by have:=hk.1;omega) (fun d hd=>?_) fun hlt=>?_
 ·rw [←h.kept,←List.map_take] at hd
  obtain ⟨x,hx,rfl⟩:=List.mem_map.1 hd
  exact hk.2.1 x hx
 ·have h1:k<ds.length:=by omega
  have h2:=hk.2.2 h1
  have e:(t.kept[k])=(ds[k]).dn:=by
   have:t.kept[k]? = some (ds[k]).dn:=by rw [←h.kept,List.getElem?_map,List.getElem?_eq_getElem h1];rfl
   rw [List.getElem?_eq_getElem hlt] at this
   exact Option.some.inj this
  rw [e]
  exact h2
end
set_option maxHeartbeats 4000000 in
set_option maxRecDepth 100000 in
theorem tnew_any (n0:Nat) (w:World) (hn:n0≤w.heap.size) (most:Int):Calls Tryz.prog 57 #[.int .i64 most] w fun e w'=>e=.returned (.pointer (some ⟨w.heap.size,0,none⟩))∧TrkM n0 w' w.heap.size (newT most) [] (.slice none 0 0) 0∧Below w.heap.size w w':=by
 have hfin:∀m:Int,m=(roomT most:Nat)→TrkM n0 (w.alloc (.cells #[.int .i64 m,.slice none 0 0,.int .u64 0,.int .u64 0] 220)) w.heap.size (newT most) [] (.slice none 0 0) 0:=fun m hm =>
  ⟨by rw [hm];exact heap_alloc_new w _,hn,Kind.own_nil _ _ _,(fun d hd=>by cases hd),rfl,Or.inl ⟨rfl,rfl⟩,⟨by omega,by omega⟩,by show (0:Int)≤_;omega,ok_newT most,by show roomT most≤64;unfold roomT;omega⟩
 have hb:∀m:Int,Below w.heap.size w (w.alloc (.cells #[.int .i64 m,.slice none 0 0,.int .u64 0,.int .u64 0] 220)):=fun m=>(Below.refl _ _).alloc (Nat.le_refl _) _
 have HF:=hid hfin
 have HB:=hid hb
 clear hfin hb
 have HE:Hid (min (max most 0) 64=(roomT most:Nat)):=by show _=_;unfold roomT;omega
 go_enter Tryz.func57,Tryz.ntmps57
 go_wp2_with fail
 go_ret
 exact ⟨rfl,HF.out _ HE.out,HB.out _⟩
set_option maxHeartbeats 1000000 in
theorem tkept_any {n0:Nat} {W:World} {g:Nat} {t:Tk} {ds:List Dx} {va:Value} {last:Int} (h:TrkM n0 W g t ds va last):Calls Tryz.prog 177 #[.pointer (some ⟨g,0,none⟩)] W fun e w'=>e=.returned va∧Below W.heap.size W w':=by
 obtain ⟨p,c,rfl⟩:=h.shape
 have z0:W.cell? ⟨g,1,none⟩=some (.slice p ds.length c):=by rw [Lib.cell_of_heap h.obj];rfl
 go_enter Tryz.func177,Tryz.ntmps177
 go_wp2_with fail
 go_ret
 exact ⟨rfl,Below.refl _ _⟩
set_option maxHeartbeats 1000000 in
theorem tlen_any {n0:Nat} {W:World} {g:Nat} {t:Tk} {ds:List Dx} {va:Value} {last:Int} (h:TrkM n0 W g t ds va last):Calls Tryz.prog 112 #[.pointer (some ⟨g,0,none⟩)] W fun e w'=>e=.returned (.int .i64 (t.kept.length:Nat))∧Below W.heap.size W w':=by
 obtain ⟨p,c,rfl⟩:=h.shape
 have HK:=hid (tkept_any h)
 rw [←h.len]
 clear h
 go_enter Tryz.func112,Tryz.ntmps112
 go_wp2_with fail
 refine HK.out.mono ?_
 rintro e w1 ⟨rfl,hb1⟩
 have HB:=hid hb1
 clear hb1
 go_wp2_with fail
 go_ret
 exact ⟨rfl,HB.out⟩
end
section
open Go.RowKit
theorem eqlKy_at:EqlAt Tryz.prog 39 (fun x:Ky=>.agg (encKy x).toArray) (fun x y=>decide (x=y)) :=
 ⟨fun x y w=>by have:=Z.eql_key x.1 x.2 y.1 y.2 w;rw [Z.eqK_iff] at this;exact this,GuardAt.agg (fun x:Ky=>(encKy x).toArray) (by kernel_rfl)⟩
theorem kk_enc {w:World} {b off:Nat} {p:List Ky} (h:KK.At w b off p) (j:Nat) (hj:j<p.length) (i:Nat) (v:Value) (hv:(encKy p[j])[i]? = some v):w.cell? ⟨b,off+j * 2+i,none⟩=some v:=h j hj i v hv
set_option maxHeartbeats 1000000 in
theorem conKy_none (q1:Option Addr) (c1:Nat) (k:Ky) (w:World) :
  Calls Tryz.prog 352 #[.slice q1 0 c1,.agg (encKy k).toArray] w fun e w'=>e=.returned (.bool false)∧Below w.heap.size w w':=by
 have hix:∀W:World,Calls Tryz.prog 390 #[.slice q1 0 c1,.agg (encKy k).toArray] W fun e w'=>e=.returned (.int .i64 (-1))∧Below W.heap.size W w':=fun W=>by
  have HB:=hid ((Below.refl W.heap.size W).alloc (Nat.le_refl _) (.cells #[.string k.1,.string k.2] 39))
  obtain ⟨ka,kb⟩:=k
  simp only [encKy] at *
  go_enter Tryz.func390,Tryz.ntmps390
  go_wp2_with fail
  refine wp_loop_rounds 1 ?_
  rw [rounds_succ]
  go_wp2_with fail
  go_ret
  exact ⟨rfl,HB.out⟩
 have HX:=hid hix
 have HB:=hid ((Below.refl w.heap.size w).alloc (Nat.le_refl _) (.cells #[.string k.1,.string k.2] 39))
 clear hix
 obtain ⟨ka,kb⟩:=k
 simp only [encKy] at *
 go_enter Tryz.func352,Tryz.ntmps352
 go_wp2_with fail
 refine (HX.out _).mono ?_
 rintro e w1 ⟨rfl,hb1⟩
 have HB1:=hid (bel_then HB.out HB.out.size hb1)
 clear hb1
 go_wp2_with fail
 go_ret
 exact ⟨rfl,HB1.out⟩
theorem conKy_any (v:Value) (p:List Ky) (k:Ky) (w:World) (hv:KK.Is w v p) (hl1:p.length≤maxLen) :
  Calls Tryz.prog 352 #[v,.agg (encKy k).toArray] w fun e w'=>e=.returned (.bool (p.any fun x=>decide (x=k)))∧Below w.heap.size w w':=by
 obtain ⟨a1,k1,rfl,hd1⟩:=hv
 by_cases h1:p=[]
 ·subst h1
  exact conKy_none a1 k1 k w
 ·rcases hd1 with hd1|⟨b1,o1,rfl,x1⟩
  ·exact absurd hd1 h1
  ·unfold maxLen at hl1
   have hc:=AnyQ.slices_Contains (α:=Ky) Tryz.conKys 2 Tryz.isAgg39 Tryz.sizeOf39 encKy (fun _=>rfl) (fun x y=>decide (x=y)) eqlKy_at b1 o1 p.length k1 p k w (Nat.le_refl _) (by omega)
    (fun j hj i v hv=>by rw [getElem!_pos p j hj] at hv;exact kk_enc x1 j hj i v hv)
   change Calls Tryz.prog 352 _ _ _ at hc
   refine hc.mono ?_
   rintro e w' ⟨rfl,hb⟩
   refine ⟨ret_bool ?_,hb⟩
   rw [List.take_length]
   congr 1
   funext x
   exact decide_eq_decide.2 ⟨fun h=>h.symm,fun h=>h.symm⟩
end
section
open Go.RowKit
theorem enters_mhit:∀args w,(callFunc 353 args).run Tryz.prog w=.ok (.enter 353 args) w:=enters_of Tryz.func353 (by kernel_rfl) rfl
theorem enters_mhits:∀args w,(callFunc 307 args).run Tryz.prog w=.ok (.enter 307 args) w:=enters_of Tryz.func307 (by kernel_rfl) rfl
set_option maxHeartbeats 2000000 in
set_option maxRecDepth 100000 in
theorem hit1_any (c:Cx) (x:Rx) (M:Nat) (w:World) (hM:w.heap[M]? = some (.cells (encCx c).toArray 105 (0,0))) (hc:CIn w c) (hx:x.at w) :
  Calls Tryz.prog 353 #[.agg (encRx x).toArray,.pointer (some ⟨M,0,none⟩)] w fun e w'=>e=.returned (.bool (touchesM x.rg c.ch))∧Below w.heap.size w w':=by
 obtain ⟨hb,h1,hs⟩:=one_box w (encRx x).toArray 125
 obtain ⟨V,hV⟩:∃V,w.alloc (.cells (encRx x).toArray 125)=V:=⟨_,rfl⟩
 rw [hV] at hb h1 hs
 have hlt:M<w.heap.size:=(Array.getElem?_eq_some_iff.1 hM).1
 have h2:=(hb.block M hlt).trans hM
 have HS:=hid (mtouches12_any x c V (hx.on hb) (hc.on hb))
 have HB:=hid hb
 generalize touchesM x.rg c.ch=R at *
 obtain ⟨K,hK⟩:∃K,w.heap.size=K:=⟨_,rfl⟩
 rw [hK] at h1
 obtain ⟨xt,xp,xc,xm⟩:=x
 obtain ⟨ca,cb,wl,wp,wc,wo,il,ip,ic,io⟩:=c
 simp only [encRx,encCx,Rx.sl] at *
 have c0:V.cell? ⟨K,0,none⟩=some (.string xt):=cz h1
 have c1:V.cell? ⟨K,1,none⟩=some (.slice xp xm.length xc):=cz h1
 have d0:V.cell? ⟨M,0,none⟩=some (.string ca):=cz h2
 have d1:V.cell? ⟨M,1,none⟩=some (.string cb):=cz h2
 have d2:V.cell? ⟨M,2,none⟩=some (.bool wl):=cz h2
 have d3:V.cell? ⟨M,3,none⟩=some (.slice wp wo.length wc):=cz h2
 have d4:V.cell? ⟨M,4,none⟩=some (.bool il):=cz h2
 have d5:V.cell? ⟨M,5,none⟩=some (.slice ip io.length ic):=cz h2
 clear hM hc hx h1 h2 hb hs
 go_enter Tryz.func353,Tryz.ntmps353
 go_wp2_with fail
 try rw [hV]
 try rw [hK]
 refine HS.out.mono ?_
 rintro e w1 ⟨rfl,hb1⟩
 have HB1:=hid (bel_then HB.out HB.out.size hb1)
 clear hb1
 go_wp2_with fail
 go_ret
 exact ⟨rfl,HB1.out⟩
set_option maxHeartbeats 4000000 in
set_option maxRecDepth 100000 in
theorem mhit12_any (m:Mx) (c:Cx) (w:World) (hm:MIn w m) (hw:LenM m) (hc:CIn w c) :
  Calls Tryz.prog 308 #[.agg (encMx m).toArray,.agg (encCx c).toArray] w fun e w'=>e=.returned (.bool (hitM m.mk' c.ch))∧Below w.heap.size w w':=by
 obtain ⟨hbV,h1,h2,hs⟩:=two_boxes w (encMx m).toArray (encCx c).toArray 53 105
 obtain ⟨V,hV⟩:∃V,(w.alloc (.cells (encMx m).toArray 53)).alloc (.cells (encCx c).toArray 105)=V:=⟨_,rfl⟩
 obtain ⟨M,hM⟩:∃M,w.heap.size=M:=⟨_,rfl⟩
 rw [hV] at hbV h1 h2 hs
 rw [hM] at h1 h2 hs
 have l1:=hw.1
 have l2:=hw.2
 have HK:=hid (conKy_any m.ksl m.ks (c.a,c.b) V (hm.on hbV).keys (by unfold maxLen;omega))
 have HR:Hid (∀W',Below V.heap.size V W'→Calls Tryz.prog 295 #[m.rsl,.func (.func 353) #[] #[.pointer (some ⟨M+1,0,none⟩)]] W' fun e w'=>e=.returned (.bool (m.rs.any fun r=>touchesM r.rg c.ch))∧Below W'.heap.size W' w'):=fun W' hW =>
  hasRange_any (fun r=>touchesM r.rg c.ch) _ _ enters_mhit _ m.rs W' ((hm.on hbV).on hW).rows (by omega) (fun W x hW2 hx=>hit1_any c x (M+1) W (((bel_then hW hW.size hW2).block (M+1) (by omega)).trans h2) ((hc.on hbV).on (bel_then hW hW.size hW2)) ((((hm.on hbV).on (bel_then hW hW.size hW2))).each x hx))
 have HB:=hid hbV
 have HBX:Hid (∀W':World,Below V.heap.size V W'→(W'.cell? ⟨M,0,none⟩=some m.ksl∧W'.cell? ⟨M,1,none⟩=some m.rsl)∧W'.cell? ⟨M+1,0,none⟩=some (.string c.a)∧W'.cell? ⟨M+1,1,none⟩=some (.string c.b)):=fun W' hW=>by
  have e1:=(hW.block M (by omega)).trans h1
  have e2:=(hW.block (M+1) (by omega)).trans h2
  exact ⟨⟨by rw [Lib.cell_of_heap e1];rfl,by rw [Lib.cell_of_heap e1];rfl⟩,by rw [Lib.cell_of_heap e2];rfl,by rw [Lib.cell_of_heap e2];rfl⟩
 have HV:Hid (∀B1 B2,(m.ks.any fun x=>decide (x=(c.a,c.b)))=B1→(m.rs.any fun r=>touchesM r.rg c.ch)=B2→hitM m.mk' c.ch=(B1||B2)):=by
  rintro _ _ rfl rfl
  unfold hitM Mx.mk'
  rw [List.any_map]
  rfl
 obtain ⟨B1,hB1⟩:∃B1,(m.ks.any fun x=>decide (x=(c.a,c.b)))=B1:=⟨_,rfl⟩
 obtain ⟨B2,hB2⟩:∃B2,(m.rs.any fun r=>touchesM r.rg c.ch)=B2:=⟨_,rfl⟩
 have HE:=hid (HV.out B1 B2 hB1 hB2)
 rw [hB1] at HK
 rw [hB2] at HR
 obtain ⟨RR,hRR⟩:∃RR,hitM m.mk' c.ch=RR:=⟨_,rfl⟩
 rw [hRR] at HE ⊢
 obtain ⟨⟨a0,a1⟩,b0,b1⟩:=HBX.out V (Below.refl _ _)
 clear hm hw hc hbV h1 h2 hs HV hB1 hB2 hRR
 obtain ⟨akp,akc,aks,arp,arc,ars⟩:=m
 obtain ⟨ca,cb,wl,wp,wc,wo,il,ip,ic,io⟩:=c
 simp only [encMx,encCx,Mx.ksl,Mx.rsl,encKy] at *
 go_enter Tryz.func308,Tryz.ntmps308
 cases B1 with
 | true =>
  go_wp2_with fail
  try rw [hV]
  refine HK.out.mono ?_
  rintro e w1 ⟨rfl,hb1⟩
  obtain ⟨⟨a0,a1⟩,b0,b1⟩:=HBX.out w1 hb1
  have HB1:=hid (bel_then HB.out HB.out.size hb1)
  clear hb1 HR
  go_wp2_with fail
  go_ret
  exact ⟨ret_bool HE.out.symm,HB1.out⟩
 | false =>
  go_wp2_with fail
  try rw [hV]
  refine HK.out.mono ?_
  rintro e w1 ⟨rfl,hb1⟩
  obtain ⟨⟨a0,a1⟩,b0,b1⟩:=HBX.out w1 hb1
  have HR1:=hid (HR.out w1 hb1)
  have HB1:=hid (bel_then HB.out HB.out.size hb1)
  clear hb1 HR
  go_wp2_with fail
  try rw [hM]
  refine HR1.out.mono ?_
  rintro e w2 ⟨rfl,hb2⟩
  have HB2:=hid (bel_then HB1.out HB1.out.size hb2)
  clear hb2
  go_wp2_with fail
  go_ret
  exact ⟨ret_bool (by rw [HE.out];rfl),HB2.out⟩
set_option maxHeartbeats 2000000 in
set_option maxRecDepth 100000 in
theorem hits1_any (m:Mx) (c:Cx) (M:Nat) (w:World) (hM:w.heap[M]? = some (.cells (encMx m).toArray 53 (0,0))) (hm:MIn w m) (hw:LenM m) (hc:CIn w c) :
  Calls Tryz.prog 307 #[.agg (encCx c).toArray,.pointer (some ⟨M,0,none⟩)] w fun e w'=>e=.returned (.bool (hitM m.mk' c.ch))∧Below w.heap.size w w':=by
 obtain ⟨hb,h1,hs⟩:=one_box w (encCx c).toArray 105
 obtain ⟨V,hV⟩:∃V,w.alloc (.cells (encCx c).toArray 105)=V:=⟨_,rfl⟩
 rw [hV] at hb h1 hs
 have hlt:M<w.heap.size:=(Array.getElem?_eq_some_iff.1 hM).1
 have h2:=(hb.block M hlt).trans hM
 have HS:=hid (mhit12_any m c V (hm.on hb) hw (hc.on hb))
 have HB:=hid hb
 generalize hitM m.mk' c.ch=R at *
 obtain ⟨K,hK⟩:∃K,w.heap.size=K:=⟨_,rfl⟩
 rw [hK] at h1
 obtain ⟨akp,akc,aks,arp,arc,ars⟩:=m
 obtain ⟨ca,cb,wl,wp,wc,wo,il,ip,ic,io⟩:=c
 simp only [encMx,encCx,Mx.ksl,Mx.rsl] at *
 have c0:V.cell? ⟨M,0,none⟩=some (.slice akp aks.length akc):=cz h2
 have c1:V.cell? ⟨M,1,none⟩=some (.slice arp ars.length arc):=cz h2
 have d0:V.cell? ⟨K,0,none⟩=some (.string ca):=cz h1
 have d1:V.cell? ⟨K,1,none⟩=some (.string cb):=cz h1
 have d2:V.cell? ⟨K,2,none⟩=some (.bool wl):=cz h1
 have d3:V.cell? ⟨K,3,none⟩=some (.slice wp wo.length wc):=cz h1
 have d4:V.cell? ⟨K,4,none⟩=some (.bool il):=cz h1
 have d5:V.cell? ⟨K,5,none⟩=some (.slice ip io.length ic):=cz h1
 clear hM hc hm hw h1 h2 hb hs
 go_enter Tryz.func307,Tryz.ntmps307
 go_wp2_with fail
 try rw [hV]
 try rw [hK]
 refine HS.out.mono ?_
 rintro e w1 ⟨rfl,hb1⟩
 have HB1:=hid (bel_then HB.out HB.out.size hb1)
 clear hb1
 go_wp2_with fail
 go_ret
 exact ⟨rfl,HB1.out⟩
set_option maxHeartbeats 2000000 in
set_option maxRecDepth 100000 in
theorem mhits12_any' (m:Mx) (v:Value) (l:List Cx) (w:World) (hm:MIn w m) (hw:LenM m) (hv:ChgIn w v l) (hl:l.length<1500000000000) :
  Calls Tryz.prog 230 #[.agg (encMx m).toArray,v] w fun e w'=>BoolPost w (hitsM m.mk' (l.map Cx.ch)) e w':=by
 obtain ⟨hb,h1,hs⟩:=one_box w (encMx m).toArray 53
 obtain ⟨V,hV⟩:∃V,w.alloc (.cells (encMx m).toArray 53)=V:=⟨_,rfl⟩
 obtain ⟨M,hM⟩:∃M,w.heap.size=M:=⟨_,rfl⟩
 rw [hV] at hb h1 hs
 rw [hM] at h1 hs
 have hvV:=hv.on hb
 have HH:=hid (hasChange_any (fun x=>hitM m.mk' x.ch) 307 #[.pointer (some ⟨M,0,none⟩)] enters_mhits v l V hvV.is (by omega) (fun W x hW hx=>hits1_any m x M W ((hW.block M (by omega)).trans h1) ((hm.on hb).on hW) hw ((hvV.each x hx).on hW)))
 have HE:Hid (l.any (fun x=>hitM m.mk' x.ch)=hitsM m.mk' (l.map Cx.ch)):=by show _=_;unfold hitsM;rw [List.any_map];rfl
 have HB:=hid hb
 generalize l.any (fun x=>hitM m.mk' x.ch)=R at *
 generalize hitsM m.mk' (l.map Cx.ch)=R2 at *
 obtain ⟨p,cap,rfl⟩:∃p cap,v=.slice p l.length cap:=by obtain ⟨p,cap,h,_⟩:=hv.is;exact ⟨p,cap,h⟩
 clear hv hvV hm hw hb h1 hs
 obtain ⟨akp,akc,aks,arp,arc,ars⟩:=m
 simp only [encMx,Mx.ksl,Mx.rsl] at *
 go_enter Tryz.func230,Tryz.ntmps230
 go_wp2_with fail
 try rw [hV]
 try rw [hM]
 refine HH.out.mono ?_
 rintro e w1 ⟨rfl,hb1⟩
 have HB1:=hid (bel_then HB.out HB.out.size hb1)
 clear hb1
 go_wp2_with fail
 go_ret
 exact ⟨ret_bool HE.out,HB1.out⟩
end
section
open Go.RowKit
theorem is_drop {α:Type} {K:Kind α} {w:World} {b:Nat} {d:List α} (h:K.At w b 0 d) (k:Nat):K.At w b (k * K.k) (d.drop k):=fun i hi j u hu=>by
 rw [List.length_drop] at hi
 rw [List.getElem_drop] at hu
 have:=h (k+i) (by omega) j u hu
 rw [Nat.zero_add,Nat.add_mul] at this
 exact this
set_option maxHeartbeats 4000000 in
set_option maxRecDepth 100000 in
theorem beside_any {n0:Nat} {W:World} {g:Nat} {t:Tk} {ds:List Dx} {va:Value} {last:Int} (h:TrkM n0 W g t ds va last) (s:Int) :
  Calls Tryz.prog 229 #[.pointer (some ⟨g,0,none⟩),.int .u64 s] W fun e w'=>(∃k u,e=.returned u∧ThrP ds s k∧KDx.Is w' u (ds.drop k))∧Below W.heap.size W w':=by
 have HX:=hid (through13_any va ds s W.drew (Kind.is_kept (Kind.own_is h.all) (Below.refl _ _).drew) (by have:=h.few;omega))
 have hall:=h.all
 obtain ⟨p,c,rfl⟩:=h.shape
 have HH:=hid h
 have HCL:Hid (∀V,Below W.heap.size W V→V.cell? ⟨g,1,none⟩=some (.slice p ds.length c)):=fun V hV=>by rw [Lib.cell_of_heap (h.on hV).obj];rfl
 have a0:=HCL.out W (Below.refl _ _)
 clear h
 have HF:Hid ((p=none∧ds.length=0∧c=0)∨∃g1,p=some ⟨g1,0,none⟩∧ds.length≤c∧∀V,Below W.heap.size W V→KDx.At V g1 0 ds):=by
  rcases hall.2 with ⟨h1,h2⟩|⟨g1,c1,cur,h1,h2,h3,h4,_⟩
  ·injection h1 with e1 e2 e3
   exact Or.inl ⟨e1,h2,e3⟩
  ·injection h1 with e1 e2 e3
   subst e1 e3
   refine Or.inr ⟨g1,rfl,h4,fun V hV=>?_⟩
   obtain ⟨p9,c9,he,hd⟩:=Kind.own_is (Kind.own_on hall hV)
   injection he with e1 e2 e3
   rcases hd with hd|⟨b,off,hp,hd⟩
   ·intro i hi
    rw [hd] at hi
    cases hi
   ·rw [←e1] at hp
    injection hp with hp
    injection hp with hp1 hp2
    subst hp1 hp2
    exact hd
 clear hall
 go_enter Tryz.func229,Tryz.ntmps229
 go_wp2_with fail
 refine wp_region_held_drew (S:=fun w'=>w'.cell? ⟨g,1,none⟩=some (.slice p ds.length c)) (by kernel_rfl) a0 (fun hHeld=>?_)
 refine tkv 0 (.pointer (some ⟨g,0,none⟩)) hHeld ?_
 simp only [Act.put,sz]
 refine tkv 1 (.pointer (some ⟨g,0,none⟩)) hHeld ?_
 simp only [Act.put,sz]
 refine tkv 2 (.pointer (some ⟨g,1,none⟩)) hHeld ?_
 simp only [Act.put,sz]
 refine tkv 3 (.slice p ds.length c) hHeld ?_
 simp only [Act.put,sz]
 refine tkv 4 (.pointer (some ⟨g,0,none⟩)) hHeld ?_
 simp only [Act.put,sz]
 refine tkv 5 (.pointer (some ⟨g,0,none⟩)) hHeld ?_
 simp only [Act.put,sz]
 refine tkv 6 (.pointer (some ⟨g,1,none⟩)) hHeld ?_
 simp only [Act.put,sz]
 refine tkv 7 (.slice p ds.length c) hHeld ?_
 simp only [Act.put,sz]
 refine tkv 8 (.int .u64 s) hHeld ?_
 simp only [Act.put,sz]
 clear hHeld a0
 refine wpAnyH_ready (rs:=[9]) (by kernel_rfl) (by simp) ?_
 refine AllReadyH.cons (at_drop0 rfl) (fun K hK=>?_) AllReadyH.nil
 rw [if_pos (by rfl)]
 go_simp
 refine HX.out.mono ?_
 rintro e w1 ⟨⟨k,rfl,hk⟩,hb1⟩
 have hb:Below W.heap.size W w1:=(bel_drewN (Below.refl _ _) 1).trans hb1
 have HB:=hid hb
 have a1:=HCL.out w1 hb
 have HK:=hid hk
 have hkl:=hk.1
 clear hb1 hb hk HX
 go_wp2_with fail
 refine hK.out _ _ a1 (fun hHeld=>?_)
 clear hK K
 try simp only [Act.put,sz]
 clear a1
 have hk0:(0:Int)≤k:=by omega
 have hk1:(k:Int)≤(ds.length:Int):=by omega
 rcases HF.out with ⟨rfl,h0,rfl⟩|⟨g1,rfl,hlc,hat⟩
 ·have hk2:k=0:=by omega
  subst hk2
  rw [h0] at hHeld ⊢
  refine tkv 10 (.slice none 0 0) hHeld ?_
  simp only [Act.put,sz]
  refine tkv 11 (.slice none 0 0) hHeld ?_
  simp only [Act.put,sz]
  refine wpAnyH_done (by kernel_rfl) ?_ _
  go_wp2_with fail
  go_ret
  refine ⟨⟨0,_,rfl,HK.out,?_⟩,HB.out⟩
  rw [List.eq_nil_of_length_eq_zero h0]
  exact Kind.is_nil _ _
 ·obtain ⟨A,hA,HA⟩:∃A:Addr,(if c=k then some (⟨g1,0,none⟩:Addr) else some ⟨g1,k * 6,none⟩)=some A∧Hid (k<ds.length→A=⟨g1,k * 6,none⟩):=by
   by_cases hh:c=k
   ·exact ⟨_,if_pos hh,fun h0=>absurd h0 (by omega)⟩
   ·exact ⟨_,if_neg hh,fun _=>rfl⟩
  have hcz:(ds.length:Int)≤(c:Int):=by omega
  have HAT:=hid hat
  clear hat
  refine tkv 10 (.slice (some A) (ds.length-k) (c-k)) hHeld ?_
  simp only [Act.put,sz]
  refine tkv 11 (.slice (some A) (ds.length-k) (c-k)) hHeld ?_
  simp only [Act.put,sz]
  refine wpAnyH_done (by kernel_rfl) ?_ _
  go_wp2_with fail
  go_ret
  refine ⟨⟨k,.slice (some A) (ds.length-k) (c-k),rfl,HK.out,some A,c-k,by rw [List.length_drop],?_⟩,HB.out⟩
  by_cases hkd:k<ds.length
  ·rw [HA.out hkd]
   exact Or.inr ⟨g1,k * 6,rfl,is_drop (HAT.out w1 HB.out) k⟩
  ·exact Or.inl (List.drop_eq_nil_of_le (by omega))
end
section
open Go.RowKit Go.Lib
theorem step_append_run13 {P:Program} {ops:Array Oper} {o:Oper} {a:Act} {w:World} {K:Act→World→Prop} {Q:Exit→Act→World→Prop} {E:Prop}
  (hg:o.guard=none) (s x:Operand) (t t':TypeId) (hop:o.op=Op.call { callee:=Callee.builtin Builtin.append,args:=#[s,x],argTypes:=#[t,t'] })
  (v u:Value) (hs:a.eval s=v) (hx:a.eval x=u) {v':Value} {w':World} (hr:(Builtin.append_ #[t,t'] o.type #[v,u]).run P w=.ok v' w') (hK:K (a.put o.dst v') w') :
  if Region.wanted o (yielded ops a.tmps)=true then Oper.wp P o a w K Q else E:=by
 have hw:Region.wanted o (yielded ops a.tmps)=true:=by simp [Region.wanted,hg]
 rw [if_pos hw]
 unfold Oper.wp
 simp [execOp,hop,resolve,invoke,builtin,hs,hx,hr,Result.andThen]
 exact hK
theorem Kind.cells_drop {α:Type} (K:Kind α) (d:List α) (k:Nat):K.cells (d.drop k)=(K.cells d).drop (k * K.k):=by
 by_cases hk:k≤d.length
 ·have e:K.cells d=K.cells (d.take k)++K.cells (d.drop k):=by rw [←K.cells_append,List.take_append_drop]
  have hl:(K.cells (d.take k)).length=k * K.k:=by rw [K.cells_len,List.length_take,Nat.min_eq_left hk]
  rw [e,←hl,List.drop_left]
 ·have e1:d.drop k=[]:=List.drop_of_length_le (by omega)
  have e2:(K.cells d).drop (k * K.k)=[]:=List.drop_of_length_le (by rw [K.cells_len];exact Nat.mul_le_mul_right _ (by omega))
  rw [e1,e2]
  rfl
theorem Kind.own_block {α:Type} {K:Kind α} {N g n cap:Nat} {w:World} {o:List α} (h:K.Own N w (.slice (some ⟨g,0,none⟩) n cap) o) :
  o.length=n∧N≤g∧n≤cap∧cap≤maxLen∧∃cur:Array Value,w.heap[g]? = some (.cells cur K.T (0,0))∧cur.size=cap * K.k∧cur.toList.take (n * K.k)=K.cells o:=by
 rcases h.2 with ⟨hv,_⟩|⟨g',cap',cur,hv,h1,h2,h3,h4,h5,h6⟩
 ·cases hv
 ·injection hv with e1 e2 e3
  injection e1 with e1
  injection e1 with e1 _ _
  subst e1 e2 e3
  exact ⟨rfl,h1,h3,h4,cur,h2,h5,h6⟩
theorem Kind.own_mk {α:Type} {K:Kind α} {N g n cap:Nat} {w:World} {o:List α} {cur:Array Value} (hn:o.length=n) (h1:N≤g) (h2:w.heap[g]? = some (.cells cur K.T (0,0))) (h3:n≤cap) (h4:cap≤maxLen) (h5:cur.size=cap * K.k) (h6:cur.toList.take (n * K.k)=K.cells o) :
  K.Own N w (.slice (some ⟨g,0,none⟩) n cap) o:=by
 subst hn
 exact ⟨K.cells_len o,Or.inr ⟨g,cap,cur,rfl,h1,h2,h3,h4,h5,h6⟩⟩
theorem Kind.own_past13 {α:Type} {K:Kind α} {N g n cap:Nat} {o:List α} (vs:List Value):∀(w:World) (p:Nat),K.Own N w (.slice (some ⟨g,0,none⟩) n cap) o→o.length=n→n * K.k≤p→K.Own N (w.setCells g p vs) (.slice (some ⟨g,0,none⟩) n cap) o:=by
 induction vs with
 | nil=>intro w p h _ _;exact h
 | cons v vs ih =>
  intro w p h hn hp
  rw [World.setCells]
  refine ih _ _ ?_ hn (by omega)
  subst hn
  have h1:=(World.ownsRow.stored (show w.ownsRow N K.T K.k (.slice (some ⟨g,0,none⟩) o.length cap) o.length (K.cells o) from h) p v).1
  rw [List.set_eq_of_length_le (by rw [K.cells_len];exact hp)] at h1
  exact h1
theorem grown_sets13 {g:Nat} (vs:List Value):∀(w w0:World) (p:Nat),w0.grownBy w (some g)→w0.grownBy (w.setCells g p vs) (some g):=by
 induction vs with
 | nil=>intro w w0 p h;exact h
 | cons v vs ih=>intro w w0 p h;rw [World.setCells];exact ih _ _ _ (grown_trans h (grown_set w g p v))
theorem grown_row13 (w:World) (g:Nat) (cs:Array Value):w.grownBy (w.drew.setRow g cs) (some g) :=
 ⟨rfl,rfl,rfl,by simp [World.setRow],fun k _ hne=>setRow_other w.drew g k _ (fun e=>hne (by rw [e]))⟩
theorem Kind.own_cut13 {α:Type} {K:Kind α} {N g n cap k:Nat} {w:World} {o:List α} {cur:Array Value} (hn:o.length=n) (h1:N≤g) (h2:w.heap[g]? = some (.cells cur K.T (0,0))) (h3:n≤cap) (h4:cap≤maxLen) (h5:cur.size=cap * K.k) :
  K.Own N (w.setRow g (cur.toList.take (0 * K.k)++K.cells (o.drop k)++cur.toList.drop (0 * K.k+(K.cells (o.drop k)).length)).toArray) (.slice (some ⟨g,0,none⟩) (n-k) cap) (o.drop k):=by
 have hl:(K.cells (o.drop k)).length=(n-k) * K.k:=by rw [K.cells_len,List.length_drop,hn]
 have hc:cur.toList.length=cap * K.k:=by rw [Array.length_toList,h5]
 have hle:(n-k) * K.k≤cap * K.k:=Nat.mul_le_mul_right _ (by omega)
 refine Kind.own_mk (by rw [List.length_drop,hn]) h1 (setRow_heap w g cur _ _ _ h2) (by omega) h4 ?_ ?_
 ·rw [Nat.zero_mul,Nat.zero_add,List.take_zero,List.nil_append]
  simp only [List.size_toArray,List.length_append,List.length_drop,hl,hc]
  omega
 ·rw [Nat.zero_mul,Nat.zero_add,List.take_zero,List.nil_append]
  show List.take _ (_++_)=_
  rw [←hl,List.take_left]
theorem run_clearD (w:World) (g o n:Nat) (hn:0<n) (hc:∀j,j<n * 6→(w.cell? ⟨g,o+j,none⟩).isSome=true) (hf:∀j,j<n * 6→w.frozen? ⟨g,o+j,none⟩=false) :
  ∃zs:List Value,∀ty c,(Builtin.clear_ #[218] ty #[.slice (some ⟨g,o,none⟩) n c]).run Tryz.prog w=.ok (.tuple #[]) (w.setCells g o zs):=by
 have hv:∀w,(zeroValue 177).run Tryz.prog w=.ok (.agg #[.int .u64 0,.int .u64 0,.bool false,.slice none 0 0,.slice none 0 0,.slice none 0 0]) w:=Tryz.zeroValue177
 obtain ⟨zs,hzs⟩:∃zs,(Builtin.zeroCells (Value.agg #[.int .u64 0,.int .u64 0,.bool false,.slice none 0 0,.slice none 0 0,.slice none 0 0]).cells n).toList=zs:=⟨_,rfl⟩
 have hl:zs.length=n * 6:=by rw [←hzs,Array.length_toList,size_zeroCells];rfl
 have h1:∀v∈zs,v.oneCell'=true:=by
  intro v hm
  rw [←hzs] at hm
  simp only [Builtin.zeroCells,Array.toList_map,List.mem_map] at hm
  obtain ⟨i,_,rfl⟩:=hm
  have h3:i % (Value.agg #[.int .u64 0,.int .u64 0,.bool false,.slice none 0 0,.slice none 0 0,.slice none 0 0]).cells.size<6:=Nat.mod_lt _ (by decide)
  obtain ⟨m,hm⟩:∃m,i % (Value.agg #[.int .u64 0,.int .u64 0,.bool false,.slice none 0 0,.slice none 0 0,.slice none 0 0]).cells.size=m:=⟨_,rfl⟩
  rw [hm] at h3 ⊢
  rcases (show m=0∨m=1∨m=2∨m=3∨m=4∨m=5 by omega) with rfl|rfl|rfl|rfl|rfl|rfl<;>rfl
 refine ⟨zs,fun ty c=>?_⟩
 have hst:=run_storeCells_cells (P:=Tryz.prog) g o zs 0 w (by rw [hl];simpa using hc) (by rw [hl];simpa using hf) h1
 simp only [Nat.add_zero] at hst
 obtain ⟨m,rfl⟩:∃m,n=m+1:=⟨n-1,by omega⟩
 simp [Builtin.clear_,run_underlying Tryz.underlying218,hv,hzs,hst]
set_option maxHeartbeats 4000000 in
set_option maxRecDepth 100000 in
theorem delD_any (N g n cap k:Nat) (o:List Dx) (w:World) (h:KDx.Own N w (.slice (some ⟨g,0,none⟩) n cap) o) (hk:0<k) (hkn:k≤n) :
  Calls Tryz.prog 236 #[.slice (some ⟨g,0,none⟩) n cap,.int .i64 0,.int .i64 (k:Int)] w fun e w' =>
   e=.returned (.slice (some ⟨g,0,none⟩) (n-k) cap)∧KDx.Own N w' (.slice (some ⟨g,0,none⟩) (n-k) cap) (o.drop k)∧w.grownBy w' (some g):=by
 obtain ⟨i0,hi0,hz0,hz1,hz2⟩:=info_parts Tryz.infoDx13
 obtain ⟨hn,hNg,hnc,hcm,cur,hg,hs,ht⟩:=Kind.own_block h
 have hnl:(KDx.cells (o.drop k)).length=(n-k) * i0.size:=by rw [KDx.cells_len,List.length_drop,hn,hz1];rfl
 obtain ⟨news,hnews⟩:∃news,KDx.cells (o.drop k)=news:=⟨_,rfl⟩
 have hsrc:∀j u,news[j]? = some u→w.drew.cell? ((⟨g,k * 6,none⟩:Addr).add j)=some u:=fun j u hu=>by
  rw [addr_add]
  rw [←hnews,KDx.cells_drop,List.getElem?_drop] at hu
  show w.cell? _=_
  rw [cell_of_row w g _ cur _ _ hg,←Array.getElem?_toList]
  have hj:k * KDx.k+j<n * KDx.k:=by
   have:=(List.getElem?_eq_some_iff.1 hu).1
   rwa [KDx.cells_len,hn] at this
  rw [←ht,List.getElem?_take,if_pos hj] at hu
  exact hu
 have hones:∀u∈news,u.oneCell'=true:=by rw [←hnews];exact KDx.cells_ones _
 have hrd:=Kind.own_cut13 (K:=KDx) (w:=w.drew) (k:=k) hn hNg hg hnc hcm hs
 rw [hnews] at hnl hrd
 have hrun:∀(A:Addr) (c:Nat) (ty:TypeId),(k<n→A=⟨g,k * 6,none⟩)→(Builtin.append_ #[218,218] ty #[.slice (some ⟨g,0,none⟩) 0 cap,.slice (some A) (n-k) c]).run Tryz.prog w.drew =
   .ok (.slice (some ⟨g,0,none⟩) (n-k) cap) (w.drew.setRow g (cur.toList.take (0 * KDx.k)++news++cur.toList.drop (0 * KDx.k+news.length)).toArray):=fun A c ty hA=>by
  have hsrc':∀j u,news[j]? = some u→w.drew.cell? (A.add j)=some u:=fun j u hu=>by
   have hj:=(List.getElem?_eq_some_iff.1 hu).1
   rw [hnl] at hj
   have h0:k<n:=Nat.lt_of_not_le fun e=>by rw [Nat.sub_eq_zero_of_le e] at hj;simp at hj
   rw [hA h0]
   exact hsrc j u hu
  have:=run_append_room (P:=Tryz.prog) w.drew 218 ty 177 i0 Tryz.underlying218 hi0 g 0 cap cur hg A (n-k) c news hnl hsrc' hones (by omega) (by rw [hnl,hz1,hs];show 0 * 6+(n-k) * 6≤cap * 6;omega)
  rw [Nat.zero_add,hz1] at this
  exact this
 obtain ⟨W1,hW1⟩:∃W1,w.drew.setRow g (cur.toList.take (0 * KDx.k)++news++cur.toList.drop (0 * KDx.k+news.length)).toArray=W1:=⟨_,rfl⟩
 rw [hW1] at hrun hrd
 have hg1:w.grownBy W1 (some g):=by rw [←hW1];exact grown_row13 w g _
 obtain ⟨_,_,_,_,cur1,hgc1,hs1,_⟩:=Kind.own_block hrd
 obtain ⟨zs,hcl⟩:∃zs:List Value,∀ty c,(Builtin.clear_ #[218] ty #[.slice (some ⟨g,(n-k) * 6,none⟩) k c]).run Tryz.prog W1=.ok (.tuple #[]) (W1.setCells g ((n-k) * 6) zs):=by
  have hs1':cur1.size=cap * 6:=hs1
  refine run_clearD W1 g ((n-k) * 6) k hk (fun j hj=>?_) fun j hj=>Lib.frozen_of_heap hgc1 _
  rw [cell_of_row W1 g _ cur1 _ _ hgc1,Array.getElem?_eq_getElem (by omega)];rfl
 have HRD:=hid (Kind.own_past13 zs W1 ((n-k) * 6) hrd (by rw [List.length_drop,hn]) (Nat.le_refl _))
 have HG:=hid (grown_sets13 zs W1 w ((n-k) * 6) hg1)
 have HRUN:=hid hrun
 have mixed:Tryz.prog.follows .mixedOrders=true:=by kernel_rfl
 obtain ⟨A,hA,HA2⟩:∃A:Addr,(if cap=k then some (⟨g,0,none⟩:Addr) else some ⟨g,k * 6,none⟩)=some A∧Hid (k<n→A=⟨g,k * 6,none⟩):=by
  by_cases hh:cap=k
  ·exact ⟨_,if_pos hh,fun h0=>absurd h0 (by omega)⟩
  ·exact ⟨_,if_neg hh,fun _=>rfl⟩
 have hiz1:(0:Int)≤(k:Int):=by omega
 have hin:(k:Int)≤(n:Int):=by omega
 have hic:(0:Int)≤(cap:Int):=by omega
 have hnc':(n:Int)≤(cap:Int):=by omega
 have hne:((0:Int)==(k:Int))=false:=by rw [beq_eq_false_iff_ne];omega
 have hn1:n-(n-k)=k:=by omega
 have hnz:((n-k:Nat):Int)≤(n:Int):=by omega
 have hnz0:(0:Int)≤((n-k:Nat):Int):=by omega
 have hcn1:¬ (cap=n-k):=by omega
 clear hrun hrd hg1 hgc1 hs1 hsrc hones hnl hnews hW1 hg hs ht h hz0 hz2 hi0 hz1
 go_enter Tryz.func236,Tryz.ntmps236
 go_wp2_with fail
 go_region_law_o (refine step_append_run13 rfl (.tmp 22) (.tmp 25) 218 218 rfl (.slice (some ⟨g,0,none⟩) 0 cap) (.slice (some A) (n-k) (cap-k)) (by simp [Act.eval,Act.put]) (by simp [Act.eval,Act.put]) (HRUN.out A _ _ HA2.out) ?_)
 go_wp2_with fail
 go_ret
 exact ⟨rfl,HRD.out,HG.out⟩
end
section
open Go.RowKit
theorem typ_ne {w:World} {k:Nat} {cs cs':Array Value} {T T':TypeId} {f f':Nat × Nat} (h:w.heap[k]? = some (.cells cs T f)) (h':w.heap[k]? = some (.cells cs' T' f')) (hne:T≠T'):False:=by
 rw [h] at h'
 injection h' with h'
 injection h' with _ h'
 exact hne h'
theorem DOwn.typ {N:Nat} {w:World} {x:Dx} (h:DOwn N w x) (k:Nat) (hk:BlkD13 x k) {cs:Array Value} {T:TypeId} {f:Nat × Nat} (hc:w.heap[k]? = some (.cells cs T f)) (hT:T≠39∧T≠125∧T≠122∧T≠105∧T≠131∧T≠9):False:=by
 obtain ⟨h1,h2,h3,h4,h5,h6⟩:=hT
 have hj:∀{u:Value} {o:List Fx},OwnJ N w u o→BlkX u o k→False:=fun {u o} hx hb=>by
  rcases hb with hb|⟨f,hf,hb⟩
  ·obtain ⟨cs',q⟩:=own_type hx.1.1 hb
   exact typ_ne hc q h5
  ·obtain ⟨cs',q⟩:=own_type (show w.ownsRow N 9 1 f.sl f.txt.length (f.txt.map Value.string) from hx.1.2 f hf) hb
   exact typ_ne hc q h6
 rcases hk with hk|hk|⟨r,hr,hk⟩|hk|⟨c,hc',hk|hk⟩
 ·obtain ⟨cs',q⟩:=own_type (show w.ownsRow N 39 KK.k x.m.ksl x.m.ks.length (KK.cells x.m.ks) from h.mrk.keys) hk
  exact typ_ne hc q h1
 ·obtain ⟨cs',q⟩:=own_type (show w.ownsRow N 125 KRx.k x.m.rsl x.m.rs.length (KRx.cells x.m.rs) from h.mrk.rows) hk
  exact typ_ne hc q h2
 ·obtain ⟨cs',q⟩:=own_type (show w.ownsRow N 122 KM.k r.sl r.tm.length (KM.cells r.tm) from (h.mrk.each r hr).1) hk
  exact typ_ne hc q h3
 ·obtain ⟨cs',q⟩:=own_type (show w.ownsRow N 105 KCx.k x.csl x.cs.length (KCx.cells x.cs) from h.row) hk
  exact typ_ne hc q h4
 ·exact hj (h.each c hc').was hk
 ·exact hj (h.each c hc').is hk
end
section
open Go.RowKit
section
variable {n0:Nat} {W:World} {g:Nat} {t:Tk} {ds:List Dx} {va:Value} {last:Int}
theorem TrkM.row_ne (h:TrkM n0 W g t ds va last) (k:Nat) (hk:va.ownBlock=some k):k≠g:=fun e=>by
 subst e
 obtain ⟨cs',q⟩:=own_type (show W.ownsRow n0 177 KDx.k va ds.length (KDx.cells ds) from h.all) hk
 exact typ_ne h.obj q (by decide)
theorem TrkM.each_ne (h:TrkM n0 W g t ds va last) {d:Dx} (hd:d∈ds) (k:Nat) (hk:BlkD13 d k):¬ (k=g∨va.ownBlock=some k):=fun e=>by
 rcases e with e|e
 ·subst e
  exact (h.each d hd).1.typ k hk h.obj (by decide)
 ·obtain ⟨cs',q⟩:=own_type (show W.ownsRow n0 177 KDx.k va ds.length (KDx.cells ds) from h.all) e
  exact (h.each d hd).1.typ k hk q (by decide)
theorem TrkM.each_fr {W':World} (h:TrkM n0 W g t ds va last) (f:Fr (fun b=>b=g∨va.ownBlock=some b) W W') {d:Dx} (hd:d∈ds):QD.E n0 W' d:=QD.fr (h.each d hd) f fun k hk=>h.each_ne hd k hk
theorem TrkM.set (h:TrkM n0 W g t ds va last) (j:Nat) (u:Value):KDx.Own n0 (W.setCell ⟨g,j,none⟩ u) va ds∧∀d∈ds,QD.E n0 (W.setCell ⟨g,j,none⟩ u) d:=by
 have f:=fr_set W g j u
 exact ⟨f.row (show W.ownsRow n0 KDx.T KDx.k va ds.length (KDx.cells ds) from h.all) fun k hk=>h.row_ne k hk,fun d hd=>QD.fr (h.each d hd) f fun k hk e=>h.each_ne hd k hk (Or.inl e)⟩
end
def TrkPost (n0:Nat) (W:World) (g:Nat) (ds:List Dx) (va:Value) (t':Tk) (w':World):Prop :=
 ∃ds' va' last',TrkM n0 w' g t' ds' va' last'∧Fr (BlkTr g ds va) W w'∧∀k,BlkTr g ds' va' k→BlkTr g ds va k∨W.heap.size≤k
set_option maxHeartbeats 4000000 in
set_option maxRecDepth 100000 in
theorem tdrop_any {n0:Nat} {W:World} {g:Nat} {t:Tk} {ds:List Dx} {va:Value} {last:Int} (h:TrkM n0 W g t ds va last) (s:Int) :
  Calls Tryz.prog 154 #[.pointer (some ⟨g,0,none⟩),.int .u64 s] W fun e w'=>e=.returned (.int .i64 ((t.kept.length:Int)-((dropT t s).kept.length:Int)))∧TrkPost n0 W g ds va (dropT t s) w':=by
 have HK:=hid (tkept_any h)
 have HTH:Hid (∀V,Below W.heap.size W V→Calls Tryz.prog 237 #[va,.int .u64 s] V fun e w'=>(∃k:Nat,e=.returned (.int .i64 k)∧ThrP ds s k)∧Below V.heap.size V w'):=fun V hV=>through13_any va ds s V (Kind.own_is (h.on hV).all) (by have:=h.few;omega)
 have hall:=h.all
 obtain ⟨p,c,rfl⟩:=h.shape
 have HH:=hid h
 have HNUM:Hid (∀k,ThrP ds s k→((k:Int)=(t.kept.length:Int)-((dropT t s).kept.length:Int))∧(dropT t s).kept=t.kept.drop k):=fun k hk=>by
  have hc:=h.cut hk
  have e:=hc.kept t rfl
  refine ⟨?_,e⟩
  rw [e,List.length_drop]
  have:=hc.le
  omega
 have hfew:=h.few
 clear h
 go_enter Tryz.func154,Tryz.ntmps154
 go_wp2_with fail
 refine HK.out.mono ?_
 rintro e w1 ⟨rfl,hb1⟩
 have HB1:=hid hb1
 have HT1:=hid (HTH.out w1 hb1)
 clear hb1 HTH HK
 go_wp2_with fail
 refine HT1.out.mono ?_
 rintro e w2 ⟨⟨k,rfl,hk⟩,hb2⟩
 have hb:Below W.heap.size W w2:=bel_then HB1.out HB1.out.size hb2
 obtain ⟨hnum,hkd⟩:=HNUM.out k hk
 have h2:=HH.out.on hb
 have HN:=hid hnum
 have hkl:=hk.1
 have HOK:Hid (TrkM n0 w2 g t ds (.slice p ds.length c) last∧Below W.heap.size W w2∧(dropT t s).kept=(ds.drop k).map Dx.dn):=⟨h2,hb,by rw [hkd,←HH.out.kept,List.map_drop]⟩
 clear hnum hkd hk hb2 hb HT1 HNUM
 by_cases hk0:k=0
 ·subst hk0
  clear h2 hall
  go_wp2_with fail
  go_ret
  refine ⟨by rw [←HN.out];rfl,ds,_,last,?_,Fr.of_below HOK.out.2.1,fun k hk=>Or.inl hk⟩
  obtain ⟨q,_,q2⟩:=HOK.out
  exact ⟨q.obj,q.low,q.all,q.each,by rw [q2];rfl,q.hlast,q.lastb,q.sumb,ok_dropT q.ok s,q.room⟩
 ·have hkp:0<k:=by omega
  have hkz:((k:Int) > 0):=by omega
  obtain ⟨g1,rfl⟩:∃g1,p=some ⟨g1,0,none⟩:=by
   rcases hall.2 with ⟨_,h2⟩|⟨g1,c1,cur,h1,_⟩
   ·omega
   ·injection h1 with e1
    exact ⟨g1,e1⟩
  clear hall
  have HDL:=hid (delD_any n0 g1 ds.length c k ds w2 h2.all hkp hkl)
  have z0:w2.cell? ⟨g,1,none⟩=some (.slice (some ⟨g1,0,none⟩) ds.length c):=by rw [Lib.cell_of_heap h2.obj];rfl
  clear h2
  go_wp2_with fail
  clear z0
  refine HDL.out.mono ?_
  rintro e w3 ⟨rfl,ho3,hg3⟩
  have h2:=HOK.out.1
  have hob:(Value.slice (some ⟨g1,0,none⟩) ds.length c).ownBlock=some g1:=by
   unfold Value.ownBlock
   simp
  have hgg:g≠g1:=fun e=>h2.row_ne g1 hob e.symm
  have f3:Fr (fun b=>b=g1) w2 w3:=Fr.of_grown hg3 fun k hk=>by simpa using hk.symm
  have e3:w3.heap[g]? = _:=(f3.block g h2.lt hgg).trans h2.obj
  obtain ⟨W4,hW4⟩:∃W4,w3.setCell ⟨g,1,none⟩ (.slice (some ⟨g1,0,none⟩) (ds.length-k) c)=W4:=⟨_,rfl⟩
  have e4:W4.heap[g]? = some (.cells #[.int .i64 (t.most:Nat),.slice (some ⟨g1,0,none⟩) (ds.length-k) c,.int .u64 t.sum,.int .u64 last] 220 (0,0)):=by
   rw [←hW4]
   exact heap_setCell_same _ g 1 _ _ _ e3
  have f4:Fr (fun b=>b=g) w3 W4:=by rw [←hW4];exact fr_set w3 g 1 _
  have f24:Fr (fun b=>b=g∨(Value.slice (some ⟨g1,0,none⟩) ds.length c).ownBlock=some b) w2 W4 :=
   (f3.mono fun k hk=>Or.inr (by rw [hk];exact hob)).then f4 fun k hk=>Or.inl (Or.inl hk)
  have ho4:KDx.Own n0 W4 (.slice (some ⟨g1,0,none⟩) (ds.length-k) c) (ds.drop k) :=
   f4.row (show w3.ownsRow n0 KDx.T KDx.k (.slice (some ⟨g1,0,none⟩) (ds.length-k) c) (ds.drop k).length (KDx.cells (ds.drop k)) from ho3) fun b hb e=>by
    unfold Value.ownBlock at hb
    simp at hb
    omega
  have HF:Hid (TrkPost n0 W g ds (.slice (some ⟨g1,0,none⟩) ds.length c) (dropT t s) W4):=by
   refine ⟨ds.drop k,_,last,⟨e4,h2.low,ho4,fun d hd=>h2.each_fr f24 (List.mem_of_mem_drop hd),HOK.out.2.2.symm,h2.hlast,h2.lastb,h2.sumb,ok_dropT h2.ok s,h2.room⟩,?_,fun b hb=>Or.inl ?_⟩
   ·exact (Fr.of_below HOK.out.2.1).then f24 fun b hb=>Or.inl (hb.imp id Or.inl)
   ·rcases hb with hb|hb|⟨d,hd,hb⟩
    ·exact Or.inl hb
    ·refine Or.inr (Or.inl ?_)
     rw [hob]
     unfold Value.ownBlock at hb
     simp at hb
     rw [hb]
    ·exact Or.inr (Or.inr ⟨d,List.mem_of_mem_drop hd,hb⟩)
  have z1:w3.cell? ⟨g,1,none⟩=some (.slice (some ⟨g1,0,none⟩) ds.length c):=cz e3
  have y1:=Lib.frozen_of_heap e3 1
  clear h2 hob hgg f3 e3 e4 f4 f24 ho4 ho3 hg3 HDL
  go_wp2_with fail
  try rw [hW4]
  go_ret
  exact ⟨by rw [←HN.out];rfl,HF.out⟩
end
end Go.Proofs.YtmhlcnmfbolgdaaGreat
