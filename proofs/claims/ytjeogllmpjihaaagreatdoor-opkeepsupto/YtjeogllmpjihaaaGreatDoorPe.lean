/-
  Texts of this claim, one behind the other: Oqq Opy Omr Oqm Oqu Oqy Oqz Oqi Oxe Psh Oxr Opp Oys Oyr Ozk Opq.
-/
import Derived.Test.YtjeogllmpjihaaaGreatDoorPd
import Derived.Deep.MidRow
set_option maxHeartbeats 20000000
set_option maxRecDepth 100000
namespace Go.Proofs.YtjeogllmpjihaaaGreatDoor
section
open Go.RowKit Go.Lib
attribute [local go_sem] Oper.semAt_some
def xV:List (List UInt8)->Option (List En)
 | []=>some []
 | l::ls=>(kQ l).bind fun e=>(xV ls).map (e :: ·)
theorem mF (a b:List (List UInt8)):xV (a++b)=(xV a).bind fun x=>(xV b).map (x ++ ·):=by
 induction a with
 | nil=>simp [xV]
 | cons l a ih =>
  simp only [List.cons_append,xV]
  cases kQ l with
  | none=>rfl
  | some o =>
   simp only [Option.bind_some,ih]
   cases xV a with
   | none=>rfl
   | some x=>cases xV b<;>simp
theorem dA:∀{ls:List (List UInt8)} {es:List En},xV ls=some es->es.length=ls.length
 | [],es,h=>by cases h;rfl
 | l::ls,es,h=>by
  simp only [xV] at h
  cases ho:kQ l with
  | none=>rw [ho] at h;cases h
  | some e =>
   rw [ho] at h
   cases hr:xV ls with
   | none=>rw [hr] at h;cases h
   | some gs=>rw [hr] at h;cases h;simp [dA hr]
def opP (l:List UInt8):Option (List En):=(xV (wY l)).bind fun es=>if es.length<=16 then some es else none
def jI:List UInt8:=[111,110,99,101,32]
def opR (l:List UInt8):Option (Bool × List En):=(opP (trimPrefix l jI)).map fun es=>(hasPrefix l jI,es)
theorem zL3 {l:List UInt8} {a:List (List UInt8)} (hp:a <+: wY l) (h:xV a=none∨16<a.length):opP l=none:=by
 obtain ⟨r,hr⟩:=hp;unfold opP;rw [<-hr,mF]
 rcases h with h|h
 ·rw [h];rfl
 ·cases ha:xV a with
  | none=>rfl
  | some x =>
   have:=dA ha
   cases hb:xV r with
   | none=>rfl
   | some y =>
    simp only [Option.bind_some,Option.map_some];rw [if_neg];rw [List.length_append];omega
def bI (w:World) (l:List UInt8) (e:Ending) (w':World):Prop :=
 (∃(once:Bool) (v:Value) (d:List Ex) (c:Int),e=.returned (.tuple #[.agg #[.bool once,v],.int .i64 c])/\KEx.Own w.heap.size w' v d/\(∀x∈d,xI w.heap.size x w') /\
  ((c=0/\opR l=some (once,d.map Ex.en))∨(c=4/\once=false/\d=[]/\opR l=none)))/\Below w.heap.size w w'
def zOF {M:Nat} (b:Bool) (w:World) (N:Nat) (pre:List (Wd M)) (W:World):Prop :=
 ∃v d,W.heap[w.heap.size+2]? = some (.cells #[.bool b,v] 25 (0,0))/\KEx.Own (N+2) W v d/\(∀x∈d,xI (N+2) x W)/\xV (zU pre)=some (d.map Ex.en)/\d.length<=16 /\
  W.heap[w.heap.size]? = some (.cells #[.bool false,.slice none 0 0] 25 (0,0))/\W.heap[w.heap.size+1]? = some (.cells #[.int .i64 0] 26 (0,0))/\Below w.heap.size w W/\N+2<=W.heap.size/\w.heap.size+6<=N
def zNk {M:Nat} (w:World) (N:Nat) (c:Code) (pre:List (Wd M)) (W:World):Prop :=
 c=.ret/\(xV (zU pre)=none∨16<(zU pre).length)/\W.heap[w.heap.size]? = some (.cells #[.bool false,.slice none 0 0] 25 (0,0))/\W.heap[w.heap.size+1]? = some (.cells #[.int .i64 4] 26 (0,0))/\Below w.heap.size w W/\w.heap.size+6<=N
theorem xI.far {N R:Nat} {w w':World} {x:Ex} (h:xI N x w) (hg:w.grownBy w' (some R)) (hR:R<N):xI N x w' :=
 ⟨h.val.far hg hR,h.fit,zE.own_farE h.eds hg hR,h.efit,zE.own_farE h.prd hg hR,h.pfit,h.rng⟩
theorem xI.weak {N M:Nat} {w:World} {x:Ex} (h:xI N x w) (hM:M<=N):xI M x w :=
 ⟨⟨own_weak h.val.1 hM,fun y hy=>own_weak (h.val.2 y hy) hM⟩,h.fit,zE.own_weak h.eds hM,h.efit,zE.own_weak h.prd hM,h.pfit,h.rng⟩
theorem xI.grown {N M:Nat} {w w':World} {x:Ex} {v:Value} {d:List Ex} (h:xI N x w) (hv:KEx.Own M w v d) (hg:w.grownBy w' v.ownBlock):xI N x w' :=
 ⟨⟨qU h.val.1 hv (by decide) hg,fun y hy=>qU (h.val.2 y hy) hv (by decide) hg⟩,h.fit,qU (show w.ownsRow N KE.T KE.k x.es x.eo.length (KE.cells x.eo) from h.eds) hv (by decide) hg,h.efit,
  qU (show w.ownsRow N KM.T KM.k x.ps x.po.length (KM.cells x.po) from h.prd) hv (by decide) hg,h.pfit,h.rng⟩
theorem Tryz.infoEnt:(Tryz.prog.info? 42).map (fun i=>(i.zero,i.size,i.bytes))=some (some (.agg #[.int .i64 0,.string ⟨#[]⟩,.string ⟨#[]⟩,.string ⟨#[]⟩,.int .i64 0,.slice none 0 0,.slice none 0 0,.slice none 0 0,.int .u64 0,.int .i64 0]),10,152):=by kernel_rfl
theorem zL {w:World} {B:Nat} {u v:Value} {T:TypeId} (h:w.heap[B]? = some (.cells #[u,v] T (0,0))):w.cell? ⟨B,0,none⟩=some u/\w.cell? ⟨B,1,none⟩=some v/\w.frozen? ⟨B,0,none⟩=false/\w.frozen? ⟨B,1,none⟩=false :=
 ⟨by rw [Lib.cell_of_heap h];rfl,by rw [Lib.cell_of_heap h];rfl,Lib.frozen_of_heap h 0,Lib.frozen_of_heap h 1⟩
theorem gY {W W':World} {R M:Nat} {u v:Value} {e:Value} {d:List Ex} (h:W.heap[R]? = some (.cells #[u,v] 25 (0,0))) (hg:W.grownBy W' e.ownBlock) (ho:KEx.Own M W e d) (ht:KEx.T≠25):W'.heap[R]? = some (.cells #[u,v] 25 (0,0)):=by
 refine (hg.block R (Array.getElem?_eq_some_iff.1 h).1 fun q=>?_).trans h;exact qN (show W.ownsRow M KEx.T KEx.k e d.length (KEx.cells d) from ho) h ht R q.symm rfl
theorem KEx.newsN2 (W:World) (y:Ex):∀j u,(KEx.cells [y])[j]? = some u->((W.alloc (.cells (KEx.enc y).toArray KEx.T)).alloc (.cells (KEx.enc y).toArray KEx.T)).cell? ((⟨W.heap.size+1,0,none⟩:Addr).add j)=some u:=by
 have h:=KEx.news (W.alloc (.cells (KEx.enc y).toArray KEx.T)) y;rw [World.size_alloc] at h;exact h
theorem zDl {W:World} {R:Nat} {u v k:Value} (h0:W.heap[R]? = some (.cells #[u,v] 25 (0,0))) (h1:W.heap[R+1]? = some (.cells #[k] 26 (0,0))) (a c n:Value) :
  (((W.setCell ⟨R,0,none⟩ a).setCell ⟨R,1,none⟩ c).setCell ⟨R+1,0,none⟩ n).heap[R]? = some (.cells #[a,c] 25 (0,0)) /\
  (((W.setCell ⟨R,0,none⟩ a).setCell ⟨R,1,none⟩ c).setCell ⟨R+1,0,none⟩ n).heap[R+1]? = some (.cells #[n] 26 (0,0)) /\
  ∀B,B≠R->B≠R+1->(((W.setCell ⟨R,0,none⟩ a).setCell ⟨R,1,none⟩ c).setCell ⟨R+1,0,none⟩ n).heap[B]? = W.heap[B]?:=by
 have b0:(W.setCell (aa R 0) a).heap[R]? = some (.cells #[a,v] 25 (0,0)):=heap_setCell_same _ R 0 _ _ a h0;have b1:((W.setCell (aa R 0) a).setCell (aa R 1) c).heap[R]? = some (.cells #[a,c] 25 (0,0)):=heap_setCell_same _ R 1 _ _ c b0;refine ⟨(Below.heap_setCell _ _ _ _ (by show R≠R+1;omega)).trans b1,?_,fun B h1 h2=>?_⟩
 ·refine heap_setCell_same _ (R+1) 0 #[k] _ n ?_;exact ((Below.heap_setCell _ _ _ _ (by show R+1≠R;omega)).trans (Below.heap_setCell _ _ _ _ (by show R+1≠R;omega))).trans h1
 ·exact (Below.heap_setCell _ _ _ _ h2).trans ((Below.heap_setCell _ _ _ _ h1).trans (Below.heap_setCell _ _ _ _ h1))
theorem kS (s:ByteArray) (w:World) (hv:wQ w) (hs:s.size<=4294967000) :
  Calls Tryz.prog 6 #[.string s] w fun e w'=>bI w s.data.toList e w':=by
 refine (callsIn_wide (n:=3)).1 ?_;refine callsIn_of_wp_marks Tryz.func6 rfl trivial ?_ rfl;simp only [Tryz.ntmps6,List.size_toArray,List.length_cons,List.length_nil,Nat.reduceAdd,Nat.reduceSub,Array.replicate_succ,Array.replicate_zero,List.push_toArray,List.append_toArray,List.nil_append,List.cons_append];obtain ⟨t,ht⟩:∃t:ByteArray,t=⟨(trimPrefix s.data.toList jI).toArray⟩:=⟨_,rfl⟩;obtain ⟨b,hb⟩:∃b:Bool,b=hasPrefix s.data.toList jI:=⟨_,rfl⟩
 have HCP:Hid (∀W:World,Calls Tryz.prog 15 #[tq s,tq ⟨#[111,110,99,101,32]⟩] W fun e w'=>e=.returned (.tuple #[tq t,.bool b])/\w'=W):=hid fun W=>by
  rw [ht,hb];exact Tryz.strings_CutPrefix s _ W
 have HOP:Hid (opR s.data.toList=(opP t.data.toList).map fun es=>(b,es)):=hid (by rw [ht,hb];rfl)
 have hts:t.size<=4294967000:=by
  have h1:=zBp s.data.toList jI;have e1:t.size=(trimPrefix s.data.toList jI).length:=by rw [ht];rfl
  have e2:s.data.toList.length=s.size:=rfl;omega
 clear ht hb
 gi_wp2_with (first
  | (refine ⟨trivial,?_⟩;gi_at_call 15;refine (callsIn_wide.2 (HCP.out _)).mono ?_;rintro e w1 ⟨rfl,rfl⟩)
  | (refine ⟨trivial,?_⟩;gi_at_call 16;refine (callsIn_wide.2 (zCZ _ _)).mono ?_;rintro e w3 ⟨rfl,hbx,hb3,hs3⟩))
 simp only [World.size_alloc] at hbx hb3 hs3;have hb30:Below w.heap.size w w3:=((((Below.refl _ w).alloc (Nat.le_refl _) _).alloc (by simp) _).alloc (by simp;omega) _).trans (hb3.mono (by omega))
 have g0:w3.heap[w.heap.size]? = some (.cells #[.bool false,sc none 0 0] 25 (0,0)):=by
  rw [hb3.block _ (by omega),Below.heap_alloc _ _ _ (by simp;omega),Below.heap_alloc _ _ _ (by simp)];exact heap_alloc_new w _
 have g1:w3.heap[w.heap.size+1]? = some (.cells #[ii 0] 26 (0,0)):=by
  rw [hb3.block _ (by omega),Below.heap_alloc _ _ _ (by simp)];have:=heap_alloc_new (w.alloc (.cells #[.bool false,sc none 0 0] 25)) (.cells #[ii 0] 26)
  simpa using this
 have g2:w3.heap[w.heap.size+2]? = some (.cells #[.bool b,sc none 0 0] 25 (0,0)):=by
  rw [hb3.block _ (by omega)];have:=heap_alloc_new ((w.alloc (.cells #[.bool false,sc none 0 0] 25)).alloc (.cells #[ii 0] 26)) (.cells #[.bool b,sc none 0 0] 25)
  simpa using this
 have hN6:w3.heap.size=w.heap.size+6:=by omega
 have ST0:Hid (∀o1 o2,zOF (M:=t.size) b w w3.heap.size [] ((w3.alloc o1).alloc o2)):=fun o1 o2=>by
  have ha:∀k,k<w3.heap.size->((w3.alloc o1).alloc o2).heap[k]? = w3.heap[k]?:=fun k hk=>by
   rw [Below.heap_alloc _ _ _ (by simp;omega),Below.heap_alloc _ _ _ hk]
  exact ⟨sc none 0 0,[],(ha _ (by omega)).trans g2,KEx.own_nil _ _,(fun x hx=>by cases hx),rfl,by simp,(ha _ (by omega)).trans g0,(ha _ (by omega)).trans g1,
   (hb30.alloc hb30.size _).alloc (by have:=hb30.size;simp;omega) _,by simp,by omega⟩
 have HMX:Hid (zA0 w3):=hid (hv.on hb30).max
 have hgm:(2:Nat)<w.heap.size:=by
  obtain ⟨m,hm⟩:=hv.max;exact gP hm
 have HBX:=hid hbx;have HV:=hid hv;have hen:=enters_of (P:=Tryz.prog) Tryz.func61 (by kernel_rfl) rfl;clear hbx hv g0 g1 g2 hb3 hs3
 refine uA (w:=w3) rfl (by decide) (gf:=61) (lb:=#[.pointer (some (aa (w.heap.size+1+1+1+1) 0)),.pointer (some (aa (w.heap.size+1+1+1) 0)),.pointer (some (aa (w.heap.size+1+1+1+2) 0))]) rfl trivial hen (Bs:=w.heap.size+1+1+1) (by omega)
  (zHJ 2 (by decide) t.size _ _ _ t (Nat.le_refl _) hts w3 HBX.out HMX.out (by omega)) ?hKt ?hKb (fun _=>rfl) (zOF b w w3.heap.size) (zNk w w3.heap.size) ?hIp ?hIb ?hXp ST0.out
  (fun x=>{ tmps:=#[tq s,undef,.pointer (some (aa w.heap.size 0)),.pointer (some (aa (w.heap.size+1) 0)),tq t,.bool b,.pointer (some (aa (w.heap.size+1+1) 0)),tq x.1,undef,undef,.tuple #[tq t,.bool b],tq s,.tuple #[tq t,.bool b],
   tq t,.bool b,.bool b,.agg #[.bool b,sc none 0 0],tq t,.func (.func 61) #[] #[.pointer (some (aa (w.heap.size+1+1+1+1) 0)),.pointer (some (aa (w.heap.size+1+1+1) 0)),.pointer (some (aa (w.heap.size+1+1+1+2) 0))],tq x.1,
   undef,undef,undef,undef,undef,undef,undef,undef,undef,undef,undef,undef,undef,undef,undef,undef,undef,undef,undef,undef,undef],defers:=[] }) ?assign ?body ?done ?stop
 case hKt=>exact fun h k=>⟨⟨k.1.1.trans h.1.1,k.1.2.1.trans h.1.2.1,k.1.2.2.trans h.1.2.2⟩,k.2.trans h.2⟩
 case hKb=>exact fun W l o' hl=>⟨⟨World.putObj_heap_other (by omega),World.putObj_heap_other (by omega),World.putObj_heap_other (by omega)⟩,World.putObj_heap_other (by omega)⟩
 case hIp =>
  rintro pre W o' ⟨v,d,k2,hox,hoq,hf,hd,k0,k1,hb,hz,h6⟩;have hg:W.grownBy (W.putObj (w3.heap.size+1) o') (some (w3.heap.size+1)):=grownBy_putObj' W _ o';exact ⟨v,d,(World.putObj_heap_other (by omega)).trans k2,zE.own_farE hox hg (by omega),fun x hx=>(hoq x hx).far hg (by omega),hf,hd,(World.putObj_heap_other (by omega)).trans k0,(World.putObj_heap_other (by omega)).trans k1,hb.grown hg (by omega) (fun k e=>by cases e;omega),Nat.le_trans hz hg.size,h6⟩
 case hIb =>
  rintro pre W u ⟨v,d,k2,hox,hoq,hf,hd,k0,k1,hb,hz,h6⟩;have hg:W.grownBy (W.setCell (aa (w.heap.size+1+1+1) 0) u) (some (w.heap.size+1+1+1)):=zZ W _ 0 u;exact ⟨v,d,(hg.block _ (by omega) (by intro e;have:=Option.some.inj e;omega)).trans k2,zE.own_farE hox hg (by omega),fun x hx=>(hoq x hx).far hg (by omega),hf,hd,(hg.block _ (by omega) (by intro e;have:=Option.some.inj e;omega)).trans k0,(hg.block _ (by omega) (by intro e;have:=Option.some.inj e;omega)).trans k1,hb.grown hg (by omega) (fun k e=>by cases e;omega),Nat.le_trans hz hg.size,h6⟩
 case hXp =>
  rintro c pre W o' ⟨hc,hf,k0,k1,hb,h6⟩;have hg:W.grownBy (W.putObj (w3.heap.size+1) o') (some (w3.heap.size+1)):=grownBy_putObj' W _ o';exact ⟨hc,hf,(World.putObj_heap_other (by omega)).trans k0,(World.putObj_heap_other (by omega)).trans k1,⟨hg.os.trans hb.os,hg.tape.trans hb.tape,hg.output.trans hb.output,Nat.le_trans hb.size hg.size,fun k hk=>(World.putObj_heap_other (by omega)).trans (hb.block k hk)⟩,h6⟩
 case assign =>
  intro l x W K hK;simp only [zAa]
  gi_wp2
  exact hK
 case body =>
  rintro l pre x W hlW ⟨v,d,k2,hox,hoq,hf,hd16,k0,k1,hb,hz,h6⟩ _;have hwp:=zFf x.1 W (Nat.le_trans x.2 hts) (HV.out.on hb);obtain ⟨i0,hi,hz0,hz1,hz2⟩:=info_parts Tryz.infoEnt;have hpl:zU (pre++[x])=zU pre++[x.1.data.toList]:=by simp [zU]
  have HPL:=hid hpl;have HF:=hid hf;have HB:=hid hb;have HOX:=hid hox;have HOQ:=hid hoq;have HK0:=hid k0;have HK1:=hid k1;obtain ⟨pv,cv,rfl⟩:=zE.own_shape hox;have HK2:=hid k2;clear hpl hf hb hox hoq k0 k1 k2
  cases hto:kQ x.1.data.toList with
  | none =>
   have HW:Hid (Calls Tryz.prog 17 #[tq x.1] W fun e w'=>∃y:Ex,e=.returned (.tuple #[.agg (vE y),.bool false])/\Below W.heap.size W w'):=hid (hwp.mono (by
    rintro e w' ⟨⟨y,ok,rfl,_,h⟩,hb'⟩;rw [hto] at h
    cases ok with
    | true=>cases h
    | false=>exact ⟨y,rfl,hb'⟩))
   have HNO:Hid (xV (zU (pre++[x]))=none):=hid (by
    rw [HPL.out,mF,HF.out];simp [xV,hto])
   clear hwp;have HN6:=hid hN6;clear hN6
   gi_wp2_with (refine ⟨trivial,?_⟩;gi_at_call 17;refine (CallsIn.inRound l (callsIn_wide.2 HW.out)).mono ?_;rintro e W2 ⟨y,rfl,hb2⟩;have hs2:=hb2.size;have t0':=(Below.heap_alloc W2 (.cells (vE y) 42) w.heap.size (by omega)).trans ((hb2.block w.heap.size (by omega)).trans HK0.out);have t1':=(Below.heap_alloc W2 (.cells (vE y) 42) (w.heap.size+1) (by omega)).trans ((hb2.block (w.heap.size+1) (by omega)).trans HK1.out);have t2':=(Below.heap_alloc W2 (.cells (vE y) 42) (w.heap.size+2) (by omega)).trans ((hb2.block (w.heap.size+2) (by omega)).trans HK2.out);obtain ⟨q0,q1,q2,q3⟩:=zL t0';obtain ⟨q4,q5⟩:=yD t1';obtain ⟨q6,q7,q8,q9⟩:=zL t2';have T0:=hid t0';have T1:=hid t1';have T2:=hid t2';clear t0' t1' t2')
   have hz4:=zDl T0.out T1.out (.bool false) (sc none 0 0) (ii 4);have hbb:=(HB.out.trans (hb2.mono HB.out.size)).alloc (Nat.le_trans HB.out.size hs2) (.cells (vE y) 42);have hkf:KeepsFrom w3.heap.size W (W2.alloc (.cells (vE y) 42)):=KeepsFrom.trans (wT hb2) ((KeepsOthers.alloc _ _).from _);exact ⟨((hkf.trans ((KeepsOthers.setCell _ _ _).from _)).trans ((KeepsOthers.setCell _ _ _).from _)).trans ((KeepsOthers.setCell _ _ _).from _),rfl,Or.inl HNO.out,hz4.1,hz4.2.1,((hbb.setCell (p:=(aa w.heap.size 0)) (Nat.le_refl _) _).setCell (p:=(aa w.heap.size 1)) (Nat.le_refl _) _).setCell (p:=(aa (w.heap.size+1) 0)) (by show _<=w.heap.size+1;omega) _,h6⟩
  | some en =>
   have HW:Hid (Calls Tryz.prog 17 #[tq x.1] W fun e w'=>∃y:Ex,e=.returned (.tuple #[.agg (vE y),.bool true])/\y.en=en/\xI W.heap.size y w'/\Below W.heap.size W w'):=hid (hwp.mono (by
    rintro e w' ⟨⟨y,ok,rfl,ho,h⟩,hb'⟩;rw [hto] at h
    cases ok with
    | true=>exact ⟨y,rfl,(Option.some.inj h).symm,ho rfl,hb'⟩
    | false=>cases h))
   have HNO:Hid (xV (zU (pre++[x]))=some (d.map Ex.en++[en])):=hid (by
    rw [HPL.out,mF,HF.out];simp [xV,hto])
   clear hwp
   by_cases h16:d.length=16
   ·have HLEN:Hid (16<(zU (pre++[x])).length):=hid (by
     have h1:=dA HNO.out;rw [List.length_append,List.length_map] at h1;simp only [List.length_cons,List.length_nil] at h1;omega)
    have h16z:((d.length:Int)==16)=true:=by rw [h16];rfl
    have HN6:=hid hN6;clear hN6
    gi_wp2_with (refine ⟨trivial,?_⟩;gi_at_call 17;refine (CallsIn.inRound l (callsIn_wide.2 HW.out)).mono ?_;rintro e W2 ⟨y,rfl,hye,hyo,hb2⟩;have hs2:=hb2.size;have t0':=(Below.heap_alloc W2 (.cells (vE y) 42) w.heap.size (by omega)).trans ((hb2.block w.heap.size (by omega)).trans HK0.out);have t1':=(Below.heap_alloc W2 (.cells (vE y) 42) (w.heap.size+1) (by omega)).trans ((hb2.block (w.heap.size+1) (by omega)).trans HK1.out);have t2':=(Below.heap_alloc W2 (.cells (vE y) 42) (w.heap.size+2) (by omega)).trans ((hb2.block (w.heap.size+2) (by omega)).trans HK2.out);obtain ⟨q0,q1,q2,q3⟩:=zL t0';obtain ⟨q4,q5⟩:=yD t1';obtain ⟨q6,q7,q8,q9⟩:=zL t2';have T0:=hid t0';have T1:=hid t1';have T2:=hid t2';clear t0' t1' t2')
    have hz4:=zDl T0.out T1.out (.bool false) (sc none 0 0) (ii 4);have hbb:=(HB.out.trans (hb2.mono HB.out.size)).alloc (Nat.le_trans HB.out.size hs2) (.cells (vE y) 42);have hkf:KeepsFrom w3.heap.size W (W2.alloc (.cells (vE y) 42)):=KeepsFrom.trans (wT hb2) ((KeepsOthers.alloc _ _).from _);exact ⟨((hkf.trans ((KeepsOthers.setCell _ _ _).from _)).trans ((KeepsOthers.setCell _ _ _).from _)).trans ((KeepsOthers.setCell _ _ _).from _),rfl,Or.inr HLEN.out,hz4.1,hz4.2.1,((hbb.setCell (p:=(aa w.heap.size 0)) (Nat.le_refl _) _).setCell (p:=(aa w.heap.size 1)) (Nat.le_refl _) _).setCell (p:=(aa (w.heap.size+1) 0)) (by show _<=w.heap.size+1;omega) _,h6⟩
   ·have h16z:((d.length:Int)==16)=false:=beq_eq_false_iff_ne.2 (by omega);have HN6:=hid hN6;clear hN6
    gi_wp2_with (first|(gi_at_builtin;refine wpListIn_append_own _ rfl _ _ 23 rfl (w3.heap.size+2) 42 i0 (.agg vZ) 10 152 Tryz.underlying23 hi hz0 hz1 hz2 rfl (by decide) _ _ _ rfl HX2.out (aa (W2.heap.size+1) 0) 1 1 (KEx.cells [y]) rfl rfl HC.out (KEx.cells_ones _) (by unfold maxLen;omega) (by omega) (by simp;omega) ?_;intro v' w1 hown' hgrow _;obtain ⟨g',cap',rfl⟩:=ownsRow_succ hown';have hv1:=gY T3.out hgrow HX2.out (by decide);obtain ⟨r0,r1,r2,r3⟩:=zL hv1;have HV1:=hid hv1;have HO:=hid hown';have HG:=hid hgrow;clear hv1 hown' hgrow)|(refine ⟨trivial,?_⟩;gi_at_call 17;refine (CallsIn.inRound l (callsIn_wide.2 HW.out)).mono ?_;rintro e W2 ⟨y,rfl,hye,hyo,hb2⟩;have hs2:=hb2.size;have t0':=(Below.heap_alloc W2 (.cells (vE y) 42) w.heap.size (by omega)).trans ((hb2.block w.heap.size (by omega)).trans HK0.out);have t1':=(Below.heap_alloc W2 (.cells (vE y) 42) (w.heap.size+1) (by omega)).trans ((hb2.block (w.heap.size+1) (by omega)).trans HK1.out);have t2':=(Below.heap_alloc W2 (.cells (vE y) 42) (w.heap.size+2) (by omega)).trans ((hb2.block (w.heap.size+2) (by omega)).trans HK2.out);obtain ⟨q0,q1,q2,q3⟩:=zL t0';obtain ⟨q4,q5⟩:=yD t1';obtain ⟨q6,q7,q8,q9⟩:=zL t2';have T0:=hid t0';have T1:=hid t1';have T2:=hid t2';clear t0' t1' t2';have HYE:=hid hye;have HYO:=hid hyo;clear hye hyo;have T3:Hid (((W2.alloc (.cells (vE y) 42)).alloc (.cells (vE y) 42)).heap[w.heap.size+2]? = some (.cells #[.bool b,sc pv d.length cv] 25 (0,0))):=hid ((Below.heap_alloc _ _ _ (by simp;omega)).trans T2.out);have HB2:Hid (Below W.heap.size W ((W2.alloc (.cells (vE y) 42)).alloc (.cells (vE y) 42))):=hid ((hb2.alloc hs2 _).alloc (by simp;omega) _);have HX2:=hid (zE.own_on HOX.out HB2.out);have HQ2:Hid (∀z∈d,xI (w3.heap.size+2) z ((W2.alloc (.cells (vE y) 42)).alloc (.cells (vE y) 42))):=hid (fun z hz=>(HOQ.out z hz).on HB2.out);have HY2:Hid (xI W.heap.size y ((W2.alloc (.cells (vE y) 42)).alloc (.cells (vE y) 42))):=hid (HYO.out.on (((Below.refl _ W2).alloc (Nat.le_refl _) _).alloc (by simp) _));have HC:Hid (∀j u,(KEx.cells [y])[j]? = some u->((W2.alloc (.cells (vE y) 42)).alloc (.cells (vE y) 42)).cell? (((aa (W2.heap.size+1) 0):Addr).add j)=some u):=hid (KEx.newsN2 W2 y)))
    have hb12:Below (w3.heap.size+2) W w1:=(HB2.out.mono hz).trans ((Below.refl _ _).grown HG.out (by simp;omega) (fun k hk=>(World.ownsRow.lt HX2.out k hk).1));have hsz1:=hb12.size;have hox0:KEx.Own (w3.heap.size+2) w1 (sc (some (aa g' 0)) (d.length+1) cap') (d++[y]):=zE.own_snoc HO.out rfl rfl;have hgs:=zZ w1 (w.heap.size+2) 1 (sc (some (aa g' 0)) (d.length+1) cap');have hox1:=zE.own_farE hox0 hgs (by omega)
    have hoq1:∀z∈d++[y],xI (w3.heap.size+2) z (w1.setCell (aa (w.heap.size+2) 1) (sc (some (aa g' 0)) (d.length+1) cap')):=fun z hz'=>by
     rcases List.mem_append.1 hz' with h|h
     ·exact ((HQ2.out z h).grown HX2.out HG.out).far hgs (by omega)
     ·rw [List.mem_singleton] at h;subst h;exact ((HY2.out.weak hz).grown HX2.out HG.out).far hgs (by omega)
    have hkf:KeepsFrom w3.heap.size W w1:=(wT HB2.out).trans ((KeepsOthers.of_grownBy HG.out (fun j o ej hj=>fA HX2.out ej hj)).from _);refine ⟨hkf.trans ((KeepsOthers.setCell _ _ _).from _),⟨⟨(Below.heap_setCell w1 _ _ _ (by show _≠w.heap.size+1+1;omega)).trans (hb12.block _ (by omega)),(Below.heap_setCell w1 _ _ _ (by show _≠w.heap.size+1+1;omega)).trans (hb12.block _ (by omega)),(Below.heap_setCell w1 _ _ _ (by show _≠w.heap.size+1+1;omega)).trans (hb12.block _ (by omega))⟩,(Below.heap_setCell w1 _ _ _ (by show _≠w.heap.size+1+1;omega)).trans (hb12.block _ (by omega))⟩,?_⟩
    exact ⟨_,d++[y],heap_setCell_same w1 (w.heap.size+2) 1 _ _ _ HV1.out,hox1,hoq1,by rw [HNO.out,List.map_append,<-HYE.out];rfl,by rw [List.length_append];simp only [List.length_cons,List.length_nil];omega,
     (Below.heap_setCell w1 _ _ _ (by show _≠w.heap.size+1+1;omega)).trans ((hb12.block _ (by omega)).trans HK0.out),(Below.heap_setCell w1 _ _ _ (by show _≠w.heap.size+1+1;omega)).trans ((hb12.block _ (by omega)).trans HK1.out),
     (HB.out.trans (hb12.mono (by omega))).setCell (p:=(aa (w.heap.size+1+1) 1)) (by show _<=w.heap.size+1+1;omega) _,by simp [World.setCell];omega,h6⟩
 case done =>
  rintro xs W hS ⟨v,d,k2,hox,hoq,hf,hd16,k0,k1,hb,hz,h6⟩ hK
  have hfs:opP t.data.toList=some (d.map Ex.en):=by
   unfold opP;rw [<-hS,hf,Option.bind_some,if_pos (by rw [List.length_map];exact hd16)]
  obtain ⟨pv,cv,rfl⟩:=zE.own_shape hox;have HOX:=hid hox;have HOQ:=hid hoq;have HK0:=hid k0;have HK1:=hid k1;have HB:=hid hb;have HK:=hid hK;have HFS:=hid hfs;have HN6:=hid hN6;obtain ⟨c0,c1,_,_⟩:=zL k2;obtain ⟨q0,q1,q2,q3⟩:=zL k0;obtain ⟨q4,q5⟩:=yD k1;clear hox hoq hf k0 k1 k2 hK hN6 hb hfs
  gi_wp2
  obtain ⟨W4,hW4⟩:∃W4,((W.setCell (aa w.heap.size 0) (.bool b)).setCell (aa w.heap.size 1) (sc pv d.length cv)).setCell (aa (w.heap.size+1) 0) (ii 0)=W4:=⟨_,rfl⟩;obtain ⟨y0,y1,y2⟩:=zDl HK0.out HK1.out (.bool b) (sc pv d.length cv) (ii 0)
  have hb4:Below w.heap.size w W4:=by
   rw [<-hW4];exact ((HB.out.setCell (p:=(aa w.heap.size 0)) (Nat.le_refl _) _).setCell (p:=(aa w.heap.size 1)) (Nat.le_refl _) _).setCell (p:=(aa (w.heap.size+1) 0)) (by show _<=w.heap.size+1;omega) _
  have ha4:KEx.Own (w3.heap.size+2) W4 (sc pv d.length cv) d:=by
   rw [<-hW4];exact zE.own_farE (zE.own_farE (zE.own_farE HOX.out (zZ W w.heap.size 0 _) (by omega)) (zZ _ w.heap.size 1 _) (by omega)) (zZ _ (w.heap.size+1) 0 _) (by omega)
  have hq4:∀z∈d,xI (w3.heap.size+2) z W4:=fun z h=>by
   rw [<-hW4];exact (((HOQ.out z h).far (zZ W w.heap.size 0 _) (by omega)).far (zZ _ w.heap.size 1 _) (by omega)).far (zZ _ (w.heap.size+1) 0 _) (by omega)
  have hKD:W4.heap[w3.heap.size]? = some (.deferred (some [])):=by
   rw [<-hW4,y2 _ (by omega) (by omega)];exact HK.out
  rw [hW4] at y0 y1 ⊢;have hsz4:=hb4.size;have hg5:W4.grownBy (W4.putObj w3.heap.size (.deferred none)) (some w3.heap.size):=grownBy_putObj' W4 _ _;obtain ⟨z0,z1,_,_⟩:=zL ((World.putObj_heap_other (by omega)).trans y0:(W4.putObj w3.heap.size (.deferred none)).heap[w.heap.size]? = _);obtain ⟨z2,_⟩:=yD ((World.putObj_heap_other (by omega)).trans y1:(W4.putObj w3.heap.size (.deferred none)).heap[w.heap.size+1]? = _);refine ⟨by simp,.inl ⟨_,_,rfl,run_takeDeferred hKD,?_⟩⟩;refine ⟨.tuple #[.agg #[.bool b,sc pv d.length cv],ii 0],by simp [results,Tryz.results6,go_sem,z0,z1,z2],⟨⟨b,sc pv d.length cv,d,0,rfl,zE.own_weak (zE.own_farE ha4 hg5 (by omega)) (by omega),fun z h=>((hq4 z h).far hg5 (by omega)).weak (by omega),.inl ⟨rfl,by rw [HOP.out,HFS.out];rfl⟩⟩,hb4.grown hg5 (by omega) (fun k e=>by cases e;omega)⟩⟩
 case stop =>
  rintro c pre W hSp ⟨rfl,hf,k0,k1,hb,h6⟩ hK;have HN6:=hid hN6;clear hN6
  gi_wp2
  have hg5:W.grownBy (W.putObj w3.heap.size (.deferred none)) (some w3.heap.size):=grownBy_putObj' W _ _;obtain ⟨z0,z1,_,_⟩:=zL ((World.putObj_heap_other (by omega)).trans k0:(W.putObj w3.heap.size (.deferred none)).heap[w.heap.size]? = _);obtain ⟨z2,_⟩:=yD ((World.putObj_heap_other (by omega)).trans k1:(W.putObj w3.heap.size (.deferred none)).heap[w.heap.size+1]? = _);have hno:=zL3 hSp hf;refine ⟨by simp,.inl ⟨_,_,rfl,run_takeDeferred hK,?_⟩⟩;refine ⟨.tuple #[.agg #[.bool false,sc none 0 0],ii 4],by simp [results,Tryz.results6,go_sem,z0,z1,z2],⟨⟨false,sc none 0 0,[],4,rfl,KEx.own_nil _ _,(fun z h=>by cases h),.inr ⟨rfl,rfl,rfl,by rw [HOP.out,hno];rfl⟩⟩,hb.grown hg5 hb.size (fun k e=>by cases e;omega)⟩⟩
end
section
open Go.RowKit
structure pN (w:World) (N:Nat) (x:Ex) (W:World):Prop where
 box:W.heap[N]? = some (.cells (yZ x).toArray 42)
 lt:N<W.heap.size
 bel:Below w.heap.size w W
 ex:uJ W x
theorem pN.on {w W W':World} {N:Nat} {x:Ex} (h:pN w N x W) (hb:Below W.heap.size W W'):pN w N x W' :=
 ⟨(hb.block N h.lt).trans h.box,Nat.lt_of_lt_of_le h.lt hb.size,zQ h.bel h.bel.size hb,h.ex.on hb⟩
theorem pN.cells {w W:World} {N:Nat} {x:Ex} (h:pN w N x W) :
  W.cell? ⟨N,0,none⟩=some (.int .i64 x.kind)/\W.cell? ⟨N,1,none⟩=some (.string x.temp)/\W.cell? ⟨N,2,none⟩=some (.string x.ka)/\W.cell? ⟨N,3,none⟩=some (.string x.kb)/\W.cell? ⟨N,4,none⟩=some (.int .i64 x.iff)/\W.cell? ⟨N,5,none⟩=some x.vs/\W.cell? ⟨N,6,none⟩=some x.es/\W.cell? ⟨N,7,none⟩=some x.ps/\W.cell? ⟨N,8,none⟩=some (.int .u64 x.stamp)/\W.cell? ⟨N,9,none⟩=some (.int .i64 x.num):=by
 refine ⟨?_,?_,?_,?_,?_,?_,?_,?_,?_,?_⟩<;>(rw [Lib.cell_of_heap h.box];rfl)
theorem kK {w:World} {x:Ex} (h:uJ w x):pN w w.heap.size x (w.alloc (.cells (yZ x).toArray 42)) :=
 ⟨heap_alloc_new w _,by simp,(Below.refl _ _).alloc (Nat.le_refl _) _,h.on ((Below.refl _ _).alloc (Nat.le_refl _) _)⟩
theorem zMg (k:Int) (h1:1<=k) (h2:k<=12):(zCB k).toList.isEmpty=false:=by
 rw [Lib.toList_data];unfold zCB pH;have:k=1∨k=2∨k=3∨k=4∨k=5∨k=6∨k=7∨k=8∨k=9∨k=10∨k=11∨k=12:=by omega
 rcases this with rfl|rfl|rfl|rfl|rfl|rfl|rfl|rfl|rfl|rfl|rfl|rfl<;>rfl
theorem pJ {s:ByteArray} (h:¬ s=⟨#[]⟩):s.toList.isEmpty=false:=by
 rw [Lib.toList_data]
 cases hq:s.data.toList with
 | nil=>exact absurd (dR hq) h
 | cons _ _=>rfl
theorem zG6 (x:Ex) (w:World) (h:uJ w x) (hr:¬ (1<=x.kind/\x.kind<=12)) :
  Calls Tryz.prog 44 #[wR x] w fun e w'=>e=.returned (.bool (vB x.en))/\Below w.heap.size w w':=by
 have HK:=hid (kK h);have HN:=hid fun W=>zHW x.kind W (by omega)
 have HF:Hid (vB x.en=false):=by
  show _=_
  cases hm:vB x.en with
  | false=>rfl
  | true=>exact absurd ⟨(xW hm).k1,(xW hm).k2⟩ hr
 obtain ⟨c0,-⟩:=HK.out.cells;unfold wR;simp only [yZ,Ex.vs,Ex.es,Ex.ps] at HK c0 ⊢;go_enter Tryz.func44,Tryz.ntmps44;go_wp2_with (first|(go_at_call 39;refine (HN.out _).mono ?_;rintro e w1 ⟨rfl,q1⟩));go_ret;rw [HF.out];exact ⟨rfl,zQ HK.out.bel HK.out.bel.size q1⟩
end
section
open Go.RowKit Go.Lib
section
variable {P:Program} {ops:Array Oper} {rest:List Oper} {op:Oper} {a:Act} {w:World} {Q:Exit→Act→World→Prop}
theorem yK (hgd:op.guard=none) (ty:TypeId) (x:Operand) (ho:op.op=.load ty x) (b o:Nat) (hx:a.eval x=.pointer (some ⟨b,o,none⟩)) (cs:List Value) (d:TypeDesc) (hc:w.rangeAt b o cs)
  (hu:P.underlying ty=some d) (hd:d.isRow=true) (hi:(P.info? ty).map (·.size)=some cs.length) (v:Value) (hv:v=.agg cs.toArray)
  (h:wpList P ops Q rest (a.put op.dst v) w):wpList P ops Q (op::rest) a w:=by
 subst hv;exact wpList_load_mid hgd ty x ho b o hx cs d hc hu hd hi h
theorem yI (hgd:op.guard=none) (ty:TypeId) (x y:Operand) (ho:op.op=.store ty x y) (b o:Nat) (cells:Array Value) (hx:a.eval x=.pointer (some ⟨b,o,none⟩)) (hy:a.eval y=.agg cells)
  (ht:w.there b o cells.size) (hi:(P.info? ty).map (·.size)=some cells.size) (h1:cells.all (·.oneCell')=true) (W:World) (hW:w.setCells b o cells.toList=W)
  (h:wpList P ops Q rest (a.put op.dst undef) W):wpList P ops Q (op::rest) a w:=by
 subst hW;exact wpList_store_mid hgd ty x y ho b o cells hx hy ht hi h1 h
end
theorem Tryz.entSize:(Tryz.prog.info? 42).map (·.size)=some 10:=by kernel_rfl
theorem tQ (y:Ex):(#[.int .i64 y.kind,.string y.temp,.string y.ka,.string y.kb,.int .i64 y.iff,.slice y.vp y.vo.length y.vc,.slice y.ep y.eo.length y.ec,.slice y.pp y.po.length y.pc,.int .u64 y.stamp,.int .i64 y.num]:Array Value).all (·.oneCell')=true:=by
 have h:(yZ y).toArray.all (·.oneCell')=true:=all_oneCell_toArray (KEx.one y);exact h
end
section
open Go.RowKit Go.Lib
def nT (p:List Tm):Bool:=decide (wA p=0)&&decide (uS p=p)
theorem zMD (p:List Tm) (h:p.length<=maxLen):(wB p).length<=maxLen:=by
 unfold wB
 split
 ·exact Nat.le_trans (jA p) h
 ·exact Nat.zero_le _
theorem zGr (v:Value) (p:List Tm) (w:World) (hv:KM.Is w v p) (hf:pY p) :
  Calls Tryz.prog 99 #[v] w fun e w'=>e=.returned (.bool (nT p))/\Below w.heap.size w w':=by
 have HV:=hid hv;have HN:=hid (bF v p w hv hf);clear hv;go_enter Tryz.func99,Tryz.ntmps99;go_wp2_with fail;refine HN.out.mono ?_;rintro e w1 ⟨⟨u,rfl,ho⟩,hb⟩;have HB1:=hid hb;have HE:=hid (zCG u v (wB p) p w1 (zE.own_is ho) (zE.is_kept HV.out hb) (zMD p hf.1) hf.1);clear ho hb
 by_cases hm:wA p=0
 ·have HA:Hid (decide (wB p=p)=nT p):=hid (by unfold nT wB;rw [if_pos hm,hm];simp);have HM:=hid hm;rw [hm];clear hm;go_wp2_with (go_at_call 59;refine HE.out.mono ?_;rintro e w2 ⟨rfl,hb2⟩;have HB2:=hid hb2;clear hb2);go_ret;exact ⟨by rw [<-HA.out];rfl,HB1.out.trans (HB2.out.mono HB1.out.size)⟩
 ·have hq:(wA p==0)=false:=beq_eq_false_iff_ne.2 hm;have HA:Hid (nT p=false):=hid (by unfold nT;simp [hm]);go_wp2_with fail;go_ret;exact ⟨by rw [HA.out];rfl,HB1.out⟩
def uQ (e:En) (p:Nat):Bool :=
 if p=1 then decide (e.temp=⟨#[]⟩)||vI e.temp.data.toList
 else if p=2 then tR e.ka e.kb
 else if p=3 then xM e.ka.data.toList&&decide (e.kb=⟨#[]⟩)
 else if p=4 then decide (0<=e.iff)&&decide (e.iff<=999999999)
 else if p=5 then xU e.val
 else if p=7 then nT e.pred
 else if p=8 then !e.eds.isEmpty&&decide (wK e.eds=0)
 else if p=9 then decide (0<=e.num)&&decide (e.num<=999999999)
 else true
theorem zH1 (x:Ex) (p:Nat) (w:World) (hx:uJ w x) (h1:1<=p) (h2:p<=10) :
  Calls Tryz.prog 55 #[wR x,.int .i64 p] w fun e w'=>e=.returned (.bool (uQ x.en p))/\Below w.heap.size w w':=by
 have HK:=hid (kK hx);have HX:=hid hx;have hm:x.temp.size<=maxLen:=hx.temp;have ha:x.ka.size<=maxLen:=hx.ka;have hbk:x.kb.size<=maxLen:=hx.kb;unfold wR;have HKB:=hid HK.out.bel;have HMY:=hid (zAf x.vs x.vo _ HK.out.ex.val HK.out.ex.fit);have HME:=hid (bJ x.es x.eo _ HK.out.ex.eds HK.out.ex.efit);have HNM:=hid (zGr x.ps x.po _ HK.out.ex.prd HK.out.ex.pfit);simp only [yZ,Ex.vs,Ex.es,Ex.ps] at HK HKB HMY HME HNM ⊢;clear hx;have hp:p=1∨p=2∨p=3∨p=4∨p=5∨p=6∨p=7∨p=8∨p=9∨p=10:=by omega
 rcases hp with rfl|rfl|rfl|rfl|rfl|rfl|rfl|rfl|rfl|rfl
 ·by_cases ht:x.temp=⟨#[]⟩
  ·have hse:x.temp.toList.isEmpty=true:=by rw [ht,toList_data];rfl
   have HE:Hid (uQ x.en 1=true):=hid (by show (decide (x.temp=⟨#[]⟩)||vI x.temp.data.toList)=true;rw [ht];rfl);clear ht;go_enter Tryz.func55,Tryz.ntmps55;go_wp2_with fail;go_ret;exact ⟨by rw [HE.out];rfl,HKB.out⟩
  ·have hse:x.temp.toList.isEmpty=false:=by
    rw [toList_data]
    cases hl:x.temp.data.toList with
    | nil=>exact absurd (fY hl) ht
    | cons _ _=>rfl
   have HE:Hid (uQ x.en 1=vI x.temp.data.toList):=hid (by show (decide (x.temp=⟨#[]⟩)||vI x.temp.data.toList)=_;simp [ht]);clear ht;go_enter Tryz.func55,Tryz.ntmps55;go_wp2_with (go_at_call 68;refine (zBk x.temp _ hm).mono ?_;rintro e w1 ⟨rfl,rfl⟩);go_ret;exact ⟨by rw [HE.out];rfl,HKB.out⟩
 ·go_enter Tryz.func55,Tryz.ntmps55
  go_wp2_with (go_at_call 97;refine (cD x.ka x.kb _ ha hbk).mono ?_;rintro e w1 ⟨rfl,hb1⟩;have HB1:=hid hb1;clear hb1)
  go_ret;exact ⟨rfl,HKB.out.trans (HB1.out.mono HKB.out.size)⟩
 ·by_cases ht:x.kb=⟨#[]⟩
  ·have hse:x.kb.toList.isEmpty=true:=by rw [ht,toList_data];rfl
   have HE:Hid (uQ x.en 3=xM x.ka.data.toList):=hid (by show (xM x.ka.data.toList&&decide (x.kb=⟨#[]⟩))=_;simp [ht]);clear ht
   cases hty:xM x.ka.data.toList
   all_goals
    go_enter Tryz.func55,Tryz.ntmps55
    go_wp2_with (go_at_call 70;refine (gC x.ka _ ha).mono ?_;rintro e w1 ⟨rfl,rfl⟩;rw [hty])
    go_ret;exact ⟨by rw [HE.out,hty];rfl,HKB.out⟩
  ·have hse:x.kb.toList.isEmpty=false:=by
    rw [toList_data]
    cases hl:x.kb.data.toList with
    | nil=>exact absurd (fY hl) ht
    | cons _ _=>rfl
   have HE:Hid (uQ x.en 3=false):=hid (by show (xM x.ka.data.toList&&decide (x.kb=⟨#[]⟩))=_;simp [ht]);clear ht
   cases hty:xM x.ka.data.toList
   all_goals
    go_enter Tryz.func55,Tryz.ntmps55
    go_wp2_with (go_at_call 70;refine (gC x.ka _ ha).mono ?_;rintro e w1 ⟨rfl,rfl⟩;rw [hty])
    go_ret;exact ⟨by rw [HE.out];rfl,HKB.out⟩
 ·by_cases h0:0<=x.iff
  ·go_enter Tryz.func55,Tryz.ntmps55
   go_wp2_with fail
   go_ret;exact ⟨by show _=Ending.returned (.bool (decide (0<=x.iff)&&decide (x.iff<=999999999)));simp [h0],HKB.out⟩
  ·have H0:=hid h0;go_enter Tryz.func55,Tryz.ntmps55;go_wp2_with fail;go_ret;exact ⟨by show _=Ending.returned (.bool (decide (0<=x.iff)&&decide (x.iff<=999999999)));have h9:¬ 0<=x.iff:=Int.not_le.2 H0.out;simp [h9],HKB.out⟩
 ·go_enter Tryz.func55,Tryz.ntmps55
  go_wp2_with (go_at_call 98;refine HMY.out.mono ?_;rintro e w1 ⟨rfl,hb1⟩;have HB1:=hid hb1.below;clear hb1)
  go_ret;exact ⟨rfl,HKB.out.trans (HB1.out.mono HKB.out.size)⟩
 ·go_enter Tryz.func55,Tryz.ntmps55
  go_wp2_with fail
  go_ret;exact ⟨rfl,HKB.out⟩
 ·go_enter Tryz.func55,Tryz.ntmps55
  go_wp2_with (go_at_call 99;refine HNM.out.mono ?_;rintro e w1 ⟨rfl,hb1⟩;have HB1:=hid hb1;clear hb1)
  go_ret;exact ⟨rfl,HKB.out.trans (HB1.out.mono HKB.out.size)⟩
 ·by_cases h0:x.eo=[]
  ·have HE:Hid (uQ x.en 8=false):=hid (by show (!x.eo.isEmpty&&decide (wK x.eo=0))=_;rw [h0];rfl);have hl:¬ (0:Int)<(x.eo.length:Int):=by rw [h0];simp
   clear h0;go_enter Tryz.func55,Tryz.ntmps55;go_wp2_with fail;go_ret;exact ⟨by rw [HE.out];rfl,HKB.out⟩
  ·have hl:(0:Int)<(x.eo.length:Int):=by have:=List.length_pos_iff.2 h0;omega
   have HE:Hid (uQ x.en 8=(wK x.eo==0)):=hid (by
    show (!x.eo.isEmpty&&decide (wK x.eo=0))=_
    cases hq:x.eo with
    | nil=>exact absurd hq h0
    | cons a b=>simp;rfl)
   clear h0;go_enter Tryz.func55,Tryz.ntmps55;go_wp2_with (go_at_call 100;refine HME.out.mono ?_;rintro e w1 ⟨rfl,hb1⟩;have HB1:=hid hb1;clear hb1);go_ret;exact ⟨by rw [HE.out];rfl,HKB.out.trans (HB1.out.mono HKB.out.size)⟩
 ·by_cases h0:0<=x.num
  ·go_enter Tryz.func55,Tryz.ntmps55
   go_wp2_with fail
   go_ret;exact ⟨by show _=Ending.returned (.bool (decide (0<=x.num)&&decide (x.num<=999999999)));simp [h0],HKB.out⟩
  ·have H0:=hid h0;go_enter Tryz.func55,Tryz.ntmps55;go_wp2_with fail;go_ret;exact ⟨by show _=Ending.returned (.bool (decide (0<=x.num)&&decide (x.num<=999999999)));have h9:¬ 0<=x.num:=Int.not_le.2 H0.out;simp [h9],HKB.out⟩
 ·go_enter Tryz.func55,Tryz.ntmps55
  go_wp2_with fail
  go_ret;exact ⟨rfl,HKB.out⟩
def wout (x:Ex) (p:Nat):Ex :=
 if p=1 then { x with temp:=⟨#[]⟩ }
 else if p=2∨p=3 then { x with ka:=⟨#[]⟩,kb:=⟨#[]⟩ }
 else if p=4 then { x with iff:=0 }
 else if p=5 then { x with vp:=none,vc:=0,vo:=[] }
 else if p=7 then { x with pp:=none,pc:=0,po:=[] }
 else if p=8 then { x with ep:=none,ec:=0,eo:=[] }
 else if p=9 then { x with num:=0 }
 else if p=10 then { x with stamp:=0 }
 else x
theorem zK0 (w:World) (x:Ex) (W:World) (h:((w.alloc (.cells #[.int .i64 x.kind,.string x.temp,.string x.ka,.string x.kb,.int .i64 x.iff,.slice x.vp x.vo.length x.vc,.slice x.ep x.eo.length x.ec,.slice x.pp x.po.length x.pc,.int .u64 x.stamp,.int .i64 x.num] 42)).alloc (.cells #[.int .i64 0,.string ⟨#[]⟩,.string ⟨#[]⟩,.string ⟨#[]⟩,.int .i64 0,.slice none 0 0,.slice none 0 0,.slice none 0 0,.int .u64 0,.int .i64 0] 42))=W) :
  W.heap[w.heap.size]? = some (.cells #[.int .i64 x.kind,.string x.temp,.string x.ka,.string x.kb,.int .i64 x.iff,.slice x.vp x.vo.length x.vc,.slice x.ep x.eo.length x.ec,.slice x.pp x.po.length x.pc,.int .u64 x.stamp,.int .i64 x.num] 42 (0,0))/\W.heap[w.heap.size+1]? = some (.cells #[.int .i64 0,.string ⟨#[]⟩,.string ⟨#[]⟩,.string ⟨#[]⟩,.int .i64 0,.slice none 0 0,.slice none 0 0,.slice none 0 0,.int .u64 0,.int .i64 0] 42 (0,0))/\Below w.heap.size w W:=by
 subst h;refine ⟨?_,?_,((Below.refl _ _).alloc (Nat.le_refl _) _).alloc (by simp) _⟩
 ·rw [Below.heap_alloc _ _ _ (by simp)];exact heap_alloc_new w _
 ·have:=heap_alloc_new (w.alloc (.cells (vE x) 42)) (.cells vZ 42)
  simpa using this
theorem Tryz.entTen {W:World} {B:Nat} {c0 c1 c2 c3 c4 c5 c6 c7 c8 c9:Value} (h:W.heap[B]? = some (.cells #[c0,c1,c2,c3,c4,c5,c6,c7,c8,c9] 42 (0,0))):W.rangeAt B 0 [c0,c1,c2,c3,c4,c5,c6,c7,c8,c9]/\W.there B 0 10:=by
 refine ⟨fun j v hv=>?_,fun j hj=>⟨?_,Lib.frozen_of_heap h _⟩⟩
 ·rw [Nat.zero_add,Lib.cell_of_heap h]
  simpa using hv
 ·rw [Nat.zero_add,Lib.cell_of_heap h];have:j=0∨j=1∨j=2∨j=3∨j=4∨j=5∨j=6∨j=7∨j=8∨j=9:=by omega
  rcases this with rfl|rfl|rfl|rfl|rfl|rfl|rfl|rfl|rfl|rfl<;>rfl
structure zJs (w:World) (y:Ex) (W:World):Prop where
 box:W.heap[w.heap.size]? = some (.cells #[.int .i64 y.kind,.string y.temp,.string y.ka,.string y.kb,.int .i64 y.iff,.slice y.vp y.vo.length y.vc,.slice y.ep y.eo.length y.ec,.slice y.pp y.po.length y.pc,.int .u64 y.stamp,.int .i64 y.num] 42 (0,0))
 res:W.heap[w.heap.size+1]? = some (.cells #[.int .i64 0,.string ⟨#[]⟩,.string ⟨#[]⟩,.string ⟨#[]⟩,.int .i64 0,.slice none 0 0,.slice none 0 0,.slice none 0 0,.int .u64 0,.int .i64 0] 42 (0,0))
 bel:Below w.heap.size w W
theorem zJs.set {w W:World} {y z:Ex} (h:zJs w y W) (j:Nat) (u:Value) (he:#[.int .i64 z.kind,.string z.temp,.string z.ka,.string z.kb,.int .i64 z.iff,.slice z.vp z.vo.length z.vc,.slice z.ep z.eo.length z.ec,.slice z.pp z.po.length z.pc,.int .u64 z.stamp,.int .i64 z.num]=(#[.int .i64 y.kind,.string y.temp,.string y.ka,.string y.kb,.int .i64 y.iff,.slice y.vp y.vo.length y.vc,.slice y.ep y.eo.length y.ec,.slice y.pp y.po.length y.pc,.int .u64 y.stamp,.int .i64 y.num]:Array Value).setIfInBounds j u):zJs w z (W.setCell ⟨w.heap.size,j,none⟩ u) :=
 ⟨by rw [he];exact heap_setCell_same _ _ j _ _ _ h.box,(Below.heap_setCell _ _ _ _ (by show w.z+1≠w.z;omega)).trans h.res,h.bel.setCell (p:=(aa w.z j)) (Nat.le_refl _) _⟩
theorem zEF (x:Ex) (p:Nat) (w:World) (h1:1<=p) (h2:p<=10):Calls Tryz.prog 56 #[wR x,.int .i64 p] w fun e w'=>e=.returned (wR (wout x p))/\Below w.heap.size w w':=by
 obtain ⟨y,hy⟩:∃y,wout x p=y:=⟨_,rfl⟩;rw [hy];have HY:=hid hy;unfold wR;simp only [yZ,Ex.vs,Ex.es,Ex.ps];obtain ⟨W,hW⟩:∃W,((w.alloc (.cells (vE x) 42)).alloc (.cells vZ 42))=W:=⟨_,rfl⟩;obtain ⟨b0,b1,hb⟩:=zK0 w x W hW;have H0:Hid (zJs w x W):=hid ⟨b0,b1,hb⟩;clear hy b0 b1 hb;go_enter Tryz.func56,Tryz.ntmps56
 go_upto_block 0 with fail
 try rw [hW];clear hW
 go_cut [5] from 6 (fun _ wx=>Hid (zJs w y wx))
 case first =>
  have hp:p=1∨p=2∨p=3∨p=4∨p=5∨p=6∨p=7∨p=8∨p=9∨p=10:=by omega
  obtain ⟨c0,c1,c2,c3,c4,c5,c6,c7,c8,c9⟩:W.cell? (aa w.heap.size 0)=some (ii x.kind)/\W.cell? (aa w.heap.size 1)=some (tq x.temp)/\W.cell? (aa w.heap.size 2)=some (tq x.ka)/\W.cell? (aa w.heap.size 3)=some (tq x.kb)/\W.cell? (aa w.heap.size 4)=some (ii x.iff)/\W.cell? (aa w.heap.size 5)=some (sc x.vp x.vo.length x.vc)/\W.cell? (aa w.heap.size 6)=some (sc x.ep x.eo.length x.ec)/\W.cell? (aa w.heap.size 7)=some (sc x.pp x.po.length x.pc)/\W.cell? (aa w.heap.size 8)=some (iu x.stamp)/\W.cell? (aa w.heap.size 9)=some (ii x.num):=by
   refine ⟨?_,?_,?_,?_,?_,?_,?_,?_,?_,?_⟩<;>(rw [Lib.cell_of_heap H0.out.box];rfl)
  have f1:=Lib.frozen_of_heap H0.out.box 1;have f2:=Lib.frozen_of_heap H0.out.box 2;have f3:=Lib.frozen_of_heap H0.out.box 3;have f4:=Lib.frozen_of_heap H0.out.box 4;have f5:=Lib.frozen_of_heap H0.out.box 5;have f6:=Lib.frozen_of_heap H0.out.box 6;have f7:=Lib.frozen_of_heap H0.out.box 7;have f8:=Lib.frozen_of_heap H0.out.box 8;have f9:=Lib.frozen_of_heap H0.out.box 9;have HS:Hid (∀j u,(vE y)=((vE x):Array Value).setIfInBounds j u->zJs w y (W.setCell (aa w.heap.size j) u)):=hid fun j u he=>H0.out.set j u he
  rcases hp with rfl|rfl|rfl|rfl|rfl|rfl|rfl|rfl|rfl|rfl
  ·go_wp2_with fail
   go_meet;exact hid (HS.out 1 _ (by rw [<-HY.out];rfl))
  ·go_wp2_with fail
   go_meet;exact hid ((H0.out.set (z:={ x with ka:=⟨#[]⟩ }) 2 (tq ⟨#[]⟩) rfl).set 3 _ (by rw [<-HY.out];rfl))
  ·go_wp2_with fail
   go_meet;exact hid ((H0.out.set (z:={ x with ka:=⟨#[]⟩ }) 2 (tq ⟨#[]⟩) rfl).set 3 _ (by rw [<-HY.out];rfl))
  ·go_wp2_with fail
   go_meet;exact hid (HS.out 4 _ (by rw [<-HY.out];rfl))
  ·go_wp2_with fail
   go_meet;exact hid (HS.out 5 _ (by rw [<-HY.out];rfl))
  ·go_wp2_with fail
   go_meet;exact hid (by rw [<-HY.out];exact H0.out)
  ·go_wp2_with fail
   go_meet;exact hid (HS.out 7 _ (by rw [<-HY.out];rfl))
  ·go_wp2_with fail
   go_meet;exact hid (HS.out 6 _ (by rw [<-HY.out];rfl))
  ·go_wp2_with fail
   go_meet;exact hid (HS.out 9 _ (by rw [<-HY.out];rfl))
  ·go_wp2_with fail
   go_meet;exact hid (HS.out 8 _ (by rw [<-HY.out];rfl))
 case rest =>
 have H1:=hcut;obtain ⟨W4,hW4⟩:∃W4,wc.setCells (w.heap.size+1) 0 (lE y)=W4:=⟨_,rfl⟩;obtain ⟨h4,f4⟩:=mD H1.out.res _ _ _ _ _ _ _ _ _ _ hW4;have HFIN:Hid (Below w.heap.size w W4):=hid (H1.out.bel.trans (f4.below H1.out.bel.size fun k hk=>by omega))
 obtain ⟨g0,g1,g2,g3,g4,g5,g6,g7,g8,g9⟩:W4.cell? (aa (w.heap.size+1) 0)=some (ii y.kind)/\W4.cell? (aa (w.heap.size+1) 1)=some (tq y.temp)/\W4.cell? (aa (w.heap.size+1) 2)=some (tq y.ka)/\W4.cell? (aa (w.heap.size+1) 3)=some (tq y.kb)/\W4.cell? (aa (w.heap.size+1) 4)=some (ii y.iff)/\W4.cell? (aa (w.heap.size+1) 5)=some (sc y.vp y.vo.length y.vc)/\W4.cell? (aa (w.heap.size+1) 6)=some (sc y.ep y.eo.length y.ec)/\W4.cell? (aa (w.heap.size+1) 7)=some (sc y.pp y.po.length y.pc)/\W4.cell? (aa (w.heap.size+1) 8)=some (iu y.stamp)/\W4.cell? (aa (w.heap.size+1) 9)=some (ii y.num):=by
  refine ⟨?_,?_,?_,?_,?_,?_,?_,?_,?_,?_⟩<;>(rw [Lib.cell_of_heap h4];rfl)
 have HRG:=hid (Tryz.entTen H1.out.box).1;have HTH:=hid (Tryz.entTen H1.out.res).2;have HW4:Hid (wc.setCells (w.heap.size+1) 0 ((vE y):Array Value).toList=W4):=hid hW4;clear h4 f4 hW4;go_wp2_with (first|(refine yK rfl 42 _ rfl w.heap.size 0 rfl (lE y) _ HRG.out Tryz.underlying42 rfl Tryz.entSize (.agg (vE y)) rfl ?_)|(refine yI rfl 42 _ _ rfl (w.heap.size+1) 0 (vE y) rfl rfl HTH.out Tryz.entSize (tQ y) W4 HW4.out ?_));exact bodyPost_ret (v:=.agg (vE y)) (by simp [results,Tryz.results56,go_sem,g0,g1,g2,g3,g4,g5,g6,g7,g8,g9]) rfl ⟨rfl,HFIN.out⟩
end
section
open Go.RowKit Go.Sort Go.Lib
theorem zLQ (a b c d:ByteArray) (w:World):(binOp .eql 36 (.agg #[.string a,.string b]) (.agg #[.string c,.string d])).run Tryz.prog w=.ok (.bool (decide (a=c/\b=d))) w:=by
 have hS:Tryz.prog.underlying 36=some (.struct (Tryz.prog.fieldsOf 36)):=by kernel_rfl
 have hp:Tryz.prog.stoodInHeld 36=false:=by kernel_rfl
 have u9:=Tryz.underlying9;have a9:=Tryz.isAgg9;have z9:=Tryz.sizeOf9;rw [run_eql_struct,show (10000:Nat)=9999+1 from rfl,run_equalIn_agg w 9999 36 _ _ hS hp];simp only [Program.fieldsOf,Tryz.underlying36]
 go_simp
 by_cases h1:a=c
 ·subst h1
  by_cases h3:b=d
  ·subst h3;simp
  ·have e3:=beq_eq_false_iff_ne.1 (wI h3);simp [h3,e3]
 ·have e1:=beq_eq_false_iff_ne.1 (wI h1);simp [h1,e1]
theorem zNB:NeqAt Tryz.prog 47 (fun x:Ed=>.agg (kV x).toArray) (fun x y=>decide (x=y)) :=
 ⟨fun x y w=>zFY x y w,GuardAt.agg (fun x:Ed=>(kV x).toArray) (by kernel_rfl)⟩
theorem zKX:∀(p q:List Ed),Lib.allEq (fun x y=>decide (x=y)) p q=decide (p=q)
 | [],[]=>rfl
 | [],y::q=>by simp [Lib.allEq]
 | x::p,[]=>by simp [Lib.allEq]
 | x::p,y::q=>by
  have:=zKX p q;unfold Lib.allEq;rw [this]
  by_cases h1:x=y<;>by_cases h2:p=q<;>simp [h1,h2]
theorem zIo (q1 q2:Option Addr) (c1 c2 m:Nat) (hm:m<=maxLen) (w:World) :
  Calls Tryz.prog 58 #[.slice q1 0 c1,.slice q2 m c2] w fun e w'=>e=.returned (.bool (decide (m=0)))/\w'=w:=by
 unfold maxLen at hm
 by_cases h0:m=0
 ·subst h0;go_enter Tryz.func58,Tryz.ntmps58;go_wp2_with fail;refine wp_loop_rounds 1 ?_;rw [rounds_succ];go_wp2_with fail;go_ret;exact ⟨rfl,rfl⟩
 ·have hz:((0:Int) != (m:Int))=true:=by simp;omega
  have hd:=decide_eq_false h0;rw [hd];go_enter Tryz.func58,Tryz.ntmps58;go_wp2_with fail;go_ret;exact ⟨rfl,rfl⟩
theorem zJo (q1 q2:Option Addr) (c1 c2 m:Nat) (hm:m≠0) (w:World) :
  Calls Tryz.prog 58 #[.slice q1 m c1,.slice q2 0 c2] w fun e w'=>e=.returned (.bool false)/\w'=w:=by
 have hz:((m:Int) != 0)=true:=by simp;omega
 go_enter Tryz.func58,Tryz.ntmps58
 go_wp2_with fail
 go_ret;exact ⟨rfl,rfl⟩
theorem zMV (v u:Value) (p q:List Ed) (w:World) (hv:KE.Is w v p) (hu:KE.Is w u q) (hl1:p.length<=maxLen) (hl2:q.length<=maxLen) :
  Calls Tryz.prog 58 #[v,u] w fun e w'=>e=.returned (.bool (decide (p=q)))/\Below w.heap.size w w':=by
 obtain ⟨a1,k1,rfl,hd1⟩:=hv;obtain ⟨a2,k2,rfl,hd2⟩:=hu
 by_cases h1:p=[]
 ·subst h1;refine (zIo a1 a2 k1 k2 q.length hl2 w).mono ?_;rintro e w' ⟨rfl,rfl⟩;refine ⟨zA ?_,Below.refl _ _⟩
  cases q<;>simp
 ·by_cases h2:q=[]
  ·subst h2;refine (zJo a1 a2 k1 k2 p.length (fun e=>h1 (List.length_eq_zero_iff.1 e)) w).mono ?_;rintro e w' ⟨rfl,rfl⟩;exact ⟨zA (by rw [decide_eq_false h1]),Below.refl _ _⟩
  ·rcases hd1 with hd1|⟨b1,o1,rfl,x1⟩
   ·exact absurd hd1 h1
   ·rcases hd2 with hd2|⟨b2,o2,rfl,x2⟩
    ·exact absurd hd2 h2
    ·unfold maxLen at hl1 hl2
     have hc:=AnyQ.slices_Equal (α:=Ed) Tryz.eqEdt 3 Tryz.isAgg47 Tryz.sizeOf47 kV (fun _=>rfl) (fun x y=>decide (x=y)) zNB b1 o1 p.length k1 b2 o2 q.length k2 p q w (Nat.le_refl _) (Nat.le_refl _) (by omega) (by omega)
      (fun j hj i v hv=>by rw [getElem!_pos p j hj] at hv;exact zGu x1 j hj i v hv) (fun j hj i v hv=>by rw [getElem!_pos q j hj] at hv;exact zGu x2 j hj i v hv)
     change Calls Tryz.prog 58 _ _ _ at hc
     refine hc.mono ?_;rintro e w' ⟨rfl,n,rfl⟩;exact ⟨zA (by rw [List.take_length,List.take_length,zKX]),zP (Below.refl _ _) n⟩
instance:DecidableEq En:=fun a b =>
 decidable_of_iff (a.kind=b.kind/\a.temp=b.temp/\(a.ka=b.ka/\a.kb=b.kb)/\a.iff=b.iff/\a.stamp=b.stamp/\a.num=b.num/\a.val=b.val/\a.eds=b.eds/\a.pred=b.pred) (by
  cases a;cases b;simp only [En.mk.injEq];constructor
  ·rintro ⟨h1,h2,⟨h3,h4⟩,h5,h6,h7,h8,h9,h10⟩;exact ⟨h1,h2,h3,h4,h5,h8,h9,h10,h6,h7⟩
  ·rintro ⟨h1,h2,h3,h4,h5,h8,h9,h10,h6,h7⟩;exact ⟨h1,h2,⟨h3,h4⟩,h5,h6,h7,h8,h9,h10⟩)
theorem zNR (a b:En):a=b↔(a.kind=b.kind/\a.temp=b.temp/\(a.ka=b.ka/\a.kb=b.kb)/\a.iff=b.iff/\a.stamp=b.stamp/\a.num=b.num/\a.val=b.val/\a.eds=b.eds/\a.pred=b.pred):=by
  cases a;cases b;simp only [En.mk.injEq];constructor
  ·rintro ⟨h1,h2,h3,h4,h5,h8,h9,h10,h6,h7⟩;exact ⟨h1,h2,⟨h3,h4⟩,h5,h6,h7,h8,h9,h10⟩
  ·rintro ⟨h1,h2,⟨h3,h4⟩,h5,h6,h7,h8,h9,h10⟩;exact ⟨h1,h2,h3,h4,h5,h8,h9,h10,h6,h7⟩
theorem zCA (x y:Ex) (w:World) (hx:uJ w x) (hy:uJ w y) :
  Calls Tryz.prog 30 #[wR x,wR y] w fun e w'=>e=.returned (.bool (decide (x.en=y.en)))/\Below w.heap.size w w':=by
 obtain ⟨W,hW⟩:∃W,(w.alloc (.cells (yZ x).toArray 42)).alloc (.cells (yZ y).toArray 42)=W:=⟨_,rfl⟩
 have hbl:Below w.heap.size w W:=by rw [<-hW];exact ((Below.refl _ _).alloc (Nat.le_refl _) _).alloc (by simp) _
 have b0:W.heap[w.heap.size]? = some (.cells (yZ x).toArray 42 (0,0)):=by
  rw [<-hW,Below.heap_alloc _ _ _ (by simp)];exact heap_alloc_new w _
 have b1:W.heap[w.heap.size+1]? = some (.cells (yZ y).toArray 42 (0,0)):=by
  rw [<-hW]
  have:=heap_alloc_new (w.alloc (.cells (yZ x).toArray 42)) (.cells (yZ y).toArray 42)
  simpa using this
 have HX:=hid (hx.on hbl)
 have HY:=hid (hy.on hbl)
 have HB:=hid hbl
 have HB0:=hid b0
 have HB1:=hid b1
 have HEV:=hid (zJf x.vs y.vs x.vo y.vo W HX.out.val HY.out.val HX.out.fit HY.out.fit)
 have HEE:Hid (∀V,Below W.heap.size W V->Calls Tryz.prog 58 #[x.es,y.es] V fun e w'=>e=.returned (.bool (decide (x.eo=y.eo)))/\Below V.heap.size V w'):=hid fun V h=>zMV x.es y.es x.eo y.eo V (zE.is_kept HX.out.eds h) (zE.is_kept HY.out.eds h) HX.out.efit.1 HY.out.efit.1
 have HEP:Hid (∀V,Below W.heap.size W V->Calls Tryz.prog 59 #[x.ps,y.ps] V fun e w'=>e=.returned (.bool (decide (x.po=y.po)))/\Below V.heap.size V w'):=hid fun V h=>zCG x.ps y.ps x.po y.po V (zE.is_kept HX.out.prd h) (zE.is_kept HY.out.prd h) HX.out.pfit.1 HY.out.pfit.1
 have HD:Hid (decide (x.en=y.en)=decide (x.kind=y.kind/\x.temp=y.temp/\(x.ka=y.ka/\x.kb=y.kb)/\x.iff=y.iff/\x.stamp=y.stamp/\x.num=y.num/\x.vo.map Fx.fld=y.vo.map Fx.fld/\x.eo=y.eo/\x.po=y.po)):=hid (by
  rw [decide_eq_decide];exact zNR x.en y.en)
 have HKQ:=hid (zLQ x.ka x.kb y.ka y.kb)
 unfold wR
 simp only [yZ,Ex.vs,Ex.es,Ex.ps] at HB0 HB1 HEV HEE HEP hW ⊢
 clear b0 b1 hbl hx hy
 have hc:∀V,Below W.heap.size W V->V.heap[w.heap.size]? = W.heap[w.heap.size]?/\V.heap[w.heap.size+1]? = W.heap[w.heap.size+1]?:=fun V h =>
  ⟨h.block _ (Array.getElem?_eq_some_iff.1 HB0.out).1,h.block _ (Array.getElem?_eq_some_iff.1 HB1.out).1⟩
 have HC:=hid hc
 clear hc
 have x0:W.cell? (aa w.heap.size 0)=some (ii x.kind):=by rw [Lib.cell_of_heap HB0.out];rfl
 have v0:W.cell? (aa (w.heap.size+1) 0)=some (ii y.kind):=by rw [Lib.cell_of_heap HB1.out];rfl
 have x1:W.cell? (aa w.heap.size 1)=some (tq x.temp):=by rw [Lib.cell_of_heap HB0.out];rfl
 have v1:W.cell? (aa (w.heap.size+1) 1)=some (tq y.temp):=by rw [Lib.cell_of_heap HB1.out];rfl
 have x2:W.cell? (aa w.heap.size 2)=some (tq x.ka):=by rw [Lib.cell_of_heap HB0.out];rfl
 have v2:W.cell? (aa (w.heap.size+1) 2)=some (tq y.ka):=by rw [Lib.cell_of_heap HB1.out];rfl
 have x3:W.cell? (aa w.heap.size 3)=some (tq x.kb):=by rw [Lib.cell_of_heap HB0.out];rfl
 have v3:W.cell? (aa (w.heap.size+1) 3)=some (tq y.kb):=by rw [Lib.cell_of_heap HB1.out];rfl
 have x4:W.cell? (aa w.heap.size 4)=some (ii x.iff):=by rw [Lib.cell_of_heap HB0.out];rfl
 have v4:W.cell? (aa (w.heap.size+1) 4)=some (ii y.iff):=by rw [Lib.cell_of_heap HB1.out];rfl
 have x5:W.cell? (aa w.heap.size 5)=some (sc x.vp x.vo.length x.vc):=by rw [Lib.cell_of_heap HB0.out];rfl
 have v5:W.cell? (aa (w.heap.size+1) 5)=some (sc y.vp y.vo.length y.vc):=by rw [Lib.cell_of_heap HB1.out];rfl
 have x6:W.cell? (aa w.heap.size 6)=some (sc x.ep x.eo.length x.ec):=by rw [Lib.cell_of_heap HB0.out];rfl
 have v6:W.cell? (aa (w.heap.size+1) 6)=some (sc y.ep y.eo.length y.ec):=by rw [Lib.cell_of_heap HB1.out];rfl
 have x7:W.cell? (aa w.heap.size 7)=some (sc x.pp x.po.length x.pc):=by rw [Lib.cell_of_heap HB0.out];rfl
 have v7:W.cell? (aa (w.heap.size+1) 7)=some (sc y.pp y.po.length y.pc):=by rw [Lib.cell_of_heap HB1.out];rfl
 have x8:W.cell? (aa w.heap.size 8)=some (iu x.stamp):=by rw [Lib.cell_of_heap HB0.out];rfl
 have v8:W.cell? (aa (w.heap.size+1) 8)=some (iu y.stamp):=by rw [Lib.cell_of_heap HB1.out];rfl
 have x9:W.cell? (aa w.heap.size 9)=some (ii x.num):=by rw [Lib.cell_of_heap HB0.out];rfl
 have v9:W.cell? (aa (w.heap.size+1) 9)=some (ii y.num):=by rw [Lib.cell_of_heap HB1.out];rfl
 by_cases h_kind:x.kind=y.kind
 case neg =>
  have q_kind:(x.kind==y.kind)=false:=beq_eq_false_iff_ne.2 h_kind
  have HF:Hid (decide (x.kind=y.kind/\x.temp=y.temp/\(x.ka=y.ka/\x.kb=y.kb)/\x.iff=y.iff/\x.stamp=y.stamp/\x.num=y.num/\x.vo.map Fx.fld=y.vo.map Fx.fld/\x.eo=y.eo/\x.po=y.po)=false):=hid (decide_eq_false fun q=>h_kind q.1)
  have H_kind:=hid h_kind
  clear h_kind
  go_enter Tryz.func30,Tryz.ntmps30
  go_upto_region 1 with fail
  try rw [hW]
  go_wp2_with fail
  go_ret
  exact ⟨by rw [HD.out,HF.out];rfl,HB.out⟩
 have q_kind:(x.kind==y.kind)=true:=beq_iff_eq.2 h_kind
 by_cases h_temp:x.temp=y.temp
 case neg =>
  have q_temp:(x.temp.toList==y.temp.toList)=false:=wI h_temp
  have HF:Hid (decide (x.kind=y.kind/\x.temp=y.temp/\(x.ka=y.ka/\x.kb=y.kb)/\x.iff=y.iff/\x.stamp=y.stamp/\x.num=y.num/\x.vo.map Fx.fld=y.vo.map Fx.fld/\x.eo=y.eo/\x.po=y.po)=false):=hid (decide_eq_false fun q=>h_temp q.2.1)
  have H_kind:=hid h_kind
  clear h_kind
  have H_temp:=hid h_temp
  clear h_temp
  go_enter Tryz.func30,Tryz.ntmps30
  go_upto_region 1 with fail
  try rw [hW]
  go_wp2_with fail
  go_ret
  exact ⟨by rw [HD.out,HF.out];rfl,HB.out⟩
 have q_temp:(x.temp.toList==y.temp.toList)=true:=kT h_temp
 by_cases h_key:(x.ka=y.ka/\x.kb=y.kb)
 case neg =>
  have q_key:∀V,(binOp .eql 36 (.agg #[tq x.ka,tq x.kb]) (.agg #[tq y.ka,tq y.kb])).run Tryz.prog V=.ok (.bool false) V:=fun V=>by rw [HKQ.out V,decide_eq_false h_key]
  have HF:Hid (decide (x.kind=y.kind/\x.temp=y.temp/\(x.ka=y.ka/\x.kb=y.kb)/\x.iff=y.iff/\x.stamp=y.stamp/\x.num=y.num/\x.vo.map Fx.fld=y.vo.map Fx.fld/\x.eo=y.eo/\x.po=y.po)=false):=hid (decide_eq_false fun q=>h_key q.2.2.1)
  have H_kind:=hid h_kind
  clear h_kind
  have H_temp:=hid h_temp
  clear h_temp
  have H_key:=hid h_key
  clear h_key
  go_enter Tryz.func30,Tryz.ntmps30
  go_upto_region 1 with fail
  try rw [hW]
  go_wp2_with fail
  go_ret
  exact ⟨by rw [HD.out,HF.out];rfl,HB.out⟩
 have q_key:∀V,(binOp .eql 36 (.agg #[tq x.ka,tq x.kb]) (.agg #[tq y.ka,tq y.kb])).run Tryz.prog V=.ok (.bool true) V:=fun V=>by rw [HKQ.out V,decide_eq_true h_key]
 by_cases h_iff:x.iff=y.iff
 case neg =>
  have q_iff:(x.iff==y.iff)=false:=beq_eq_false_iff_ne.2 h_iff
  have HF:Hid (decide (x.kind=y.kind/\x.temp=y.temp/\(x.ka=y.ka/\x.kb=y.kb)/\x.iff=y.iff/\x.stamp=y.stamp/\x.num=y.num/\x.vo.map Fx.fld=y.vo.map Fx.fld/\x.eo=y.eo/\x.po=y.po)=false):=hid (decide_eq_false fun q=>h_iff q.2.2.2.1)
  have H_kind:=hid h_kind
  clear h_kind
  have H_temp:=hid h_temp
  clear h_temp
  have H_key:=hid h_key
  clear h_key
  have H_iff:=hid h_iff
  clear h_iff
  go_enter Tryz.func30,Tryz.ntmps30
  go_upto_region 1 with fail
  try rw [hW]
  go_wp2_with fail
  go_ret
  exact ⟨by rw [HD.out,HF.out];rfl,HB.out⟩
 have q_iff:(x.iff==y.iff)=true:=beq_iff_eq.2 h_iff
 by_cases h_stamp:x.stamp=y.stamp
 case neg =>
  have q_stamp:(x.stamp==y.stamp)=false:=beq_eq_false_iff_ne.2 h_stamp
  have HF:Hid (decide (x.kind=y.kind/\x.temp=y.temp/\(x.ka=y.ka/\x.kb=y.kb)/\x.iff=y.iff/\x.stamp=y.stamp/\x.num=y.num/\x.vo.map Fx.fld=y.vo.map Fx.fld/\x.eo=y.eo/\x.po=y.po)=false):=hid (decide_eq_false fun q=>h_stamp q.2.2.2.2.1)
  have H_kind:=hid h_kind
  clear h_kind
  have H_temp:=hid h_temp
  clear h_temp
  have H_key:=hid h_key
  clear h_key
  have H_iff:=hid h_iff
  clear h_iff
  have H_stamp:=hid h_stamp
  clear h_stamp
  go_enter Tryz.func30,Tryz.ntmps30
  go_upto_region 1 with fail
  try rw [hW]
  go_wp2_with fail
  go_ret
  exact ⟨by rw [HD.out,HF.out];rfl,HB.out⟩
 have q_stamp:(x.stamp==y.stamp)=true:=beq_iff_eq.2 h_stamp
 by_cases h_num:x.num=y.num
 case neg =>
  have q_num:(x.num==y.num)=false:=beq_eq_false_iff_ne.2 h_num
  have HF:Hid (decide (x.kind=y.kind/\x.temp=y.temp/\(x.ka=y.ka/\x.kb=y.kb)/\x.iff=y.iff/\x.stamp=y.stamp/\x.num=y.num/\x.vo.map Fx.fld=y.vo.map Fx.fld/\x.eo=y.eo/\x.po=y.po)=false):=hid (decide_eq_false fun q=>h_num q.2.2.2.2.2.1)
  have H_kind:=hid h_kind
  clear h_kind
  have H_temp:=hid h_temp
  clear h_temp
  have H_key:=hid h_key
  clear h_key
  have H_iff:=hid h_iff
  clear h_iff
  have H_stamp:=hid h_stamp
  clear h_stamp
  have H_num:=hid h_num
  clear h_num
  go_enter Tryz.func30,Tryz.ntmps30
  go_upto_region 1 with fail
  try rw [hW]
  go_wp2_with fail
  go_ret
  exact ⟨by rw [HD.out,HF.out];rfl,HB.out⟩
 have q_num:(x.num==y.num)=true:=beq_iff_eq.2 h_num
 have HALL:Hid (decide (x.kind=y.kind/\x.temp=y.temp/\(x.ka=y.ka/\x.kb=y.kb)/\x.iff=y.iff/\x.stamp=y.stamp/\x.num=y.num/\x.vo.map Fx.fld=y.vo.map Fx.fld/\x.eo=y.eo/\x.po=y.po)=decide (x.vo.map Fx.fld=y.vo.map Fx.fld/\x.eo=y.eo/\x.po=y.po)):=hid (by rw [decide_eq_decide];exact ⟨fun q=>q.2.2.2.2.2.2,fun q=>⟨h_kind,h_temp,h_key,h_iff,h_stamp,h_num,q⟩⟩)
 clear h_kind h_temp h_key h_iff h_stamp h_num
 by_cases h_val:x.vo.map Fx.fld=y.vo.map Fx.fld
 case neg =>
  have q_val:=decide_eq_false h_val
  have HF:Hid (decide (x.vo.map Fx.fld=y.vo.map Fx.fld/\x.eo=y.eo/\x.po=y.po)=false):=hid (decide_eq_false fun q=>h_val q.1)
  clear h_val
  go_enter Tryz.func30,Tryz.ntmps30
  go_upto_region 1 with fail
  try rw [hW]
  go_wp2_with (go_at_call 57;refine HEV.out.mono ?_;rintro e W1 ⟨rfl,hb1⟩;have HB2:=hid hb1.below;clear hb1;obtain ⟨d0,d1⟩:=HC.out W1 HB2.out;have eW16:W1.cell? (aa w.heap.size 6)=some (sc x.ep x.eo.length x.ec):=(by rw [Lib.cell_of_heap (d0.trans HB0.out)];rfl);have gW16:W1.cell? (aa (w.heap.size+1) 6)=some (sc y.ep y.eo.length y.ec):=(by rw [Lib.cell_of_heap (d1.trans HB1.out)];rfl);have eW17:W1.cell? (aa w.heap.size 7)=some (sc x.pp x.po.length x.pc):=(by rw [Lib.cell_of_heap (d0.trans HB0.out)];rfl);have gW17:W1.cell? (aa (w.heap.size+1) 7)=some (sc y.pp y.po.length y.pc):=(by rw [Lib.cell_of_heap (d1.trans HB1.out)];rfl);rw [q_val])
  go_ret
  exact ⟨by rw [HD.out,HALL.out,HF.out];rfl,HB.out.trans (HB2.out.mono HB.out.size)⟩
 have q_val:=decide_eq_true h_val
 by_cases h_eds:x.eo=y.eo
 case neg =>
  have q_eds:=decide_eq_false h_eds
  have HF:Hid (decide (x.vo.map Fx.fld=y.vo.map Fx.fld/\x.eo=y.eo/\x.po=y.po)=false):=hid (decide_eq_false fun q=>h_eds q.2.1)
  clear h_eds h_val
  go_enter Tryz.func30,Tryz.ntmps30
  go_upto_region 1 with fail
  try rw [hW]
  go_wp2_with (first|(go_at_call 57;refine HEV.out.mono ?_;rintro e W1 ⟨rfl,hb1⟩;have HB2:=hid hb1.below;clear hb1;obtain ⟨d0,d1⟩:=HC.out W1 HB2.out;have eW16:W1.cell? (aa w.heap.size 6)=some (sc x.ep x.eo.length x.ec):=(by rw [Lib.cell_of_heap (d0.trans HB0.out)];rfl);have gW16:W1.cell? (aa (w.heap.size+1) 6)=some (sc y.ep y.eo.length y.ec):=(by rw [Lib.cell_of_heap (d1.trans HB1.out)];rfl);have eW17:W1.cell? (aa w.heap.size 7)=some (sc x.pp x.po.length x.pc):=(by rw [Lib.cell_of_heap (d0.trans HB0.out)];rfl);have gW17:W1.cell? (aa (w.heap.size+1) 7)=some (sc y.pp y.po.length y.pc):=(by rw [Lib.cell_of_heap (d1.trans HB1.out)];rfl);rw [q_val])|(go_at_call 58;refine (HEE.out W1 HB2.out).mono ?_;rintro e W2 ⟨rfl,hb2⟩;have HB3:=hid (HB2.out.trans (hb2.mono HB2.out.size));clear hb2;obtain ⟨d2,d3⟩:=HC.out W2 HB3.out;have eW26:W2.cell? (aa w.heap.size 6)=some (sc x.ep x.eo.length x.ec):=(by rw [Lib.cell_of_heap (d2.trans HB0.out)];rfl);have gW26:W2.cell? (aa (w.heap.size+1) 6)=some (sc y.ep y.eo.length y.ec):=(by rw [Lib.cell_of_heap (d3.trans HB1.out)];rfl);have eW27:W2.cell? (aa w.heap.size 7)=some (sc x.pp x.po.length x.pc):=(by rw [Lib.cell_of_heap (d2.trans HB0.out)];rfl);have gW27:W2.cell? (aa (w.heap.size+1) 7)=some (sc y.pp y.po.length y.pc):=(by rw [Lib.cell_of_heap (d3.trans HB1.out)];rfl);rw [q_eds]))
  go_ret
  exact ⟨by rw [HD.out,HALL.out,HF.out];rfl,HB.out.trans (HB3.out.mono HB.out.size)⟩
 have q_eds:=decide_eq_true h_eds
 have HF:Hid (decide (x.vo.map Fx.fld=y.vo.map Fx.fld/\x.eo=y.eo/\x.po=y.po)=decide (x.po=y.po)):=hid (by rw [decide_eq_decide];exact ⟨fun q=>q.2.2,fun q=>⟨h_val,h_eds,q⟩⟩)
 clear h_eds h_val
 all_goals
  go_enter Tryz.func30,Tryz.ntmps30
  go_upto_region 1 with fail
  try rw [hW]
  go_wp2_with (first|(go_at_call 57;refine HEV.out.mono ?_;rintro e W1 ⟨rfl,hb1⟩;have HB2:=hid hb1.below;clear hb1;obtain ⟨d0,d1⟩:=HC.out W1 HB2.out;have eW16:W1.cell? (aa w.heap.size 6)=some (sc x.ep x.eo.length x.ec):=(by rw [Lib.cell_of_heap (d0.trans HB0.out)];rfl);have gW16:W1.cell? (aa (w.heap.size+1) 6)=some (sc y.ep y.eo.length y.ec):=(by rw [Lib.cell_of_heap (d1.trans HB1.out)];rfl);have eW17:W1.cell? (aa w.heap.size 7)=some (sc x.pp x.po.length x.pc):=(by rw [Lib.cell_of_heap (d0.trans HB0.out)];rfl);have gW17:W1.cell? (aa (w.heap.size+1) 7)=some (sc y.pp y.po.length y.pc):=(by rw [Lib.cell_of_heap (d1.trans HB1.out)];rfl);rw [q_val])|(go_at_call 58;refine (HEE.out W1 HB2.out).mono ?_;rintro e W2 ⟨rfl,hb2⟩;have HB3:=hid (HB2.out.trans (hb2.mono HB2.out.size));clear hb2;obtain ⟨d2,d3⟩:=HC.out W2 HB3.out;have eW26:W2.cell? (aa w.heap.size 6)=some (sc x.ep x.eo.length x.ec):=(by rw [Lib.cell_of_heap (d2.trans HB0.out)];rfl);have gW26:W2.cell? (aa (w.heap.size+1) 6)=some (sc y.ep y.eo.length y.ec):=(by rw [Lib.cell_of_heap (d3.trans HB1.out)];rfl);have eW27:W2.cell? (aa w.heap.size 7)=some (sc x.pp x.po.length x.pc):=(by rw [Lib.cell_of_heap (d2.trans HB0.out)];rfl);have gW27:W2.cell? (aa (w.heap.size+1) 7)=some (sc y.pp y.po.length y.pc):=(by rw [Lib.cell_of_heap (d3.trans HB1.out)];rfl);rw [q_eds])|(go_at_call 59;refine (HEP.out W2 HB3.out).mono ?_;rintro e W3 ⟨rfl,hb3⟩;have HB4:=hid (HB3.out.trans (hb3.mono HB3.out.size));clear hb3))
  go_ret
  exact ⟨by rw [HD.out,HALL.out,HF.out];rfl,HB.out.trans (HB4.out.mono HB.out.size)⟩
end
section
open Go.RowKit Go.Lib
theorem xI.ex {n:Nat} {x:Ex} {w:World} (h:xI n x w):uJ w x :=
 ⟨h.val.is,h.fit,zE.own_is h.eds,h.efit,zE.own_is h.prd,h.pfit,h.rng.temp,h.rng.ka,h.rng.kb,h.rng.k0,h.rng.k1,h.rng.i0,h.rng.i1,h.rng.t0,h.rng.t1,h.rng.n0,h.rng.n1⟩
theorem zIQ (w:World):uJ w (vG 0):=(dM 0 w 0 (by omega) (by omega)).ex
theorem uJ.kind0 {w:World} {x:Ex} (h:uJ w x):uJ w { x with kind:=0 } :=
 { h with k0:=by show (-9223372036854775808:Int)<=0;omega,k1:=by show (0:Int)<=9223372036854775807;omega }
theorem uJ.wout {w:World} {x:Ex} (h:uJ w x) (p:Nat):uJ w (wout x p):=by
 have z:=zIQ w;unfold Go.Proofs.YtjeogllmpjihaaaGreatDoor.wout
 split
 ·exact { h with temp:=z.temp }
 split
 ·exact { h with ka:=z.ka,kb:=z.kb }
 split
 ·exact { h with i0:=z.i0,i1:=z.i1 }
 split
 ·exact { h with val:=z.val,fit:=z.fit }
 split
 ·exact { h with prd:=z.prd,pfit:=z.pfit }
 split
 ·exact { h with eds:=z.eds,efit:=z.efit }
 split
 ·exact { h with n0:=z.n0,n1:=z.n1 }
 split
 ·exact { h with t0:=z.t0,t1:=z.t1 }
 ·exact h
def sA (x:Ex) (ps:List Nat):Ex:=ps.foldl wout { x with kind:=0 }
theorem zHD (x:Ex) (ps:List Nat) (p:Nat):sA x (ps++[p])=wout (sA x ps) p:=by simp [sA]
theorem zLk {w:World} {x:Ex} (h:uJ w x) (ps:List Nat):uJ w (sA x ps):=by
 unfold sA
 have:∀(l:List Nat) (y:Ex),uJ w y->uJ w (l.foldl wout y):=by
  intro l
  induction l with
  | nil=>exact fun y hy=>hy
  | cons p l ih=>exact fun y hy=>ih _ (hy.wout p)
 exact this ps _ h.kind0
def pO (x:Ex):Bool:=decide (1<=x.kind/\x.kind<=12)&&(zN x.kind.toNat).all (uQ x.en)&&decide ((sA x (zN x.kind.toNat)).en=(vG 0).en)
structure zA9 (w:World) (L:Nat) (x y:Ex) (W:World):Prop where
 low:Below w.heap.size w W
 box:W.heap[w.heap.size]? = some (.cells (yZ x).toArray 42 (0,0))
 left:W.heap[L]? = some (.cells (yZ y).toArray 42 (0,0))
 gt:w.heap.size<L
theorem zA9.lt {w:World} {L:Nat} {x y:Ex} {W:World} (h:zA9 w L x y W):L<W.heap.size:=(Array.getElem?_eq_some_iff.1 h.left).1
theorem zA9.on {w:World} {L:Nat} {x y:Ex} {W V:World} (h:zA9 w L x y W) (hb:Below W.heap.size W V):zA9 w L x y V :=
 ⟨h.low.trans (hb.mono h.low.size),(hb.block _ (by have:=h.lt;have:=h.gt;omega)).trans h.box,(hb.block _ h.lt).trans h.left,h.gt⟩
theorem zA9.turn {w:World} {L:Nat} {x y z:Ex} {W V:World} (h:zA9 w L x y W) (f:Fr (fun b=>b=L) W V) (hz:V.heap[L]? = some (.cells (yZ z).toArray 42 (0,0))):zA9 w L x z V :=
 ⟨h.low.trans (f.below h.low.size fun k hk=>by have:=h.gt;omega),(f.block _ (by have:=h.lt;have:=h.gt;omega) (by have:=h.gt;omega)).trans h.box,hz,h.gt⟩
theorem zHH (x:Ex) (w:World) (hx:uJ w x) :
  Calls Tryz.prog 28 #[wR x] w fun e w'=>e=.returned (.bool (pO x))/\Below w.heap.size w w':=by
 have HX:=hid hx
 have hal:Below w.heap.size w (w.alloc (.cells (yZ x).toArray 42)):=(Below.refl _ _).alloc (Nat.le_refl _) _
 have hb0:(w.alloc (.cells (yZ x).toArray 42)).heap[w.heap.size]? = some (.cells (yZ x).toArray 42 (0,0)):=heap_alloc_new w _
 have HAL:=hid hal
 have HB0:=hid hb0
 have HFT:Hid (∀W p,Below w.heap.size w W->1<=p->p<=10->Calls Tryz.prog 55 #[wR x,ii (p:Nat)] W fun e w'=>e=.returned (.bool (uQ x.en p))/\Below W.heap.size W w'):=hid fun W p h h1 h2=>zH1 x p W (HX.out.on h) h1 h2
 unfold wR
 simp only [yZ,Ex.vs,Ex.es,Ex.ps] at HAL HB0 HFT ⊢
 clear hal hb0 hx
 unfold wR at HFT
 simp only [yZ,Ex.vs,Ex.es,Ex.ps] at HFT
 by_cases hr:1<=x.kind/\x.kind<=12
 case neg =>
  have HF:Hid (pO x=false):=hid (by unfold pO;rw [decide_eq_false hr];rfl)
  have hr2:x.kind<1∨12<x.kind:=by omega
  clear hr
  go_enter Tryz.func28,Tryz.ntmps28
  go_wp2_with (go_at_call 36;refine (zES x.kind _ hr2).mono ?_;rintro e w1 ⟨rfl,rfl⟩)
  go_ret
  exact ⟨by rw [HF.out];rfl,HAL.out⟩
 obtain ⟨kw,hkw⟩:∃kw:Nat,x.kind=kw:=⟨x.kind.toNat,by omega⟩
 have hk1:1<=kw:=by omega
 have hk12:kw<=12:=by omega
 have HM:Hid (pO x=((zN kw).all (uQ x.en)&&decide ((sA x (zN kw)).en=(vG 0).en))):=hid (by
  unfold pO
  rw [decide_eq_true hr,hkw];rfl)
 have hnm:=zCx kw hk1 hk12
 have HKW:=hid hkw
 have HSH:Hid (∀W,Calls Tryz.prog 36 #[ii x.kind] W fun e w'=>(∃a n,e=.returned (.tuple #[tq ⟨(xP kw).toArray⟩,sc a n n])/\n=(zN kw).length /\
   ∀(j p:Nat),(zN kw)[j]? = some p->∃P,a=some (aa P 0)/\W.heap.size<=P/\w'.cell? (aa P j)=some (ii p))/\Below W.heap.size W w'):=hid fun W=>by rw [hkw];exact cX kw W hk12
 clear hkw hr
 go_enter Tryz.func28,Tryz.ntmps28
 go_wp2_with fail
 refine (HSH.out _).mono ?_
 rintro e w3 ⟨⟨a,n,rfl,hn,hpt⟩,hb3⟩
 have HN:=hid hn
 have HB3:=hid (HAL.out.trans (hb3.mono HAL.out.size))
 have hbx:w3.heap[w.heap.size]? = some (.cells (vE x) 42 (0,0)):=(hb3.block _ (by simp)).trans HB0.out
 have HBX:=hid hbx
 have HPT:Hid (zBP a w3.heap.size kw w3):=hid fun j p hp=>by
  obtain ⟨P,h1,h2,h3⟩:=hpt j p hp
  exact ⟨P,h1,Nat.ne_of_lt (gP h3),h3⟩
 clear hn hpt hb3
 have c0:w3.cell? (aa w.heap.size 0)=some (ii x.kind):=cz hbx
 have c1:w3.cell? (aa w.heap.size 1)=some (tq x.temp):=cz hbx
 have c2:w3.cell? (aa w.heap.size 2)=some (tq x.ka):=cz hbx
 have c3:w3.cell? (aa w.heap.size 3)=some (tq x.kb):=cz hbx
 have c4:w3.cell? (aa w.heap.size 4)=some (ii x.iff):=cz hbx
 have c5:w3.cell? (aa w.heap.size 5)=some (sc x.vp x.vo.length x.vc):=cz hbx
 have c6:w3.cell? (aa w.heap.size 6)=some (sc x.ep x.eo.length x.ec):=cz hbx
 have c7:w3.cell? (aa w.heap.size 7)=some (sc x.pp x.po.length x.pc):=cz hbx
 have c8:w3.cell? (aa w.heap.size 8)=some (iu x.stamp):=cz hbx
 have c9:w3.cell? (aa w.heap.size 9)=some (ii x.num):=cz hbx
 clear hbx
 have HS:Hid (zA9 w w3.heap.size x (sA x []) (w3.alloc (.cells #[ii 0,tq x.temp,tq x.ka,tq x.kb,ii x.iff,sc x.vp x.vo.length x.vc,sc x.ep x.eo.length x.ec,sc x.pp x.po.length x.pc,iu x.stamp,ii x.num] 42))):=hid (by
  have hb4:=(Below.refl w3.heap.size w3).alloc (Nat.le_refl _) (.cells #[ii 0,tq x.temp,tq x.ka,tq x.kb,ii x.iff,sc x.vp x.vo.length x.vc,sc x.ep x.eo.length x.ec,sc x.pp x.po.length x.pc,iu x.stamp,ii x.num] 42)
  have hlt:w.heap.size<w3.heap.size:=(Array.getElem?_eq_some_iff.1 HBX.out).1
  exact ⟨HB3.out.trans (hb4.mono HB3.out.size),(hb4.block _ hlt).trans HBX.out,heap_alloc_new w3 _,hlt⟩)
 have HPT2:Hid (zBP a w3.heap.size kw (w3.alloc (.cells #[ii 0,tq x.temp,tq x.ka,tq x.kb,ii x.iff,sc x.vp x.vo.length x.vc,sc x.ep x.eo.length x.ec,sc x.pp x.po.length x.pc,iu x.stamp,ii x.num] 42))):=hid (HPT.out.on ((Below.refl w3.heap.size w3).alloc (Nat.le_refl _) _))
 go_wp2_with fail
 go_loopg [20] n (fun g vi wr=>∃(i:Nat),vi=ii i/\i<=n/\n-i<=g/\Hid (zA9 w w3.heap.size x (sA x ((zN kw).take i)) wr)/\Hid (zBP a w3.heap.size kw wr)/\Hid (((zN kw).take i).all (uQ x.en)=true))
 case atStart=>exact ⟨0,rfl,by omega,by omega,HS,HPT2,hid rfl⟩
 case round =>
  obtain ⟨i,rfl,hi,hig,HL,HP,HA⟩:=hrel
  have hn5:n<=5:=by rw [HN.out];exact cL kw
  by_cases hlt:i<n
  ·have HLT:=hid hlt
   have hltz:(i:Int)<(n:Int):=by omega
   have hiz:(0:Int)<=(i:Int):=by omega
   obtain ⟨p,hp⟩:∃p,(zN kw)[i]? = some p:=⟨_,List.getElem?_eq_getElem (by rw [<-HN.out];exact hlt)⟩
   obtain ⟨P,hPa,hPG,hPc⟩:=HP.out i p hp
   subst hPa
   obtain ⟨hp1,hp10⟩:=nA kw i p hp
   have HTK:Hid ((zN kw).take (i+1)=(zN kw).take i++[p]):=hid (by
    obtain ⟨h1,h2⟩:=List.getElem?_eq_some_iff.1 hp
    rw [<-h2];exact List.take_succ_eq_append_getElem h1)
   have HMEM:=hid (List.mem_of_getElem? hp)
   clear hp
   have hbx:=HL.out.box
   have c0:wr.cell? (aa w.heap.size 0)=some (ii x.kind):=cz hbx
   have c1:wr.cell? (aa w.heap.size 1)=some (tq x.temp):=cz hbx
   have c2:wr.cell? (aa w.heap.size 2)=some (tq x.ka):=cz hbx
   have c3:wr.cell? (aa w.heap.size 3)=some (tq x.kb):=cz hbx
   have c4:wr.cell? (aa w.heap.size 4)=some (ii x.iff):=cz hbx
   have c5:wr.cell? (aa w.heap.size 5)=some (sc x.vp x.vo.length x.vc):=cz hbx
   have c6:wr.cell? (aa w.heap.size 6)=some (sc x.ep x.eo.length x.ec):=cz hbx
   have c7:wr.cell? (aa w.heap.size 7)=some (sc x.pp x.po.length x.pc):=cz hbx
   have c8:wr.cell? (aa w.heap.size 8)=some (iu x.stamp):=cz hbx
   have c9:wr.cell? (aa w.heap.size 9)=some (ii x.num):=cz hbx
   clear hbx
   go_wp2_with fail
   refine (HFT.out wr p HL.out.low hp1 hp10).mono ?_
   rintro e w4 ⟨rfl,hb4⟩
   have HL4:=hid (HL.out.on hb4)
   have HP4:=hid (HP.out.on hb4)
   clear hb4 hPc HL HP c0 c1 c2 c3 c4 c5 c6 c7 c8 c9
   cases hft:uQ x.en p with
   | false =>
    have HF:Hid ((zN kw).all (uQ x.en)=false):=hid (by
     rw [List.all_eq_false]
     exact ⟨p,HMEM.out,by rw [hft];simp⟩)
    go_wp2_with fail
    go_ret
    exact ⟨by rw [HM.out,HF.out];rfl,HL4.out.low⟩
   | true =>
    have HA2:Hid (((zN kw).take (i+1)).all (uQ x.en)=true):=hid (by
     rw [HTK.out,List.all_append,HA.out];simp [hft])
    have HZ:Hid (sA x ((zN kw).take (i+1))=wout (sA x ((zN kw).take i)) p):=hid (by rw [HTK.out];exact zHD _ _ _)
    have HLY:=hid HL4.out.left
    have HWO:=hid fun W=>zEF (sA x ((zN kw).take i)) p W hp1 hp10
    generalize sA x ((zN kw).take i)=y at *
    generalize wout y p=z at *
    unfold wR at HWO
    simp only [yZ,Ex.vs,Ex.es,Ex.ps] at HWO HLY
    have hby:=HLY.out
    have d0:w4.cell? (aa w3.heap.size 0)=some (ii y.kind):=cz hby
    have d1:w4.cell? (aa w3.heap.size 1)=some (tq y.temp):=cz hby
    have d2:w4.cell? (aa w3.heap.size 2)=some (tq y.ka):=cz hby
    have d3:w4.cell? (aa w3.heap.size 3)=some (tq y.kb):=cz hby
    have d4:w4.cell? (aa w3.heap.size 4)=some (ii y.iff):=cz hby
    have d5:w4.cell? (aa w3.heap.size 5)=some (sc y.vp y.vo.length y.vc):=cz hby
    have d6:w4.cell? (aa w3.heap.size 6)=some (sc y.ep y.eo.length y.ec):=cz hby
    have d7:w4.cell? (aa w3.heap.size 7)=some (sc y.pp y.po.length y.pc):=cz hby
    have d8:w4.cell? (aa w3.heap.size 8)=some (iu y.stamp):=cz hby
    have d9:w4.cell? (aa w3.heap.size 9)=some (ii y.num):=cz hby
    clear hby
    go_wp2_with fail
    refine (HWO.out w4).mono ?_
    rintro e w5 ⟨rfl,hb5⟩
    have HL5:=hid (HL4.out.on hb5)
    have HP5:=hid (HP4.out.on hb5)
    have hb6:w5.heap[w3.heap.size]? = some (.cells (vE y) 42 (0,0)):=(hb5.block _ HL4.out.lt).trans HLY.out
    clear hb5 d0 d1 d2 d3 d4 d5 d6 d7 d8 d9
    obtain ⟨WZ,hWZ⟩:∃WZ,((((((((((w5.setCell (aa w3.heap.size 0) (ii z.kind)).setCell (aa w3.heap.size 1) (tq z.temp)).setCell (aa w3.heap.size 2) (tq z.ka)).setCell (aa w3.heap.size 3) (tq z.kb)).setCell (aa w3.heap.size 4) (ii z.iff)).setCell (aa w3.heap.size 5) (sc z.vp z.vo.length z.vc)).setCell (aa w3.heap.size 6) (sc z.ep z.eo.length z.ec)).setCell (aa w3.heap.size 7) (sc z.pp z.po.length z.pc)).setCell (aa w3.heap.size 8) (iu z.stamp)).setCell (aa w3.heap.size 9) (ii z.num))=WZ:=⟨_,rfl⟩
    obtain ⟨bz,fz⟩:=mD hb6 _ _ _ _ _ _ _ _ _ _ hWZ
    have HL6:Hid (zA9 w w3.heap.size x z WZ):=hid (HL5.out.turn fz bz)
    have HP6:=hid (HP5.out.turn fz)
    have d0:w5.cell? (aa w3.heap.size 0)=some (ii y.kind):=cz hb6
    have d1:w5.cell? (aa w3.heap.size 1)=some (tq y.temp):=cz hb6
    have d2:w5.cell? (aa w3.heap.size 2)=some (tq y.ka):=cz hb6
    have d3:w5.cell? (aa w3.heap.size 3)=some (tq y.kb):=cz hb6
    have d4:w5.cell? (aa w3.heap.size 4)=some (ii y.iff):=cz hb6
    have d5:w5.cell? (aa w3.heap.size 5)=some (sc y.vp y.vo.length y.vc):=cz hb6
    have d6:w5.cell? (aa w3.heap.size 6)=some (sc y.ep y.eo.length y.ec):=cz hb6
    have d7:w5.cell? (aa w3.heap.size 7)=some (sc y.pp y.po.length y.pc):=cz hb6
    have d8:w5.cell? (aa w3.heap.size 8)=some (iu y.stamp):=cz hb6
    have d9:w5.cell? (aa w3.heap.size 9)=some (ii y.num):=cz hb6
    have f0:w5.frozen? (aa w3.heap.size 0)=false:=Lib.frozen_of_heap hb6 0
    have f1:w5.frozen? (aa w3.heap.size 1)=false:=Lib.frozen_of_heap hb6 1
    have f2:w5.frozen? (aa w3.heap.size 2)=false:=Lib.frozen_of_heap hb6 2
    have f3:w5.frozen? (aa w3.heap.size 3)=false:=Lib.frozen_of_heap hb6 3
    have f4:w5.frozen? (aa w3.heap.size 4)=false:=Lib.frozen_of_heap hb6 4
    have f5:w5.frozen? (aa w3.heap.size 5)=false:=Lib.frozen_of_heap hb6 5
    have f6:w5.frozen? (aa w3.heap.size 6)=false:=Lib.frozen_of_heap hb6 6
    have f7:w5.frozen? (aa w3.heap.size 7)=false:=Lib.frozen_of_heap hb6 7
    have f8:w5.frozen? (aa w3.heap.size 8)=false:=Lib.frozen_of_heap hb6 8
    have f9:w5.frozen? (aa w3.heap.size 9)=false:=Lib.frozen_of_heap hb6 9
    clear bz fz hb6
    go_wp2_with fail
    try rw [hWZ]
    go_roundg (n-(i+1))
    case measure=>omega
    exact ⟨i+1,by go_num,HLT.out,Nat.le_refl _,by rw [HZ.out];exact HL6,HP6,HA2⟩
  ·have hltz:¬ (i:Int)<(n:Int):=by omega
   have HTA:Hid ((zN kw).take i=zN kw):=hid (List.take_of_length_le (by rw [<-HN.out];omega))
   have HA2:Hid ((zN kw).all (uQ x.en)=true):=hid (by have:=HA.out;rw [HTA.out] at this;exact this)
   have HL2:Hid (zA9 w w3.heap.size x (sA x (zN kw)) wr):=hid (by have:=HL.out;rw [HTA.out] at this;exact this)
   have HSM:=hid (zCA (sA x (zN kw)) (vG 0) wr ((zLk HX.out _).on HL2.out.low) (zIQ wr))
   have HLY:=hid HL2.out.left
   generalize sA x (zN kw)=y at *
   unfold wR at HSM
   simp only [yZ,Ex.vs,Ex.es,Ex.ps] at HSM HLY
   have hby:=HLY.out
   have d0:wr.cell? (aa w3.heap.size 0)=some (ii y.kind):=cz hby
   have d1:wr.cell? (aa w3.heap.size 1)=some (tq y.temp):=cz hby
   have d2:wr.cell? (aa w3.heap.size 2)=some (tq y.ka):=cz hby
   have d3:wr.cell? (aa w3.heap.size 3)=some (tq y.kb):=cz hby
   have d4:wr.cell? (aa w3.heap.size 4)=some (ii y.iff):=cz hby
   have d5:wr.cell? (aa w3.heap.size 5)=some (sc y.vp y.vo.length y.vc):=cz hby
   have d6:wr.cell? (aa w3.heap.size 6)=some (sc y.ep y.eo.length y.ec):=cz hby
   have d7:wr.cell? (aa w3.heap.size 7)=some (sc y.pp y.po.length y.pc):=cz hby
   have d8:wr.cell? (aa w3.heap.size 8)=some (iu y.stamp):=cz hby
   have d9:wr.cell? (aa w3.heap.size 9)=some (ii y.num):=cz hby
   clear hby HL HA
   go_wp2_with fail
   refine HSM.out.mono ?_
   rintro e w7 ⟨rfl,hb7⟩
   have HB7:=hid (HL2.out.low.trans (hb7.mono HL2.out.low.size))
   clear hb7
   go_wp2_with fail
   go_ret
   exact ⟨by rw [HM.out,HA2.out];rfl,HB7.out⟩
end
section
open Go.RowKit Go.Lib
structure nP (W:World) (v:Value) (d:List Ex):Prop where
 row:KEx.Is W v d
 each:∀x∈d,uJ W x
 len:d.length<=4294967000
theorem nP.on {W V:World} {v:Value} {d:List Ex} (h:nP W v d) (hb:Below W.heap.size W V):nP V v d :=
 ⟨zE.is_kept h.row hb,fun x hx=>(h.each x hx).on hb,h.len⟩
theorem vF {W:World} {b off:Nat} {d:List Ex} (h:KEx.At W b off d) (i:Nat) (y:Ex) (hy:d[i]? = some y) :
  W.cell? ⟨b,off+i * 10+0,none⟩=some (.int .i64 y.kind)/\W.cell? ⟨b,off+i * 10+1,none⟩=some (.string y.temp)/\W.cell? ⟨b,off+i * 10+2,none⟩=some (.string y.ka)/\W.cell? ⟨b,off+i * 10+3,none⟩=some (.string y.kb)/\W.cell? ⟨b,off+i * 10+4,none⟩=some (.int .i64 y.iff)/\W.cell? ⟨b,off+i * 10+5,none⟩=some (.slice y.vp y.vo.length y.vc)/\W.cell? ⟨b,off+i * 10+6,none⟩=some (.slice y.ep y.eo.length y.ec)/\W.cell? ⟨b,off+i * 10+7,none⟩=some (.slice y.pp y.po.length y.pc)/\W.cell? ⟨b,off+i * 10+8,none⟩=some (.int .u64 y.stamp)/\W.cell? ⟨b,off+i * 10+9,none⟩=some (.int .i64 y.num):=by
 obtain ⟨hi,rfl⟩:=List.getElem?_eq_some_iff.1 hy;exact ⟨h i hi 0 _ rfl,h i hi 1 _ rfl,h i hi 2 _ rfl,h i hi 3 _ rfl,h i hi 4 _ rfl,h i hi 5 _ rfl,h i hi 6 _ rfl,h i hi 7 _ rfl,h i hi 8 _ rfl,h i hi 9 _ rfl⟩
def uN (d:List Ex):Bool:=decide (0<d.length)&&decide (d.length<=16)&&d.all pO
theorem bQ (once:Bool) (v:Value) (d:List Ex) (w:World) (hd:nP w v d) :
  Calls Tryz.prog 12 #[.agg #[.bool once,v]] w fun e w'=>e=.returned (.bool (uN d))/\Below w.heap.size w w':=by
 have HD:=hid hd;obtain ⟨a,cap,rfl,hrow⟩:=hd.row;have hlen:=hd.len;have HR:=hid hrow;have hal:Below w.heap.size w (w.alloc (.cells #[.bool once,sc a d.length cap] 25)):=(Below.refl _ _).alloc (Nat.le_refl _) _;have HAL:=hid hal;clear hd hrow hal
 by_cases h0:d.length<1
 case pos =>
  have HF:Hid (uN d=false):=hid (by unfold uN;rw [decide_eq_false (by omega:¬ 0<d.length)];rfl);have h0z:(d.length:Int)<1:=by omega
  go_enter Tryz.func12,Tryz.ntmps12
  go_wp2_with fail
  go_ret;exact ⟨by rw [HF.out];rfl,HAL.out⟩
 have h0z:¬ (d.length:Int)<1:=by omega
 by_cases h16:16<d.length
 case pos =>
  have HF:Hid (uN d=false):=hid (by unfold uN;rw [decide_eq_false (by omega:¬ d.length<=16)];simp);have h16z:(16:Int)<(d.length:Int):=by omega
  go_enter Tryz.func12,Tryz.ntmps12
  go_wp2_with fail
  go_ret;exact ⟨by rw [HF.out];rfl,HAL.out⟩
 have h16z:¬ (16:Int)<(d.length:Int):=by omega
 have HM:Hid (uN d=d.all pO):=hid (by unfold uN;rw [decide_eq_true (by omega:0<d.length),decide_eq_true (by omega:d.length<=16)];rfl)
 obtain ⟨b,off,rfl,hat⟩:∃b off,a=some (aa b off)/\KEx.At w b off d:=by
  rcases HR.out with h|⟨b,off,h1,h2⟩
  ·rw [h] at h0;simp at h0
  ·exact ⟨b,off,h1,h2⟩
 have HAT:=hid hat;clear hat HR;go_enter Tryz.func12,Tryz.ntmps12;go_wp2_with fail
 go_loopg [18] d.length (fun g vi wr=>∃(i:Nat),vi=ii i/\i<=d.length/\d.length-i<=g/\Hid (Below w.heap.size w wr)/\Hid ((d.take i).all pO=true))
 case atStart=>exact ⟨0,rfl,by omega,by omega,HAL,hid rfl⟩
 case round =>
  obtain ⟨i,rfl,hi,hig,HB,HA⟩:=hrel
  by_cases hlt:i<d.length
  ·have HLT:=hid hlt;have hltz:(i:Int)<(d.length:Int):=by omega
   have hiz:(0:Int)<=(i:Int):=by omega
   obtain ⟨y,hy⟩:∃y,d[i]? = some y:=⟨_,List.getElem?_eq_getElem hlt⟩;obtain ⟨c0,c1,c2,c3,c4,c5,c6,c7,c8,c9⟩:=vF (zE.at_kept HAT.out HB.out) i y hy;simp only [Nat.add_zero] at c0;have hmem:=List.mem_of_getElem? hy
   have HTK:Hid (d.take (i+1)=d.take i++[y]):=hid (by
    obtain ⟨h1,h2⟩:=List.getElem?_eq_some_iff.1 hy;rw [<-h2];exact List.take_succ_eq_append_getElem h1)
   have HMEM:=hid hmem;have HMY:Hid (∀W,Below w.heap.size w W->Calls Tryz.prog 28 #[.agg (vE y)] W fun e w'=>e=.returned (.bool (pO y))/\Below W.heap.size W w'):=hid fun W h=>zHH y W ((HD.out.each y HMEM.out).on h)
   have HB2:Hid (Below w.heap.size w (wr.alloc (.cells (vE y) 42))):=hid (HB.out.alloc HB.out.size _);clear hy hmem;go_wp2_with fail;refine (HMY.out _ HB2.out).mono ?_;rintro e w4 ⟨rfl,hb4⟩;have HB4:=hid (HB2.out.trans (hb4.mono HB2.out.size));clear hb4 c0 c1 c2 c3 c4 c5 c6 c7 c8 c9
   cases hm:pO y with
   | false =>
    have HF:Hid (d.all pO=false):=hid (by
     rw [List.all_eq_false];exact ⟨y,HMEM.out,by rw [hm];simp⟩)
    go_wp2_with fail
    go_ret;exact ⟨by rw [HM.out,HF.out];rfl,HB4.out⟩
   | true =>
    have HA2:Hid ((d.take (i+1)).all pO=true):=hid (by rw [HTK.out,List.all_append,HA.out];simp [hm]);go_wp2_with fail;go_roundg (d.length-(i+1))
    case measure=>omega
    exact ⟨i+1,by go_num,HLT.out,Nat.le_refl _,HB4,HA2⟩
  ·have hltz:¬ (i:Int)<(d.length:Int):=by omega
   have HF:Hid (d.all pO=true):=hid (by have:=HA.out;rw [List.take_of_length_le (by omega)] at this;exact this);go_wp2_with fail;go_ret;exact ⟨by rw [HM.out,HF.out];rfl,HB.out⟩
end
section
open Go.RowKit Go.Lib
theorem zEl {d d':List Ex} (hl:d.length=d'.length) (h:∀(i:Nat) (x y:Ex),d[i]? = some x->d'[i]? = some y->x.en=y.en):d.map Ex.en=d'.map Ex.en:=by
 apply List.ext_getElem?
 intro i;rw [List.getElem?_map,List.getElem?_map]
 cases hx:d[i]? with
 | none =>
  have:d'[i]? = none:=by rw [List.getElem?_eq_none_iff] at hx ⊢;omega
  rw [this]
 | some x =>
  obtain ⟨hi,_⟩:=List.getElem?_eq_some_iff.1 hx;have hy:d'[i]? = some d'[i]:=List.getElem?_eq_getElem (by omega);rw [hy,Option.map_some,Option.map_some,h i x _ hx hy]
theorem zJI (v v':Value) (d d':List Ex) (w:World) (hd:nP w v d) (hd':nP w v' d') :
  Calls Tryz.prog 29 #[v,v',.func (.func 30) #[] #[]] w fun e w'=>e=.returned (.bool (decide (d.map Ex.en=d'.map Ex.en)))/\Below w.heap.size w w':=by
 have HD:=hid hd;have HD':=hid hd';obtain ⟨a,cap,rfl,hrow⟩:=hd.row;obtain ⟨a',cap',rfl,hrow'⟩:=hd'.row;have hlen:=hd.len;have hlen':=hd'.len;have HR:=hid hrow;have HR':=hid hrow';clear hd hd' hrow hrow'
 by_cases hl:d.length=d'.length
 case neg =>
  have hne:((d.length:Int) != (d'.length:Int))=true:=by rw [bne_iff_ne];omega
  have HF:Hid (decide (d.map Ex.en=d'.map Ex.en)=false):=hid (decide_eq_false fun q=>hl (by have:=congrArg List.length q;simpa using this));clear hl;go_enter Tryz.func29,Tryz.ntmps29;go_wp2_with fail;go_ret;exact ⟨by rw [HF.out];rfl,Below.refl _ _⟩
 have hne:((d.length:Int) != (d'.length:Int))=false:=by simp;omega
 have HL:=hid hl;clear hl;go_enter Tryz.func29,Tryz.ntmps29;go_wp2_with fail
 go_loopg [17] d.length (fun g vi wr=>∃(i:Nat),vi=ii i/\i<=d.length/\d.length-i<=g/\Hid (Below w.heap.size w wr)/\Hid (∀(j:Nat) (x y:Ex),j<i->d[j]? = some x->d'[j]? = some y->x.en=y.en))
 case atStart=>exact ⟨0,rfl,by omega,by omega,hid (Below.refl _ _),hid fun j x y h=>by omega⟩
 case round =>
  obtain ⟨i,rfl,hi,hig,HB,HA⟩:=hrel
  by_cases hlt:i<d.length
  ·have HLT:=hid hlt;have hltz:(i:Int)<(d.length:Int):=by omega
   have hlt2:i<d'.length:=by have:=HL.out;omega
   have hltz2:(i:Int)<(d'.length:Int):=by omega
   have hiz:(0:Int)<=(i:Int):=by omega
   obtain ⟨b,off,rfl,hat⟩:∃b off,a=some (aa b off)/\KEx.At w b off d:=by
    rcases HR.out with h|⟨b,off,h1,h2⟩
    ·rw [h] at hlt;simp at hlt
    ·exact ⟨b,off,h1,h2⟩
   obtain ⟨b',off',rfl,hat'⟩:∃b off,a'=some (aa b off)/\KEx.At w b off d':=by
    rcases HR'.out with h|⟨b,off,h1,h2⟩
    ·rw [h] at hlt2;simp at hlt2
    ·exact ⟨b,off,h1,h2⟩
   obtain ⟨x,hx⟩:∃x,d[i]? = some x:=⟨_,List.getElem?_eq_getElem hlt⟩;obtain ⟨y,hy⟩:∃y,d'[i]? = some y:=⟨_,List.getElem?_eq_getElem hlt2⟩;obtain ⟨c0,c1,c2,c3,c4,c5,c6,c7,c8,c9⟩:=vF (zE.at_kept hat HB.out) i x hx;have HB2:Hid (Below w.heap.size w (wr.alloc (.cells (vE x) 42))):=hid (HB.out.alloc HB.out.size _);obtain ⟨f0,f1,f2,f3,f4,f5,f6,f7,f8,f9⟩:=vF (zE.at_kept hat' HB2.out) i y hy;simp only [Nat.add_zero] at c0 f0;have HB3:Hid (Below w.heap.size w ((wr.alloc (.cells (vE x) 42)).alloc (.cells (vE y) 42))):=hid (HB2.out.alloc HB2.out.size _);have HSM:Hid (∀W,Below w.heap.size w W->Calls Tryz.prog 30 #[.agg (vE x),.agg (vE y)] W fun e w'=>e=.returned (.bool (decide (x.en=y.en)))/\Below W.heap.size W w'):=hid fun W h=>zCA x y W ((HD.out.each x (List.mem_of_getElem? hx)).on h) ((HD'.out.each y (List.mem_of_getElem? hy)).on h)
   have HX:=hid hx;have HY:=hid hy;clear hat hat' hx hy;go_wp2_with fail;refine (HSM.out _ HB3.out).mono ?_;rintro e w4 ⟨rfl,hb4⟩;have HB4:=hid (HB3.out.trans (hb4.mono HB3.out.size));clear hb4 c0 c1 c2 c3 c4 c5 c6 c7 c8 c9 f0 f1 f2 f3 f4 f5 f6 f7 f8 f9
   by_cases hs:x.en=y.en
   ·have HA2:Hid (∀(j:Nat) (x y:Ex),j<i+1->d[j]? = some x->d'[j]? = some y->x.en=y.en):=hid fun j x' y' hj h1 h2=>by
     by_cases q:j=i
     ·subst q;rw [HX.out] at h1;rw [HY.out] at h2
      cases h1;cases h2;exact hs
     ·exact HA.out j x' y' (by omega) h1 h2
    have hd:=decide_eq_true hs;rw [hd];clear hs;go_wp2_with fail;go_roundg (d.length-(i+1))
    case measure=>omega
    exact ⟨i+1,by go_num,HLT.out,Nat.le_refl _,HB4,HA2⟩
   ·have HF:Hid (decide (d.map Ex.en=d'.map Ex.en)=false):=hid (decide_eq_false fun q=>hs (by
     have h:=congrArg (·[i]?) q;simp only [List.getElem?_map,HX.out,HY.out,Option.map_some] at h;exact Option.some.inj h))
    have hd:=decide_eq_false hs;rw [hd];clear hs;go_wp2_with fail;go_ret;exact ⟨by rw [HF.out];rfl,HB4.out⟩
  ·have hltz:¬ (i:Int)<(d.length:Int):=by omega
   have HF:Hid (decide (d.map Ex.en=d'.map Ex.en)=true):=hid (decide_eq_true (zEl HL.out fun j x y h1 h2=>HA.out j x y (by have:=(List.getElem?_eq_some_iff.1 h1).1;omega) h1 h2));go_wp2_with fail;go_ret;exact ⟨by rw [HF.out];rfl,HB.out⟩
theorem zEM (o o':Bool) (v v':Value) (d d':List Ex) (w:World) (hd:nP w v d) (hd':nP w v' d') :
  Calls Tryz.prog 13 #[.agg #[.bool o,v],.agg #[.bool o',v']] w fun e w'=>e=.returned (.bool (decide (o=o'/\d.map Ex.en=d'.map Ex.en)))/\Below w.heap.size w w':=by
 obtain ⟨a,cap,rfl,_⟩:=hd.row;obtain ⟨a',cap',rfl,_⟩:=hd'.row;have HB:Hid (Below w.heap.size w ((w.alloc (.cells #[.bool o,sc a d.length cap] 25)).alloc (.cells #[.bool o',sc a' d'.length cap'] 25))):=hid (((Below.refl _ _).alloc (Nat.le_refl _) _).alloc (by simp) _);have HE:=hid (zJI _ _ d d' _ (hd.on HB.out) (hd'.on HB.out));clear hd hd'
 by_cases ho:o=o'
 ·subst ho;have hq:(o==o)=true:=by cases o<;>rfl
  have HF:Hid (decide (o=o/\d.map Ex.en=d'.map Ex.en)=decide (d.map Ex.en=d'.map Ex.en)):=hid (by simp);go_enter Tryz.func13,Tryz.ntmps13;go_wp2_with (go_at_call 29;refine HE.out.mono ?_;rintro e w1 ⟨rfl,hb1⟩;have HB1:=hid (HB.out.trans (hb1.mono HB.out.size));clear hb1);go_ret;exact ⟨by rw [HF.out];rfl,HB1.out⟩
 ·have hq:(o==o')=false:=by cases o<;>cases o'<;>simp_all
  have HF:Hid (decide (o=o'/\d.map Ex.en=d'.map Ex.en)=false):=hid (decide_eq_false fun q=>ho q.1);go_enter Tryz.func13,Tryz.ntmps13;go_wp2_with fail;go_ret;exact ⟨by rw [HF.out];rfl,HB.out⟩
theorem cI (x:Ex) (w:World) :
  Calls Tryz.prog 14 #[wR x] w fun e w'=>e=.returned (.bool (decide (1<=x.kind)&&decide (x.kind<=5)))/\Below w.heap.size w w':=by
 unfold wR;simp only [yZ,Ex.vs,Ex.es,Ex.ps];have HB:Hid (Below w.heap.size w (w.alloc (.cells (vE x) 42))):=hid ((Below.refl _ _).alloc (Nat.le_refl _) _)
 by_cases h0:1<=x.kind
 ·have H0:Hid (decide (1<=x.kind)=true):=hid (decide_eq_true h0);go_enter Tryz.func14,Tryz.ntmps14;go_wp2_with fail;go_ret;exact ⟨by rw [H0.out];rfl,HB.out⟩
 ·have H0:Hid (decide (1<=x.kind)=false):=hid (decide_eq_false h0);go_enter Tryz.func14,Tryz.ntmps14;go_wp2_with fail;go_ret;exact ⟨by rw [H0.out];rfl,HB.out⟩
end
section
open Go.RowKit Go.Lib
theorem dH {w:World} {B:Nat} {T:TypeId} {v0 v1 v2 v3 v4 v5 v6 v7 v8 v9 z0 z1 z2 z3 z4 z5 z6 z7 z8 z9:Value} (h:w.heap[B]? = some (.cells #[z0,z1,z2,z3,z4,z5,z6,z7,z8,z9] T (0,0))) (W:World) (hW:((((((((((w.setCell ⟨B,0,none⟩ v0).setCell ⟨B,1,none⟩ v1).setCell ⟨B,2,none⟩ v2).setCell ⟨B,3,none⟩ v3).setCell ⟨B,4,none⟩ v4).setCell ⟨B,5,none⟩ v5).setCell ⟨B,6,none⟩ v6).setCell ⟨B,7,none⟩ v7).setCell ⟨B,8,none⟩ v8).setCell ⟨B,9,none⟩ v9)=W) :
  W.heap[B]? = some (.cells #[v0,v1,v2,v3,v4,v5,v6,v7,v8,v9] T (0,0))/\Fr (fun k=>k=B) w W:=by
 have f:∀(W:World) (j:Nat) (v:Value),Fr (fun k=>k=B) W (W.setCell (aa B j) v):=fun W j v=>⟨rfl,rfl,rfl,by simp,fun k _ hn=>heap_setCell_other _ _ k _ hn⟩
 have g:∀{u v t:World},Fr (fun k=>k=B) u v->Fr (fun k=>k=B) v t->Fr (fun k=>k=B) u t:=fun h1 h2=>h1.then h2 fun k hk=>Or.inl hk
 have f0:=Fr.refl (fun k=>k=B) w;have h1:(w.setCell (aa B 0) v0).heap[B]? = some (.cells #[v0,z1,z2,z3,z4,z5,z6,z7,z8,z9] T (0,0)):=heap_setCell_same w B 0 _ _ _ h;have f1:=g f0 (f w 0 v0)
 generalize w.setCell (aa B 0) v0=w1 at hW h1 f1
 have h2:(w1.setCell (aa B 1) v1).heap[B]? = some (.cells #[v0,v1,z2,z3,z4,z5,z6,z7,z8,z9] T (0,0)):=heap_setCell_same w1 B 1 _ _ _ h1;have f2:=g f1 (f w1 1 v1)
 generalize w1.setCell (aa B 1) v1=w2 at hW h2 f2
 have h3:(w2.setCell (aa B 2) v2).heap[B]? = some (.cells #[v0,v1,v2,z3,z4,z5,z6,z7,z8,z9] T (0,0)):=heap_setCell_same w2 B 2 _ _ _ h2;have f3:=g f2 (f w2 2 v2)
 generalize w2.setCell (aa B 2) v2=w3 at hW h3 f3
 have h4:(w3.setCell (aa B 3) v3).heap[B]? = some (.cells #[v0,v1,v2,v3,z4,z5,z6,z7,z8,z9] T (0,0)):=heap_setCell_same w3 B 3 _ _ _ h3;have f4:=g f3 (f w3 3 v3)
 generalize w3.setCell (aa B 3) v3=w4 at hW h4 f4
 have h5:(w4.setCell (aa B 4) v4).heap[B]? = some (.cells #[v0,v1,v2,v3,v4,z5,z6,z7,z8,z9] T (0,0)):=heap_setCell_same w4 B 4 _ _ _ h4;have f5:=g f4 (f w4 4 v4)
 generalize w4.setCell (aa B 4) v4=w5 at hW h5 f5
 have h6:(w5.setCell (aa B 5) v5).heap[B]? = some (.cells #[v0,v1,v2,v3,v4,v5,z6,z7,z8,z9] T (0,0)):=heap_setCell_same w5 B 5 _ _ _ h5;have f6:=g f5 (f w5 5 v5)
 generalize w5.setCell (aa B 5) v5=w6 at hW h6 f6
 have h7:(w6.setCell (aa B 6) v6).heap[B]? = some (.cells #[v0,v1,v2,v3,v4,v5,v6,z7,z8,z9] T (0,0)):=heap_setCell_same w6 B 6 _ _ _ h6;have f7:=g f6 (f w6 6 v6)
 generalize w6.setCell (aa B 6) v6=w7 at hW h7 f7
 have h8:(w7.setCell (aa B 7) v7).heap[B]? = some (.cells #[v0,v1,v2,v3,v4,v5,v6,v7,z8,z9] T (0,0)):=heap_setCell_same w7 B 7 _ _ _ h7;have f8:=g f7 (f w7 7 v7)
 generalize w7.setCell (aa B 7) v7=w8 at hW h8 f8
 have h9:(w8.setCell (aa B 8) v8).heap[B]? = some (.cells #[v0,v1,v2,v3,v4,v5,v6,v7,v8,z9] T (0,0)):=heap_setCell_same w8 B 8 _ _ _ h8;have f9:=g f8 (f w8 8 v8)
 generalize w8.setCell (aa B 8) v8=w9 at hW h9 f9
 have h10:(w9.setCell (aa B 9) v9).heap[B]? = some (.cells #[v0,v1,v2,v3,v4,v5,v6,v7,v8,v9] T (0,0)):=heap_setCell_same w9 B 9 _ _ _ h9;have f10:=g f9 (f w9 9 v9)
 generalize w9.setCell (aa B 9) v9=w10 at hW h10 f10
 subst hW;exact ⟨h10,f10⟩
theorem gW {w:World} {B:Nat} {T:TypeId} (x:Ex) {z0 z1 z2 z3 z4 z5 z6 z7 z8 z9:Value} (h:w.heap[B]? = some (.cells #[z0,z1,z2,z3,z4,z5,z6,z7,z8,z9] T (0,0))) (W:World) (hW:((((((((((w.setCell ⟨B,0,none⟩ (.int .i64 x.kind)).setCell ⟨B,1,none⟩ (.string x.temp)).setCell ⟨B,2,none⟩ (.string x.ka)).setCell ⟨B,3,none⟩ (.string x.kb)).setCell ⟨B,4,none⟩ (.int .i64 x.iff)).setCell ⟨B,5,none⟩ (.slice x.vp x.vo.length x.vc)).setCell ⟨B,6,none⟩ (.slice x.ep x.eo.length x.ec)).setCell ⟨B,7,none⟩ (.slice x.pp x.po.length x.pc)).setCell ⟨B,8,none⟩ (.int .u64 x.stamp)).setCell ⟨B,9,none⟩ (.int .i64 x.num))=W) :
  W.heap[B]? = some (.cells #[.int .i64 x.kind,.string x.temp,.string x.ka,.string x.kb,.int .i64 x.iff,.slice x.vp x.vo.length x.vc,.slice x.ep x.eo.length x.ec,.slice x.pp x.po.length x.pc,.int .u64 x.stamp,.int .i64 x.num] T (0,0))/\Fr (fun k=>k=B) w W:=dH h W hW
theorem zKm (a b c d:ByteArray) (w:World):(binOp .neq 36 (.agg #[.string a,.string b]) (.agg #[.string c,.string d])).run Tryz.prog w=.ok (.bool (!decide (a=c/\b=d))) w:=by
 have hS:Tryz.prog.underlying 36=some (.struct (Tryz.prog.fieldsOf 36)):=by kernel_rfl
 have hp:Tryz.prog.stoodInHeld 36=false:=by kernel_rfl
 have u9:=Tryz.underlying9;have a9:=Tryz.isAgg9;have z9:=Tryz.sizeOf9;rw [run_neq_struct,show (10000:Nat)=9999+1 from rfl,run_equalIn_agg w 9999 36 _ _ hS hp];simp only [Program.fieldsOf,Tryz.underlying36]
 go_simp
 by_cases h1:a=c
 ·subst h1
  by_cases h3:b=d
  ·subst h3;simp
  ·have e3:=beq_eq_false_iff_ne.1 (wI h3);simp [h3,e3]
 ·have e1:=beq_eq_false_iff_ne.1 (wI h1);simp [h1,e1]
theorem cK (o o':Bool) (v v':Value) (d d':List Ex) (w:World) (hd:nP w v d) (hd':nP w v' d') :
  Calls Tryz.prog 8 #[.agg #[.bool o,v],.agg #[.bool o',v']] w fun e w'=>e=.returned (.bool (decide (o=o'/\d.map Ex.en=d'.map Ex.en)))/\Below w.heap.size w w':=by
 have HD:=hid hd
 have HD':=hid hd'
 obtain ⟨a,cap,rfl,hrow⟩:=hd.row
 obtain ⟨a',cap',rfl,hrow'⟩:=hd'.row
 have hlen:=hd.len
 have hlen':=hd'.len
 have HR:=hid hrow
 have HR':=hid hrow'
 clear hd hd' hrow hrow'
 have HB:Hid (Below w.heap.size w ((w.alloc (.cells #[.bool o,sc a d.length cap] 25)).alloc (.cells #[.bool o',sc a' d'.length cap'] 25))):=hid (((Below.refl _ _).alloc (Nat.le_refl _) _).alloc (by simp) _)
 by_cases ho:o=o'
 case neg =>
  have hq:(o==o')=false:=by cases o<;>cases o'<;>simp_all
  have HF:Hid (decide (o=o'/\d.map Ex.en=d'.map Ex.en)=false):=hid (decide_eq_false fun q=>ho q.1)
  clear ho
  go_enter Tryz.func8,Tryz.ntmps8
  go_wp2_with fail
  go_ret
  exact ⟨by rw [HF.out];rfl,HB.out⟩
 subst ho
 have hgoal:decide (o=o/\d.map Ex.en=d'.map Ex.en)=decide (d.map Ex.en=d'.map Ex.en):=by simp
 rw [hgoal]
 clear hgoal
 have hq:(o==o)=true:=by cases o<;>rfl
 by_cases hl:d.length=d'.length
 case neg =>
  have hne:((d.length:Int) != (d'.length:Int))=true:=by rw [bne_iff_ne];omega
  have HF:Hid (decide (d.map Ex.en=d'.map Ex.en)=false):=hid (decide_eq_false fun q=>hl (by have:=congrArg List.length q;simpa using this))
  clear hl
  go_enter Tryz.func8,Tryz.ntmps8
  go_wp2_with fail
  go_ret
  exact ⟨by rw [HF.out];rfl,HB.out⟩
 have hne:((d.length:Int) != (d'.length:Int))=false:=by simp;omega
 have HL:=hid hl
 clear hl
 go_enter Tryz.func8,Tryz.ntmps8
 go_wp2_with fail
 go_loopg [5] d.length (fun g vi wr=>∃(i:Nat),vi=ii i/\i<=d.length/\d.length-i<=g/\Hid (Below w.heap.size w wr)/\wr.heap[w.heap.size]? = some (.cells #[.bool o,sc a d.length cap] 25 (0,0))/\wr.heap[w.heap.size+1]? = some (.cells #[.bool o,sc a' d'.length cap'] 25 (0,0))/\Hid (∀(j:Nat) (x y:Ex),j<i->d[j]? = some x->d'[j]? = some y->x.en=y.en))
 case atStart =>
  refine ⟨0,rfl,by omega,by omega,HB,?_,?_,hid fun j x y h=>by omega⟩
  ·rw [Below.heap_alloc _ _ _ (by simp)];exact heap_alloc_new w _
  ·have:=heap_alloc_new (w.alloc (.cells #[.bool o,sc a d.length cap] 25)) (.cells #[.bool o,sc a' d'.length cap'] 25)
   simpa using this
 case round =>
  obtain ⟨i,rfl,hi,hig,HBR,hb1,hb2,HA⟩:=hrel
  have k1:wr.cell? (aa w.heap.size 1)=some (sc a d.length cap):=cz hb1
  have k2:wr.cell? (aa (w.heap.size+1) 1)=some (sc a' d'.length cap'):=cz hb2
  by_cases hlt:i<d.length
  ·have HLT:=hid hlt
   have hltz:(i:Int)<(d.length:Int):=by omega
   have hlt2:i<d'.length:=by have:=HL.out;omega
   have hltz2:(i:Int)<(d'.length:Int):=by omega
   have hiz:(0:Int)<=(i:Int):=by omega
   obtain ⟨b,off,rfl,hat⟩:∃b off,a=some (aa b off)/\KEx.At w b off d:=by
    rcases HR.out with h|⟨b,off,h1,h2⟩
    ·rw [h] at hlt;simp at hlt
    ·exact ⟨b,off,h1,h2⟩
   obtain ⟨b',off',rfl,hat'⟩:∃b off,a'=some (aa b off)/\KEx.At w b off d':=by
    rcases HR'.out with h|⟨b,off,h1,h2⟩
    ·rw [h] at hlt2;simp at hlt2
    ·exact ⟨b,off,h1,h2⟩
   obtain ⟨x,hx⟩:∃x,d[i]? = some x:=⟨_,List.getElem?_eq_getElem hlt⟩
   obtain ⟨y,hy⟩:∃y,d'[i]? = some y:=⟨_,List.getElem?_eq_getElem hlt2⟩
   obtain ⟨W0,hW0⟩:∃W0,wr.drew=W0:=⟨_,rfl⟩
   have HSS:Hid (∀w',Below W0.heap.size W0 w'->(w'.cell? (aa w.heap.size 1)=some (sc (some (aa b off)) d.length cap)/\w'.cell? (aa (w.heap.size+1) 1)=some (sc (some (aa b' off')) d'.length cap')/\w'.cell? (aa b (off+i * 10))=some (ii x.kind)/\w'.cell? (aa b (off+i * 10+1))=some (tq x.temp)/\w'.cell? (aa b (off+i * 10+2))=some (tq x.ka)/\w'.cell? (aa b (off+i * 10+3))=some (tq x.kb)/\w'.cell? (aa b (off+i * 10+4))=some (ii x.iff)/\w'.cell? (aa b (off+i * 10+5))=some (sc x.vp x.vo.length x.vc)/\w'.cell? (aa b (off+i * 10+6))=some (sc x.ep x.eo.length x.ec)/\w'.cell? (aa b (off+i * 10+7))=some (sc x.pp x.po.length x.pc)/\w'.cell? (aa b (off+i * 10+8))=some (iu x.stamp)/\w'.cell? (aa b (off+i * 10+9))=some (ii x.num)/\w'.cell? (aa b' (off'+i * 10))=some (ii y.kind)/\w'.cell? (aa b' (off'+i * 10+1))=some (tq y.temp)/\w'.cell? (aa b' (off'+i * 10+2))=some (tq y.ka)/\w'.cell? (aa b' (off'+i * 10+3))=some (tq y.kb)/\w'.cell? (aa b' (off'+i * 10+4))=some (ii y.iff)/\w'.cell? (aa b' (off'+i * 10+5))=some (sc y.vp y.vo.length y.vc)/\w'.cell? (aa b' (off'+i * 10+6))=some (sc y.ep y.eo.length y.ec)/\w'.cell? (aa b' (off'+i * 10+7))=some (sc y.pp y.po.length y.pc)/\w'.cell? (aa b' (off'+i * 10+8))=some (iu y.stamp)/\w'.cell? (aa b' (off'+i * 10+9))=some (ii y.num))):=hid fun w' hb=>by
    have hbw:Below w.heap.size w W0:=by rw [<-hW0];exact zP HBR.out 1
    have hq:=hbw.trans (hb.mono hbw.size)
    have q1:w'.heap[w.heap.size]? = some (.cells #[.bool o,sc (some (aa b off)) d.length cap] 25 (0,0)):=(hb.block _ (by rw [<-hW0];exact (Array.getElem?_eq_some_iff.1 hb1).1)).trans (by rw [<-hW0];exact hb1)
    have q2:w'.heap[w.heap.size+1]? = some (.cells #[.bool o,sc (some (aa b' off')) d'.length cap'] 25 (0,0)):=(hb.block _ (by rw [<-hW0];exact (Array.getElem?_eq_some_iff.1 hb2).1)).trans (by rw [<-hW0];exact hb2)
    obtain ⟨c0,c1,c2,c3,c4,c5,c6,c7,c8,c9⟩:=vF (zE.at_kept hat hq) i x hx
    obtain ⟨f0,f1,f2,f3,f4,f5,f6,f7,f8,f9⟩:=vF (zE.at_kept hat' hq) i y hy
    exact ⟨by rw [Lib.cell_of_heap q1];rfl,by rw [Lib.cell_of_heap q2];rfl,c0,c1,c2,c3,c4,c5,c6,c7,c8,c9,f0,f1,f2,f3,f4,f5,f6,f7,f8,f9⟩
   have HB01:Hid (Below wr.heap.size wr W0):=hid (by rw [<-hW0];exact zP (Below.refl _ _) 1)
   have HQ1:=hid hb1
   have HQ2:=hid hb2
   have HX0:=hid hx
   have HY0:=hid hy
   have HEX:=hid (HD.out.each x (List.mem_of_getElem? hx))
   have HEY:=hid (HD'.out.each y (List.mem_of_getElem? hy))
   clear hx hy hat hat' HD HD' HR HR'
   go_upto_region 6 with fail
   clear hb1 hb2 k1 k2
   go_cut [6,7] from 27 (fun v6 v7 wx=>∃X Y,v6=.pointer (some (aa X 0))/\v7=.pointer (some (aa Y 0))/\Hid (Below wr.heap.size wr wx/\wx.heap[X]? = some (.cells (vE x) 42 (0,0))/\wx.heap[Y]? = some (.cells (vE y) 42 (0,0))))
   case first =>
    refine wp_region_held_drew (S:=fun w'=>(w'.cell? (aa w.heap.size 1)=some (sc (some (aa b off)) d.length cap)/\w'.cell? (aa (w.heap.size+1) 1)=some (sc (some (aa b' off')) d'.length cap')/\w'.cell? (aa b (off+i * 10))=some (ii x.kind)/\w'.cell? (aa b (off+i * 10+1))=some (tq x.temp)/\w'.cell? (aa b (off+i * 10+2))=some (tq x.ka)/\w'.cell? (aa b (off+i * 10+3))=some (tq x.kb)/\w'.cell? (aa b (off+i * 10+4))=some (ii x.iff)/\w'.cell? (aa b (off+i * 10+5))=some (sc x.vp x.vo.length x.vc)/\w'.cell? (aa b (off+i * 10+6))=some (sc x.ep x.eo.length x.ec)/\w'.cell? (aa b (off+i * 10+7))=some (sc x.pp x.po.length x.pc)/\w'.cell? (aa b (off+i * 10+8))=some (iu x.stamp)/\w'.cell? (aa b (off+i * 10+9))=some (ii x.num)/\w'.cell? (aa b' (off'+i * 10))=some (ii y.kind)/\w'.cell? (aa b' (off'+i * 10+1))=some (tq y.temp)/\w'.cell? (aa b' (off'+i * 10+2))=some (tq y.ka)/\w'.cell? (aa b' (off'+i * 10+3))=some (tq y.kb)/\w'.cell? (aa b' (off'+i * 10+4))=some (ii y.iff)/\w'.cell? (aa b' (off'+i * 10+5))=some (sc y.vp y.vo.length y.vc)/\w'.cell? (aa b' (off'+i * 10+6))=some (sc y.ep y.eo.length y.ec)/\w'.cell? (aa b' (off'+i * 10+7))=some (sc y.pp y.po.length y.pc)/\w'.cell? (aa b' (off'+i * 10+8))=some (iu y.stamp)/\w'.cell? (aa b' (off'+i * 10+9))=some (ii y.num))) (by kernel_rfl) (by rw [hW0];exact HSS.out _ (Below.refl _ _)) (fun hHeld=>?_)
    rw [hW0] at hHeld ⊢
    refine tkv 0 (.pointer (some (aa w.heap.size 1))) hHeld ?_
    simp only [Act.put,sz]
    refine tkv 1 (sc (some (aa b off)) d.length cap) hHeld ?_
    simp only [Act.put,sz]
    refine tkv 2 (ii i) hHeld ?_
    simp only [Act.put,sz]
    refine tkv 3 (.pointer (some (aa b (off+i * 10)))) hHeld ?_
    simp only [Act.put,sz]
    refine tkv 4 (.agg (vE x)) hHeld ?_
    simp only [Act.put,sz]
    refine tkv 5 (.pointer (some (aa (w.heap.size+1) 1))) hHeld ?_
    simp only [Act.put,sz]
    refine tkv 6 (sc (some (aa b' off')) d'.length cap') hHeld ?_
    simp only [Act.put,sz]
    refine tkv 7 (ii i) hHeld ?_
    simp only [Act.put,sz]
    refine tkv 8 (.pointer (some (aa b' (off'+i * 10)))) hHeld ?_
    simp only [Act.put,sz]
    refine tkv 9 (.agg (vE y)) hHeld ?_
    simp only [Act.put,sz]
    refine wpAnyH_ready (rs:=[10,11]) (by kernel_rfl) (by simp) ?_
    refine AllReadyH.cons (yT rfl) (fun K hK=>?_) (AllReadyH.cons (yT rfl) (fun K hK=>?_) AllReadyH.nil)
    ·rw [if_pos (by rfl)]
     go_simp
     obtain ⟨X,hX⟩:∃X,W0.heap.size=X:=⟨_,rfl⟩
     obtain ⟨W1,hW1⟩:∃W1,W0.alloc (.cells vZ 42)=W1:=⟨_,rfl⟩
     have ha1:Below W0.heap.size W0 W1:=by rw [<-hW1];exact (Below.refl _ _).alloc (Nat.le_refl _) _
     have HP1:Hid (W1.heap[X]? = some (.cells vZ 42 (0,0))):=by show _=_;rw [<-hW1,<-hX];exact heap_alloc_new W0 _
     have hs1:=HSS.out W1 ha1
     have HA1:=hid ha1
     clear ha1
     go_wp2_with fail
     try rw [hX]
     try rw [hW1]
     refine hK.out _ _ hs1 (fun hHeld=>?_)
     clear hK K
     try simp only [Act.put,sz]
     clear hs1
     refine wpAnyH_ready (rs:=[11]) (by kernel_rfl) (by simp) ?_
     refine AllReadyH.cons (yT rfl) (fun K hK=>?_) AllReadyH.nil
     rw [if_pos (by rfl)]
     go_simp
     obtain ⟨Y,hY⟩:∃Y,W1.heap.size=Y:=⟨_,rfl⟩
     obtain ⟨W2,hW2⟩:∃W2,W1.alloc (.cells vZ 42)=W2:=⟨_,rfl⟩
     have ha2:Below W1.heap.size W1 W2:=by rw [<-hW2];exact (Below.refl _ _).alloc (Nat.le_refl _) _
     have hp2:W2.heap[Y]? = some (.cells vZ 42 (0,0)):=by rw [<-hW2,<-hY];exact heap_alloc_new W1 _
     have hpl:X<W1.heap.size:=(Array.getElem?_eq_some_iff.1 HP1.out).1
     have hp1:W2.heap[X]? = some (.cells vZ 42 (0,0)):=(ha2.block X hpl).trans HP1.out
     have HNE:Hid (X≠Y):=hid (by omega)
     have HLE:Hid (W0.heap.size<=X/\W0.heap.size<=Y):=hid (by have:=HA1.out.size;omega)
     have HA2:Hid (Below W0.heap.size W0 W2):=hid (zQ HA1.out HA1.out.size ha2)
     have hs2:=HSS.out W2 HA2.out
     have HX:=hid hp1
     have HY:=hid hp2
     clear ha2 hp1 hp2 hpl HA1 HP1
     go_wp2_with fail
     try rw [hY]
     try rw [hW2]
     refine hK.out _ _ hs2 (fun hHeld=>?_)
     clear hK K
     try simp only [Act.put,sz]
     clear hs2 hX hY hW1 hW2
     obtain ⟨W3,hW3⟩:∃W3,((((((((((W2.setCell (aa X 0) (ii x.kind)).setCell (aa X 1) (tq x.temp)).setCell (aa X 2) (tq x.ka)).setCell (aa X 3) (tq x.kb)).setCell (aa X 4) (ii x.iff)).setCell (aa X 5) (sc x.vp x.vo.length x.vc)).setCell (aa X 6) (sc x.ep x.eo.length x.ec)).setCell (aa X 7) (sc x.pp x.po.length x.pc)).setCell (aa X 8) (iu x.stamp)).setCell (aa X 9) (ii x.num))=W3:=⟨_,rfl⟩
     obtain ⟨hx3,fx3⟩:=gW x HX.out W3 hW3
     obtain ⟨zc0,zc1,zc2,zc3,zc4,zc5,zc6,zc7,zc8,zc9⟩:=sJ HX.out
     have zf0:=Lib.frozen_of_heap HX.out
     have HB3:Hid (Below W0.heap.size W0 W3):=hid (HA2.out.trans (fx3.below HA2.out.size fun k hk=>by rw [hk];exact HLE.out.1))
     have hy3:W3.heap[Y]? = some (.cells vZ 42 (0,0)):=(fx3.block Y (Array.getElem?_eq_some_iff.1 HY.out).1 (fun e=>HNE.out e.symm)).trans HY.out
     have HX3:=hid hx3
     have HY3:=hid hy3
     have hs3:=HSS.out W3 HB3.out
     clear hx3 hy3 fx3
     refine wpAnyH_ready (rs:=[12]) (by kernel_rfl) (by simp) ?_
     refine AllReadyH.cons (yT rfl) (fun K hK=>?_) AllReadyH.nil
     rw [if_pos (by rfl)]
     go_simp
     go_wp2_with fail
     try rw [hW3]
     refine hK.out _ _ hs3 (fun hHeld=>?_)
     clear hK K
     try simp only [Act.put,sz]
     clear hs3 hW3 zc0 zf0 zc1 zc2 zc3 zc4 zc5 zc6 zc7 zc8 zc9
     obtain ⟨W4,hW4⟩:∃W4,((((((((((W3.setCell (aa Y 0) (ii y.kind)).setCell (aa Y 1) (tq y.temp)).setCell (aa Y 2) (tq y.ka)).setCell (aa Y 3) (tq y.kb)).setCell (aa Y 4) (ii y.iff)).setCell (aa Y 5) (sc y.vp y.vo.length y.vc)).setCell (aa Y 6) (sc y.ep y.eo.length y.ec)).setCell (aa Y 7) (sc y.pp y.po.length y.pc)).setCell (aa Y 8) (iu y.stamp)).setCell (aa Y 9) (ii y.num))=W4:=⟨_,rfl⟩
     obtain ⟨hy4,fy4⟩:=gW y HY3.out W4 hW4
     obtain ⟨zc0,zc1,zc2,zc3,zc4,zc5,zc6,zc7,zc8,zc9⟩:=sJ HY3.out
     have zf0:=Lib.frozen_of_heap HY3.out
     have HB4:Hid (Below W0.heap.size W0 W4):=hid (HB3.out.trans (fy4.below HB3.out.size fun k hk=>by rw [hk];exact HLE.out.2))
     have hx4:W4.heap[X]? = some (.cells (vE x) 42 (0,0)):=(fy4.block X (Array.getElem?_eq_some_iff.1 HX3.out).1 HNE.out).trans HX3.out
     have HX4:=hid hx4
     have HY4:=hid hy4
     have hs4:=HSS.out W4 HB4.out
     clear hx4 hy4 fy4
     refine wpAnyH_ready (rs:=[13]) (by kernel_rfl) (by simp) ?_
     refine AllReadyH.cons (yT rfl) (fun K hK=>?_) AllReadyH.nil
     rw [if_pos (by rfl)]
     go_simp
     go_wp2_with fail
     try rw [hW4]
     refine hK.out _ _ hs4 (fun hHeld=>?_)
     clear hK K
     try simp only [Act.put,sz]
     clear hs4 hW4 zc0 zf0 zc1 zc2 zc3 zc4 zc5 zc6 zc7 zc8 zc9
     refine wpAnyH_done (by kernel_rfl) ?_ _
     clear hHeld
     go_wp2_with fail
     go_meet
     exact ⟨X,Y,rfl,rfl,hid ⟨HB01.out.trans (HB4.out.mono HB01.out.size),HX4.out,HY4.out⟩⟩
    ·rw [if_pos (by rfl)]
     go_simp
     obtain ⟨Y,hY⟩:∃Y,W0.heap.size=Y:=⟨_,rfl⟩
     obtain ⟨W1,hW1⟩:∃W1,W0.alloc (.cells vZ 42)=W1:=⟨_,rfl⟩
     have ha1:Below W0.heap.size W0 W1:=by rw [<-hW1];exact (Below.refl _ _).alloc (Nat.le_refl _) _
     have HP1:Hid (W1.heap[Y]? = some (.cells vZ 42 (0,0))):=by show _=_;rw [<-hW1,<-hY];exact heap_alloc_new W0 _
     have hs1:=HSS.out W1 ha1
     have HA1:=hid ha1
     clear ha1
     go_wp2_with fail
     try rw [hY]
     try rw [hW1]
     refine hK.out _ _ hs1 (fun hHeld=>?_)
     clear hK K
     try simp only [Act.put,sz]
     clear hs1
     refine wpAnyH_ready (rs:=[10]) (by kernel_rfl) (by simp) ?_
     refine AllReadyH.cons (yT rfl) (fun K hK=>?_) AllReadyH.nil
     rw [if_pos (by rfl)]
     go_simp
     obtain ⟨X,hX⟩:∃X,W1.heap.size=X:=⟨_,rfl⟩
     obtain ⟨W2,hW2⟩:∃W2,W1.alloc (.cells vZ 42)=W2:=⟨_,rfl⟩
     have ha2:Below W1.heap.size W1 W2:=by rw [<-hW2];exact (Below.refl _ _).alloc (Nat.le_refl _) _
     have hp2:W2.heap[X]? = some (.cells vZ 42 (0,0)):=by rw [<-hW2,<-hX];exact heap_alloc_new W1 _
     have hpl:Y<W1.heap.size:=(Array.getElem?_eq_some_iff.1 HP1.out).1
     have hp1:W2.heap[Y]? = some (.cells vZ 42 (0,0)):=(ha2.block Y hpl).trans HP1.out
     have HNE:Hid (X≠Y):=hid (by omega)
     have HLE:Hid (W0.heap.size<=X/\W0.heap.size<=Y):=hid (by have:=HA1.out.size;omega)
     have HA2:Hid (Below W0.heap.size W0 W2):=hid (zQ HA1.out HA1.out.size ha2)
     have hs2:=HSS.out W2 HA2.out
     have HY:=hid hp1
     have HX:=hid hp2
     clear ha2 hp1 hp2 hpl HA1 HP1
     go_wp2_with fail
     try rw [hX]
     try rw [hW2]
     refine hK.out _ _ hs2 (fun hHeld=>?_)
     clear hK K
     try simp only [Act.put,sz]
     clear hs2 hX hY hW1 hW2
     obtain ⟨W3,hW3⟩:∃W3,((((((((((W2.setCell (aa X 0) (ii x.kind)).setCell (aa X 1) (tq x.temp)).setCell (aa X 2) (tq x.ka)).setCell (aa X 3) (tq x.kb)).setCell (aa X 4) (ii x.iff)).setCell (aa X 5) (sc x.vp x.vo.length x.vc)).setCell (aa X 6) (sc x.ep x.eo.length x.ec)).setCell (aa X 7) (sc x.pp x.po.length x.pc)).setCell (aa X 8) (iu x.stamp)).setCell (aa X 9) (ii x.num))=W3:=⟨_,rfl⟩
     obtain ⟨hx3,fx3⟩:=gW x HX.out W3 hW3
     obtain ⟨zc0,zc1,zc2,zc3,zc4,zc5,zc6,zc7,zc8,zc9⟩:=sJ HX.out
     have zf0:=Lib.frozen_of_heap HX.out
     have HB3:Hid (Below W0.heap.size W0 W3):=hid (HA2.out.trans (fx3.below HA2.out.size fun k hk=>by rw [hk];exact HLE.out.1))
     have hy3:W3.heap[Y]? = some (.cells vZ 42 (0,0)):=(fx3.block Y (Array.getElem?_eq_some_iff.1 HY.out).1 (fun e=>HNE.out e.symm)).trans HY.out
     have HX3:=hid hx3
     have HY3:=hid hy3
     have hs3:=HSS.out W3 HB3.out
     clear hx3 hy3 fx3
     refine wpAnyH_ready (rs:=[12]) (by kernel_rfl) (by simp) ?_
     refine AllReadyH.cons (yT rfl) (fun K hK=>?_) AllReadyH.nil
     rw [if_pos (by rfl)]
     go_simp
     go_wp2_with fail
     try rw [hW3]
     refine hK.out _ _ hs3 (fun hHeld=>?_)
     clear hK K
     try simp only [Act.put,sz]
     clear hs3 hW3 zc0 zf0 zc1 zc2 zc3 zc4 zc5 zc6 zc7 zc8 zc9
     obtain ⟨W4,hW4⟩:∃W4,((((((((((W3.setCell (aa Y 0) (ii y.kind)).setCell (aa Y 1) (tq y.temp)).setCell (aa Y 2) (tq y.ka)).setCell (aa Y 3) (tq y.kb)).setCell (aa Y 4) (ii y.iff)).setCell (aa Y 5) (sc y.vp y.vo.length y.vc)).setCell (aa Y 6) (sc y.ep y.eo.length y.ec)).setCell (aa Y 7) (sc y.pp y.po.length y.pc)).setCell (aa Y 8) (iu y.stamp)).setCell (aa Y 9) (ii y.num))=W4:=⟨_,rfl⟩
     obtain ⟨hy4,fy4⟩:=gW y HY3.out W4 hW4
     obtain ⟨zc0,zc1,zc2,zc3,zc4,zc5,zc6,zc7,zc8,zc9⟩:=sJ HY3.out
     have zf0:=Lib.frozen_of_heap HY3.out
     have HB4:Hid (Below W0.heap.size W0 W4):=hid (HB3.out.trans (fy4.below HB3.out.size fun k hk=>by rw [hk];exact HLE.out.2))
     have hx4:W4.heap[X]? = some (.cells (vE x) 42 (0,0)):=(fy4.block X (Array.getElem?_eq_some_iff.1 HX3.out).1 HNE.out).trans HX3.out
     have HX4:=hid hx4
     have HY4:=hid hy4
     have hs4:=HSS.out W4 HB4.out
     clear hx4 hy4 fy4
     refine wpAnyH_ready (rs:=[13]) (by kernel_rfl) (by simp) ?_
     refine AllReadyH.cons (yT rfl) (fun K hK=>?_) AllReadyH.nil
     rw [if_pos (by rfl)]
     go_simp
     go_wp2_with fail
     try rw [hW4]
     refine hK.out _ _ hs4 (fun hHeld=>?_)
     clear hK K
     try simp only [Act.put,sz]
     clear hs4 hW4 zc0 zf0 zc1 zc2 zc3 zc4 zc5 zc6 zc7 zc8 zc9
     refine wpAnyH_done (by kernel_rfl) ?_ _
     clear hHeld
     go_wp2_with fail
     go_meet
     exact ⟨X,Y,rfl,rfl,hid ⟨HB01.out.trans (HB4.out.mono HB01.out.size),HX4.out,HY4.out⟩⟩
   obtain ⟨X,Y,rfl,rfl,HCUT⟩:=hcut
   obtain ⟨hbc,hxc,hyc⟩:=HCUT.out
   have HBC:Hid (Below w.heap.size w wc):=hid (HBR.out.trans (hbc.mono HBR.out.size))
   have HC1:Hid (wc.heap[w.heap.size]? = some (.cells #[.bool o,sc (some (aa b off)) d.length cap] 25 (0,0))):=hid ((hbc.block _ (Array.getElem?_eq_some_iff.1 HQ1.out).1).trans HQ1.out)
   have HC2:Hid (wc.heap[w.heap.size+1]? = some (.cells #[.bool o,sc (some (aa b' off')) d'.length cap'] 25 (0,0))):=hid ((hbc.block _ (Array.getElem?_eq_some_iff.1 HQ2.out).1).trans HQ2.out)
   obtain ⟨xc0,xc1,xc2,xc3,xc4,xc5,xc6,xc7,xc8,xc9⟩:=sJ hxc
   obtain ⟨yc0,yc1,yc2,yc3,yc4,yc5,yc6,yc7,yc8,yc9⟩:=sJ hyc
   clear hbc hxc hyc HCUT HSS HQ1 HQ2
   have HEX2:=hid (HEX.out.on HBC.out)
   have HEY2:=hid (HEY.out.on HBC.out)
   have HEN:Hid (decide (x.en=y.en)=decide (x.kind=y.kind/\x.temp=y.temp/\(x.ka=y.ka/\x.kb=y.kb)/\x.iff=y.iff/\x.stamp=y.stamp/\x.num=y.num/\x.vo.map Fx.fld=y.vo.map Fx.fld/\x.eo=y.eo/\x.po=y.po)):=hid (by rw [decide_eq_decide];exact zNR x.en y.en)
   have HSF:Hid (Calls Tryz.prog 21 #[sc x.vp x.vo.length x.vc,sc y.vp y.vo.length y.vc] wc fun e w'=>e=.returned (.bool (decide (x.vo.map Fx.fld=y.vo.map Fx.fld)))/\∃m,w'=wc.drewN m):=hid (zKB _ _ x.vo y.vo _ HEX2.out.val HEY2.out.val HEX2.out.fit HEY2.out.fit)
   have HSE:Hid (∀n,Calls Tryz.prog 22 #[sc x.ep x.eo.length x.ec,sc y.ep y.eo.length y.ec] (wc.drewN n) fun e w'=>e=.returned (.bool (decide (x.eo=y.eo)))/\∃m,w'=(wc.drewN n).drewN m):=hid fun n=>zGf _ _ x.eo y.eo _ (HEX2.out.on (zP (Below.refl _ _) n)).eds (HEY2.out.on (zP (Below.refl _ _) n)).eds HEX2.out.efit.1
   have HSP:Hid (∀n,Calls Tryz.prog 23 #[sc x.pp x.po.length x.pc,sc y.pp y.po.length y.pc] (wc.drewN n) fun e w'=>e=.returned (.bool (decide (x.po=y.po)))/\∃m,w'=(wc.drewN n).drewN m):=hid fun n=>zAv _ _ x.po y.po _ (HEX2.out.on (zP (Below.refl _ _) n)).prd (HEY2.out.on (zP (Below.refl _ _) n)).prd HEX2.out.pfit.1
   have HKQ:=hid (zKm x.ka x.kb y.ka y.kb)
   go_upto_region 7 with fail
   go_cut [102] from 27 (fun c wx=>c=.bool (!decide (x.en=y.en))/\Hid (∃n,wx=wc.drewN n))
   case first =>
    by_cases h_kind:x.kind=y.kind
    case neg =>
     have q_kind:(x.kind != y.kind)=true:=bne_iff_ne.2 h_kind
     have HF:Hid (decide (x.en=y.en)=false):=hid (HEN.out.trans (decide_eq_false fun q=>h_kind q.1))
     clear h_kind
     go_wp2_with fail
     go_meet
     exact ⟨by rw [HF.out];rfl,hid ⟨0,rfl⟩⟩
    have q_kind:(x.kind != y.kind)=false:=by rw [h_kind];simp
    by_cases h_temp:x.temp=y.temp
    case neg =>
     have q_temp:(x.temp.toList==y.temp.toList)=false:=wI h_temp
     have HF:Hid (decide (x.en=y.en)=false):=hid (HEN.out.trans (decide_eq_false fun q=>h_temp q.2.1))
     clear h_kind h_temp
     go_wp2_with fail
     go_meet
     exact ⟨by rw [HF.out];rfl,hid ⟨0,rfl⟩⟩
    have q_temp:(x.temp.toList==y.temp.toList)=true:=kT h_temp
    by_cases h_key:(x.ka=y.ka/\x.kb=y.kb)
    case neg =>
     have q_key:∀V,(binOp .neq 36 (.agg #[tq x.ka,tq x.kb]) (.agg #[tq y.ka,tq y.kb])).run Tryz.prog V=.ok (.bool true) V:=fun V=>by rw [HKQ.out V,decide_eq_false h_key];rfl
     have HF:Hid (decide (x.en=y.en)=false):=hid (HEN.out.trans (decide_eq_false fun q=>h_key q.2.2.1))
     clear h_kind h_temp h_key
     go_wp2_with fail
     go_meet
     exact ⟨by rw [HF.out];rfl,hid ⟨0,rfl⟩⟩
    have q_key:∀V,(binOp .neq 36 (.agg #[tq x.ka,tq x.kb]) (.agg #[tq y.ka,tq y.kb])).run Tryz.prog V=.ok (.bool false) V:=fun V=>by rw [HKQ.out V,decide_eq_true h_key];rfl
    by_cases h_iff:x.iff=y.iff
    case neg =>
     have q_iff:(x.iff != y.iff)=true:=bne_iff_ne.2 h_iff
     have HF:Hid (decide (x.en=y.en)=false):=hid (HEN.out.trans (decide_eq_false fun q=>h_iff q.2.2.2.1))
     clear h_kind h_temp h_key h_iff
     go_wp2_with fail
     go_meet
     exact ⟨by rw [HF.out];rfl,hid ⟨0,rfl⟩⟩
    have q_iff:(x.iff != y.iff)=false:=by rw [h_iff];simp
    by_cases h_stamp:x.stamp=y.stamp
    case neg =>
     have q_stamp:(x.stamp != y.stamp)=true:=bne_iff_ne.2 h_stamp
     have HF:Hid (decide (x.en=y.en)=false):=hid (HEN.out.trans (decide_eq_false fun q=>h_stamp q.2.2.2.2.1))
     clear h_kind h_temp h_key h_iff h_stamp
     go_wp2_with fail
     go_meet
     exact ⟨by rw [HF.out];rfl,hid ⟨0,rfl⟩⟩
    have q_stamp:(x.stamp != y.stamp)=false:=by rw [h_stamp];simp
    by_cases h_num:x.num=y.num
    case neg =>
     have q_num:(x.num != y.num)=true:=bne_iff_ne.2 h_num
     have HF:Hid (decide (x.en=y.en)=false):=hid (HEN.out.trans (decide_eq_false fun q=>h_num q.2.2.2.2.2.1))
     clear h_kind h_temp h_key h_iff h_stamp h_num
     go_wp2_with fail
     go_meet
     exact ⟨by rw [HF.out];rfl,hid ⟨0,rfl⟩⟩
    have q_num:(x.num != y.num)=false:=by rw [h_num];simp
    by_cases h_val:x.vo.map Fx.fld=y.vo.map Fx.fld
    case neg =>
     have q_val:=decide_eq_false h_val
     have HF:Hid (decide (x.en=y.en)=false):=hid (HEN.out.trans (decide_eq_false fun q=>h_val q.2.2.2.2.2.2.1))
     clear h_kind h_temp h_key h_iff h_stamp h_num h_val
     go_wp2_with (first|(go_at_call 21;refine HSF.out.mono ?_;rintro e w1 ⟨rfl,n1,rfl⟩))
     go_meet
     exact ⟨by rw [HF.out];rfl,hid ⟨_,rfl⟩⟩
    have q_val:=decide_eq_true h_val
    by_cases h_eds:x.eo=y.eo
    case neg =>
     have q_eds:=decide_eq_false h_eds
     have HF:Hid (decide (x.en=y.en)=false):=hid (HEN.out.trans (decide_eq_false fun q=>h_eds q.2.2.2.2.2.2.2.1))
     clear h_kind h_temp h_key h_iff h_stamp h_num h_val h_eds
     go_wp2_with (first|(go_at_call 21;refine HSF.out.mono ?_;rintro e w1 ⟨rfl,n1,rfl⟩)|(go_at_call 22;refine (HSE.out n1).mono ?_;rintro e w2 ⟨rfl,n2,rfl⟩))
     go_meet
     exact ⟨by rw [HF.out];rfl,hid ⟨_,rfl⟩⟩
    have q_eds:=decide_eq_true h_eds
    by_cases h_prd:x.po=y.po
    case neg =>
     have q_prd:=decide_eq_false h_prd
     have HF:Hid (decide (x.en=y.en)=false):=hid (HEN.out.trans (decide_eq_false fun q=>h_prd q.2.2.2.2.2.2.2.2))
     clear h_kind h_temp h_key h_iff h_stamp h_num h_val h_eds h_prd
     go_wp2_with (first|(go_at_call 21;refine HSF.out.mono ?_;rintro e w1 ⟨rfl,n1,rfl⟩)|(go_at_call 22;refine (HSE.out n1).mono ?_;rintro e w2 ⟨rfl,n2,rfl⟩)|(go_at_call 23;refine (HSP.out _).mono ?_;rintro e w3 ⟨rfl,n3,rfl⟩))
     go_meet
     exact ⟨by rw [HF.out];rfl,hid ⟨_,rfl⟩⟩
    have q_prd:=decide_eq_true h_prd
    have HF:Hid (decide (x.kind=y.kind/\x.temp=y.temp/\(x.ka=y.ka/\x.kb=y.kb)/\x.iff=y.iff/\x.stamp=y.stamp/\x.num=y.num/\x.vo.map Fx.fld=y.vo.map Fx.fld/\x.eo=y.eo/\x.po=y.po)=true):=hid (decide_eq_true ⟨h_kind,h_temp,h_key,h_iff,h_stamp,h_num,h_val,h_eds,h_prd⟩)
    clear h_kind h_temp h_key h_iff h_stamp h_num h_val h_eds h_prd
    go_wp2_with (first|(go_at_call 21;refine HSF.out.mono ?_;rintro e w1 ⟨rfl,n1,rfl⟩)|(go_at_call 22;refine (HSE.out n1).mono ?_;rintro e w2 ⟨rfl,n2,rfl⟩)|(go_at_call 23;refine (HSP.out _).mono ?_;rintro e w3 ⟨rfl,n3,rfl⟩))
    go_meet
    exact ⟨by rw [HEN.out,HF.out];rfl,hid ⟨_,rfl⟩⟩
   obtain ⟨rfl,HW⟩:=hcut
   obtain ⟨n,rfl⟩:=HW.out
   have HBN:Hid (Below w.heap.size w (wc.drewN n)):=hid (zP HBC.out n)
   have HN1:Hid ((wc.drewN n).heap[w.heap.size]? = some (.cells #[.bool o,sc (some (aa b off)) d.length cap] 25 (0,0))):=hid HC1.out
   have HN2:Hid ((wc.drewN n).heap[w.heap.size+1]? = some (.cells #[.bool o,sc (some (aa b' off')) d'.length cap'] 25 (0,0))):=hid HC2.out
   clear xc0 yc0 xc1 yc1 xc2 yc2 xc3 yc3 xc4 yc4 xc5 yc5 xc6 yc6 xc7 yc7 xc8 yc8 xc9 yc9 HW HEN HSF HSE HSP HKQ HEX HEY HEX2 HEY2 HC1 HC2 HBC
   by_cases hs:x.en=y.en
   ·have HA2:Hid (∀(j:Nat) (x y:Ex),j<i+1->d[j]? = some x->d'[j]? = some y->x.en=y.en):=hid fun j x' y' hj h1 h2=>by
     by_cases q:j=i
     ·subst q
      rw [HX0.out] at h1;rw [HY0.out] at h2
      cases h1;cases h2;exact hs
     ·exact HA.out j x' y' (by omega) h1 h2
    have hd:=decide_eq_true hs
    rw [hd]
    clear hs hd
    go_wp2_with fail
    go_roundg (d.length-(i+1))
    case measure=>omega
    exact ⟨i+1,by go_num,HLT.out,Nat.le_refl _,HBN,HN1.out,HN2.out,HA2⟩
   ·have HF:Hid (decide (d.map Ex.en=d'.map Ex.en)=false):=hid (decide_eq_false fun q=>hs (by
     have h:=congrArg (·[i]?) q
     simp only [List.getElem?_map,HX0.out,HY0.out,Option.map_some] at h
     exact Option.some.inj h))
    have hd:=decide_eq_false hs
    rw [hd]
    clear hs hd
    go_wp2_with fail
    go_ret
    exact ⟨by rw [HF.out];rfl,HBN.out⟩
  ·have hltz:¬ (i:Int)<(d.length:Int):=by omega
   have HF:Hid (decide (d.map Ex.en=d'.map Ex.en)=true):=hid (decide_eq_true (zEl HL.out fun j x y h1 h2=>HA.out j x y (by have:=(List.getElem?_eq_some_iff.1 h1).1;omega) h1 h2))
   go_wp2_with fail
   go_ret
   exact ⟨by rw [HF.out];rfl,HBR.out⟩
end
section
open Go.RowKit
structure sT {α:Type} (K:zE α) (N:Nat) (W:World) (v:Value) (l:List α) (w:World):Prop where
 own:K.Own N w v l
 bel:Below N W w
 base:N<=w.heap.size
theorem zA2 {N:Nat} {W w w':World} {ob:Option Nat} (hb:Below N W w) (hg:w.grownBy w' ob) (ho:∀k,ob=some k->N<=k) (hN:N<=w.heap.size):Below N W w' :=
 hb.trans ⟨hg.os,hg.tape,hg.output,hg.size,fun k hk=>hg.block k (by omega) fun e=>by have:=ho k e.symm;omega⟩
section
variable {α:Type} {K:zE α} {N:Nat} {W:World} {v:Value} {l:List α} {w:World}
theorem sT.nil (K:zE α) (hb:Below N W w) (hN:N<=w.heap.size):sT K N W (.slice none 0 0) [] w:=⟨zE.own_nil _ _ _,hb,hN⟩
theorem sT.on {w':World} (h:sT K N W v l w) (hb:Below w.heap.size w w'):sT K N W v l w':=⟨zE.own_on h.own hb,h.bel.trans (hb.mono h.base),Nat.le_trans h.base hb.size⟩
theorem sT.push {g cap:Nat} {w':World} {x:α} (h:sT K N W v l w) (ho:w'.ownsRow N K.T K.k (.slice (some ⟨g,0,none⟩) (l.length+1) cap) (l.length+1) (K.cells l++K.cells [x])) (hg:w.grownBy w' v.ownBlock):sT K N W (.slice (some ⟨g,0,none⟩) (l.length+1) cap) (l++[x]) w' :=
 ⟨zE.own_snoc ho rfl rfl,zA2 h.bel hg (fun k hk=>(World.ownsRow.lt h.own k hk).1) h.base,Nat.le_trans h.base hg.size⟩
end
theorem zKl {α:Type} (K:zE α) {w:World} {B:Nat} {x:α} {t:TypeId} {fz:Nat × Nat} (h:w.heap[B]? = some (.cells (K.enc x).toArray t fz)):∀j u,(K.cells [x])[j]? = some u->w.cell? ((⟨B,0,none⟩:Addr).add j)=some u:=fun j u hu=>by
 rw [K.cells_one] at hu;exact World.news_of_block h j u (by simpa using hu)
section
variable {P:Program} {α:Type} {w:World} {ops:Array Oper} {rest:List Oper} {o:Oper} {a:Act} {Q:Exit→Act→World→Prop}
theorem nZ (K:zE α) (hgd:o.guard=none) (s x:Operand) (t:TypeId) (ho:o.op=.call { callee:=.builtin .append,args:=#[s,x],argTypes:=#[t,t] })
  (i:TypeInfo) (z:Value) (bytes:Nat) (ht:P.underlying t=some (.slice K.T)) (hi:P.info? K.T=some i) (hz:i.zero=some z) (hsize:i.size=K.k) (hby:i.bytes=bytes) (hzs:z.cells.size=K.k)
  (N:Nat) (W:World) (v:Value) (l:List α) (hs:a.eval s=v) (hst:sT K N W v l w) (y:α) (B m c:Nat) (hm:m=1) (hx:a.eval x=.slice (some ⟨B,0,none⟩) m c) (te:TypeId) (fz:Nat × Nat) (hB:w.heap[B]? = some (.cells (K.enc y).toArray te fz))
  (hlen:l.length+1<=maxLen) (hbytes:(l.length+1) * bytes<=140737488355328)
  (h:∀g cap w',sT K N W (.slice (some ⟨g,0,none⟩) (l.length+1) cap) (l++[y]) w'->w.grownBy w' v.ownBlock->(v.ownBlock=some g∨g=w.heap.size)->wpList P ops Q rest (a.put o.dst (.slice (some ⟨g,0,none⟩) (l.length+1) cap)) w'):wpList P ops Q (o::rest) a w:=by
 subst hm;refine wpList_append_lies _ hgd s x t ho N K.T i z K.k bytes ht hi hz hsize hby hzs K.pos v l.length (K.cells l) hs hst.own ⟨B,0,none⟩ 1 c (K.cells [y]) hx ?_ (zKl K hB) (K.cells_ones _) (by decide) hlen hbytes hst.base _ rfl ?_
 ·rw [K.cells_len];rfl
 ·exact fun g cap w' h1 h2 h3 _=>h g cap w' (hst.push h1 h2) h2 h3
end
end
section
open Go.RowKit Go.Lib
theorem zHi {o d:List Fx} (h:o.map Fx.fld=d.map Fx.fld) (hf:sD d):sD o:=by
 refine ⟨by have:=congrArg List.length h;simp at this;have h4:=hf.1;omega,fun x hx=>?_⟩;have:x.fld∈o.map Fx.fld:=List.mem_map_of_mem hx;rw [h] at this;obtain ⟨y,hy,e⟩:=List.mem_map.1 this;rw [<-e];exact hf.2 y hy
theorem zKh {n:Nat} {w:World} {v:Value} {d:List Fx} (h:vQ n w v d):∃p cap,v=.slice p d.length cap:=by
 rcases h.1.2 with ⟨hv,h0⟩|⟨g,cap,cur,hv,_⟩
 ·exact ⟨none,0,by rw [hv,h0]⟩
 ·exact ⟨_,_,hv⟩
theorem xI.frT {n0 g:Nat} {x:Ex} {w W:World} {c:Array Value} {T:TypeId} {fr:Nat × Nat} (h:xI n0 x w) (hO:w.heap[g]? = some (.cells c T fr)) (h1:45≠T) (h2:9≠T) (h3:KE.T≠T) (h4:KM.T≠T) (f:Fr (fun b=>b=g) w W):xI n0 x W :=
 ⟨⟨f.row h.val.1 (qN h.val.1 hO h1),fun y hy=>f.row (h.val.2 y hy) (qN (h.val.2 y hy) hO h2)⟩,h.fit,
  f.row (show w.ownsRow n0 KE.T KE.k x.es x.eo.length (KE.cells x.eo) from h.eds) (qN (show w.ownsRow n0 KE.T KE.k x.es x.eo.length (KE.cells x.eo) from h.eds) hO h3),h.efit,
  f.row (show w.ownsRow n0 KM.T KM.k x.ps x.po.length (KM.cells x.po) from h.prd) (qN (show w.ownsRow n0 KM.T KM.k x.ps x.po.length (KM.cells x.po) from h.prd) hO h4),h.pfit,h.rng⟩
def zLB (o:Bool) (d:List Ex) (w:World) (e:Ending) (w':World):Prop :=
 ∃(pv:Option Addr) (d':List Ex) (cv:Nat),e=.returned (.agg #[.bool o,.slice pv d'.length cv])/\d'.map Ex.en=d.map Ex.en/\KEx.Own w.heap.size w' (.slice pv d'.length cv) d'/\(∀x∈d',xI w.heap.size x w')/\Below w.heap.size w w'
theorem zBJ (o:Bool) (a:Option Addr) (cap:Nat) (d:List Ex) (w:World) (hd:nP w (.slice a d.length cap) d) (hc:∀x∈d,zCD x.vo/\x.eo.length<=1048576/\x.po.length<=1048576) (hf:d.length<=1048576) :
  Calls Tryz.prog 9 #[.agg #[.bool o,.slice a d.length cap]] w (zLB o d w):=by
 obtain ⟨i0,hi,hz0,hz1,hz2⟩:=info_parts Tryz.infoEnt
 obtain ⟨j0,hj0,hy0,hy1,hy2⟩:=info_parts Tryz.infoEd
 obtain ⟨m0,hm0,hx0,hx1,hx2⟩:=info_parts Tryz.infoTrm
 have HI:=hid hi
 have HJ:=hid hj0
 have HM:=hid hm0
 have HD:=hid hd
 have HCP:=hid hc
 obtain ⟨a',cap',hq,hrow⟩:=hd.row
 cases hq
 have HR:=hid hrow
 have hb0:Below w.heap.size w ((w.alloc (.cells #[.bool o,sc a d.length cap] 25)).alloc (.cells #[.bool false,sc none 0 0] 25)):=((Below.refl _ _).alloc (Nat.le_refl _) _).alloc (by simp) _
 have HB0:=hid hb0
 have HQ0:Hid (((w.alloc (.cells #[.bool o,sc a d.length cap] 25)).alloc (.cells #[.bool false,sc none 0 0] 25)).heap[w.heap.size]? = some (.cells #[.bool o,sc a d.length cap] 25 (0,0))):=hid ((Below.heap_alloc _ _ _ (by simp)).trans (heap_alloc_new w _))
 have HP0:Hid (((w.alloc (.cells #[.bool o,sc a d.length cap] 25)).alloc (.cells #[.bool false,sc none 0 0] 25)).heap[w.heap.size+1]? = some (.cells #[.bool false,sc none 0 0] 25 (0,0))):=hid (by have:=heap_alloc_new (w.alloc (.cells #[.bool o,sc a d.length cap] 25)) (.cells #[.bool false,sc none 0 0] 25);simpa using this)
 clear hd hc hrow hi hj0 hm0 hb0
 go_enter Tryz.func9,Tryz.ntmps9
 go_wp2_with fail
 go_loopg [3,4] d.length (fun g vl vi wr=>∃(i:Nat) (p:Option Addr) (c:Nat) (out:List Ex),vi=ii i/\vl=sc p out.length c/\i<=d.length/\d.length-i<=g/\Hid (out.length=i)/\Hid (sT KEx w.heap.size w (sc p out.length c) out wr)/\Hid (out.map Ex.en=(d.take i).map Ex.en)/\Hid (∀x∈out,xI w.heap.size x wr)/\Hid (wr.heap[w.heap.size]? = some (.cells #[.bool o,sc a d.length cap] 25 (0,0)))/\Hid (wr.heap[w.heap.size+1]? = some (.cells #[.bool false,sc none 0 0] 25 (0,0))))
 case atStart=>exact ⟨0,none,0,[],rfl,rfl,by omega,by omega,hid rfl,hid (sT.nil KEx HB0.out HB0.out.size),hid rfl,hid (fun x hx=>by simp at hx),HQ0,HP0⟩
 case round =>
  obtain ⟨i,p,c,out,rfl,rfl,hi,hig,HOL,HS,HE,HO,HQ,HP⟩:=hrel
  have hol:out.length<=1048576:=by have:=HOL.out;omega
  have r2:wr.cell? (aa w.heap.size 1)=some (sc a d.length cap):=by rw [Lib.cell_of_heap HQ.out];rfl
  by_cases hlt:i<d.length
  ·have hltz:(i:Int)<(d.length:Int):=by omega
   have hiz:(0:Int)<=(i:Int):=by omega
   obtain ⟨b,off,rfl,hat⟩:∃b off,a=some (aa b off)/\KEx.At w b off d:=by
    rcases HR.out with h|⟨b,off,h1,h2⟩
    ·rw [h] at hlt;simp at hlt
    ·exact ⟨b,off,h1,h2⟩
   obtain ⟨y,hy⟩:∃y,d[i]? = some y:=⟨_,List.getElem?_eq_getElem hlt⟩
   obtain ⟨c0,c1,c2,c3,c4,c5,c6,c7,c8,c9⟩:=vF (zE.at_kept hat HS.out.bel) i y hy
   simp only [Nat.add_zero] at c0
   have hmem:=List.mem_of_getElem? hy
   have HY:=hid (HD.out.each y hmem)
   obtain ⟨hcx,hce,hcm⟩:=HCP.out y hmem
   have HTK:Hid ((d.take (i+1)).map Ex.en=(d.take i).map Ex.en++[y.en]):=hid (by
    obtain ⟨h1,h2⟩:=List.getElem?_eq_some_iff.1 hy
    rw [<-h2,List.take_succ_eq_append_getElem h1,List.map_append];rfl)
   obtain ⟨G,hG⟩:∃G,wr.heap.size=G:=⟨_,rfl⟩
   obtain ⟨W1,hW1⟩:∃W1,wr.alloc (.cells (vE y) 42)=W1:=⟨_,rfl⟩
   have hb1:Below wr.heap.size wr W1:=by rw [<-hW1];exact (Below.refl _ _).alloc (Nat.le_refl _) _
   have HX1:Hid (W1.heap[G]? = some (.cells (vE y) 42 (0,0))):=hid (by rw [<-hW1,<-hG];exact heap_alloc_new wr _)
   have HB1:=hid hb1
   have HF:=hid (zHa (sc y.vp y.vo.length y.vc) y.vo W1 ((HY.out.on (HS.out.bel.trans (hb1.mono HS.out.base))).val) HY.out.fit hcx)
   have s0:W1.cell? (aa G 5)=some (sc y.vp y.vo.length y.vc):=by rw [Lib.cell_of_heap HX1.out];rfl
   clear hat hy hmem hcx hb1
   go_wp2_with fail
   try rw [hW1]
   clear hW1 c0 c1 c2 c3 c4 c5 c6 c7 c8 c9
   refine HF.out.mono ?_
   rintro e w2 ⟨u,fo,rfl,hoj,hfl,hb2⟩
   obtain ⟨up,uc,rfl⟩:=zKh hoj.1
   have hG1:G<W1.heap.size:=(Array.getElem?_eq_some_iff.1 HX1.out).1
   have HX2:Hid (w2.heap[G]? = some (.cells (vE y) 42 (0,0))):=hid ((hb2.block G hG1).trans HX1.out)
   have f5:w2.frozen? (aa G 5)=false:=Lib.frozen_of_heap HX2.out 5
   have s5:w2.cell? (aa G 5)=some (sc y.vp y.vo.length y.vc):=by rw [Lib.cell_of_heap HX2.out];rfl
   obtain ⟨W3,hW3⟩:∃W3,w2.setCell (aa G 5) (sc up fo.length uc)=W3:=⟨_,rfl⟩
   have hfr3:Fr (fun k=>k=G) w2 W3:=by rw [<-hW3];exact yE w2 G 5 _
   have HX3:Hid (W3.heap[G]? = some (.cells #[ii y.kind,tq y.temp,tq y.ka,tq y.kb,ii y.iff,sc up fo.length uc,sc y.ep y.eo.length y.ec,sc y.pp y.po.length y.pc,iu y.stamp,ii y.num] 42 (0,0))):=hid (by rw [<-hW3];exact heap_setCell_same _ G 5 _ _ _ HX2.out)
   have hown1:xI w.heap.size ⟨y.kind,y.temp,y.ka,y.kb,y.iff,up,uc,fo,none,0,[],none,0,[],y.stamp,y.num⟩ w2 :=
    ⟨⟨own_weak hoj.1.1 (by have:=HS.out.base;have:=HB1.out.size;omega),fun x hx=>own_weak (hoj.1.2 x hx) (by have:=HS.out.base;have:=HB1.out.size;omega)⟩,zHi hfl HY.out.fit,zE.own_nil _ _ _,(show jF [] from pZ (by decide)),zE.own_nil _ _ _,(show pY [] from nJ (by decide)),⟨HY.out.temp,HY.out.ka,HY.out.kb,HY.out.k0,HY.out.k1,HY.out.i0,HY.out.i1,HY.out.t0,HY.out.t1,HY.out.n0,HY.out.n1⟩⟩
   have HOW3:=hid (hown1.fr HX2.out hfr3)
   have HB3:Hid (Below wr.heap.size wr W3):=hid ((HB1.out.trans (hb2.mono HB1.out.size)).trans (hfr3.below (by have:=HB1.out.size;have:=hb2.size;omega) fun k hk=>by omega))
   have HBXW3:Hid (∀V,Below W3.heap.size W3 V->V.heap[G]? = some (.cells #[ii y.kind,tq y.temp,tq y.ka,tq y.kb,ii y.iff,sc up fo.length uc,sc y.ep y.eo.length y.ec,sc y.pp y.po.length y.pc,iu y.stamp,ii y.num] 42 (0,0))):=hid fun V hV=>(hV.block G (Array.getElem?_eq_some_iff.1 HX3.out).1).trans HX3.out
   have HBWW3:Hid (∀V,Below W3.heap.size W3 V->Below w.heap.size w V):=hid fun V hV=>(HS.out.bel.trans (HB3.out.mono HS.out.base)).trans (hV.mono (by have:=HS.out.base;have:=HB3.out.size;omega))
   have HFL:=hid hfl
   have HRSO:Hid (∀V,Below G wr V->sT KEx w.heap.size w (sc p out.length c) out V/\(∀x∈out,xI w.heap.size x V)/\V.heap[w.heap.size]? = some (.cells #[.bool o,sc (some (aa b off)) d.length cap] 25 (0,0))/\V.heap[w.heap.size+1]? = some (.cells #[.bool false,sc none 0 0] 25 (0,0))):=hid fun V hV=>by
    rw [<-hG] at hV
    exact ⟨HS.out.on hV,fun x hx=>(HO.out x hx).on hV,(hV.block _ (Array.getElem?_eq_some_iff.1 HQ.out).1).trans HQ.out,(hV.block _ (Array.getElem?_eq_some_iff.1 HP.out).1).trans HP.out⟩
   have HBG:Hid (∀V,Below W3.heap.size W3 V->Below G wr V):=hid fun V hV=>by
    rw [<-hG]
    exact HB3.out.trans (hV.mono HB3.out.size)
   have hbase:=HS.out.base
   have hsz3:=HB3.out.size
   have hwG:w.heap.size<=G:=by omega
   have hG3:w.heap.size<=W3.heap.size:=by omega
   clear hoj hfl hb2 hown1 hfr3
   go_wp2_with fail
   try rw [hW3]
   clear hW3 f5 s5
   go_loopg [6,7] y.eo.length (fun g vr vj ws=>∃(j:Nat) (p:Option Addr) (c:Nat),vj=ii j/\vr=sc p (y.eo.take j).length c/\j<=y.eo.length/\y.eo.length-j<=g/\Hid (sT KE W3.heap.size W3 (sc p (y.eo.take j).length c) (y.eo.take j) ws))
   case atStart=>exact ⟨0,none,0,rfl,rfl,by omega,by omega,hid (by simpa using sT.nil KE (Below.refl _ _) (Nat.le_refl _))⟩
   case round =>
    obtain ⟨j,p,c,rfl,rfl,hj,hjg,HS⟩:=hrel
    have hbx:=HBXW3.out _ HS.out.bel
    have t6:wr.cell? (aa G 6)=some (sc y.ep y.eo.length y.ec):=cz hbx
    clear hbx
    by_cases hlt:j<y.eo.length
    ·have hltz:(j:Int)<(y.eo.length:Int):=by omega
     have hjz:(0:Int)<=(j:Int):=by omega
     obtain ⟨b2,off2,hpe,hat2⟩:∃b2 off2,y.ep=some (aa b2 off2)/\KE.At w b2 off2 y.eo:=by
      obtain ⟨p',c',he,hh⟩:=HY.out.eds
      have he':(Value.slice y.ep y.eo.length y.ec)=sc p' y.eo.length c':=he
      injection he' with h1 h2 h3
      subst h1
      rcases hh with h|⟨b,o',h1,h2⟩
      ·rw [h] at hlt;simp at hlt
      ·exact ⟨b,o',h1,h2⟩
     rw [hpe] at t6
     obtain ⟨g0,g1,g2⟩:=mX (zE.at_kept hat2 (HBWW3.out _ HS.out.bel)) j hlt
     obtain ⟨e,he⟩:∃e,y.eo[j]=e:=⟨_,rfl⟩
     rw [he] at g0 g1 g2
     have HTK:Hid (y.eo.take (j+1)=y.eo.take j++[e]):=hid (by rw [<-he];exact List.take_succ_eq_append_getElem hlt)
     have hlj:(y.eo.take j).length=j:=by rw [List.length_take];omega
     obtain ⟨e0,e1,e2⟩:=e
     clear he hat2 hpe
     have HN1:Hid ((wr.alloc (.cells (KE.enc (e0,e1,e2)).toArray 47)).heap[wr.heap.size]? = some (.cells (KE.enc (e0,e1,e2)).toArray 47 (0,0))):=hid (heap_alloc_new wr _)
     have HO1:=hid (HS.out.on ((Below.refl wr.heap.size wr).alloc (Nat.le_refl _) (.cells (KE.enc (e0,e1,e2)).toArray 47)))
     rw [hlj] at HO1 ⊢
     go_wp2_with (at_builtin;refine nZ KE rfl _ _ 38 rfl j0 _ 40 Tryz.underlying38 HJ.out hy0 hy1 hy2 rfl W3.heap.size W3 _ (y.eo.take j) rfl HO1.out (e0,e1,e2) _ _ _ rfl rfl _ _ HN1.out (by rw [hlj];unfold maxLen;omega) (by rw [hlj];omega) ?_;intro g3 c3 w3 hst3 _ _;have HS3:=hid hst3;clear hst3)
     go_roundg (y.eo.length-(j+1))
     case measure=>omega
     exact ⟨j+1,some (aa g3 0),c3,by go_num,by rw [HTK.out,List.length_append,hlj];rfl,by omega,by omega,by rw [HTK.out,List.length_append];exact HS3⟩
    ·have hltz:¬ (j:Int)<(y.eo.length:Int):=by omega
     obtain rfl:j=y.eo.length:=by omega
     rw [List.take_length] at HS ⊢
     obtain ⟨pe,hnp⟩:∃q,p=q:=⟨_,rfl⟩
     obtain ⟨ce,hnc⟩:∃q,c=q:=⟨_,rfl⟩
     rw [hnp,hnc] at HS ⊢
     clear hnp hnc
     obtain ⟨W4,hW4⟩:∃W4,wr=W4:=⟨_,rfl⟩
     rw [hW4] at HS t6 ⊢
     have HSE:=HS
     have HX4:Hid (W4.heap[G]? = some (.cells #[ii y.kind,tq y.temp,tq y.ka,tq y.kb,ii y.iff,sc up fo.length uc,sc y.ep y.eo.length y.ec,sc y.pp y.po.length y.pc,iu y.stamp,ii y.num] 42 (0,0))):=hid (HBXW3.out _ HSE.out.bel)
     have HBXW4:Hid (∀V,Below W4.heap.size W4 V->V.heap[G]? = some (.cells #[ii y.kind,tq y.temp,tq y.ka,tq y.kb,ii y.iff,sc up fo.length uc,sc y.ep y.eo.length y.ec,sc y.pp y.po.length y.pc,iu y.stamp,ii y.num] 42 (0,0))):=hid fun V hV=>(hV.block G (Array.getElem?_eq_some_iff.1 HX4.out).1).trans HX4.out
     have HBWW4:Hid (∀V,Below W4.heap.size W4 V->Below w.heap.size w V):=hid fun V hV=>HBWW3.out V (HSE.out.bel.trans (hV.mono HSE.out.base))
     have hsz4:=HSE.out.base
     clear HS hW4
     go_wp2_with fail
     clear t6
     go_loopg [8,9] y.po.length (fun g vr vj ws=>∃(j:Nat) (p:Option Addr) (c:Nat),vj=ii j/\vr=sc p (y.po.take j).length c/\j<=y.po.length/\y.po.length-j<=g/\Hid (sT KM W4.heap.size W4 (sc p (y.po.take j).length c) (y.po.take j) ws))
     case atStart=>exact ⟨0,none,0,rfl,rfl,by omega,by omega,hid (by simpa using sT.nil KM (Below.refl _ _) (Nat.le_refl _))⟩
     case round =>
      obtain ⟨j,p,c,rfl,rfl,hj,hjg,HS⟩:=hrel
      have hbx:=HBXW4.out _ HS.out.bel
      have t6:wr.cell? (aa G 7)=some (sc y.pp y.po.length y.pc):=cz hbx
      clear hbx
      by_cases hlt:j<y.po.length
      ·have hltz:(j:Int)<(y.po.length:Int):=by omega
       have hjz:(0:Int)<=(j:Int):=by omega
       obtain ⟨b2,off2,hpe,hat2⟩:∃b2 off2,y.pp=some (aa b2 off2)/\KM.At w b2 off2 y.po:=by
        obtain ⟨p',c',he,hh⟩:=HY.out.prd
        have he':(Value.slice y.pp y.po.length y.pc)=sc p' y.po.length c':=he
        injection he' with h1 h2 h3
        subst h1
        rcases hh with h|⟨b,o',h1,h2⟩
        ·rw [h] at hlt;simp at hlt
        ·exact ⟨b,o',h1,h2⟩
       rw [hpe] at t6
       obtain ⟨g0,g1,g2⟩:=qR (zE.at_kept hat2 (HBWW4.out _ HS.out.bel)) j hlt
       obtain ⟨e,he⟩:∃e,y.po[j]=e:=⟨_,rfl⟩
       rw [he] at g0 g1 g2
       have HTK:Hid (y.po.take (j+1)=y.po.take j++[e]):=hid (by rw [<-he];exact List.take_succ_eq_append_getElem hlt)
       have hlj:(y.po.take j).length=j:=by rw [List.length_take];omega
       obtain ⟨e0,e1,e2⟩:=e
       clear he hat2 hpe
       have HN1:Hid ((wr.alloc (.cells (KM.enc (e0,e1,e2)).toArray 49)).heap[wr.heap.size]? = some (.cells (KM.enc (e0,e1,e2)).toArray 49 (0,0))):=hid (heap_alloc_new wr _)
       have HO1:=hid (HS.out.on ((Below.refl wr.heap.size wr).alloc (Nat.le_refl _) (.cells (KM.enc (e0,e1,e2)).toArray 49)))
       rw [hlj] at HO1 ⊢
       go_wp2_with (at_builtin;refine nZ KM rfl _ _ 39 rfl m0 _ 40 Tryz.underlying39 HM.out hx0 hx1 hx2 rfl W4.heap.size W4 _ (y.po.take j) rfl HO1.out (e0,e1,e2) _ _ _ rfl rfl _ _ HN1.out (by rw [hlj];unfold maxLen;omega) (by rw [hlj];omega) ?_;intro g3 c3 w3 hst3 _ _;have HS3:=hid hst3;clear hst3)
       go_roundg (y.po.length-(j+1))
       case measure=>omega
       exact ⟨j+1,some (aa g3 0),c3,by go_num,by rw [HTK.out,List.length_append,hlj];rfl,by omega,by omega,by rw [HTK.out,List.length_append];exact HS3⟩
      ·have hltz:¬ (j:Int)<(y.po.length:Int):=by omega
       obtain rfl:j=y.po.length:=by omega
       rw [List.take_length] at HS ⊢
       obtain ⟨pm,hnp⟩:∃q,p=q:=⟨_,rfl⟩
       obtain ⟨cm,hnc⟩:∃q,c=q:=⟨_,rfl⟩
       rw [hnp,hnc] at HS ⊢
       clear hnp hnc
       obtain ⟨W5,hW5⟩:∃W5,wr=W5:=⟨_,rfl⟩
       rw [hW5] at HS ⊢
       have HST:=HS
       clear HS hW5 t6
       have b35:Below W3.heap.size W3 W5:=HSE.out.bel.trans (HST.out.bel.mono HSE.out.base)
       have hx5:=HBXW3.out _ b35
       have HX5:=hid hx5
       have g5:∀k,W5.frozen? (aa G k)=false:=fun k=>Lib.frozen_of_heap HX5.out k
       have f6:=g5 6
       have f7:=g5 7
       have s6:W5.cell? (aa G 6)=some (sc y.ep y.eo.length y.ec):=by rw [Lib.cell_of_heap HX5.out];rfl
       have s7:W5.cell? (aa G 7)=some (sc y.pp y.po.length y.pc):=by rw [Lib.cell_of_heap HX5.out];rfl
       obtain ⟨z,hz⟩:∃z:Ex,z=⟨y.kind,y.temp,y.ka,y.kb,y.iff,up,uc,fo,pe,ce,y.eo,pm,cm,y.po,y.stamp,y.num⟩:=⟨_,rfl⟩
       have hown5:xI w.heap.size z W5:=by
        rw [hz]
        have h3:=HOW3.out.on b35
        exact ⟨h3.val,h3.fit,zE.own_weak (zE.own_on HSE.out.own HST.out.bel) hG3,HY.out.efit,zE.own_weak HST.out.own (by omega),HY.out.pfit,⟨h3.rng.temp,h3.rng.ka,h3.rng.kb,h3.rng.k0,h3.rng.k1,h3.rng.i0,h3.rng.i1,h3.rng.t0,h3.rng.t1,h3.rng.n0,h3.rng.n1⟩⟩
       obtain ⟨W6,hW6⟩:∃W6,(W5.setCell (aa G 6) (sc pe y.eo.length ce)).setCell (aa G 7) (sc pm y.po.length cm)=W6:=⟨_,rfl⟩
       have hfr6:Fr (fun k=>k=G) W5 W6:=by rw [<-hW6];exact (yE W5 G 6 _).then (yE _ G 7 _) fun k hk=>Or.inl hk
       have HX6:Hid (W6.heap[G]? = some (.cells #[ii y.kind,tq y.temp,tq y.ka,tq y.kb,ii y.iff,sc up fo.length uc,sc pe y.eo.length ce,sc pm y.po.length cm,iu y.stamp,ii y.num] 42 (0,0))):=hid (by
        rw [<-hW6]
        exact heap_setCell_same _ G 7 _ _ _ (heap_setCell_same _ G 6 _ _ _ HX5.out))
       have HOW6:=hid (hown5.fr HX5.out hfr6)
       have hb6:Below G _ W6:=(HBG.out _ b35).trans (hfr6.below (by have:=b35.size;omega) fun k hk=>by omega)
       have HR6:=hid (HRSO.out _ hb6)
       obtain ⟨d0,d1,d2,d3,d4,d5,d6,d7,d8,d9⟩:W6.cell? (aa G 0)=some (ii y.kind)/\W6.cell? (aa G 1)=some (tq y.temp)/\W6.cell? (aa G 2)=some (tq y.ka)/\W6.cell? (aa G 3)=some (tq y.kb)/\W6.cell? (aa G 4)=some (ii y.iff)/\W6.cell? (aa G 5)=some (sc up fo.length uc)/\W6.cell? (aa G 6)=some (sc pe y.eo.length ce)/\W6.cell? (aa G 7)=some (sc pm y.po.length cm)/\W6.cell? (aa G 8)=some (iu y.stamp)/\W6.cell? (aa G 9)=some (ii y.num):=by
        refine ⟨?_,?_,?_,?_,?_,?_,?_,?_,?_,?_⟩<;>(rw [Lib.cell_of_heap HX6.out];rfl)
       have hzen:z.en=y.en:=by
        rw [hz]
        show (⟨y.kind,y.temp,y.ka,y.kb,y.iff,fo.map Fx.fld,y.eo,y.po,y.stamp,y.num⟩:En)=y.en
        rw [HFL.out];rfl
       have HZE:=hid hzen
       have henc:(KEx.enc z).toArray=#[ii y.kind,tq y.temp,tq y.ka,tq y.kb,ii y.iff,sc up fo.length uc,sc pe y.eo.length ce,sc pm y.po.length cm,iu y.stamp,ii y.num]:=by rw [hz];rfl
       have HN7:Hid ((W6.alloc (.cells #[ii y.kind,tq y.temp,tq y.ka,tq y.kb,ii y.iff,sc up fo.length uc,sc pe y.eo.length ce,sc pm y.po.length cm,iu y.stamp,ii y.num] 42)).heap[W6.heap.size]? = some (.cells (KEx.enc z).toArray 42 (0,0))):=hid (by rw [henc];exact heap_alloc_new W6 _)
       have hb7:Below W6.heap.size W6 (W6.alloc (.cells #[ii y.kind,tq y.temp,tq y.ka,tq y.kb,ii y.iff,sc up fo.length uc,sc pe y.eo.length ce,sc pm y.po.length cm,iu y.stamp,ii y.num] 42)):=(Below.refl _ _).alloc (Nat.le_refl _) _
       have HR7:=hid (HR6.out.1.on hb7)
       have HO7:Hid (∀x∈out++[z],xI w.heap.size x (W6.alloc (.cells #[ii y.kind,tq y.temp,tq y.ka,tq y.kb,ii y.iff,sc up fo.length uc,sc pe y.eo.length ce,sc pm y.po.length cm,iu y.stamp,ii y.num] 42))):=hid fun x hx=>by
        rcases List.mem_append.1 hx with h|h
        ·exact (HR6.out.2.1 x h).on hb7
        ·rw [List.mem_singleton] at h
         subst h
         exact HOW6.out.on hb7
       have HQ7:Hid ((W6.alloc (.cells #[ii y.kind,tq y.temp,tq y.ka,tq y.kb,ii y.iff,sc up fo.length uc,sc pe y.eo.length ce,sc pm y.po.length cm,iu y.stamp,ii y.num] 42)).heap[w.heap.size]? = some (.cells #[.bool o,sc (some (aa b off)) d.length cap] 25 (0,0))):=hid ((hb7.block _ (Array.getElem?_eq_some_iff.1 HR6.out.2.2.1).1).trans HR6.out.2.2.1)
       have HP7:Hid ((W6.alloc (.cells #[ii y.kind,tq y.temp,tq y.ka,tq y.kb,ii y.iff,sc up fo.length uc,sc pe y.eo.length ce,sc pm y.po.length cm,iu y.stamp,ii y.num] 42)).heap[w.heap.size+1]? = some (.cells #[.bool false,sc none 0 0] 25 (0,0))):=hid ((hb7.block _ (Array.getElem?_eq_some_iff.1 HR6.out.2.2.2).1).trans HR6.out.2.2.2)
       clear hx5 g5 hown5 hfr6 hb6 hzen henc hb7 b35 hz
       go_upto_region 18 with fail
       try rw [hW6]
       clear hW6 f6 f7 s6 s7
       go_wp2_with (at_builtin;refine nZ KEx rfl _ _ 23 rfl i0 _ 152 Tryz.underlying23 HI.out hz0 hz1 hz2 rfl w.heap.size w _ out rfl HR7.out z _ _ _ rfl rfl _ _ HN7.out (by unfold maxLen;omega) (by omega) ?_;intro g3 c3 w3 hst3 hg3 _;have HS8:=hid hst3;have HG8:=hid hg3;clear hst3 hg3)
       go_roundg (d.length-(i+1))
       case measure=>omega
       refine ⟨i+1,some (aa g3 0),c3,out++[z],by go_num,by rw [List.length_append];rfl,by omega,by omega,hid (by rw [List.length_append,HOL.out];rfl),by rw [List.length_append];exact HS8,hid ?_,hid fun x hx=>(HO7.out x hx).grown HR7.out.own HG8.out,hid (gY HQ7.out HG8.out HR7.out.own (by decide)),hid (gY HP7.out HG8.out HR7.out.own (by decide))⟩
       rw [HTK.out,List.map_append,HE.out,List.map_cons,List.map_nil,HZE.out]
  ·have hltz:¬ (i:Int)<(d.length:Int):=by omega
   have HE2:Hid (out.map Ex.en=d.map Ex.en):=hid (by have:=HE.out;rw [List.take_of_length_le (by omega)] at this;exact this)
   have r1:wr.cell? (aa w.heap.size 0)=some (.bool o):=by rw [Lib.cell_of_heap HQ.out];rfl
   obtain ⟨x0,x1,x2,x3⟩:=zL HP.out
   obtain ⟨W6,hW6⟩:∃W6,(wr.setCell (aa (w.heap.size+1) 0) (.bool o)).setCell (aa (w.heap.size+1) 1) (sc p out.length c)=W6:=⟨_,rfl⟩
   have hfr6:Fr (fun k=>k=w.heap.size+1) wr W6:=by rw [<-hW6];exact (yE wr _ 0 _).then (yE _ _ 1 _) fun k hk=>Or.inl hk
   have HX6:Hid (W6.heap[w.heap.size+1]? = some (.cells #[.bool o,sc p out.length c] 25 (0,0))):=hid (by
    rw [<-hW6]
    exact heap_setCell_same _ _ 1 _ _ _ (heap_setCell_same _ _ 0 _ _ _ HP.out))
   have HF6:Hid (zLB o d w (.returned (.agg #[.bool o,sc p out.length c])) W6):=hid ⟨p,out,c,rfl,HE2.out,hfr6.row (show wr.ownsRow w.heap.size KEx.T KEx.k (sc p out.length c) out.length (KEx.cells out) from HS.out.own) (qN (show wr.ownsRow w.heap.size KEx.T KEx.k (sc p out.length c) out.length (KEx.cells out) from HS.out.own) HP.out (by decide)),fun x hx=>(HO.out x hx).frT HP.out (by decide) (by decide) (by decide) (by decide) hfr6,HS.out.bel.trans (hfr6.below HS.out.base fun k hk=>by omega)⟩
   obtain ⟨v0,v1,_,_⟩:=zL HX6.out
   go_wp2_with fail
   try rw [hW6]
   clear hW6 hfr6
   exact bodyPost_ret (v:=.agg #[.bool o,sc p out.length c]) (by simp [results,Tryz.results9,go_sem,v0,v1]) rfl HF6.out
end
section
open Go.RowKit Go.Lib
theorem cH (p:Option Addr) (cap:Nat) (ws:List ByteArray) (i:Nat) (w:World) (ht:wJ w p ws) (hs:∀x∈ws,x.size<=1000000000000) (hi:i<=1000000000001) :
  Calls Tryz.prog 40 #[.slice p ws.length cap,.int .i64 i] w fun e w'=>e=.returned (zA6 (xY ((ws.map (·.data.toList))[i]?)))/\w'=w:=by
 by_cases h:i<ws.length
 ·have hltz:(i:Int)<(ws.length:Int):=by omega
  have hz:¬ (ws.length:Int)<=(i:Int):=by omega
  have hiz:(0:Int)<=(i:Int):=by omega
  have HR:Hid (xY ((ws.map (·.data.toList))[i]?)=xH 18446744073709551615 (ws[i]).data.toList):=by
   show _=_
   rw [List.getElem?_map,List.getElem?_eq_getElem h];rfl
  rcases ht with hn|⟨b,off,rfl,hc⟩
  ·rw [hn] at h;simp at h
  have c0:=hc i h;have HC:=hid (zB7 ws[i] 18446744073709551615 w (by omega) (by have:=hs _ (List.getElem_mem h);unfold maxLen;omega));clear hs hc;obtain ⟨x,hx⟩:∃x,ws[i]=x:=⟨_,rfl⟩;rw [hx] at c0 HR HC;obtain ⟨o,ho⟩:∃o,xH 18446744073709551615 x.data.toList=o:=⟨_,rfl⟩;rw [ho] at HR HC;unfold zA6 at HC;clear hx ho;go_enter Tryz.func40,Tryz.ntmps40;go_wp2_with (first|(go_at_call 77;refine HC.out.mono ?_;rintro e w1 ⟨rfl,rfl⟩))
  go_ret2
  rw [HR.out];exact ⟨rfl,rfl⟩
 ·have hz:(ws.length:Int)<=(i:Int):=by omega
  have HR:Hid (xY ((ws.map (·.data.toList))[i]?)=none):=by
   show _=_
   rw [List.getElem?_eq_none (by rw [List.length_map];omega)];rfl
  clear hs ht h;go_enter Tryz.func40,Tryz.ntmps40;go_wp2_with fail
  go_ret2
  rw [HR.out];exact ⟨rfl,rfl⟩
theorem dQ (p:Option Addr) (cap:Nat) (ws:List ByteArray) (i:Nat) (w:World) (ht:wJ w p ws) (hs:∀x∈ws,x.size<=1000000000000) (hi:i<=1000000000001) :
  Calls Tryz.prog 42 #[.slice p ws.length cap,.int .i64 i] w fun e w'=>e=.returned (zA6 (xX ((ws.map (·.data.toList))[i]?)))/\w'=w:=by
 by_cases h:i<ws.length
 ·have hltz:(i:Int)<(ws.length:Int):=by omega
  have hz:¬ (ws.length:Int)<=(i:Int):=by omega
  have hiz:(0:Int)<=(i:Int):=by omega
  have HR:Hid (xX ((ws.map (·.data.toList))[i]?)=xH 999999999 (ws[i]).data.toList):=by
   show _=_
   rw [List.getElem?_map,List.getElem?_eq_getElem h];rfl
  rcases ht with hn|⟨b,off,rfl,hc⟩
  ·rw [hn] at h;simp at h
  have c0:=hc i h;have HC:=hid (zB7 ws[i] 999999999 w (by omega) (by have:=hs _ (List.getElem_mem h);unfold maxLen;omega));clear hs hc;obtain ⟨x,hx⟩:∃x,ws[i]=x:=⟨_,rfl⟩;rw [hx] at c0 HR HC;obtain ⟨o,ho⟩:∃o,xH 999999999 x.data.toList=o:=⟨_,rfl⟩;rw [ho] at HR HC;unfold zA6 at HC;clear hx ho;go_enter Tryz.func42,Tryz.ntmps42;go_wp2_with (first|(go_at_call 77;refine HC.out.mono ?_;rintro e w1 ⟨rfl,rfl⟩))
  go_ret2
  rw [HR.out];exact ⟨rfl,rfl⟩
 ·have hz:(ws.length:Int)<=(i:Int):=by omega
  have HR:Hid (xX ((ws.map (·.data.toList))[i]?)=none):=by
   show _=_
   rw [List.getElem?_eq_none (by rw [List.length_map];omega)];rfl
  clear hs ht h;go_enter Tryz.func42,Tryz.ntmps42;go_wp2_with fail
  go_ret2
  rw [HR.out];exact ⟨rfl,rfl⟩
end
section
open Go.RowKit Go.Lib
def zNN (k:Int) (tp ka kb:ByteArray) (fi st nm:Int):Ex:=⟨k,tp,ka,kb,fi,none,0,[],none,0,[],none,0,[],st,nm⟩
def EnR (w:World) (o:Option En) (e:Ending) (w':World):Prop :=
 (∃(y:Ex) (ok:Bool),e=.returned (.tuple #[wR y,.bool ok])/\(ok=true->xI w.heap.size y w')/\o=if ok=true then some y.en else none)/\Below w.heap.size w w'
theorem zLR {w w':World} {ls:List (List UInt8)} {e:Ending} (h:zDk w ls e w'):∃(up:Option Addr) (uc:Nat) (fo:List Fx) (c:Int),e=.returned (.tuple #[.slice up fo.length uc,.int .i64 c])/\vQ w.heap.size w' (.slice up fo.length uc) fo/\sD fo/\uY ls=(if c=0 then some (fo.map Fx.fld) else none)/\Below w.heap.size w w':=by
 obtain ⟨h|⟨fs,hfs,u,o,he,ho,hm⟩,hb⟩:=h
 ·exact ⟨none,0,[],4,h.2,(gO _ _).1,⟨Nat.zero_le _,fun x hx=>by simp at hx⟩,by unfold uY;rw [h.1];rfl,hb⟩
 ·obtain ⟨up,uc,rfl⟩:=zKh ho;refine ⟨up,uc,o,tM fs,he,ho,zIO hm,?_,hb⟩;unfold uY;rw [hfs,Option.bind_some,hm]
theorem zHl {w w':World} {ls:List (List UInt8)} {e:Ending} (h:fX w (yA ls) e w'):∃(up:Option Addr) (uc:Nat) (po:List Tm) (c:Int),e=.returned (.tuple #[.slice up po.length uc,.int .i64 c])/\KM.Own w.heap.size w' (.slice up po.length uc) po/\pY po/\pC ls=(if c=0 then some po else none)/\Below w.heap.size w w':=by
 obtain ⟨⟨u,he,ho⟩,hb⟩:=h;obtain ⟨up,uc,rfl⟩:=zE.own_shape ho;exact ⟨up,uc,_,_,he,ho,zGF _,rfl,hb⟩
theorem zNu {w w':World} {ls:List (List UInt8)} {e:Ending} (h:gK w (yC ls) e w'):∃(up:Option Addr) (uc:Nat) (eo:List Ed) (c:Int),e=.returned (.tuple #[.slice up eo.length uc,.int .i64 c])/\KE.Own w.heap.size w' (.slice up eo.length uc) eo/\jF eo/\kI ls=(if c=0 then some eo else none)/\Below w.heap.size w w':=by
 obtain ⟨⟨u,he,ho⟩,hb⟩:=h;obtain ⟨up,uc,rfl⟩:=zE.own_shape ho;exact ⟨up,uc,_,_,he,ho,zE2 _,rfl,hb⟩
structure vJ (w:World) (B R:Nat) (V:World) (y:Ex):Prop where
 box:V.heap[B]? = some (.cells #[.int .i64 y.kind,.string y.temp,.string y.ka,.string y.kb,.int .i64 y.iff,.slice y.vp y.vo.length y.vc,.slice y.ep y.eo.length y.ec,.slice y.pp y.po.length y.pc,.int .u64 y.stamp,.int .i64 y.num] 42 (0,0))
 res:V.heap[R]? = some (.cells #[.int .i64 0,.string ⟨#[]⟩,.string ⟨#[]⟩,.string ⟨#[]⟩,.int .i64 0,.slice none 0 0,.slice none 0 0,.slice none 0 0,.int .u64 0,.int .i64 0] 42 (0,0))
 own:xI w.heap.size y V
 bel:Below w.heap.size w V
 hB:w.heap.size<=B
 hR:w.heap.size<=R
 hne:B≠R
section
variable {w V:World} {B R:Nat} {y z:Ex}
theorem vJ.size (h:vJ w B R V y):B<V.heap.size/\R<V.heap.size:=⟨(Array.getElem?_eq_some_iff.1 h.box).1,(Array.getElem?_eq_some_iff.1 h.res).1⟩
theorem vJ.on {V1:World} (h:vJ w B R V y) (hb:Below V.heap.size V V1):vJ w B R V1 y :=
 ⟨(hb.block _ h.size.1).trans h.box,(hb.block _ h.size.2).trans h.res,h.own.on hb,h.bel.trans (hb.mono h.bel.size),h.hB,h.hR,h.hne⟩
theorem vJ.turn (h:vJ w B R V y) (i:Nat) (u:Value) (ho:xI w.heap.size z V) (he:#[.int .i64 z.kind,.string z.temp,.string z.ka,.string z.kb,.int .i64 z.iff,.slice z.vp z.vo.length z.vc,.slice z.ep z.eo.length z.ec,.slice z.pp z.po.length z.pc,.int .u64 z.stamp,.int .i64 z.num]=(#[.int .i64 y.kind,.string y.temp,.string y.ka,.string y.kb,.int .i64 y.iff,.slice y.vp y.vo.length y.vc,.slice y.ep y.eo.length y.ec,.slice y.pp y.po.length y.pc,.int .u64 y.stamp,.int .i64 y.num]).setIfInBounds i u):vJ w B R (V.setCell ⟨B,i,none⟩ u) z:=by
 have f:=yE V B i u;refine ⟨by rw [he];exact heap_setCell_same _ _ i _ _ _ h.box,(heap_setCell_other _ _ _ _ (by show R≠B;exact fun q=>h.hne q.symm)).trans h.res,ho.fr h.box f,h.bel.trans (f.below h.bel.size fun k hk=>by rw [hk];exact h.hB),h.hB,h.hR,h.hne⟩
theorem vJ.cells (h:vJ w B R V y):V.cell? ⟨B,0,none⟩=some (.int .i64 y.kind)/\V.cell? ⟨B,1,none⟩=some (.string y.temp)/\V.cell? ⟨B,2,none⟩=some (.string y.ka)/\V.cell? ⟨B,3,none⟩=some (.string y.kb)/\V.cell? ⟨B,4,none⟩=some (.int .i64 y.iff)/\V.cell? ⟨B,5,none⟩=some (.slice y.vp y.vo.length y.vc)/\V.cell? ⟨B,6,none⟩=some (.slice y.ep y.eo.length y.ec)/\V.cell? ⟨B,7,none⟩=some (.slice y.pp y.po.length y.pc)/\V.cell? ⟨B,8,none⟩=some (.int .u64 y.stamp)/\V.cell? ⟨B,9,none⟩=some (.int .i64 y.num):=by
 refine ⟨?_,?_,?_,?_,?_,?_,?_,?_,?_,?_⟩<;>(rw [Lib.cell_of_heap h.box];rfl)
theorem vJ.free (h:vJ w B R V y) (i:Nat):V.frozen? ⟨R,i,none⟩=false:=Lib.frozen_of_heap h.res i
theorem vJ.open (h:vJ w B R V y) (i:Nat):V.frozen? ⟨B,i,none⟩=false:=Lib.frozen_of_heap h.box i
theorem vJ.fin (h:vJ w B R V y) (W:World) (hW:((((((((((V.setCell ⟨R,0,none⟩ (.int .i64 y.kind)).setCell ⟨R,1,none⟩ (.string y.temp)).setCell ⟨R,2,none⟩ (.string y.ka)).setCell ⟨R,3,none⟩ (.string y.kb)).setCell ⟨R,4,none⟩ (.int .i64 y.iff)).setCell ⟨R,5,none⟩ (.slice y.vp y.vo.length y.vc)).setCell ⟨R,6,none⟩ (.slice y.ep y.eo.length y.ec)).setCell ⟨R,7,none⟩ (.slice y.pp y.po.length y.pc)).setCell ⟨R,8,none⟩ (.int .u64 y.stamp)).setCell ⟨R,9,none⟩ (.int .i64 y.num))=W):(W.cell? ⟨R,0,none⟩=some (.int .i64 y.kind)/\W.cell? ⟨R,1,none⟩=some (.string y.temp)/\W.cell? ⟨R,2,none⟩=some (.string y.ka)/\W.cell? ⟨R,3,none⟩=some (.string y.kb)/\W.cell? ⟨R,4,none⟩=some (.int .i64 y.iff)/\W.cell? ⟨R,5,none⟩=some (.slice y.vp y.vo.length y.vc)/\W.cell? ⟨R,6,none⟩=some (.slice y.ep y.eo.length y.ec)/\W.cell? ⟨R,7,none⟩=some (.slice y.pp y.po.length y.pc)/\W.cell? ⟨R,8,none⟩=some (.int .u64 y.stamp)/\W.cell? ⟨R,9,none⟩=some (.int .i64 y.num))/\xI w.heap.size y W/\Below w.heap.size w W:=by
 obtain ⟨h1,f⟩:=dH h.res W hW;refine ⟨?_,h.own.fr h.res f,h.bel.trans (f.below h.bel.size fun k hk=>by rw [hk];exact h.hR)⟩;refine ⟨?_,?_,?_,?_,?_,?_,?_,?_,?_,?_⟩<;>(rw [Lib.cell_of_heap h1];rfl)
end
section
variable {w V:World} {B R:Nat} {y:Ex}
theorem vJ.range (h:vJ w B R V y):V.rangeAt B 0 [.int .i64 y.kind,.string y.temp,.string y.ka,.string y.kb,.int .i64 y.iff,.slice y.vp y.vo.length y.vc,.slice y.ep y.eo.length y.ec,.slice y.pp y.po.length y.pc,.int .u64 y.stamp,.int .i64 y.num]:=fun j v hv=>by
 rw [Nat.zero_add,Lib.cell_of_heap h.box]
 simpa using hv
theorem vJ.there (h:vJ w B R V y):V.there R 0 10:=fun j hj=>by
 refine ⟨?_,by rw [Nat.zero_add];exact h.free j⟩;rw [Nat.zero_add,Lib.cell_of_heap h.res];have:j=0∨j=1∨j=2∨j=3∨j=4∨j=5∨j=6∨j=7∨j=8∨j=9:=by omega
 rcases this with rfl|rfl|rfl|rfl|rfl|rfl|rfl|rfl|rfl|rfl<;>rfl
end
theorem vJ.leave {w V:World} {B R:Nat} {y z:Ex} (h:vJ w B R V y) (W:World) (hW:((((((((((V.setCell ⟨R,0,none⟩ (.int .i64 z.kind)).setCell ⟨R,1,none⟩ (.string z.temp)).setCell ⟨R,2,none⟩ (.string z.ka)).setCell ⟨R,3,none⟩ (.string z.kb)).setCell ⟨R,4,none⟩ (.int .i64 z.iff)).setCell ⟨R,5,none⟩ (.slice z.vp z.vo.length z.vc)).setCell ⟨R,6,none⟩ (.slice z.ep z.eo.length z.ec)).setCell ⟨R,7,none⟩ (.slice z.pp z.po.length z.pc)).setCell ⟨R,8,none⟩ (.int .u64 z.stamp)).setCell ⟨R,9,none⟩ (.int .i64 z.num))=W):(W.cell? ⟨R,0,none⟩=some (.int .i64 z.kind)/\W.cell? ⟨R,1,none⟩=some (.string z.temp)/\W.cell? ⟨R,2,none⟩=some (.string z.ka)/\W.cell? ⟨R,3,none⟩=some (.string z.kb)/\W.cell? ⟨R,4,none⟩=some (.int .i64 z.iff)/\W.cell? ⟨R,5,none⟩=some (.slice z.vp z.vo.length z.vc)/\W.cell? ⟨R,6,none⟩=some (.slice z.ep z.eo.length z.ec)/\W.cell? ⟨R,7,none⟩=some (.slice z.pp z.po.length z.pc)/\W.cell? ⟨R,8,none⟩=some (.int .u64 z.stamp)/\W.cell? ⟨R,9,none⟩=some (.int .i64 z.num))/\(xI w.heap.size z V->xI w.heap.size z W)/\Below w.heap.size w W/\(W.cell? ⟨B,0,none⟩=some (.int .i64 y.kind)/\W.cell? ⟨B,1,none⟩=some (.string y.temp)/\W.cell? ⟨B,2,none⟩=some (.string y.ka)/\W.cell? ⟨B,3,none⟩=some (.string y.kb)/\W.cell? ⟨B,4,none⟩=some (.int .i64 y.iff)/\W.cell? ⟨B,5,none⟩=some (.slice y.vp y.vo.length y.vc)/\W.cell? ⟨B,6,none⟩=some (.slice y.ep y.eo.length y.ec)/\W.cell? ⟨B,7,none⟩=some (.slice y.pp y.po.length y.pc)/\W.cell? ⟨B,8,none⟩=some (.int .u64 y.stamp)/\W.cell? ⟨B,9,none⟩=some (.int .i64 y.num)):=by
 obtain ⟨h1,f⟩:=dH h.res W hW;have hb:W.heap[B]? = _:=(f.block B h.size.1 h.hne).trans h.box;refine ⟨?_,fun ho=>ho.fr h.res f,h.bel.trans (f.below h.bel.size fun k hk=>by rw [hk];exact h.hR),?_⟩
 ·refine ⟨?_,?_,?_,?_,?_,?_,?_,?_,?_,?_⟩<;>(rw [Lib.cell_of_heap h1];rfl)
 ·refine ⟨?_,?_,?_,?_,?_,?_,?_,?_,?_,?_⟩<;>(rw [Lib.cell_of_heap hb];rfl)
theorem zLL {w:World} {y:Ex} (ho:xI w.heap.size y w):vJ w w.heap.size (w.heap.size+1) ((w.alloc (.cells #[.int .i64 y.kind,.string y.temp,.string y.ka,.string y.kb,.int .i64 y.iff,.slice y.vp y.vo.length y.vc,.slice y.ep y.eo.length y.ec,.slice y.pp y.po.length y.pc,.int .u64 y.stamp,.int .i64 y.num] 42)).alloc (.cells #[.int .i64 0,.string ⟨#[]⟩,.string ⟨#[]⟩,.string ⟨#[]⟩,.int .i64 0,.slice none 0 0,.slice none 0 0,.slice none 0 0,.int .u64 0,.int .i64 0] 42)) y:=by
 have hb:Below w.z w ((w.alloc (.cells (vE y) 42)).alloc (.cells vZ 42)):=((Below.refl _ _).alloc (Nat.le_refl _) _).alloc (by simp) _;exact ⟨(Below.heap_alloc _ _ _ (by simp)).trans (heap_alloc_new w _),by have:=heap_alloc_new (w.alloc (.cells (vE y) 42)) (.cells vZ 42);simpa using this,ho.on hb,hb,Nat.le_refl _,by omega,by omega⟩
theorem zCr {q:List UInt8}:∀(i:Nat) (l:List (List UInt8)),(∀z∈l.take i,z≠q)->l[i]? = some q->(l.takeWhile fun x=>decide (x≠q))=l.take i/\(l.dropWhile fun x=>decide (x≠q)).drop 1=l.drop (i+1)/\q∈l
 | 0,[],_,h=>by simp at h
 | 0,x::l,_,h=>by
  have:x=q:=by simpa using h
  subst this;simp
 | i+1,[],_,h=>by simp at h
 | i+1,x::l,h1,h2=>by
  have hx:x≠q:=h1 x (by simp);obtain ⟨a,b,c⟩:=zCr i l (fun z hz=>h1 z (by simp [hz])) (by simpa using h2);refine ⟨?_,?_,by simp [c]⟩
  ·rw [List.takeWhile_cons_of_pos (by simpa using hx),List.take_succ_cons,a]
  ·rw [List.dropWhile_cons_of_pos (by simpa using hx),b,List.drop_succ_cons]
theorem dS {w:World} {p:Option Addr} {ws:List ByteArray} (h:wJ w p ws) {b off:Nat} (hp:p=some ⟨b,off,none⟩) (n:Nat):wJ w (some ⟨b,off+n,none⟩) (ws.drop n):=by
 rcases h with h|⟨b',off',h1,h2⟩
 ·left;rw [h];simp
 ·rw [hp] at h1
  cases h1;refine Or.inr ⟨_,_,rfl,fun i hi=>?_⟩;rw [List.length_drop] at hi;have q:=h2 (n+i) (by omega);rw [Nat.add_assoc,q];simp
theorem zEH {w:World} {p:Option Addr} {ws:List ByteArray} (h:wJ w p ws) (n:Nat):wJ w p (ws.take n):=by
 rcases h with h|⟨b',off',h1,h2⟩
 ·left;rw [h];simp
 ·refine Or.inr ⟨_,_,h1,fun i hi=>?_⟩;rw [List.length_take] at hi;rw [h2 i (by omega)];simp
theorem fT {w w':World} {p:Option Addr} {ws:List ByteArray} (h:wJ w p ws) (hb:Below w.heap.size w w'):wJ w' p ws:=by
 rcases h with h|⟨b,off,h1,h2⟩
 ·exact Or.inl h
 ·exact Or.inr ⟨b,off,h1,fun i hi=>kept hb (h2 i hi)⟩
end
section
open Go.RowKit Go.Lib
theorem zF5 (y:Ex) (hy:∃k tp ka kb fi st nm,y=zNN k tp ka kb fi st nm) (p:Option Addr) (cap:Nat) (ws:List ByteArray) (w:World) (hr:zHR y) (ht:wJ w p ws) (hl:ws.length<=1000000000) (hcap:ws.length<=cap) (hs:∀x∈ws,x.size<=1000000000000) :
  Calls Tryz.prog 43 #[wR y,.slice p ws.length cap] w fun e w'=>EnR w (yO y.en (zB ws)) e w':=by
 have ho:xI w.heap.size y w:=by
  obtain ⟨k,tp,ka,kb,fi,st,nm,rfl⟩:=hy
  exact ⟨(gO _ _).1,⟨Nat.zero_le _,fun x hx=>by cases hx⟩,zE.own_nil _ _ _,(show jF [] from pZ (by decide)),zE.own_nil _ _ _,(show pY [] from nJ (by decide)),hr⟩
 have R0:=hid (zLL ho)
 obtain ⟨W0,hW0⟩:∃W0,((w.alloc (.cells #[.int .i64 y.kind,.string y.temp,.string y.ka,.string y.kb,.int .i64 y.iff,.slice y.vp y.vo.length y.vc,.slice y.ep y.eo.length y.ec,.slice y.pp y.po.length y.pc,.int .u64 y.stamp,.int .i64 y.num] 42)).alloc (.cells #[.int .i64 0,.string ⟨#[]⟩,.string ⟨#[]⟩,.string ⟨#[]⟩,.int .i64 0,.slice none 0 0,.slice none 0 0,.slice none 0 0,.int .u64 0,.int .i64 0] 42))=W0:=⟨_,rfl⟩
 rw [hW0] at R0
 have HT:=hid ht
 have HPW:Hid (∀V n,n<=ws.length->Below w.heap.size w V->Calls Tryz.prog 79 #[.slice p n cap] V fun e w'=>zDk V (zB (ws.take n)) e w'):=hid fun V n hn hV=>by
  have h:=zIS p cap (ws.take n) V (zEH (fT ht hV) n) (by rw [List.length_take];omega) fun x hx=>hs x (List.mem_of_mem_take hx)
  rw [List.length_take,Nat.min_eq_left hn] at h
  exact h
 have HPD:Hid (∀V n q c,wJ V q (ws.drop n)->Calls Tryz.prog 80 #[.slice q (ws.length-n:Nat) c] V fun e w'=>fX V (yA (zB (ws.drop n))) e w'):=hid fun V n q c hq=>by
  have h:=zEJ q c (ws.drop n) V hq (by rw [List.length_drop];omega) fun x hx=>hs x (List.mem_of_mem_drop hx)
  rw [List.length_drop] at h
  exact h
 have HPT:Hid (∀V,Below w.heap.size w V->Calls Tryz.prog 80 #[.slice p ws.length cap] V fun e w'=>fX V (yA (zB ws)) e w'):=hid fun V hV=>zEJ p cap ws V (fT ht hV) (by omega) hs
 have HPE:Hid (∀V,Below w.heap.size w V->Calls Tryz.prog 81 #[.slice p ws.length cap] V fun e w'=>gK V (yC (zB ws)) e w'):=hid fun V hV=>zL1 p cap ws V (fT ht hV) (by omega) hs
 have HPV:Hid (∀V,Below w.heap.size w V->Calls Tryz.prog 79 #[.slice p ws.length cap] V fun e w'=>zDk V (zB ws) e w'):=hid fun V hV=>zIS p cap ws V (fT ht hV) (by omega) hs
 have HR1:Hid (y.kind=1∨y.kind=3->yO y.en (zB ws)=(uY (zB ws)).map fun v=>{ y.en with val:=v }):=hid fun h=>by unfold yO;rw [if_pos (show y.en.kind=1∨y.en.kind=3 from h)]
 have HR4:Hid (y.kind=4->yO y.en (zB ws)=(kI (zB ws)).map fun v=>{ y.en with eds:=v }):=hid fun h=>by
  have h':y.en.kind=4:=h
  unfold yO;rw [if_neg (by omega),if_neg (by omega),if_pos h']
 have HR5:Hid (y.kind=5->yO y.en (zB ws)=if zB ws=[] then some y.en else none):=hid fun h=>by
  have h':y.en.kind=5:=h
  unfold yO;rw [if_neg (by omega),if_neg (by omega),if_neg (by omega),if_pos h']
 have HRX:Hid (¬ y.kind=1->¬ y.kind=2->¬ y.kind=3->¬ y.kind=4->¬ y.kind=5->yO y.en (zB ws)=(pC (zB ws)).map fun v=>{ y.en with pred:=v }):=hid fun h1 h2 h3 h4 h5=>by
  have e1:¬ y.en.kind=1:=h1
  have e2:¬ y.en.kind=2:=h2
  have e3:¬ y.en.kind=3:=h3
  have e4:¬ y.en.kind=4:=h4
  have e5:¬ y.en.kind=5:=h5
  unfold yO;rw [if_neg (by omega),if_neg e2,if_neg e4,if_neg e5]
 have HR2:Hid (y.kind=2->yO y.en (zB ws)=if [63]∈zB ws then (uY ((zB ws).takeWhile fun x=>decide (x≠[63]))).bind fun v=>(pC (((zB ws).dropWhile fun x=>decide (x≠[63])).drop 1)).map fun p=>{ y.en with val:=v,pred:=p } else none):=hid fun h=>by
  have h':y.en.kind=2:=h
  unfold yO;rw [if_neg (by omega),if_pos h']
 obtain ⟨kd,hkd⟩:∃k,y.kind=k:=⟨_,rfl⟩
 have HKD:=hid hkd
 obtain ⟨c0,-⟩:=R0.out.cells
 unfold wR
 simp only [yZ,Ex.vs,Ex.es,Ex.ps]
 clear ho hy hr ht hs
 rw [hkd] at HR1 HR2 HR4 HR5 HRX
 rw [hkd] at c0 hW0 ⊢
 clear hkd
 go_enter Tryz.func43,Tryz.ntmps43
 go_upto_block 0 with fail
 try rw [hW0]
 clear hW0 c0
 go_cut [6,7] from 8 (fun v6 _ wx=>∃(c:Int) (z:Ex),v6=.int .i64 c/\Hid (vJ w w.heap.size (w.heap.size+1) wx z)/\Hid (yO y.en (zB ws)=if c=0 then some z.en else none))
 case first =>
  by_cases k13:kd=1∨kd=3
  ·as_aux_lemma =>
   have HRR:=hid (HR1.out k13)
   go_upto_if 16 with fail
   go_cut [16] from 8 (fun v16 wx=>v16=.bool true/\W0=wx)
   case first =>
    rcases k13 with h|h
    ·have b1:(kd==1)=true:=by rw [beq_iff_eq];exact h
     clear h
     rw [b1]
     go_wp2_with fail
     go_meet
     case rel=>exact ⟨rfl,rfl⟩
    ·have b1:(kd==1)=false:=by rw [beq_eq_false_iff_ne];omega
     have b3:(kd==3)=true:=by rw [beq_iff_eq];exact h
     clear h
     rw [b1]
     go_wp2_with fail
     go_meet
     case rel=>exact ⟨by first|rfl|rw [b3],rfl⟩
   case rest =>
   obtain ⟨rfl,rfl⟩:=hcut
   clear k13
   go_wp2_with fail
   refine (HPV.out W0 R0.out.bel).mono ?_
   intro e w1 hp
   obtain ⟨up,uc,fo,c,rfl,hown,hfit,hval,hb1⟩:=zLR hp
   have R1:=hid (R0.out.on hb1)
   have f5:=R1.out.open 5
   obtain ⟨c0,c1,c2,c3,c4,c5,c6,c7,c8,c9⟩:=R1.out.cells
   obtain ⟨z,hz⟩:∃zq:Ex,zq={ y with vp:=up,vc:=uc,vo:=fo }:=⟨_,rfl⟩
   obtain ⟨W2,hW2⟩:∃W',w1.setCell ⟨w.heap.size,5,none⟩ (.slice up fo.length uc)=W':=⟨_,rfl⟩
   have R2:Hid (vJ w w.heap.size (w.heap.size+1) W2 z):=hid (by
    rw [<-hW2]
    have hs:=R0.out.size
    have ho:xI w.heap.size z w1:=by
     have q:=R1.out.own
     rw [hz]
     exact ⟨⟨own_weak hown.1 (by omega),fun x hx=>own_weak (hown.2 x hx) (by omega)⟩,hfit,q.eds,q.efit,q.prd,q.pfit,⟨q.rng.temp,q.rng.ka,q.rng.kb,q.rng.k0,q.rng.k1,q.rng.i0,q.rng.i1,q.rng.t0,q.rng.t1,q.rng.n0,q.rng.n1⟩⟩
    exact R1.out.turn 5 _ ho (by rw [hz];rfl))
   have HZ:=hid hz
   have HVL:=hid hval
   clear hown hfit hval hb1 hp hz
   go_wp2_with fail
   try rw [hW2]
   go_meet
   case rel=>exact ⟨c,z,rfl,R2,hid (by
    rw [HRR.out,HVL.out,HZ.out]
    split<;>rfl)⟩
  have b1:(kd==1)=false:=by rw [beq_eq_false_iff_ne];omega
  have b3:(kd==3)=false:=by rw [beq_eq_false_iff_ne];omega
  by_cases k2:kd=2
  ·as_aux_lemma =>
   have HRR:=hid (HR2.out k2)
   have b2:(kd==2)=true:=by rw [beq_iff_eq];exact k2
   clear k2 k13
   go_wp2_with fail
   go_loopg [7] ws.length (fun g v7 wx=>∃(i:Nat),v7=.int .i64 i/\i<=ws.length/\ws.length-i<=g/\Hid (∀x∈(zB ws).take i,x≠[63])/\Hid (vJ w w.heap.size (w.heap.size+1) wx y))
   case atStart=>exact ⟨0,rfl,by omega,by omega,hid (by simp),R0⟩
   case round =>
    clear R0
    obtain ⟨i,rfl,hi,hig,HNO,R0⟩:=hrel
    by_cases hlt:i<ws.length
    ·have hltz:(i:Int)<(ws.length:Int):=by omega
     have hiz:(0:Int)<=(i:Int):=by omega
     obtain ⟨b,off,hp,hcc⟩:∃b off,p=some ⟨b,off,none⟩/\∀i,(h:i<ws.length)->w.cell? ⟨b,off+i,none⟩=some (.string ws[i]):=by
      rcases HT.out with h|⟨b,off,h1,h2⟩
      ·rw [h] at hlt;simp at hlt
      ·exact ⟨b,off,h1,h2⟩
     have cx:=kept R0.out.bel (hcc i hlt)
     obtain ⟨x,hx⟩:∃x,ws[i]=x:=⟨_,rfl⟩
     rw [hx] at cx
     have HX:Hid ((zB ws)[i]? = some x.data.toList):=hid (by unfold zB;rw [List.getElem?_map,List.getElem?_eq_getElem hlt,hx];rfl)
     subst hp
     clear hcc hx
     by_cases hq:x.data.toList=[63]
     ·have hq2:(x.toList==[63])=true:=by rw [toList_data,hq];rfl
      have HX2:Hid ((zB ws)[i]? = some [63]):=hid (by rw [HX.out,hq])
      have HRW:Hid (yO y.en (zB ws)=(uY (zB (ws.take i))).bind fun v=>(pC (zB (ws.drop (i+1)))).map fun p=>{ y.en with val:=v,pred:=p }):=hid (by
       obtain ⟨e1,e2,e3⟩:=zCr i (zB ws) HNO.out HX2.out
       rw [HRR.out,if_pos e3,e1,e2]
       simp only [zB,List.map_take,List.map_drop])
      have hne:((i:Int)==(ws.length:Int))=false:=by rw [beq_eq_false_iff_ne];omega
      have hcz:(i:Int)+1<=(ws.length:Int):=by omega
      have hcz2:(ws.length:Int)<=(cap:Int):=by omega
      clear hq HRR HX HX2 HNO
      go_wp2_with fail
      refine (HPW.out _ i (by omega) R0.out.bel).mono ?_
      intro e w1 hp
      obtain ⟨up,uc,fo,c,rfl,hown,hfit,hval,hb1⟩:=zLR hp
      have R1:=hid (R0.out.on hb1)
      have f5:=R1.out.open 5
      obtain ⟨c0,c1,c2,c3,c4,c5,c6,c7,c8,c9⟩:=R1.out.cells
      obtain ⟨z,hz⟩:∃zq:Ex,zq={ y with vp:=up,vc:=uc,vo:=fo }:=⟨_,rfl⟩
      obtain ⟨W2,hW2⟩:∃W',w1.setCell ⟨w.heap.size,5,none⟩ (.slice up fo.length uc)=W':=⟨_,rfl⟩
      have R2:Hid (vJ w w.heap.size (w.heap.size+1) W2 z):=hid (by
       rw [<-hW2]
       have hs:=R0.out.size
       have ho:xI w.heap.size z w1:=by
        have q:=R1.out.own
        rw [hz]
        exact ⟨⟨own_weak hown.1 (by omega),fun x hx=>own_weak (hown.2 x hx) (by omega)⟩,hfit,q.eds,q.efit,q.prd,q.pfit,⟨q.rng.temp,q.rng.ka,q.rng.kb,q.rng.k0,q.rng.k1,q.rng.i0,q.rng.i1,q.rng.t0,q.rng.t1,q.rng.n0,q.rng.n1⟩⟩
       exact R1.out.turn 5 _ ho (by rw [hz];rfl))
      have HZ:=hid hz
      have HVL:=hid hval
      clear hown hfit hval hb1 hp hz
      have HZ1:=HZ
      have HVL1:=HVL
      clear HZ HVL
      by_cases hc:c=0
      ·subst hc
       have HV1:=hid (HVL1.out.trans (if_pos rfl))
       clear HVL1
       by_cases hcp:cap=i+1
       ·have hdn:ws.drop (i+1)=[]:=List.drop_eq_nil_of_le (by omega)
        have HDN:=hid hdn
        clear hdn
        go_wp2_with fail
        try rw [hW2]
        clear hW2 f5 c0 c1 c2 c3 c4 c5 c6 c7 c8 c9
        refine (HPD.out _ (i+1) _ _ (Or.inl HDN.out)).mono ?_
        intro e w1 hp
        obtain ⟨vp,vc,po,cq,rfl,hown,hfit,hval,hb1⟩:=zHl hp
        have R6:=hid (R2.out.on hb1)
        have f5:=R6.out.open 7
        obtain ⟨c0,c1,c2,c3,c4,c5,c6,c7,c8,c9⟩:=R6.out.cells
        obtain ⟨z2,hz⟩:∃zq:Ex,zq={ z with pp:=vp,pc:=vc,po:=po }:=⟨_,rfl⟩
        obtain ⟨W5,hW5⟩:∃W',w1.setCell ⟨w.heap.size,7,none⟩ (.slice vp po.length vc)=W':=⟨_,rfl⟩
        have R5:Hid (vJ w w.heap.size (w.heap.size+1) W5 z2):=hid (by
         rw [<-hW5]
         have hs:=R2.out.size
         have ho:xI w.heap.size z2 w1:=by
          have q:=R6.out.own
          rw [hz]
          exact ⟨q.val,q.fit,q.eds,q.efit,zE.own_weak hown (by omega),hfit,⟨q.rng.temp,q.rng.ka,q.rng.kb,q.rng.k0,q.rng.k1,q.rng.i0,q.rng.i1,q.rng.t0,q.rng.t1,q.rng.n0,q.rng.n1⟩⟩
         exact R6.out.turn 7 _ ho (by rw [hz];rfl))
        have HZ:=hid hz
        have HVL:=hid hval
        clear hown hfit hval hb1 hp hz
        go_wp2_with fail
        try rw [hW5]
        rw [<-hcp]
        go_meet
        case rel=>exact ⟨cq,z2,rfl,R5,hid (by
         rw [HRW.out,HV1.out,Option.bind_some,HVL.out,HZ.out,HZ1.out]
         split<;>rfl)⟩
       ·go_wp2_with fail
        try rw [hW2]
        clear hW2 f5 c0 c1 c2 c3 c4 c5 c6 c7 c8 c9
        refine (HPD.out _ (i+1) _ _ (dS (fT HT.out R2.out.bel) rfl (i+1))).mono ?_
        intro e w1 hp
        obtain ⟨vp,vc,po,cq,rfl,hown,hfit,hval,hb1⟩:=zHl hp
        have R6:=hid (R2.out.on hb1)
        have f5:=R6.out.open 7
        obtain ⟨c0,c1,c2,c3,c4,c5,c6,c7,c8,c9⟩:=R6.out.cells
        obtain ⟨z2,hz⟩:∃zq:Ex,zq={ z with pp:=vp,pc:=vc,po:=po }:=⟨_,rfl⟩
        obtain ⟨W5,hW5⟩:∃W',w1.setCell ⟨w.heap.size,7,none⟩ (.slice vp po.length vc)=W':=⟨_,rfl⟩
        have R5:Hid (vJ w w.heap.size (w.heap.size+1) W5 z2):=hid (by
         rw [<-hW5]
         have hs:=R2.out.size
         have ho:xI w.heap.size z2 w1:=by
          have q:=R6.out.own
          rw [hz]
          exact ⟨q.val,q.fit,q.eds,q.efit,zE.own_weak hown (by omega),hfit,⟨q.rng.temp,q.rng.ka,q.rng.kb,q.rng.k0,q.rng.k1,q.rng.i0,q.rng.i1,q.rng.t0,q.rng.t1,q.rng.n0,q.rng.n1⟩⟩
         exact R6.out.turn 7 _ ho (by rw [hz];rfl))
        have HZ:=hid hz
        have HVL:=hid hval
        clear hown hfit hval hb1 hp hz
        go_wp2_with fail
        try rw [hW5]
        go_meet
        case rel=>exact ⟨cq,z2,rfl,R5,hid (by
         rw [HRW.out,HV1.out,Option.bind_some,HVL.out,HZ.out,HZ1.out]
         split<;>rfl)⟩
      ·have bc:(c==0)=false:=by rw [beq_eq_false_iff_ne];exact hc
       have HVN:=hid (HVL1.out.trans (if_neg hc))
       have HCN:=hid hc
       clear hc
       go_wp2_with fail
       try rw [hW2]
       go_meet
       case rel=>exact ⟨c,z,rfl,R2,hid (by rw [HRW.out,HVN.out,if_neg HCN.out];rfl)⟩
     ·have hq2:(x.toList==[63])=false:=by rw [toList_data];exact beq_eq_false_iff_ne.2 hq
      have HNO2:Hid (∀z∈(zB ws).take (i+1),z≠[63]):=hid fun z hz=>by
       rw [List.take_add_one,HX.out] at hz
       rcases List.mem_append.1 hz with h|h
       ·exact HNO.out z h
       ·have:z=x.data.toList:=by simpa using h
        rw [this];exact hq
      clear hq
      go_wp2_with fail
      go_roundg (ws.length-(i+1))
      case measure=>omega
      exact ⟨i+1,by go_num,by omega,by omega,HNO2,R0⟩
    ·obtain rfl:i=ws.length:=by omega
     have hltz:¬ (ws.length:Int)<(ws.length:Int):=by omega
     have HNM:Hid (yO y.en (zB ws)=none):=hid (by
      rw [HRR.out,if_neg]
      intro q
      refine HNO.out [63] ?_ rfl
      rw [List.take_of_length_le (by unfold zB;rw [List.length_map];exact Nat.le_refl _)]
      exact q)
     go_upto_region 12 with fail
     have HRG:=hid R0.out.range
     have HTH:=hid R0.out.there
     obtain ⟨W4,hW4⟩:∃W4,wr.setCells (w.heap.size+1) 0 [.int .i64 y.kind,.string y.temp,.string y.ka,.string y.kb,.int .i64 y.iff,.slice y.vp y.vo.length y.vc,.slice y.ep y.eo.length y.ec,.slice y.pp y.po.length y.pc,.int .u64 y.stamp,.int .i64 y.num]=W4:=⟨_,rfl⟩
     obtain ⟨⟨g0,g1,g2,g3,g4,g5,g6,g7,g8,g9⟩,hown4,hbel4⟩:=R0.out.fin W4 hW4
     have HW4:Hid (wr.setCells (w.heap.size+1) 0 (#[.int .i64 y.kind,.string y.temp,.string y.ka,.string y.kb,.int .i64 y.iff,.slice y.vp y.vo.length y.vc,.slice y.ep y.eo.length y.ec,.slice y.pp y.po.length y.pc,.int .u64 y.stamp,.int .i64 y.num]:Array Value).toList=W4):=hid hW4
     have HOW:=hid hown4
     have HBE:=hid hbel4
     clear hown4 hbel4 hW4
     go_wp2_with (first|(refine yK rfl 42 _ rfl w.heap.size 0 rfl [.int .i64 y.kind,.string y.temp,.string y.ka,.string y.kb,.int .i64 y.iff,.slice y.vp y.vo.length y.vc,.slice y.ep y.eo.length y.ec,.slice y.pp y.po.length y.pc,.int .u64 y.stamp,.int .i64 y.num] _ HRG.out Tryz.underlying42 rfl Tryz.entSize (.agg #[.int .i64 y.kind,.string y.temp,.string y.ka,.string y.kb,.int .i64 y.iff,.slice y.vp y.vo.length y.vc,.slice y.ep y.eo.length y.ec,.slice y.pp y.po.length y.pc,.int .u64 y.stamp,.int .i64 y.num]) rfl ?_)|(refine yI rfl 42 _ _ rfl (w.heap.size+1) 0 #[.int .i64 y.kind,.string y.temp,.string y.ka,.string y.kb,.int .i64 y.iff,.slice y.vp y.vo.length y.vc,.slice y.ep y.eo.length y.ec,.slice y.pp y.po.length y.pc,.int .u64 y.stamp,.int .i64 y.num] rfl rfl HTH.out Tryz.entSize (tQ y) W4 HW4.out ?_))
     exact bodyPost_ret (v:=.tuple #[.agg #[.int .i64 y.kind,.string y.temp,.string y.ka,.string y.kb,.int .i64 y.iff,.slice y.vp y.vo.length y.vc,.slice y.ep y.eo.length y.ec,.slice y.pp y.po.length y.pc,.int .u64 y.stamp,.int .i64 y.num],.bool false]) (by simp [results,Tryz.results43,go_sem,g0,g1,g2,g3,g4,g5,g6,g7,g8,g9]) rfl ⟨⟨y,false,rfl,fun _=>HOW.out,by rw [HNM.out];rfl⟩,HBE.out⟩
  have b2:(kd==2)=false:=by rw [beq_eq_false_iff_ne];omega
  by_cases k4:kd=4
  ·as_aux_lemma =>
   have HRR:=hid (HR4.out k4)
   have b4:(kd==4)=true:=by rw [beq_iff_eq];exact k4
   clear k2 k4 k13
   go_wp2_with fail
   refine (HPE.out W0 R0.out.bel).mono ?_
   intro e w1 hp
   obtain ⟨up,uc,eo,c,rfl,hown,hfit,hval,hb1⟩:=zNu hp
   have R1:=hid (R0.out.on hb1)
   have f5:=R1.out.open 6
   obtain ⟨c0,c1,c2,c3,c4,c5,c6,c7,c8,c9⟩:=R1.out.cells
   obtain ⟨z,hz⟩:∃zq:Ex,zq={ y with ep:=up,ec:=uc,eo:=eo }:=⟨_,rfl⟩
   obtain ⟨W2,hW2⟩:∃W',w1.setCell ⟨w.heap.size,6,none⟩ (.slice up eo.length uc)=W':=⟨_,rfl⟩
   have R2:Hid (vJ w w.heap.size (w.heap.size+1) W2 z):=hid (by
    rw [<-hW2]
    have hs:=R0.out.size
    have ho:xI w.heap.size z w1:=by
     have q:=R1.out.own
     rw [hz]
     exact ⟨q.val,q.fit,zE.own_weak hown (by omega),hfit,q.prd,q.pfit,⟨q.rng.temp,q.rng.ka,q.rng.kb,q.rng.k0,q.rng.k1,q.rng.i0,q.rng.i1,q.rng.t0,q.rng.t1,q.rng.n0,q.rng.n1⟩⟩
    exact R1.out.turn 6 _ ho (by rw [hz];rfl))
   have HZ:=hid hz
   have HVL:=hid hval
   clear hown hfit hval hb1 hp hz
   go_wp2_with fail
   try rw [hW2]
   go_meet
   case rel=>exact ⟨c,z,rfl,R2,hid (by
    rw [HRR.out,HVL.out,HZ.out]
    split<;>rfl)⟩
  have b4:(kd==4)=false:=by rw [beq_eq_false_iff_ne];omega
  by_cases k5:kd=5
  ·as_aux_lemma =>
   have HRR:Hid (yO y.en (zB ws)=if decide (ws.length=0)=true then some y.en else none):=hid (by
    rw [HR5.out k5]
    by_cases hn:ws.length=0
    ·rw [if_pos (by rw [List.length_eq_zero_iff.1 hn];rfl),if_pos (decide_eq_true hn)]
    ·rw [if_neg (fun q=>hn (by have:=congrArg List.length q;simpa [zB] using this)),if_neg (by rw [decide_eq_false hn];decide)])
   have hn:((ws.length:Int)==0)=decide (ws.length=0):=by
    by_cases h:ws.length=0
    ·rw [decide_eq_true h,beq_iff_eq];omega
    ·rw [decide_eq_false h,beq_eq_false_iff_ne];omega
   have b5:(kd==5)=true:=by rw [beq_iff_eq];exact k5
   clear k2 k4 k5 k13
   go_upto_region 19 with fail
   have HRG:=hid R0.out.range
   have HTH:=hid R0.out.there
   obtain ⟨W4,hW4⟩:∃W4,W0.setCells (w.heap.size+1) 0 [.int .i64 y.kind,.string y.temp,.string y.ka,.string y.kb,.int .i64 y.iff,.slice y.vp y.vo.length y.vc,.slice y.ep y.eo.length y.ec,.slice y.pp y.po.length y.pc,.int .u64 y.stamp,.int .i64 y.num]=W4:=⟨_,rfl⟩
   obtain ⟨⟨g0,g1,g2,g3,g4,g5,g6,g7,g8,g9⟩,hown4,hbel4⟩:=R0.out.fin W4 hW4
   have HW4:Hid (W0.setCells (w.heap.size+1) 0 (#[.int .i64 y.kind,.string y.temp,.string y.ka,.string y.kb,.int .i64 y.iff,.slice y.vp y.vo.length y.vc,.slice y.ep y.eo.length y.ec,.slice y.pp y.po.length y.pc,.int .u64 y.stamp,.int .i64 y.num]:Array Value).toList=W4):=hid hW4
   have HOW:=hid hown4
   have HBE:=hid hbel4
   clear hown4 hbel4 hW4
   go_wp2_with (first|(refine yK rfl 42 _ rfl w.heap.size 0 rfl [.int .i64 y.kind,.string y.temp,.string y.ka,.string y.kb,.int .i64 y.iff,.slice y.vp y.vo.length y.vc,.slice y.ep y.eo.length y.ec,.slice y.pp y.po.length y.pc,.int .u64 y.stamp,.int .i64 y.num] _ HRG.out Tryz.underlying42 rfl Tryz.entSize (.agg #[.int .i64 y.kind,.string y.temp,.string y.ka,.string y.kb,.int .i64 y.iff,.slice y.vp y.vo.length y.vc,.slice y.ep y.eo.length y.ec,.slice y.pp y.po.length y.pc,.int .u64 y.stamp,.int .i64 y.num]) rfl ?_)|(refine yI rfl 42 _ _ rfl (w.heap.size+1) 0 #[.int .i64 y.kind,.string y.temp,.string y.ka,.string y.kb,.int .i64 y.iff,.slice y.vp y.vo.length y.vc,.slice y.ep y.eo.length y.ec,.slice y.pp y.po.length y.pc,.int .u64 y.stamp,.int .i64 y.num] rfl rfl HTH.out Tryz.entSize (tQ y) W4 HW4.out ?_))
   exact bodyPost_ret (v:=.tuple #[.agg #[.int .i64 y.kind,.string y.temp,.string y.ka,.string y.kb,.int .i64 y.iff,.slice y.vp y.vo.length y.vc,.slice y.ep y.eo.length y.ec,.slice y.pp y.po.length y.pc,.int .u64 y.stamp,.int .i64 y.num],.bool (decide (ws.length=0))]) (by simp [results,Tryz.results43,go_sem,g0,g1,g2,g3,g4,g5,g6,g7,g8,g9]) rfl ⟨⟨y,(decide (ws.length=0)),rfl,fun _=>HOW.out,HRR.out⟩,HBE.out⟩
  as_aux_lemma =>
  have HRR:=hid (HRX.out (fun q=>k13 (Or.inl q)) k2 (fun q=>k13 (Or.inr q)) k4 k5)
  have b5:(kd==5)=false:=by rw [beq_eq_false_iff_ne];exact k5
  clear k2 k4 k5 k13
  go_wp2_with fail
  refine (HPT.out W0 R0.out.bel).mono ?_
  intro e w1 hp
  obtain ⟨up,uc,po,c,rfl,hown,hfit,hval,hb1⟩:=zHl hp
  have R1:=hid (R0.out.on hb1)
  have f5:=R1.out.open 7
  obtain ⟨c0,c1,c2,c3,c4,c5,c6,c7,c8,c9⟩:=R1.out.cells
  obtain ⟨z,hz⟩:∃zq:Ex,zq={ y with pp:=up,pc:=uc,po:=po }:=⟨_,rfl⟩
  obtain ⟨W2,hW2⟩:∃W',w1.setCell ⟨w.heap.size,7,none⟩ (.slice up po.length uc)=W':=⟨_,rfl⟩
  have R2:Hid (vJ w w.heap.size (w.heap.size+1) W2 z):=hid (by
   rw [<-hW2]
   have hs:=R0.out.size
   have ho:xI w.heap.size z w1:=by
    have q:=R1.out.own
    rw [hz]
    exact ⟨q.val,q.fit,q.eds,q.efit,zE.own_weak hown (by omega),hfit,⟨q.rng.temp,q.rng.ka,q.rng.kb,q.rng.k0,q.rng.k1,q.rng.i0,q.rng.i1,q.rng.t0,q.rng.t1,q.rng.n0,q.rng.n1⟩⟩
   exact R1.out.turn 7 _ ho (by rw [hz];rfl))
  have HZ:=hid hz
  have HVL:=hid hval
  clear hown hfit hval hb1 hp hz
  go_wp2_with fail
  try rw [hW2]
  go_meet
  case rel=>exact ⟨c,z,rfl,R2,hid (by
   rw [HRR.out,HVL.out,HZ.out]
   split<;>rfl)⟩
 case rest =>
 obtain ⟨c,z,rfl,R2,HRZ⟩:=hcut
 have HOK:Hid (yO y.en (zB ws)=if (c==0)=true then some z.en else none):=hid (by
  rw [HRZ.out]
  by_cases hc:c=0
  ·rw [if_pos hc,if_pos (beq_iff_eq.2 hc)]
  ·rw [if_neg hc,if_neg (fun q=>hc (beq_iff_eq.1 q))])
 clear HRZ
 have HRG:=hid R2.out.range
 have HTH:=hid R2.out.there
 obtain ⟨W4,hW4⟩:∃W4,wc.setCells (w.heap.size+1) 0 [.int .i64 z.kind,.string z.temp,.string z.ka,.string z.kb,.int .i64 z.iff,.slice z.vp z.vo.length z.vc,.slice z.ep z.eo.length z.ec,.slice z.pp z.po.length z.pc,.int .u64 z.stamp,.int .i64 z.num]=W4:=⟨_,rfl⟩
 obtain ⟨⟨g0,g1,g2,g3,g4,g5,g6,g7,g8,g9⟩,hown4,hbel4⟩:=R2.out.fin W4 hW4
 have HW4:Hid (wc.setCells (w.heap.size+1) 0 (#[.int .i64 z.kind,.string z.temp,.string z.ka,.string z.kb,.int .i64 z.iff,.slice z.vp z.vo.length z.vc,.slice z.ep z.eo.length z.ec,.slice z.pp z.po.length z.pc,.int .u64 z.stamp,.int .i64 z.num]:Array Value).toList=W4):=hid hW4
 have HOW:=hid hown4
 have HBE:=hid hbel4
 clear hown4 hbel4 hW4
 go_wp2_with (first|(refine yK rfl 42 _ rfl w.heap.size 0 rfl [.int .i64 z.kind,.string z.temp,.string z.ka,.string z.kb,.int .i64 z.iff,.slice z.vp z.vo.length z.vc,.slice z.ep z.eo.length z.ec,.slice z.pp z.po.length z.pc,.int .u64 z.stamp,.int .i64 z.num] _ HRG.out Tryz.underlying42 rfl Tryz.entSize (.agg #[.int .i64 z.kind,.string z.temp,.string z.ka,.string z.kb,.int .i64 z.iff,.slice z.vp z.vo.length z.vc,.slice z.ep z.eo.length z.ec,.slice z.pp z.po.length z.pc,.int .u64 z.stamp,.int .i64 z.num]) rfl ?_)|(refine yI rfl 42 _ _ rfl (w.heap.size+1) 0 #[.int .i64 z.kind,.string z.temp,.string z.ka,.string z.kb,.int .i64 z.iff,.slice z.vp z.vo.length z.vc,.slice z.ep z.eo.length z.ec,.slice z.pp z.po.length z.pc,.int .u64 z.stamp,.int .i64 z.num] rfl rfl HTH.out Tryz.entSize (tQ z) W4 HW4.out ?_))
 exact bodyPost_ret (v:=.tuple #[.agg #[.int .i64 z.kind,.string z.temp,.string z.ka,.string z.kb,.int .i64 z.iff,.slice z.vp z.vo.length z.vc,.slice z.ep z.eo.length z.ec,.slice z.pp z.po.length z.pc,.int .u64 z.stamp,.int .i64 z.num],.bool (c==0)]) (by simp [results,Tryz.results43,go_sem,g0,g1,g2,g3,g4,g5,g6,g7,g8,g9]) rfl ⟨⟨z,(c==0),rfl,fun _=>HOW.out,HOK.out⟩,HBE.out⟩
end
section
open Go.RowKit Go.Lib
theorem zFS {s:ByteArray} {i k:Nat} (hl:s.data.toList[i]? = some 47) (hn:(47:UInt8) ∉ s.data.toList.take i) (hk:k<s.size) (hc:s[k]=47) (hb:tR (s.extract 0 k) (s.extract (k+1) s.size)=true):k=i:=by
 have hkl:s.L[k]? = some 47:=by
  rw [List.getElem?_eq_getElem (by simpa using hk)];exact congrArg some ((qD s k hk).trans hc)
 rcases Nat.lt_trichotomy k i with h|h|h
 ·refine absurd ?_ hn;exact List.mem_of_getElem? (i:=k) (by rw [List.getElem?_take,if_pos h];exact hkl)
 ·exact h
 ·have ht:=zEr (zAw hb).1;rw [zBq] at ht;refine absurd ?_ ht;exact List.mem_of_getElem? (i:=i) (by rw [List.getElem?_take,if_pos h];exact hl)
theorem zF4 (s:ByteArray) (w:World) (hs:s.size<=maxLen) :
  Calls Tryz.prog 41 #[.string s] w fun e w'=>(∃(a b:ByteArray) (c:Int),e=.returned (.tuple #[.agg #[.string a,.string b],.int .i64 c]) /\
   ((c=0/\tJ s.data.toList=some (a,b))∨(c=2/\tJ s.data.toList=none)))/\Below w.heap.size w w':=by
 rcases vL s.data.toList 47 with ⟨h1,h2⟩|⟨i,h1,h2,h3,h4⟩
 ·refine (gF s w hs ⟨#[]⟩ ⟨#[]⟩ 2 (fun k hk hc _=>?_) fun _=>⟨rfl,rfl,rfl⟩).mono ?_
  ·refine absurd ?_ h2;rw [<-hc,<-qD s k hk];exact List.getElem_mem _
  ·rintro e w' ⟨rfl,hb⟩;exact ⟨⟨_,_,2,rfl,.inr ⟨rfl,by unfold tJ;rw [if_pos h1]⟩⟩,hb⟩
 ·have hi:i<s.size:=by simpa using h2
  have e1:(s.extract 0 i)=⟨(s.data.toList.take i).toArray⟩:=jY (by rw [zBq]);have e2:(s.extract (i+1) s.size)=⟨(s.data.toList.drop (i+1)).toArray⟩:=jY (by rw [jH]);have hne:¬ Lib.indexByte s.data.toList 47=-1:=by rw [h1];omega
  have hto:(Lib.indexByte s.data.toList 47).toNat=i:=by rw [h1];rfl
  have hci:s[i]=47:=by
   have q:=h3;rw [List.getElem?_eq_getElem h2] at q;rw [<-qD s i hi];exact Option.some.inj q
  cases hk:tR (s.extract 0 i) (s.extract (i+1) s.size) with
  | false =>
   refine (gF s w hs ⟨#[]⟩ ⟨#[]⟩ 2 (fun k hk' hc hb=>?_) fun _=>⟨rfl,rfl,rfl⟩).mono ?_
   ·obtain rfl:=zFS h3 h4 hk' hc hb;rw [hk] at hb;cases hb
   ·rintro e w' ⟨rfl,hb⟩;refine ⟨⟨_,_,2,rfl,.inr ⟨rfl,?_⟩⟩,hb⟩;unfold tJ;rw [if_neg hne];simp only [hto];rw [<-e1,<-e2,hk];rfl
  | true =>
   refine (gF s w hs (s.extract 0 i) (s.extract (i+1) s.size) 0 (fun k hk' hc hb=>?_) fun hall=>?_).mono ?_
   ·obtain rfl:=zFS h3 h4 hk' hc hb;exact ⟨rfl,rfl,rfl⟩
   ·rw [hall i hi hci] at hk;cases hk
   ·rintro e w' ⟨rfl,hb⟩;refine ⟨⟨_,_,0,rfl,.inl ⟨rfl,?_⟩⟩,hb⟩;unfold tJ;rw [if_neg hne];simp only [hto];rw [<-e1,<-e2,hk];rfl
theorem zKu {l:List UInt8} {k:Nat} (h:yX l=k) (hk:k≠0):xP k=l:=by
 unfold yX at h
 split at h
 ·exact absurd h.symm hk
 ·cases hf:(List.range 13).find? (fun k=>decide (xP k=l)) with
  | none=>rw [hf] at h;exact absurd h.symm hk
  | some j =>
   rw [hf] at h;obtain rfl:j=k:=h
   simpa using List.find?_some hf
def upK (l:List UInt8) (k:Nat):Nat:=if yX l<k then yX l else 0
theorem zMo {l:List UInt8} {k:Nat} (h1:1<=k) (h2:k<=12) (h:l=xP k):upK l (k+1)=k:=by
 have:yX l=k:=by rw [h];exact bS k h1 h2
 unfold upK;rw [this,if_pos (by omega)]
theorem zNy {l:List UInt8} {k:Nat} (h1:1<=k) (h:¬ l=xP k):upK l (k+1)=upK l k:=by
 have:yX l≠k:=fun q=>h (zKu q (by omega)).symm
 unfold upK
 by_cases hl:yX l<k
 ·rw [if_pos hl,if_pos (by omega)]
 ·rw [if_neg hl,if_neg (by omega)]
theorem zMR (l:List UInt8):upK l 1=0:=by unfold upK;split<;>omega
theorem zIH (l:List UInt8):upK l 13=yX l:=by unfold upK;rw [if_pos (by have:=cG l;omega)]
theorem jO {ws:List ByteArray} {n:Nat} {x:ByteArray} (h:ws[n]? = some x):zB (ws.drop n)=x.data.toList::zB (ws.drop (n+1)):=by
 obtain ⟨hn,rfl⟩:=List.getElem?_eq_some_iff.1 h;rw [List.drop_eq_getElem_cons hn];rfl
theorem dC {ws:List ByteArray} {n:Nat} (h:ws.length<=n):zB (ws.drop n)=[]:=by rw [List.drop_eq_nil_of_le h];rfl
theorem cS (ws:List ByteArray) (n:Nat):(zB (ws.drop n))[0]? = (ws.map (·.data.toList))[n]?:=by unfold zB;simp
theorem zJ6 (ws:List ByteArray) (n:Nat):(zB (ws.drop n))[1]? = (ws.map (·.data.toList))[n+1]?:=by unfold zB;simp
theorem bZ (ws:List ByteArray) (n:Nat):(zB (ws.drop n)).length=ws.length-n:=by unfold zB;simp
theorem zCq {x:Option (List UInt8)} {n:Nat} (h:xY x=some n):n<=18446744073709551615:=by
 cases x with
 | none=>cases h
 | some l=>exact sO h
theorem zC7 {x:Option (List UInt8)} {n:Nat} (h:xX x=some n):n<=999999999:=by
 cases x with
 | none=>cases h
 | some l=>exact sO h
theorem zMI {e:En} {w:List (List UInt8)} (h:e.kind=7):zX e w=if w.length=1 then (xX w[0]?).bind fun n=>some { e with num:=(n:Int) } else none:=by
 unfold zX;rw [if_pos h]
 split
 ·cases xX w[0]?<;>rfl
 ·rfl
theorem zJy {e:En} {w:List (List UInt8)} (h:e.kind=9∨e.kind=10):zX e w=if w.length=1 then (xY w[0]?).bind fun n=>some { e with stamp:=(n:Int) } else none:=by
 unfold zX;rw [if_neg (by omega),if_pos h]
 split
 ·cases xY w[0]?<;>rfl
 ·rfl
theorem zI6 {e:En} {w:List (List UInt8)} (h:e.kind=6∨e.kind=11):zX e w=if w=[] then some e else none:=by
 unfold zX;rw [if_neg (by omega),if_neg (by omega),if_pos h]
theorem zN3 {e:En} {w:List (List UInt8)} (h3:3<=e.kind) (h5:e.kind<=5) (hw:w[0]? = some [105,102]):zX e w=(xX w[1]?).bind fun n=>if n=0 then none else yO { e with iff:=(n:Int) } (w.drop 2):=by
 unfold zX;rw [if_neg (by omega),if_neg (by omega),if_neg (by omega),if_pos ⟨h3,h5,hw⟩]
theorem zKS {e:En} {w:List (List UInt8)} (h7:e.kind≠7) (h9:e.kind≠9) (h10:e.kind≠10) (h6:e.kind≠6) (h11:e.kind≠11) (h:¬ (3<=e.kind/\e.kind<=5/\w[0]? = some [105,102])):zX e w=yO e w:=by
 unfold zX;rw [if_neg h7,if_neg (by omega),if_neg (by omega),if_neg h]
theorem zJ9 {e:En} {x:List UInt8} {w:List (List UInt8)} (h:yQ e.kind=true):qY e (x::w)=zX { e with ka:=⟨x.toArray⟩ } w:=by
 show (if yQ e.kind=true then _ else _)=_
 rw [if_pos h]
theorem zJL {e:En} {x:List UInt8} {w:List (List UInt8)} (h:yQ e.kind=false):qY e (x::w)=(tJ x).bind fun k=>zX { e with ka:=k.1,kb:=k.2 } w:=by
 show (if yQ e.kind=true then _ else _)=_
 rw [if_neg (by rw [h];decide)]
end
section
open Go.RowKit Go.Lib
theorem zNT (b:ByteArray):(⟨b.data.toList.toArray⟩:ByteArray)=b:=by obtain ⟨⟨l⟩⟩:=b;rfl
theorem zKW (w:World) (v:Int) (c:UInt8) (h:v=((c.toNat:Nat):Int)) :
  (convert 89 9 (.slice (some ⟨w.heap.size,0,none⟩) 1 1)).run Tryz.prog (w.alloc (.cells #[.int .u8 v] 5))=.ok (.string ⟨#[c]⟩) (w.alloc (.cells #[.int .u8 v] 5)):=by
 subst h
 exact run_convert_bytes_back _ _ _ _ (aa w.z 0) 1 [c] Tryz.underlying89 Tryz.underlying5 Tryz.underlying9 (fun j hj=>by
  obtain rfl:j=0:=by simpa using hj
  exact cF w _ 0 _ rfl)
theorem dB (m:Nat) (w:World) (hm:m<=18446744073709551615) :
  Calls Tryz.prog 53 #[.int .u64 (m:Nat)] w fun e w'=>e=.returned (.string ⟨(yH m).toArray⟩)/\Below w.heap.size w w':=by
 have HL:=hid (qX m 19 (by omega));go_enter Tryz.func53,Tryz.ntmps53;go_wp2_with fail
 go_loopg [0,3] m (fun g v0 vs wr=>∃(n:Nat) (S:ByteArray),v0=iu (n:Nat)/\vs=tq S/\n<=m/\n<=g/\Below w.heap.size w wr/\Hid (yH m=yH n++S.data.toList))
 case atStart=>exact ⟨m,⟨#[]⟩,rfl,rfl,by omega,by omega,Below.refl _ _,by show _=_;exact (List.append_nil _).symm⟩
 case round =>
  obtain ⟨n,S,rfl,rfl,hn,hg,hb,HD⟩:=hrel
  have hsz:S.size<=20:=by
   have h1:=congrArg List.length HD.out;have h2:=HL.out;have h3:S.data.toList.length=S.size:=by simp
   rw [List.length_append] at h1;omega
  have HD1:Hid (n<10->yH m=UInt8.ofNat (48+n % 10)::S.data.toList):=fun h=>by rw [HD.out,tD h];rfl
  have HD2:Hid (¬ n<10->yH m=yH (n / 10)++UInt8.ofNat (48+n % 10)::S.data.toList):=fun h=>by rw [HD.out,tY h,List.append_assoc];rfl
  have HB:=hid hb;clear hb;have kc:=zKW wr (48+(n:Int) % 10) (UInt8.ofNat (48+n % 10)) (by rw [pV (Nat.mod_lt _ (by omega))];omega)
  generalize UInt8.ofNat (48+n % 10)=c at *
  have HS:Hid (((⟨#[c]⟩:ByteArray)++S).data.toList=c::S.data.toList):=by
   show _=_
   rw [ByteArray.data_append];simp
  have HB2:Hid (Below w.heap.size w (wr.alloc (.cells #[.int .u8 (48+(n:Int) % 10)] 5))):=HB.out.alloc HB.out.size _
  by_cases h:n<10
  ·have hz:((n:Int) / 10==0)=true:=by rw [beq_iff_eq];omega
   have HF:=hid (HD1.out h);clear HD1 HD2;go_wp2_with fail;go_ret;rw [HF.out,<-HS.out,zNT];exact ⟨rfl,HB2.out⟩
  ·have hz:((n:Int) / 10==0)=false:=by rw [beq_eq_false_iff_ne];omega
   have HF:=hid (HD2.out h);clear HD1 HD2;go_wp2_with fail;go_roundg (n / 10)
   case measure=>omega
   refine ⟨n / 10,⟨#[c]⟩++S,by go_num,rfl,by omega,by omega,HB2.out,?_⟩;rw [HS.out];exact HF.out
end
end Go.Proofs.YtjeogllmpjihaaaGreatDoor
