/-
  Texts of this claim, one behind the other: Nor Par Ltb Uni Enc0 Enc Wri Pri Siz Fix0 Fix Grp Rname Rmay Rnm Rnn Sam Ncd Spk Kys Krf Krk Kba Krp Sh4 Oqv Opd Oqd Oqn Gen Trm Rp0 Rp1.
-/
import Derived.Test.YtjeogllmpjihaaaGreatDoorPa
import Derived.Lib.AppendStr
import Derived.Lib.Join
import Derived.Lib.LaidTab
import Derived.RowKit
import Derived.Lib.ParseIntB
import Derived.Lib.ItoaNum
import Derived.Lib.ItoaMem
import Derived.Laws.StructEq
set_option maxHeartbeats 20000000
set_option maxRecDepth 100000
namespace Go.Proofs.YtjeogllmpjihaaaGreatDoor
section
open Go.RowKit Go.Sort Go.Lib
theorem zKA {P:ByteArray->Prop} {Q:ByteArray->Prop} (fs:List Fld) (h:∀f∈fs,P f.1/\∀t∈f.2,Q t):∀f∈wN fs,P f.1/\∀t∈f.2,Q t:=by
 have:∀(l o:List Fld),(∀f∈l,P f.1/\∀t∈f.2,Q t)->(∀f∈o,P f.1/\∀t∈f.2,Q t)->∀f∈l.foldl wC o,P f.1/\∀t∈f.2,Q t:=by
  intro l
  induction l with
  | nil=>intro o _ ho;exact ho
  | cons g l ih =>
   intro o hl ho;rw [List.foldl_cons];refine ih _ (fun f hf=>hl f (by simp [hf])) ?_;have hg:=hl g (by simp)
   rcases List.eq_nil_or_concat o with rfl|⟨o',x,rfl⟩
   ·intro f hf;rw [pP,List.mem_singleton] at hf;subst hf;exact hg
   ·rw [List.concat_eq_append] at ho ⊢;have hx:=ho x (by simp)
    by_cases e:x.1=g.1
    ·rw [tL _ _ _ e];intro f hf;rw [List.mem_append,List.mem_singleton] at hf
     rcases hf with hf|rfl
     ·exact ho f (by simp [hf])
     ·refine ⟨hx.1,fun t ht=>?_⟩;rw [List.mem_append] at ht;exact ht.elim (hx.2 t) (hg.2 t)
    ·rw [uZ _ _ _ e];intro f hf;rw [List.mem_append,List.mem_singleton] at hf
     rcases hf with hf|rfl
     ·exact ho f hf
     ·exact hg
 exact this fs [] h (fun f hf=>by simp at hf)
theorem zA8:∀args w,(callFunc 155 args).run Tryz.prog w=.ok (.enter 155 args) w:=enters_of Tryz.func155 (by kernel_rfl) rfl
theorem zEW:∀args w,(callFunc 157 args).run Tryz.prog w=.ok (.enter 157 args) w:=enters_of Tryz.func157 (by kernel_rfl) rfl
def Fy:Type:={ x:Fx // x.name.size<=maxLen }
def zN7:Fy:=⟨⟨⟨#[]⟩,none,0,[]⟩,Nat.zero_le _⟩
def nQ (f:Fld):Bool:=!yU f.1.data.toList
def wZ (f:Fld):Bool:=f.2.isEmpty
theorem dZ (p:Option Addr) (c:Nat) (fv:Value) (w:World) :
  Calls Tryz.prog 154 #[.slice p 0 c,fv] w fun e w'=>e=.returned (.bool false)/\w'=w:=by
 have hix:Calls Tryz.prog 184 #[sc p 0 c,fv] w fun e w'=>e=.returned (ii (-1))/\w'=w:=by
  go_enter Tryz.func184,Tryz.ntmps184
  go_wp2_with fail
  refine wp_loop_rounds 1 ?_;rw [rounds_succ];go_wp2_with fail;go_ret;exact ⟨rfl,rfl⟩
 have HX:=hid hix;clear hix;go_enter Tryz.func154,Tryz.ntmps154;go_wp2_with (first|(go_at_call 184;refine HX.out.mono ?_;rintro e w1 ⟨rfl,rfl⟩));go_ret;exact ⟨rfl,rfl⟩
theorem zLP {w:World} {b off:Nat} {d:List Fx} (h:kL w b off d) (j:Nat) (hj:j<d.length) (i:Nat) (v:Value) (hv:(yF d[j])[i]? = some v):w.cell? ⟨b,off+j * 2+i,none⟩=some v:=by
 obtain ⟨c0,c1⟩:=h j hj
 match i,hv with
 | 0,hv=>simp [yF] at hv;subst hv;exact c0
 | 1,hv=>simp [yF] at hv;subst hv;exact c1
theorem zGb (v:Value) (d:List Fx) (w:World) (hv:qZ w v d) (hf:sD d) :
  Calls Tryz.prog 154 #[v,.func (.func 155) #[] #[]] w fun e w'=>e=.returned (.bool ((d.map Fx.fld).any nQ))/\Below w.heap.size w w':=by
 obtain ⟨p,cap,rfl,hd,_⟩:=hv
 rcases hd with rfl|⟨b,off,rfl,hx⟩
 ·refine (dZ p cap _ w).mono ?_;rintro e w' ⟨rfl,rfl⟩;exact ⟨rfl,Below.refl _ _⟩
 ·by_cases h0:d=[]
  ·subst h0;refine (dZ _ cap _ w).mono ?_;rintro e w' ⟨rfl,rfl⟩;exact ⟨rfl,Below.refl _ _⟩
  ·have hlen:0<d.length:=List.length_pos_iff.2 h0;have hfn:∀x∈d,x.name.size<=maxLen:=fun x hx=>(hf.2 x hx).1
   have hl:=hf.1;unfold maxLen at hl;obtain ⟨zs,hzs⟩:∃zs:List Fy,zs.map (·.1)=d:=⟨d.attachWith _ hfn,List.attachWith_map_subtype_val ..⟩;have hzl:zs.length=d.length:=by rw [<-hzs,List.length_map]
   letI:Inhabited Fy:=⟨zN7⟩
   have hc:=AnyQ.slices_ContainsFunc (α:=Fy) Tryz.hasFld 2 Tryz.isAgg45 Tryz.sizeOf45 (fun x=>yF x.1) (fun _=>rfl) (fun x=>nQ x.1.fld) 155 #[] zA8 b off d.length cap zs w
    (fun W x hb=>(cU x.1 W x.2).mono fun _ _ ⟨h1,h2⟩=>⟨h1,hb.trans (h2.below.mono hb.size)⟩) (by omega) (by omega) (zJ (hx 0 hlen).1)
    (fun j hj i u hu=>by
     have hj':j<d.length:=by omega
     rw [getElem!_pos zs j hj] at hu;have e:(zs[j]).1=d[j]:=by subst hzs;simp
     rw [e] at hu;exact zLP hx j hj' i u hu)
   change Calls Tryz.prog 154 _ _ _ at hc
   refine hc.mono ?_;rintro e w' ⟨rfl,hb⟩;refine ⟨zA ?_,hb⟩;rw [List.take_of_length_le (by omega),<-hzs];simp [List.any_map,Function.comp_def]
theorem zGB (v:Value) (d:List Fx) (w:World) (hv:qZ w v d) (hl:d.length<=maxLen) :
  Calls Tryz.prog 154 #[v,.func (.func 157) #[] #[]] w fun e w'=>e=.returned (.bool ((d.map Fx.fld).any wZ))/\Below w.heap.size w w':=by
 obtain ⟨p,cap,rfl,hd,_⟩:=hv;unfold maxLen at hl
 rcases hd with rfl|⟨b,off,rfl,hx⟩
 ·refine (dZ p cap _ w).mono ?_;rintro e w' ⟨rfl,rfl⟩;exact ⟨rfl,Below.refl _ _⟩
 ·by_cases h0:d=[]
  ·subst h0;refine (dZ _ cap _ w).mono ?_;rintro e w' ⟨rfl,rfl⟩;exact ⟨rfl,Below.refl _ _⟩
  ·have hlen:0<d.length:=List.length_pos_iff.2 h0
   have hc:=AnyQ.slices_ContainsFunc (α:=Fx) Tryz.hasFld 2 Tryz.isAgg45 Tryz.sizeOf45 yF (fun _=>rfl) (fun x=>wZ x.fld) 157 #[] zEW b off d.length cap d w
    (fun W x hb=>(zGE x W).mono fun _ _ ⟨h1,h2⟩=>⟨h1,hb.trans (h2.below.mono hb.size)⟩) (by omega) (by omega) (zJ (hx 0 hlen).1)
    (fun j hj i u hu=>by
     rw [getElem!_pos d j hj] at hu;exact zLP hx j hj i u hu)
   change Calls Tryz.prog 154 _ _ _ at hc
   refine hc.mono ?_;rintro e w' ⟨rfl,hb⟩;refine ⟨zA ?_,hb⟩;rw [List.take_length];simp [List.any_map,Function.comp_def]
def zBz (w : World) (d : List Fx) (e : Ending) (w' : World) : Prop :=
  (((d.map Fx.fld).any nQ = true /\ e = .returned (.tuple #[.slice none 0 0, .int .i64 2])) ∨
   ((d.map Fx.fld).any nQ = false /\ ∃ ds, bM d ds /\
     (((wN (ds.map Fx.fld)).any wZ = true /\ e = .returned (.tuple #[.slice none 0 0, .int .i64 3])) ∨
      ((wN (ds.map Fx.fld)).any wZ = false /\ xU (wN (ds.map Fx.fld)) = false /\ e = .returned (.tuple #[.slice none 0 0, .int .i64 5])) ∨
      ((wN (ds.map Fx.fld)).any wZ = false /\ xU (wN (ds.map Fx.fld)) = true /\ ∃ u o, e = .returned (.tuple #[u, .int .i64 0]) /\ uW w.heap.size w' u o /\ o.map Fx.fld = wN (ds.map Fx.fld))))) /\ Below w.heap.size w w'
theorem zHL {d ds o:List Fx} (hf:sD d) (hso:bM d ds) (ho:o.map Fx.fld=wN (ds.map Fx.fld)) (htot:vN (d.map Fx.fld) * 16<=140737488355328):sD o:=by
 have hall:∀f∈ds.map Fx.fld,f.1.size<=maxLen/\∀t∈f.2,t.size<=maxLen:=fun f hf'=>by
  obtain ⟨x,hx,rfl⟩:=List.mem_map.1 hf';have:=hf.2 x (hso.1.mem_iff.1 hx);exact ⟨this.1,this.2.2⟩
 have hj:=zKA (P:=fun n=>n.size<=maxLen) (Q:=fun t=>t.size<=maxLen) _ hall
 have htt:vN (wN (ds.map Fx.fld))=vN (d.map Fx.fld):=by
  rw [zBt];exact ((hso.1.map Fx.fld).map _).sum_nat
 refine ⟨?_,fun x hx=>?_⟩
 ·have h1:=zDD (ds.map Fx.fld);rw [<-ho,List.length_map,List.length_map] at h1;have:=hso.1.length_eq;have:=hf.1;omega
 ·have hm:x.fld∈wN (ds.map Fx.fld):=by rw [<-ho];exact List.mem_map.2 ⟨x,hx,rfl⟩
  obtain ⟨h1,h2⟩:=hj _ hm;refine ⟨h1,?_,h2⟩;have:=zBl hm;rw [htt] at this;unfold maxLen;omega
theorem zL7 (v:Value) (d:List Fx) (w:World) (hv:qZ w v d) (hf:sD d) (hl:d.length * 40<=140737488355328) (htot:vN (d.map Fx.fld) * 16<=140737488355328) :
  Calls Tryz.prog 115 #[v] w fun e w'=>zBz w d e w':=by
 have HM:=hid (zGb v d w hv hf)
 cases hmis:(d.map Fx.fld).any nQ with
 | true =>
  rw [hmis] at HM;clear hv;go_enter Tryz.func115,Tryz.ntmps115;go_wp2_with (first|(go_at_call 154;refine HM.out.mono ?_;rintro e w1 ⟨rfl,hb1⟩))
  go_ret2
  exact ⟨Or.inl ⟨hmis,rfl⟩,hb1⟩
 | false =>
  rw [hmis] at HM;have HV:=hid hv;have HF:=hid hf;clear hv hf;go_enter Tryz.func115,Tryz.ntmps115;go_wp2_with (first|(go_at_call 154;refine HM.out.mono ?_;rintro e w1 ⟨rfl,hb1⟩)|(go_at_call 156;refine (zHQ v d w1 (HV.out.kept hb1) hl htot).mono ?_;rintro e w2 ⟨u,ds,o,rfl,hso,hoj,hom,hb2⟩;have HSO:=hid hso;have HOJ:=hid hoj;have HOM:=hid hom;clear hso hoj hom));have hfo:=zHL HF.out HSO.out HOM.out htot;have hbar:=zGB u o w2 HOJ.out.1.is hfo.1;rw [HOM.out] at hbar;have HBA:=hid hbar;have HFO:=hid hfo;clear hbar hfo;have hbw:Below w.heap.size w w2:=hb1.trans (hb2.mono hb1.size)
  cases hbb:(wN (ds.map Fx.fld)).any wZ with
  | true =>
   rw [hbb] at HBA;go_wp2_with (first|(go_at_call 154;refine HBA.out.mono ?_;rintro e w3 ⟨rfl,hb3⟩))
   go_ret2
   exact ⟨Or.inr ⟨hmis,ds,HSO.out,Or.inl ⟨hbb,rfl⟩⟩,hbw.trans (hb3.mono hbw.size)⟩
  | false =>
   rw [hbb] at HBA
   cases hmm:xU (wN (ds.map Fx.fld)) with
   | false =>
    go_wp2_with (first|(go_at_call 154;refine HBA.out.mono ?_;rintro e w3 ⟨rfl,hb3⟩;have hmy:=hid (zAf u o w3 (HOJ.out.1.is.kept hb3) HFO.out);rw [HOM.out,hmm] at hmy)|(go_at_call 98;refine hmy.out.mono ?_;rintro e w4 ⟨rfl,hg4⟩))
    go_ret2
    exact ⟨Or.inr ⟨hmis,ds,HSO.out,Or.inr (Or.inl ⟨hbb,hmm,rfl⟩)⟩,(hbw.trans (hb3.mono hbw.size)).trans (hg4.below.mono (hbw.trans (hb3.mono hbw.size)).size)⟩
   | true =>
    go_wp2_with (first|(go_at_call 154;refine HBA.out.mono ?_;rintro e w3 ⟨rfl,hb3⟩;have hmy:=hid (zAf u o w3 (HOJ.out.1.is.kept hb3) HFO.out);rw [HOM.out,hmm] at hmy)|(go_at_call 98;refine hmy.out.mono ?_;rintro e w4 ⟨rfl,hg4⟩))
    go_ret2
    have hoj4:=(HOJ.out.on hb3).on hg4.below;exact ⟨Or.inr ⟨hmis,ds,HSO.out,Or.inr (Or.inr ⟨hbb,hmm,u,o,rfl,⟨⟨own_weak hoj4.1.1 hb1.size,fun x hx=>own_weak (hoj4.1.2 x hx) hb1.size⟩,hoj4.2⟩,HOM.out⟩)⟩,(hbw.trans (hb3.mono hbw.size)).trans (hg4.below.mono (hbw.trans (hb3.mono hbw.size)).size)⟩
end
section
open Go.RowKit
attribute [local go_sem] Oper.semAt_some
def zV:List (List UInt8)->Option (List Fld)
 | []=>some []
 | l::r=>match vM l with
  | none=>none
  | some (n,t)=>(zV r).map ((⟨n.toArray⟩,[⟨t.toArray⟩]) :: ·)
theorem vS (a b:List (List UInt8)):zV (a++b)=(zV a).bind fun x=>(zV b).map (x ++ ·):=by
 induction a with
 | nil=>simp [zV]
 | cons l a ih =>
  simp only [List.cons_append,zV]
  cases vM l with
  | none=>rfl
  | some o =>
   obtain ⟨n,t⟩:=o;simp only [ih]
   cases zV a with
   | none=>rfl
   | some x=>cases zV b<;>simp
def zHo {M:Nat} (w:World) (N:Nat) (pre:List (Wd M)) (W:World):Prop :=
 ∃v d fs,W.heap[w.heap.size+2]? = some (.cells #[v] 37 (0,0))/\vQ (N+2) W v d/\zV (zU pre)=some fs/\d.map Fx.fld=fs/\d.length=pre.length /\
  W.heap[w.heap.size]? = some (.cells #[.slice none 0 0] 37 (0,0))/\W.heap[w.heap.size+1]? = some (.cells #[.int .i64 0] 26 (0,0))/\Below w.heap.size w W/\N+2<=W.heap.size/\w.heap.size+6<=N
def zJt {M:Nat} (w:World) (N:Nat) (c:Code) (pre:List (Wd M)) (W:World):Prop :=
 c=.ret/\zV (zU pre)=none/\W.heap[w.heap.size]? = some (.cells #[.slice none 0 0] 37 (0,0))/\W.heap[w.heap.size+1]? = some (.cells #[.int .i64 4] 26 (0,0))/\Below w.heap.size w W/\w.heap.size+6<=N
def sQ (N : Nat) (d : List Fx) (e : Ending) (w' : World) : Prop :=
  ((d.map Fx.fld).any nQ = true /\ e = .returned (.tuple #[.slice none 0 0, .int .i64 2])) ∨
   ((d.map Fx.fld).any nQ = false /\ ∃ ds, bM d ds /\
     (((wN (ds.map Fx.fld)).any wZ = true /\ e = .returned (.tuple #[.slice none 0 0, .int .i64 3])) ∨
      ((wN (ds.map Fx.fld)).any wZ = false /\ xU (wN (ds.map Fx.fld)) = false /\ e = .returned (.tuple #[.slice none 0 0, .int .i64 5])) ∨
      ((wN (ds.map Fx.fld)).any wZ = false /\ xU (wN (ds.map Fx.fld)) = true /\ ∃ u o, e = .returned (.tuple #[u, .int .i64 0]) /\ uW N w' u o /\ o.map Fx.fld = wN (ds.map Fx.fld))))
theorem zBz.ans {w w':World} {d:List Fx} {e:Ending} (h:zBz w d e w'):sQ w.heap.size d e w':=h.1
theorem uW.far {N R:Nat} {w w':World} {v:Value} {o:List Fx} (h:uW N w v o) (hg:w.grownBy w' (some R)) (hR:R<N):uW N w' v o:=⟨h.1.far hg hR,h.2⟩
theorem uW.weak {N N':Nat} {w:World} {v:Value} {o:List Fx} (h:uW N w v o) (hN:N'<=N):uW N' w v o:=⟨⟨own_weak h.1.1 hN,fun x hx=>own_weak (h.1.2 x hx) hN⟩,h.2⟩
theorem sQ.map {N N':Nat} {d:List Fx} {e:Ending} {w w':World} (h:sQ N d e w) (f:∀u o,uW N w u o->uW N' w' u o):sQ N' d e w':=by
 rcases h with h|⟨h1,ds,h2,h3⟩
 ·exact Or.inl h
 ·refine Or.inr ⟨h1,ds,h2,?_⟩
  rcases h3 with h3|h3|⟨h3,h4,u,o,h5,h6,h7⟩
  ·exact Or.inl h3
  ·exact Or.inr (Or.inl h3)
  ·exact Or.inr (Or.inr ⟨h3,h4,u,o,h5,f _ _ h6,h7⟩)
theorem sQ.shape {N:Nat} {d:List Fx} {e:Ending} {w:World} (h:sQ N d e w):∃p n c k,e=.returned (.tuple #[.slice p n c,.int .i64 k]):=by
 rcases h with ⟨_,h⟩|⟨_,ds,_,⟨_,h⟩|⟨_,_,h⟩|⟨_,_,u,o,h,ho,_⟩⟩
 ·exact ⟨_,_,_,_,h⟩
 ·exact ⟨_,_,_,_,h⟩
 ·exact ⟨_,_,_,_,h⟩
 ·rcases ho.1.1.2 with ⟨rfl,_⟩|⟨g,cap,cur,rfl,_⟩
  ·exact ⟨_,_,_,_,h⟩
  ·exact ⟨_,_,_,_,h⟩
def cV (w : World) (l : List UInt8) (e : Ending) (w' : World) : Prop :=
  ((l = [] /\ e = .returned (.tuple #[.slice none 0 0, .int .i64 0])) ∨
   (l ≠ [] /\ zV (zG l) = none /\ e = .returned (.tuple #[.slice none 0 0, .int .i64 4])) ∨
   (l ≠ [] /\ ∃ fs d, zV (zG l) = some fs /\ d.map Fx.fld = fs /\ sQ w.heap.size d e w')) /\ Below w.heap.size w w'
theorem jW (l:List UInt8):(zG l).length<=l.length+1:=by
 induction h:l.length using Nat.strongRecOn generalizing l with
 | _ k ih =>
  subst h
  rcases vL l 32 with ⟨h,_⟩|⟨i,h,hi,_⟩
  ·rw [wG h];simp
  ·rw [wO h,List.length_cons];have:=ih (l.drop (i+1)).length (by simp;omega) _ rfl;simp at this ⊢;omega
theorem zJV {l n t:List UInt8} (h:vM l=some (n,t)):n.length<=l.length/\t.length<=l.length:=by
 unfold vM at h
 split at h
 ·cases h
 ·cases hr:yJ (l.drop ((Lib.indexByte l 61).toNat+1)) with
  | none=>rw [hr] at h;cases h
  | some m =>
   rw [hr] at h;simp only [Option.map_some,Option.some.injEq,Prod.mk.injEq] at h;obtain ⟨rfl,rfl⟩:=h;have:=pQ _ _ _ (Nat.le_refl _) hr;simp at this ⊢;omega
theorem zAW {B:Nat} (ls:List (List UInt8)) (hB:∀l∈ls,l.length<=B):∀fs,zV ls=some fs->fs.length=ls.length/\vN fs=ls.length/\∀f∈fs,f.1.size<=B/\f.2.length=1/\∀t∈f.2,t.size<=B:=by
 induction ls with
 | nil=>intro fs h;cases h;exact ⟨rfl,rfl,fun f hf=>by simp at hf⟩
 | cons l ls ih =>
  intro fs h;simp only [zV] at h
  cases ho:vM l with
  | none=>rw [ho] at h;cases h
  | some o =>
   obtain ⟨n,t⟩:=o;rw [ho] at h
   cases hr:zV ls with
   | none=>rw [hr] at h;cases h
   | some gs =>
    rw [hr] at h
    cases h;obtain ⟨h1,h2,h3⟩:=ih (fun l' hl'=>hB l' (by simp [hl'])) gs hr;obtain ⟨hn,ht⟩:=zJV ho;have hl:=hB l (by simp);refine ⟨by simp [h1],?_,fun f hf=>?_⟩
    ·simp only [vN,List.map_cons,List.sum_cons,List.length_cons,List.length_nil] at h2 ⊢;omega
    ·rw [List.mem_cons] at hf
     rcases hf with rfl|hf
     ·refine ⟨?_,rfl,fun u hu=>?_⟩
      ·show (ByteArray.mk _).size<=B
       simp [ByteArray.size];omega
      ·simp at hu;subst hu;simp [ByteArray.size];omega
     ·exact h3 f hf
theorem yD {w:World} {B:Nat} {u:Value} {T:TypeId} (h:w.heap[B]? = some (.cells #[u] T (0,0))):w.cell? ⟨B,0,none⟩=some u/\w.frozen? ⟨B,0,none⟩=false :=
 ⟨by rw [Lib.cell_of_heap h];rfl,Lib.frozen_of_heap h 0⟩
theorem wT {B:Nat} {W W':World} (h:Below W.heap.size W W'):KeepsFrom B W W' :=
 ⟨h.size,fun k _ _ hk _=>(h.block k (Array.getElem?_eq_some_iff.1 hk).1).trans hk⟩
theorem fA {w:World} {base n k:Nat} {e:TypeId} {v:Value} {xs:List Value} {j:Nat} {o:Obj} (h:w.ownsRow base e n v k xs) (ej:v.ownBlock=some j) (hj:w.heap[j]? = some o):o.isCells=true:=by
 rcases h.2 with ⟨rfl,_⟩|⟨g,cap,cur,rfl,_,hgb,_⟩
 ·simp [Value.ownBlock] at ej
 ·obtain rfl:g=j:=by simpa [Value.ownBlock] using ej
  rw [hgb] at hj;cases hj;rfl
theorem zE0 (w:World):Calls Tryz.prog 72 #[.string ⟨#[]⟩] w fun e w'=>cV w [] e w':=by
 refine (callsIn_wide (n:=3)).1 ?_;refine callsIn_of_wp_marks Tryz.func72 rfl trivial ?_ rfl;simp only [Tryz.ntmps72,List.size_toArray,List.length_cons,List.length_nil,Nat.reduceAdd,Nat.reduceSub,Array.replicate_succ,Array.replicate_zero,List.push_toArray,List.append_toArray,List.nil_append,List.cons_append]
 gi_wp2
 exact ⟨.tuple #[sc none 0 0,ii 0],by simp [results,Tryz.results72,go_sem],⟨Or.inl ⟨rfl,rfl⟩,((Below.refl _ w).alloc (Nat.le_refl _) _).alloc (by simp) _⟩⟩
theorem zFl (s:ByteArray) (w:World) (hp:zY w) (h0:s.data.toList≠[]) (hs:s.size<=3000000000000) :
  Calls Tryz.prog 72 #[.string s] w fun e w'=>cV w s.data.toList e w':=by
 refine (callsIn_wide (n:=3)).1 ?_;refine callsIn_of_wp_marks Tryz.func72 rfl trivial ?_ rfl;simp only [Tryz.ntmps72,List.size_toArray,List.length_cons,List.length_nil,Nat.reduceAdd,Nat.reduceSub,Array.replicate_succ,Array.replicate_zero,List.push_toArray,List.append_toArray,List.nil_append,List.cons_append];have hsl:(zG s.data.toList).length<=s.size+1:=by simpa using jW s.data.toList
 have hne:s.toList.isEmpty=false:=by
  rw [Lib.toList_data]
  cases h:s.data.toList with
  | nil=>exact absurd h h0
  | cons _ _=>rfl
 gi_wp2_with (refine ⟨trivial,?_⟩;gi_at_call 16;refine (callsIn_wide.2 (jS _ _)).mono ?_;rintro e w3 ⟨rfl,hbx,hb3,hs3⟩)
 simp only [World.size_alloc] at hbx hb3 hs3;have hb30:Below w.heap.size w w3:=((((Below.refl _ w).alloc (Nat.le_refl _) _).alloc (by simp) _).alloc (by simp;omega) _).trans (hb3.mono (by omega))
 have g0:w3.heap[w.heap.size]? = some (.cells #[sc none 0 0] 37 (0,0)):=by
  rw [hb3.block _ (by omega),Below.heap_alloc _ _ _ (by simp;omega),Below.heap_alloc _ _ _ (by simp)];exact heap_alloc_new w _
 have g1:w3.heap[w.heap.size+1]? = some (.cells #[ii 0] 26 (0,0)):=by
  rw [hb3.block _ (by omega),Below.heap_alloc _ _ _ (by simp)];have:=heap_alloc_new (w.alloc (.cells #[sc none 0 0] 37)) (.cells #[ii 0] 26)
  simpa using this
 have g2:w3.heap[w.heap.size+2]? = some (.cells #[sc none 0 0] 37 (0,0)):=by
  rw [hb3.block _ (by omega)];have:=heap_alloc_new ((w.alloc (.cells #[sc none 0 0] 37)).alloc (.cells #[ii 0] 26)) (.cells #[sc none 0 0] 37)
  simpa using this
 have hN6:w3.heap.size=w.heap.size+6:=by omega
 have ST0:Hid (∀o1 o2,zHo (M:=s.size) w w3.heap.size [] ((w3.alloc o1).alloc o2)):=fun o1 o2=>by
  have ha:∀k,k<w3.heap.size->((w3.alloc o1).alloc o2).heap[k]? = w3.heap[k]?:=fun k hk=>by
   rw [Below.heap_alloc _ _ _ (by simp;omega),Below.heap_alloc _ _ _ hk]
  exact ⟨sc none 0 0,[],[],(ha _ (by omega)).trans g2,⟨World.ownsRow_nil _ _ _ _,fun x hx=>by simp at hx⟩,rfl,rfl,rfl,(ha _ (by omega)).trans g0,(ha _ (by omega)).trans g1,
   (hb30.alloc hb30.size _).alloc (by have:=hb30.size;simp;omega) _,by simp,by omega⟩
 have HBX:=hid hbx;have HP:=hid hp;have hen:=enters_of (P:=Tryz.prog) Tryz.func61 (by kernel_rfl) rfl;clear hbx hp g0 g1 g2 hb3 hs3
 refine uA (w:=w3) rfl (by decide) (gf:=61) (lb:=#[.pointer (some (aa (w.heap.size+1+1+1+1) 0)),.pointer (some (aa (w.heap.size+1+1+1) 0)),.pointer (some (aa (w.heap.size+1+1+1+2) 0))]) rfl trivial hen (Bs:=w.heap.size+1+1+1) (by omega)
  (dI 2 (by decide) s.size _ _ _ s (Nat.le_refl _) (by unfold maxLen;omega) w3 HBX.out) ?hKt ?hKb (fun _=>rfl) (zHo w w3.heap.size) (zJt w w3.heap.size) ?hIp ?hIb ?hXp ST0.out
  (fun x=>{ tmps:=#[tq s,undef,.pointer (some (aa w.heap.size 0)),.pointer (some (aa (w.heap.size+1) 0)),.pointer (some (aa (w.heap.size+1+1) 0)),tq x.1,undef,undef,tq s,.bool false,tq s,
   .func (.func 61) #[] #[.pointer (some (aa (w.heap.size+1+1+1+1) 0)),.pointer (some (aa (w.heap.size+1+1+1) 0)),.pointer (some (aa (w.heap.size+1+1+1+2) 0))],
   tq x.1,undef,undef,undef,undef,undef,undef,undef,undef,undef,undef,undef,undef,undef,undef,undef,undef],defers:=[] }) ?assign ?body ?done ?stop
 case hKt=>exact fun h k=>⟨k.1.trans h.1,k.2.1.trans h.2.1,k.2.2.trans h.2.2⟩
 case hKb=>exact fun W l o' hl=>⟨World.putObj_heap_other (by omega),World.putObj_heap_other (by omega),World.putObj_heap_other (by omega)⟩
 case hIp =>
  rintro pre W o' ⟨v,d,fs,k2,hox,hf,hm,hl,k0,k1,hb,hz,h6⟩;have hg:W.grownBy (W.putObj (w3.heap.size+1) o') (some (w3.heap.size+1)):=grownBy_putObj' W _ o';exact ⟨v,d,fs,(World.putObj_heap_other (by omega)).trans k2,hox.far hg (by omega),hf,hm,hl,(World.putObj_heap_other (by omega)).trans k0,(World.putObj_heap_other (by omega)).trans k1,hb.grown hg (by omega) (fun k e=>by cases e;omega),Nat.le_trans hz hg.size,h6⟩
 case hIb =>
  rintro pre W u ⟨v,d,fs,k2,hox,hf,hm,hl,k0,k1,hb,hz,h6⟩;have hg:W.grownBy (W.setCell (aa (w.heap.size+1+1+1) 0) u) (some (w.heap.size+1+1+1)):=zZ W _ 0 u;exact ⟨v,d,fs,(hg.block _ (by omega) (by intro e;have:=Option.some.inj e;omega)).trans k2,hox.far hg (by omega),hf,hm,hl,(hg.block _ (by omega) (by intro e;have:=Option.some.inj e;omega)).trans k0,(hg.block _ (by omega) (by intro e;have:=Option.some.inj e;omega)).trans k1,hb.grown hg (by omega) (fun k e=>by cases e;omega),Nat.le_trans hz hg.size,h6⟩
 case hXp =>
  rintro c pre W o' ⟨hc,hf,k0,k1,hb,h6⟩;have hg:W.grownBy (W.putObj (w3.heap.size+1) o') (some (w3.heap.size+1)):=grownBy_putObj' W _ o';exact ⟨hc,hf,(World.putObj_heap_other (by omega)).trans k0,(World.putObj_heap_other (by omega)).trans k1,⟨hg.os.trans hb.os,hg.tape.trans hb.tape,hg.output.trans hb.output,Nat.le_trans hb.size hg.size,fun k hk=>(World.putObj_heap_other (by omega)).trans (hb.block k hk)⟩,h6⟩
 case assign =>
  intro l x W K hK;simp only [zAa]
  gi_wp2
  exact hK
 case body =>
  rintro l pre x W hlW ⟨v,d,fs,k2,hox,hf,hm,hl,k0,k1,hb,hz,h6⟩ hlen;have hxs:x.1.size<=140737488355327:=Nat.le_trans x.2 (by omega);have hwp:=zKb x.1 W (HP.out.on hb) hxs;obtain ⟨i0,hi,hz0,hz1,hz2⟩:=info_parts Tryz.infoFld;have hpl:zU (pre++[x])=zU pre++[x.1.data.toList]:=by simp [zU]
  have HPL:=hid hpl;have HF:=hid hf;have HB:=hid hb;have HOX:=hid hox;have HK0:=hid k0;have HK1:=hid k1;have HK2:=hid k2;have HM:=hid hm;have HLN:=hid hl;clear hpl hf hb hox hm hl
  cases hwo:vM x.1.data.toList with
  | none =>
   have HW:Hid (Calls Tryz.prog 114 #[tq x.1] W fun e w'=>e=.returned (.tuple #[.agg #[tq ⟨#[]⟩,sc none 0 0],ii 4])/\Below W.heap.size W w'):=hwp.mono (by
    rintro e w' ⟨h|⟨n,t,h,_⟩,hb'⟩
    ·exact ⟨h.2,hb'⟩
    ·rw [hwo] at h;cases h)
   have HNO:Hid (zV (zU (pre++[x]))=none):=by
    show _=_
    rw [HPL.out,vS,HF.out];simp [zV,hwo]
   clear hwp k0 k1 k2;have HN6:=hid hN6;clear hN6
   gi_wp2_with (refine ⟨trivial,?_⟩;gi_at_call 114;refine (CallsIn.inRound l (callsIn_wide.2 HW.out)).mono ?_;rintro e W2 ⟨rfl,hb2⟩;have hs2:=hb2.size;have t0:=HK0.out;have t1:=HK1.out;have t0':=(Below.heap_alloc W2 (.cells #[tq ⟨#[]⟩,sc none 0 0] 45) w.heap.size (by omega)).trans ((hb2.block w.heap.size (by omega)).trans t0);have t1':=(Below.heap_alloc W2 (.cells #[tq ⟨#[]⟩,sc none 0 0] 45) (w.heap.size+1) (by omega)).trans ((hb2.block (w.heap.size+1) (by omega)).trans t1);obtain ⟨q0,q1⟩:=yD t0';obtain ⟨q2,q3⟩:=yD t1';have T0:=hid t0';have T1:=hid t1';clear t0 t1 t0' t1')
   have hbb:=((((HB.out.trans (hb2.mono HB.out.size)).alloc (Nat.le_trans HB.out.size hs2) (.cells #[tq ⟨#[]⟩,sc none 0 0] 45)).setCell (p:=(aa w.heap.size 0)) (Nat.le_refl _) (sc none 0 0)).setCell (p:=(aa (w.heap.size+1) 0)) (by show _<=w.heap.size+1;omega) (ii 4));have hkf:KeepsFrom w3.heap.size W (W2.alloc (.cells #[tq ⟨#[]⟩,sc none 0 0] 45)):=KeepsFrom.trans (wT hb2) ((KeepsOthers.alloc _ _).from _);exact ⟨(hkf.trans ((KeepsOthers.setCell _ _ _).from _)).trans ((KeepsOthers.setCell _ _ _).from _),rfl,HNO.out,Boxed.other (Boxed.set _ T0.out) (by omega) _,Boxed.set _ (Boxed.other T1.out (by omega) _),hbb,h6⟩
  | some o =>
   obtain ⟨n,t⟩:=o
   have HW:Hid (Calls Tryz.prog 114 #[tq x.1] W fun e w'=>∃p,e=.returned (.tuple #[.agg #[tq ⟨n.toArray⟩,sc p 1 1],ii 0])/\yV W.heap.size w' (sc p 1 1) [⟨t.toArray⟩]/\Below W.heap.size W w'):=hwp.mono (by
    rintro e w' ⟨h|⟨n',t',h,p,h1,h2⟩,hb'⟩
    ·rw [hwo] at h;cases h.1
    ·rw [hwo] at h;cases h;exact ⟨p,h1,h2,hb'⟩)
   have HNO:Hid (zV (zU (pre++[x]))=some (fs++[(⟨n.toArray⟩,[⟨t.toArray⟩])])):=by
    show _=_
    rw [HPL.out,vS,HF.out];simp [zV,hwo]
   clear hwp k0 k1 k2;have HN6:=hid hN6;clear hN6
   gi_wp2_with (first|(gi_at_builtin;refine wpListIn_append_own _ rfl _ _ 37 rfl (w3.heap.size+2) 45 i0 (.agg #[tq ⟨#[]⟩,sc none 0 0]) 2 40 Tryz.underlying37 hi hz0 hz1 hz2 rfl (by decide) _ _ _ rfl HX2.out.1 (aa (W2.heap.size+1) 0) 1 1 (yN [⟨⟨n.toArray⟩,p,1,[⟨t.toArray⟩]⟩]) rfl rfl HC.out (tS _) (by rw [HLN.out];unfold maxLen;omega) (by rw [HLN.out];omega) (by simp;omega) ?_;intro v' w1 hown' hgrow _;obtain ⟨g',cap',rfl⟩:=ownsRow_succ hown';have hv1:=T2.out.kept hgrow (T2.out.not_row (by decide) HX2.out.1);have hc1:=hv1.cell;have hf1:=hv1.frozen;have HV1:=hid hv1;have HO:=hid hown';have HG:=hid hgrow;clear hv1 hown' hgrow)|(refine ⟨trivial,?_⟩;gi_at_call 114;refine (CallsIn.inRound l (callsIn_wide.2 HW.out)).mono ?_;rintro e W2 ⟨p,rfl,hot,hb2⟩;have HOT:=hid hot;clear hot;have hs2:=hb2.size;have t2:=HK2.out;have t2':=(Below.heap_alloc W2 (.cells #[tq ⟨n.toArray⟩,sc p 1 1] 45) (w.heap.size+2) (by omega)).trans ((hb2.block (w.heap.size+2) (by omega)).trans t2);obtain ⟨q0,q1⟩:=yD t2';have T2:Hid (Boxed ((W2.alloc (.cells #[tq ⟨n.toArray⟩,sc p 1 1] 45)).alloc (.cells #[tq ⟨n.toArray⟩,sc p 1 1] 45)) (w.heap.size+2) 37 v):=hid (Boxed.alloc t2' _);have HB2:Hid (Below W.heap.size W ((W2.alloc (.cells #[tq ⟨n.toArray⟩,sc p 1 1] 45)).alloc (.cells #[tq ⟨n.toArray⟩,sc p 1 1] 45))):=hid ((hb2.alloc hs2 _).alloc (by simp;omega) _);have HX2:=hid (HOX.out.on HB2.out);have HC:=hid (zBe (W2.alloc (.cells #[tq ⟨n.toArray⟩,sc p 1 1] 45)) ⟨⟨n.toArray⟩,p,1,[⟨t.toArray⟩]⟩);rw [World.size_alloc] at HC;clear t2 t2'))
   have hb12:Below (w3.heap.size+2) W w1:=(HB2.out.mono hz).trans ((Below.refl _ _).grown HG.out (by simp;omega) (fun k hk=>(World.ownsRow.lt HX2.out.1 k hk).1));have hsz1:=hb12.size;have hot2:yV (w3.heap.size+2) ((W2.alloc (.cells #[tq ⟨n.toArray⟩,sc p 1 1] 45)).alloc (.cells #[tq ⟨n.toArray⟩,sc p 1 1] 45)) (sc p 1 1) [⟨t.toArray⟩]:=own_weak (yV.on HOT.out (((Below.refl _ W2).alloc (Nat.le_refl _) _).alloc (by simp) _)) hz;have hox1:=(HX2.out.put (x:=⟨⟨n.toArray⟩,p,1,[⟨t.toArray⟩]⟩) hot2 HO.out HG.out).far (zZ w1 (w.heap.size+2) 0 (sc (some (aa g' 0)) (d.length+1) cap')) (by omega);have hkf:KeepsFrom w3.heap.size W w1:=(wT HB2.out).trans ((KeepsOthers.of_grownBy HG.out (fun j o ej hj=>fA HX2.out.1 ej hj)).from _);refine ⟨hkf.trans ((KeepsOthers.setCell _ _ _).from _),⟨(Below.heap_setCell w1 _ _ _ (by show _≠w.heap.size+1+1;omega)).trans (hb12.block _ (by omega)),(Below.heap_setCell w1 _ _ _ (by show _≠w.heap.size+1+1;omega)).trans (hb12.block _ (by omega)),(Below.heap_setCell w1 _ _ _ (by show _≠w.heap.size+1+1;omega)).trans (hb12.block _ (by omega))⟩,?_⟩
   exact ⟨_,d++[⟨⟨n.toArray⟩,p,1,[⟨t.toArray⟩]⟩],_,Boxed.set _ HV1.out,hox1,HNO.out,by rw [List.map_append,HM.out];rfl,by rw [List.length_append,List.length_append,HLN.out];rfl,
    Boxed.other ((hb12.block _ (by omega)).trans HK0.out) (by omega) _,Boxed.other ((hb12.block _ (by omega)).trans HK1.out) (by omega) _,
    (HB.out.trans (hb12.mono (by omega))).setCell (p:=(aa (w.heap.size+1+1) 0)) (by show _<=w.heap.size+1+1;omega) _,by simp [World.setCell];omega,h6⟩
 case done =>
  rintro xs W hS ⟨v,d,fs,k2,hox,hf,hm,hl,k0,k1,hb,hz,h6⟩ hK;have hfs:zV (zG s.data.toList)=some fs:=by rw [<-hS];exact hf
  have hln:d.length=(zG s.data.toList).length:=by rw [hl];have:=congrArg List.length hS;simpa [zU] using this
  obtain ⟨f1,f2,f3⟩:=zAW (B:=s.size) (zU xs) (fun l hl=>by
   obtain ⟨x,_,rfl⟩:=List.mem_map.1 hl
   simpa using x.2) fs hf
  rw [hS] at f1 f2
  have hfit:sD d:=⟨by unfold maxLen;omega,fun x hx=>by
   have:=f3 x.fld (by rw [<-hm];exact List.mem_map.2 ⟨x,hx,rfl⟩);refine ⟨?_,?_,fun t ht=>?_⟩
   ·unfold maxLen;omega
   ·rw [this.2.1];unfold maxLen;omega
   ·have:=this.2.2 t ht;unfold maxLen;omega⟩
  have hnm:=zL7 v d W hox.is hfit (by omega) (by rw [hm,f2];omega)
  have HNM:Hid (Calls Tryz.prog 115 #[v] W fun e w'=>∃p n c k,e=.returned (.tuple #[sc p n c,ii k])/\sQ W.heap.size d (.returned (.tuple #[sc p n c,ii k])) w'/\Below W.heap.size W w'):=hnm.mono (by
   intro e w' h;obtain ⟨p,n,c,k,rfl⟩:=h.ans.shape;exact ⟨p,n,c,k,rfl,h.ans,h.2⟩)
  obtain ⟨c2,_⟩:=yD k2;have HK0:=hid k0;have HK1:=hid k1;have HB:=hid hb;have HK:=hid hK;have HN6:=hid hN6;clear hnm hfit hox hf k0 k1 k2 hK hN6 hb
  gi_wp2_with (refine ⟨trivial,?_⟩;gi_at_call 115;refine (callsIn_wide.2 HNM.out).mono ?_;rintro e W2 ⟨p,n,c,k,rfl,hans,hb2⟩;obtain ⟨q0,q1⟩:=yD ((hb2.block w.heap.size (by omega)).trans HK0.out);obtain ⟨q2,q3⟩:=yD ((hb2.block (w.heap.size+1) (by omega)).trans HK1.out))
  have u0:Boxed W2 w.heap.size 37 (sc none 0 0):=(hb2.block w.heap.size (by omega)).trans HK0.out;have u1:Boxed W2 (w.heap.size+1) 26 (ii 0):=(hb2.block (w.heap.size+1) (by omega)).trans HK1.out;obtain ⟨W4,hW4⟩:∃W4,(W2.setCell (aa w.heap.size 0) (sc p n c)).setCell (aa (w.heap.size+1) 0) (ii k)=W4:=⟨_,rfl⟩;have y0:Boxed W4 w.heap.size 37 (sc p n c):=by rw [<-hW4];exact Boxed.other (Boxed.set _ u0) (by omega) _
  have y1:Boxed W4 (w.heap.size+1) 26 (ii k):=by rw [<-hW4];exact Boxed.set _ (Boxed.other u1 (by omega) _)
  have hKD:W4.heap[w3.heap.size]? = some (.deferred (some [])):=by
   rw [<-hW4];exact (Below.heap_setCell _ _ _ _ (by show _≠w.heap.size+1;omega)).trans ((Below.heap_setCell _ _ _ _ (by show _≠w.heap.size;omega)).trans ((hb2.block _ (by omega)).trans HK.out))
  have hb4:Below w.heap.size w W4:=by
   rw [<-hW4];exact ((HB.out.trans (hb2.mono HB.out.size)).setCell (p:=(aa w.heap.size 0)) (Nat.le_refl _) _).setCell (p:=(aa (w.heap.size+1) 0)) (by show _<=w.heap.size+1;omega) _
  have ha4:sQ W.heap.size d (.returned (.tuple #[sc p n c,ii k])) W4:=by
   rw [<-hW4];exact hans.map fun u o ho=>(ho.far (zZ W2 w.heap.size 0 _) (by omega)).far (zZ _ (w.heap.size+1) 0 _) (by omega)
  rw [hW4];have hsz4:=hb4.size;have hg5:W4.grownBy (W4.putObj w3.heap.size (.deferred none)) (some w3.heap.size):=grownBy_putObj' W4 _ _;have z0:Boxed (W4.putObj w3.heap.size (.deferred none)) w.heap.size 37 (sc p n c):=(World.putObj_heap_other (by omega)).trans y0;have z1:Boxed (W4.putObj w3.heap.size (.deferred none)) (w.heap.size+1) 26 (ii k):=(World.putObj_heap_other (by omega)).trans y1;have z0c:=z0.cell;have z1c:=z1.cell;refine ⟨by simp,.inl ⟨_,_,rfl,run_takeDeferred hKD,?_⟩⟩;exact ⟨.tuple #[sc p n c,ii k],by simp [results,Tryz.results72,go_sem,z0c,z1c],⟨Or.inr (Or.inr ⟨h0,fs,d,hfs,hm,ha4.map fun u o ho=>(ho.far hg5 (by omega)).weak (by omega)⟩),hb4.grown hg5 (by omega) (fun k e=>by cases e;omega)⟩⟩
 case stop =>
  rintro c pre W hSp ⟨rfl,hf,k0,k1,hb,h6⟩ hK;have HN6:=hid hN6;clear hN6
  gi_wp2
  have hg5:W.grownBy (W.putObj w3.heap.size (.deferred none)) (some w3.heap.size):=grownBy_putObj' W _ _;have z0:Boxed (W.putObj w3.heap.size (.deferred none)) w.heap.size 37 (sc none 0 0):=(World.putObj_heap_other (by omega)).trans k0;have z1:Boxed (W.putObj w3.heap.size (.deferred none)) (w.heap.size+1) 26 (ii 4):=(World.putObj_heap_other (by omega)).trans k1;have z0c:=z0.cell;have z1c:=z1.cell
  have hno:zV (zG s.data.toList)=none:=by
   obtain ⟨r,hr⟩:=hSp;rw [<-hr,vS,hf];rfl
  refine ⟨by simp,.inl ⟨_,_,rfl,run_takeDeferred hK,?_⟩⟩;exact ⟨.tuple #[sc none 0 0,ii 4],by simp [results,Tryz.results72,go_sem,z0c,z1c],⟨Or.inr (Or.inl ⟨h0,hno,rfl⟩),hb.grown hg5 hb.size (fun k e=>by cases e;omega)⟩⟩
theorem zIe (s:ByteArray) (w:World) (hp:zY w) (hs:s.size<=3000000000000) :
  Calls Tryz.prog 72 #[.string s] w fun e w'=>cV w s.data.toList e w':=by
 by_cases h0:s.L=[]
 ·have e:s=⟨#[]⟩:=by
   obtain ⟨⟨l⟩⟩:=s
   cases h0;rfl
  subst e;exact zE0 w
 ·exact zFl s w hp h0 hs
end
section
open Go.RowKit Go.Lib
def ltB (a b:ByteArray):Bool:=decide (Lib.compareBytes a.data.toList b.data.toList<0)
theorem nN {a b:ByteArray} (h:a.data.toList=b.data.toList):a=b:=by
 obtain ⟨⟨a⟩⟩:=a;obtain ⟨⟨b⟩⟩:=b
 cases h;rfl
theorem zFu {a b:ByteArray} (h:ltB a b=false) (k:ltB b a=false):a=b:=by
 unfold ltB at *;rw [decide_eq_false_iff_not] at *;refine nN ((zAe _ _).1 ?_);have:=zD0 a.data.toList b.data.toList;omega
theorem vP (a:ByteArray):ltB a a=false:=by
 unfold ltB;rw [zAr];rfl
theorem pU {a b:ByteArray} (h:ltB a b=true):ltB b a=false:=by
 unfold ltB at *;rw [decide_eq_true_iff] at h;rw [decide_eq_false_iff_not];have:=zD0 a.data.toList b.data.toList;omega
theorem qG {a b c:ByteArray} (h:ltB a b=true) (k:ltB b c=true):ltB a c=true:=by
 unfold ltB at *;rw [decide_eq_true_iff] at *;exact gG _ _ _ h k
theorem qI (a b:ByteArray):ltB a b=true∨a=b∨ltB b a=true:=by
 cases h:ltB a b with
 | true=>exact Or.inl rfl
 | false =>
  cases k:ltB b a with
  | true=>exact Or.inr (Or.inr rfl)
  | false=>exact Or.inr (Or.inl (zFu h k))
theorem zF0 {a b:ByteArray} {c:Bool} (h:ltB a b=c):Op.bytesLess a.toList b.toList=c:=by
 rw [<-h];unfold ltB;rw [Lib.toList_data,Lib.toList_data,zIU]
theorem wI {a b:ByteArray} (h:a≠b):(a.toList==b.toList)=false:=by
 rw [Lib.toList_data,Lib.toList_data,beq_eq_false_iff_ne];exact fun e=>h (nN e)
theorem kT {a b:ByteArray} (h:a=b):(a.toList==b.toList)=true:=by rw [h];simp
theorem fB {a:ByteArray} (h:a.size=0):a.toList.isEmpty=true:=by
 rw [Lib.toList_data];have:a.data.toList=[]:=List.length_eq_zero_iff.1 (by simpa using h);rw [this];rfl
theorem mZ {a:ByteArray} (h:a.size≠0):a.toList.isEmpty=false:=by
 rw [Lib.toList_data]
 cases e:a.data.toList with
 | nil=>exact absurd (by simpa using congrArg List.length e) h
 | cons _ _=>rfl
end
section
open Go.RowKit Go.Sort Go.Lib
def sL (l:List Fld):Prop:=l.Pairwise fun x y=>ltB y.1 x.1=false
theorem jR:∀(a b:List Fld),sL a->sL b->(∀c,a.filter (fun x=>decide (x.1=c))=b.filter fun x=>decide (x.1=c))->a=b
 | [],[],_,_,_=>rfl
 | [],y::b,_,_,h=>by have:=h y.1;simp at this
 | x::a,[],_,_,h=>by have:=h x.1;simp at this
 | x::a,y::b,ha,hb,h=>by
  have ha':=List.pairwise_cons.1 ha;have hb':=List.pairwise_cons.1 hb
  have hn:x.1=y.1:=by
   have hx:x∈(y::b).filter (fun z=>decide (z.1=x.1)):=by rw [<-h];simp
   have hy:y∈(x::a).filter (fun z=>decide (z.1=y.1)):=by rw [h];simp
   rw [List.mem_filter] at hx hy
   have h1:ltB x.1 y.1=false:=by
    rcases List.mem_cons.1 hx.1 with e|e
    ·rw [e];exact vP _
    ·exact hb'.1 x e
   have h2:ltB y.1 x.1=false:=by
    rcases List.mem_cons.1 hy.1 with e|e
    ·rw [e];exact vP _
    ·exact ha'.1 y e
   exact zFu h1 h2
  have hxy:x=y:=by
   have:=h x.1;rw [List.filter_cons_of_pos (by simp),List.filter_cons_of_pos (by simp [hn])] at this;exact (List.cons.inj this).1
  subst hxy
  congr 1
  refine jR a b ha'.2 hb'.2 fun c=>?_
  have:=h c
  by_cases e:x.1=c
  ·rw [List.filter_cons_of_pos (by simp [e]),List.filter_cons_of_pos (by simp [e])] at this;exact (List.cons.inj this).2
  ·rwa [List.filter_cons_of_neg (by simp [e]),List.filter_cons_of_neg (by simp [e])] at this
def bU (f:Fld):List Fld->List Fld
 | []=>[f]
 | g::l=>if ltB f.1 g.1 then f::g::l else g::bU f l
def zBH (l:List Fld):List Fld:=l.foldl (fun acc f=>bU f acc) []
theorem zLY (f x:Fld) (l:List Fld):x∈bU f l↔x=f∨x∈l:=by
 induction l with
 | nil=>simp [bU]
 | cons g l ih =>
  unfold bU
  split
  ·simp
  ·simp [ih,or_left_comm]
theorem zHP (f:Fld) (l:List Fld) (h:sL l):sL (bU f l):=by
 induction l with
 | nil=>simp [bU,sL]
 | cons g l ih =>
  have h':=List.pairwise_cons.1 h;unfold bU
  split
  ·rename_i hlt
   refine List.pairwise_cons.2 ⟨fun x hx=>?_,h⟩
   rcases List.mem_cons.1 hx with rfl|hx
   ·exact pU hlt
   ·have h1:=h'.1 x hx;refine pU ?_
    rcases qI g.1 x.1 with h2|h2|h2
    ·exact qG hlt h2
    ·rw [<-h2];exact hlt
    ·rw [h1] at h2;cases h2
  ·rename_i hlt
   refine List.pairwise_cons.2 ⟨fun x hx=>?_,ih h'.2⟩
   rcases (zLY f x l).1 hx with rfl|hx
   ·simpa using hlt
   ·exact h'.1 x hx
theorem zFn (f:Fld) (l:List Fld) (h:sL l) (c:ByteArray):(bU f l).filter (fun x=>decide (x.1=c))=(l++[f]).filter fun x=>decide (x.1=c):=by
 induction l with
 | nil=>rfl
 | cons g l ih =>
  have h':=List.pairwise_cons.1 h;unfold bU
  split
  ·rename_i hlt
   by_cases e:f.1=c
   ·have hno:(g::l).filter (fun x=>decide (x.1=c))=[]:=by
     rw [List.filter_eq_nil_iff];intro x hx hxc;have hxc:x.1=c:=by simpa using hxc
     have hlx:ltB f.1 x.1=true:=by
      rcases List.mem_cons.1 hx with rfl|hx
      ·exact hlt
      ·have h1:=h'.1 x hx
       rcases qI g.1 x.1 with h2|h2|h2
       ·exact qG hlt h2
       ·rw [<-h2];exact hlt
       ·rw [h1] at h2;cases h2
     rw [hxc,<-e,vP] at hlx
     cases hlx
    rw [List.filter_append,hno,List.filter_cons_of_pos (by simp [e]),hno,List.filter_cons_of_pos (by simp [e])];rfl
   ·rw [List.filter_cons_of_neg (by simp [e]),List.filter_append,List.filter_cons_of_neg (p:=fun x=>decide (x.1=c)) (a:=f) (by simp [e])];simp
  ·rw [List.cons_append,List.filter_cons,List.filter_cons,ih h'.2]
theorem zBn (l:List Fld):sL (zBH l)/\∀c,(zBH l).filter (fun x=>decide (x.1=c))=l.filter fun x=>decide (x.1=c):=by
 have:∀(l acc:List Fld),sL acc->sL (l.foldl (fun acc f=>bU f acc) acc)/\∀c,(l.foldl (fun acc f=>bU f acc) acc).filter (fun x=>decide (x.1=c))=(acc++l).filter fun x=>decide (x.1=c):=by
  intro l
  induction l with
  | nil=>intro acc h;exact ⟨h,fun c=>by simp⟩
  | cons f l ih =>
   intro acc h;obtain ⟨h1,h2⟩:=ih (bU f acc) (zHP f acc h);refine ⟨h1,fun c=>?_⟩;rw [List.foldl_cons,h2 c,List.filter_append,zFn f acc h c,<-List.filter_append];simp
 have h:=this l [] List.Pairwise.nil;exact ⟨h.1,fun c=>by simpa [zBH] using h.2 c⟩
theorem zFA {d ds:List Fx} (h:bM d ds):ds.map Fx.fld=zBH (d.map Fx.fld):=by
 obtain ⟨h1,h2⟩:=zBn (d.map Fx.fld);refine jR _ _ ?_ h1 fun c=>?_
 ·refine List.Pairwise.map _ (fun x y hxy=>?_) h.2.1;exact hxy
 ·rw [h2 c,List.filter_map,List.filter_map];exact congrArg (List.map Fx.fld) (h.2.2 c)
def vH (fs:List Fld):List Fld:=wN (zBH fs)
theorem sQ.plain {N : Nat} {d : List Fx} {e : Ending} {w' : World} (h : sQ N d e w') :
    ((d.map Fx.fld).any nQ = true /\ e = .returned (.tuple #[.slice none 0 0, .int .i64 2])) ∨
    ((d.map Fx.fld).any nQ = false /\
     (((vH (d.map Fx.fld)).any wZ = true /\ e = .returned (.tuple #[.slice none 0 0, .int .i64 3])) ∨
      ((vH (d.map Fx.fld)).any wZ = false /\ xU (vH (d.map Fx.fld)) = false /\ e = .returned (.tuple #[.slice none 0 0, .int .i64 5])) ∨
      ((vH (d.map Fx.fld)).any wZ = false /\ xU (vH (d.map Fx.fld)) = true /\ ∃ u o, e = .returned (.tuple #[u, .int .i64 0]) /\ uW N w' u o /\ o.map Fx.fld = vH (d.map Fx.fld)))) := by
  rcases h with h | ⟨h1, ds, h2, h3⟩
  · exact Or.inl h
  · have e := zFA h2
    rw [e] at h3;exact Or.inr ⟨h1, h3⟩
end
section
open Go.RowKit
def bW (n0:Nat) (w:World) (v:Value) (bs:List UInt8):Prop:=w.ownsRow n0 5 1 v bs.length (Lib.byteCells bs)
end
section
open Go.RowKit
theorem vY {l:List UInt8} (h:yU l=true):l.length<=32:=by
 unfold yU xD at h
 cases l with
 | nil=>simp
 | cons c r=>simp at h;simp;omega
theorem xO {f:Fld} (h:tG f=true):f.1.size<=32/\0<f.2.length/\f.2.length<=8/\(∀t∈f.2,t.size<=128)/\yU f.1.data.toList=true:=by
 unfold tG at h;simp only [Bool.and_eq_true,Bool.not_eq_true',decide_eq_true_eq] at h;obtain ⟨⟨⟨h1,h2⟩,h3⟩,h4⟩:=h;refine ⟨by simpa using vY h1,?_,h3,fun t ht=>?_,h1⟩
 ·cases hf:f.2 with
  | nil=>rw [hf] at h2;simp at h2
  | cons _ _=>simp
 ·rw [List.any_eq_false] at h4;have:=h4 t ht;unfold kF at this
  simpa using this
theorem qC {fs:List Fld} (h:xU fs=true):fs.length<=16/\∀i,i<fs.length->wW fs i=true:=by
 unfold xU at h;rw [Bool.and_eq_true,decide_eq_true_eq,List.all_eq_true] at h;exact ⟨h.1,fun i hi=>h.2 i (List.mem_range.2 hi)⟩
theorem wE {fs:List Fld} (h:xU fs=true):∀f∈fs,tG f=true:=by
 intro f hf;obtain ⟨i,hi,rfl⟩:=List.mem_iff_getElem.1 hf;have:=(qC h).2 i hi;unfold wW at this;rw [Bool.and_eq_true,List.getD_eq_getElem?_getD,List.getElem?_eq_getElem hi] at this;exact this.1
end
section
open Go.RowKit
theorem zOW {l:List Value} {a:Value} {n:Nat} (h:l.length+3<=n):(l++[a]).length+1<=n:=by rw [List.length_append];simp;omega
theorem zOM {l:List Value} {a b:Value} {n:Nat} (h:l.length+3<=n):(l++[a]++[b]).length+1<=n:=by rw [List.length_append,List.length_append];simp;omega
theorem bD (s:ByteArray) (w:World) (hp:zY w) (hs:s.size<=46912496118442) :
  Calls Tryz.prog 130 #[.string s] w fun e w'=>e=.returned (.string ⟨(zI s.data.toList).toArray⟩)/\Below w.heap.size w w':=by
 have HP:=hid hp;clear hp;go_enter Tryz.func130,Tryz.ntmps130;go_wp2_with fail
 go_loopg [4] s.size (fun g vi wr=>∃i:Nat,vi=ii i/\i<=s.size/\s.size-i<=g/\Below w.heap.size w wr/\Lib.IsBuilder 91 5 w.heap.size w.heap.size (Lib.byteCells (zI (s.data.toList.take i))) wr)
 case atStart=>exact ⟨0,rfl,by omega,by omega,(Below.refl _ _).alloc (Nat.le_refl _) _,Lib.fresh_isBuilder _ _ _⟩
 case round =>
  obtain ⟨i,rfl,hi,hg,hb,hbu⟩:=hrel;have HB:=hid hbu;clear hbu
  by_cases hlt:i<s.size
  ·have hltz:(i:Int)<(s.size:Int):=by omega
   obtain ⟨c,hc⟩:∃c,s[i]=c:=⟨_,rfl⟩;have HPr:zY wr:=HP.out.on hb
   have hsz:(Lib.byteCells (zI (s.data.toList.take i))).length+3<=140737488355328:=by
    rw [Lib.byteCells_length];have:=wX (s.data.toList.take i);rw [List.length_take] at this;omega
   have HS:=hid hsz;clear hsz;have HW:=hid (zBY s i hlt);rw [hc] at HW;have HC:=hid hc;clear hc
   cases hpl:xA (c.toNat:Int) with
   | true =>
    have HE:Hid (vU c=[c]):=by show vU c=[c];unfold vU;rw [if_pos hpl]
    go_wp2_with (first|(go_at_call 170;rw [HC.out];refine (wL _ _ HPr).mono ?_;rintro e w1 ⟨rfl,hb1⟩)|(go_at_call 171;refine (mS w.heap.size w.heap.size _ _ _ (zGk HB.out hb1) (Nat.le_trans (Nat.add_le_add_left (by decide) _) HS.out) (Nat.le_trans hb.size hb1.size)).mono ?_;rintro e w2 ⟨rfl,hbu2,hb2⟩))
    go_roundg (s.size-(i+1))
    case measure=>omega
    refine ⟨i+1,by go_num,by omega,by omega,(hb.trans (hb1.mono hb.size)).trans hb2,?_⟩;rw [HW.out,HE.out]
    simpa [Lib.byteCells,HC.out] using hbu2
   | false =>
    have HE:Hid (vU c=[37,sE (c.toNat / 16),sE (c.toNat % 16)]):=by show vU c=_;unfold vU;rw [if_neg (by rw [hpl];simp)]
    have hc1:(0:Int)<=↑c.toNat / 16/\(↑c.toNat:Int) / 16<16:=by have:=c.toNat_lt;omega
    have hc2:(0:Int)<=↑c.toNat % 16/\(↑c.toNat:Int) % 16<16:=by omega
    go_wp2_with (first|(go_at_call 170;rw [HC.out];refine (wL _ _ HPr).mono ?_;rintro e w1 ⟨rfl,hb1⟩)|(go_at_call 171;refine (mS w.heap.size w.heap.size _ _ _ (zGk HB.out hb1) (Nat.le_trans (Nat.add_le_add_left (by decide) _) HS.out) (Nat.le_trans hb.size hb1.size)).mono ?_;rintro e w2 ⟨rfl,hbu2,hb2⟩))
    go_wp2_with (go_at_call 171;refine (mS w.heap.size w.heap.size _ _ _ hbu2 (zOW HS.out) (Nat.le_trans hb.size (Nat.le_trans hb1.size hb2.size))).mono ?_;rintro e w3 ⟨rfl,hbu3,hb3⟩)
    go_wp2_with (go_at_call 171;refine (mS w.heap.size w.heap.size _ _ _ hbu3 (zOM HS.out) (Nat.le_trans hb.size (Nat.le_trans hb1.size (Nat.le_trans hb2.size hb3.size)))).mono ?_;rintro e w4 ⟨rfl,hbu4,hb4⟩)
    go_roundg (s.size-(i+1))
    case measure=>omega
    refine ⟨i+1,by go_num,by omega,by omega,(((hb.trans (hb1.mono hb.size)).trans hb2).trans hb3).trans hb4,?_⟩;rw [HW.out,HE.out];rw [zEX,zEX] at hbu4
    simpa [Lib.byteCells] using hbu4
  ·have hltz:¬ (i:Int)<(s.size:Int):=by omega
   have he:s.data.toList.take i=s.data.toList:=List.take_of_length_le (by simp;omega);have HB2:=HB.out;rw [he] at HB2;have HB3:=hid HB2;clear HB2 he;go_wp2_with (go_at_call 49;refine (Tryz.Builder_String_any _ _ _ _ HB3.out hb.size).mono ?_;rintro e w1 ⟨rfl,hb1⟩);go_ret;exact ⟨rfl,hb.trans hb1⟩
end
section
open Go.RowKit
def xE (n t:ByteArray):ByteArray:=n++⟨#[61]⟩++⟨(zI t.data.toList).toArray⟩
def gA (f:Fld):List ByteArray:=f.2.map (xE f.1)
def yM (fs:List Fld):List ByteArray:=fs.flatMap gA
def mG (fs:List Fld):ByteArray:=⟨(Lib.join ((yM fs).map (·.data.toList)) [32]).toArray⟩
theorem kD {fs:List Fld} (h:∀f∈fs,tG f=true) (hl:fs.length<=16):(yM fs).length<=128:=by
 have:∀l:List Fld,(∀f∈l,tG f=true)->(yM l).length<=l.length * 8:=by
  intro l
  induction l with
  | nil=>intro _;simp [yM]
  | cons f l ih =>
   intro hf;have h1:=ih fun g hg=>hf g (by simp [hg])
   have h2:=(xO (hf f (by simp))).2.2.1;have e:yM (f::l)=gA f++yM l:=rfl;rw [e,List.length_append,List.length_cons,Nat.add_mul];have e2:(gA f).length=f.2.length:=by simp [gA]
   omega
 have:=this fs h;omega
theorem cP {f:Fld} {t:ByteArray} (h:tG f=true) (ht:t∈f.2):(xE f.1 t).size<=417:=by
 obtain ⟨h1,_,_,h4,_⟩:=xO h;have h5:=h4 t ht;have h6:=wX t.L;have e:t.L.length=t.size:=by simp
 have e2:(xE f.1 t).size=f.1.size+1+(zI t.L).length:=by
  unfold xE;rw [ByteArray.size_append,ByteArray.size_append];rfl
 omega
theorem zJX {fs:List Fld} (h:∀f∈fs,tG f=true):∀x∈yM fs,x.size<=417:=by
 intro x hx;obtain ⟨f,hf,hx⟩:=List.mem_flatMap.1 hx;obtain ⟨t,ht,rfl⟩:=List.mem_map.1 hx;exact cP (h f hf) ht
theorem jD (l m:List UInt8) (ls:List (List UInt8)):Lib.join (l::m::ls) [32]=l++32::Lib.join (m::ls) [32]:=by simp [Lib.join,List.intercalate]
theorem zFt (ls:List (List UInt8)) (c:Nat) (h:∀l∈ls,l.length<=c):(Lib.join ls [32]).length<=ls.length * (c+1):=by
 induction ls with
 | nil=>simp [Lib.join]
 | cons l ls ih =>
  have h1:=h l (by simp);have h2:=ih fun m hm=>h m (by simp [hm])
  cases ls with
  | nil=>simp [Lib.join];omega
  | cons m ls =>
   rw [jD,List.length_append,List.length_cons,List.length_cons,Nat.add_mul];omega
theorem zF1 (ws:List ByteArray) (p:Option Addr) (cap:Nat) (w:World) {n0:Nat} (h:yV n0 w (.slice p ws.length cap) ws) (hn:ws.length<=128) (hs:∀x∈ws,x.size<=417) :
  Calls Tryz.prog 26 #[.slice p ws.length cap,.string ⟨#[32]⟩] w fun e w'=>e=.returned (.string ⟨(Lib.join (ws.map (·.data.toList)) [32]).toArray⟩)/\Below w.heap.size w w':=by
 rcases h.2 with ⟨_,h0⟩|⟨g,c,cur,hv,_,hg,hcap,_,hsz,htk⟩
 ·obtain rfl:=List.length_eq_zero_iff.1 h0;refine (Tryz.strings_Join_none p cap _ w).mono ?_;rintro e w' ⟨rfl,rfl⟩;exact ⟨rfl,Below.refl _ _⟩
 ·injection hv with hp hl hc
  subst hp;subst hc;refine (Tryz.strings_Join g 0 cap ws ⟨#[32]⟩ w (fun j x hj=>?_) (Array.getElem?_eq_some_iff.1 hg).1 (by omega) (by omega) ?_).mono ?_
  ·have hjl:=(List.getElem?_eq_some_iff.1 hj).1;rw [Nat.zero_add,cell_of_row w g j cur _ _ hg,<-Array.getElem?_toList];have:(ws.map Value.string)[j]? = cur.toList[j]?:=by rw [<-htk,List.getElem?_take,if_pos (by omega)]
   rw [<-this,List.getElem?_map,hj];rfl
  ·have h1:=zFt (ws.map (·.data.toList)) 417 (fun l hl=>by
    obtain ⟨x,hx,rfl⟩:=List.mem_map.1 hl;have:=hs x hx
    simpa using this)
   rw [List.length_map] at h1;have h2:ws.length * 418<=128 * 418:=Nat.mul_le_mul_right _ hn;show (Lib.join (ws.map (·.data.toList)) [32]).length<=_;omega
  ·rintro e w' ⟨rfl,hb⟩;exact ⟨rfl,hb⟩
theorem zJi (v:Value) (d:List Fx) (w:World) (hp:zY w) (hv:qZ w v d) (hf:sD d) (hm:xU (d.map Fx.fld)=true) :
  Calls Tryz.prog 89 #[v] w fun e w'=>e=.returned (.tuple #[.string (mG (d.map Fx.fld)),.int .i64 0])/\Below w.heap.size w w':=by
 have HM:=hid (zAf v d w hv hf);rw [hm] at HM;have HP:=hid hp;obtain ⟨i0,hi,hz0,hz1,hz2⟩:=info_parts Tryz.infoStr;have HI:=hid hi;obtain ⟨p,cap,rfl,hd,ht⟩:=hv;have HT:=hid ht;have hl:=hf.1;unfold maxLen at hl;have HD:=hid hd;have HMM:=hid hm;clear ht hf hd hm hi hp;go_enter Tryz.func89,Tryz.ntmps89;go_wp2_with (first|(go_at_call 98;refine HM.out.mono ?_;rintro e w1 ⟨rfl,hg⟩))
 go_loopg [4,14] d.length (fun g vb vi wr=>∃i:Nat,vi=ii i/\i<=d.length/\d.length-i<=g/\Below w.heap.size w wr/\yV w.heap.size wr vb (yM ((d.map Fx.fld).take i)))
 case atStart=>exact ⟨0,rfl,by omega,by omega,hg.below,World.ownsRow_nil _ _ _ _⟩
 case round =>
  obtain ⟨i,rfl,hi,hgk,hb,hob⟩:=hrel
  by_cases hlt:i<d.length
  ·have hltz:(i:Int)<(d.length:Int):=by omega
   have hiz:(0:Int)<=i:=by omega
   obtain ⟨b,off,rfl,hxs⟩:∃b off,p=some (aa b off)/\kL w b off d:=by
    rcases HD.out with h|h
    ·subst h;simp at hlt
    ·exact h
   obtain ⟨c0,c1⟩:=hxs.kept hb i hlt;have hxi:(d[i]).at w:=HT.out _ (List.getElem_mem hlt);have hfi:tG (d[i]).fld=true:=wE HMM.out _ (List.mem_map.2 ⟨_,List.getElem_mem hlt,rfl⟩)
   have htk:yM ((d.map Fx.fld).take (i+1))=yM ((d.map Fx.fld).take i)++gA (d[i]).fld:=by
    unfold yM;rw [List.take_succ_eq_append_getElem (by rw [List.length_map];exact hlt),List.flatMap_append];simp
   obtain ⟨x,hx⟩:∃x,d[i]=x:=⟨_,rfl⟩;rw [hx] at c0 c1 hxi hfi htk
   obtain ⟨b2,off2,hp2,ht2⟩:∃b off,x.p=some (aa b off)/\∀i,(h:i<x.txt.length)->w.cell? (aa b (off+i))=some (tq x.txt[i]):=by
    rcases hxi with h|h
    ·have:=(xO hfi).2.1;simp only [Fx.fld] at this;rw [h] at this;simp at this
    ·exact h
   have hal:(yM ((d.map Fx.fld).take i)).length<=128:=kD (fun f hf=>wE HMM.out f (List.mem_of_mem_take hf)) (by rw [List.length_take];have:=(qC HMM.out).1;omega);obtain ⟨acc,hacc⟩:∃acc,yM ((d.map Fx.fld).take i)=acc:=⟨_,rfl⟩;rw [hacc] at hob htk hal;obtain ⟨hn32,_,hn8,_⟩:=xO hfi;have HT2:=hid ht2;have HFI:=hid hfi;have HTK:=hid htk;have HOB:=hid hob;have HB:=hid hb;have hsz:=hb.size;clear hxs hxi hx htk hacc hob hfi ht2;unfold Fx.sl at c1;rw [hp2] at c1;clear hp2;simp only [Fx.fld] at hn32 hn8;go_wp2_with fail;obtain ⟨F,hF⟩:∃F,wr.heap.size=F:=⟨_,rfl⟩;have hbox:(wr.alloc (.cells #[tq x.name,sc (some (aa b2 off2)) x.txt.length x.cap] 45)).heap[F]? = some (.cells #[tq x.name,sc (some (aa b2 off2)) x.txt.length x.cap] 45 (0,0)):=by rw [<-hF];exact heap_alloc_new wr _
   have hbb:Below w.heap.size w (wr.alloc (.cells #[tq x.name,sc (some (aa b2 off2)) x.txt.length x.cap] 45)):=HB.out.alloc hsz _;have hoo:yV w.heap.size (wr.alloc (.cells #[tq x.name,sc (some (aa b2 off2)) x.txt.length x.cap] 45)) u4 acc:=HOB.out.on ((Below.refl _ _).alloc (Nat.le_refl _) _);have hwF:w.heap.size<=F:=by omega
   rw [hF]
   go_loopg [4,21] x.txt.length (fun g vb vj wr2=>∃j:Nat,vj=ii j/\j<=x.txt.length/\x.txt.length-j<=g/\Below w.heap.size w wr2/\wr2.heap[F]? = some (.cells #[tq x.name,sc (some (aa b2 off2)) x.txt.length x.cap] 45 (0,0))/\yV w.heap.size wr2 vb (acc++(x.txt.take j).map (xE x.name)))
   case atStart=>exact ⟨0,rfl,by omega,by omega,hbb,hbox,by simpa using hoo⟩
   case round =>
    obtain ⟨j,rfl,hj,hgj,hbj,hbxj,hobj⟩:=hrel
    by_cases hlj:j<x.txt.length
    ·have hljz:(j:Int)<(x.txt.length:Int):=by omega
     have hjz:(0:Int)<=j:=by omega
     have t0:wr.cell? (aa b2 (off2+j))=some (tq x.txt[j]):=(hbj.cell (p:=(aa b2 (off2+j))) (zJ (HT2.out j hlj))).trans (HT2.out j hlj);have hts:x.txt[j].size<=128:=(xO HFI.out).2.2.2.1 _ (List.getElem_mem hlj)
     have hstep:(x.txt.take (j+1)).map (xE x.name)=(x.txt.take j).map (xE x.name)++[xE x.name x.txt[j]]:=by
      rw [List.take_succ_eq_append_getElem hlj,List.map_append];simp
     obtain ⟨t,hte⟩:∃t,x.txt[j]=t:=⟨_,rfl⟩;rw [hte] at t0 hts hstep;have q0:wr.cell? (aa F 0)=some (tq x.name):=cz hbxj;have hFl:F<wr.heap.size:=(Array.getElem?_eq_some_iff.1 hbxj).1;obtain ⟨ac2,hac2⟩:∃ac2,acc++(x.txt.take j).map (xE x.name)=ac2:=⟨_,rfl⟩;have hal2:ac2.length<=200:=by rw [<-hac2];simp;omega
     rw [hac2] at hobj;have HW:=hid (bD t wr.drew (HP.out.on hbj.drew) (by omega));have HST:=hid hstep;have HOJ:=hid hobj;have HBJ:=hid hbj;have HBX:=hid hbxj;have HAC2:=hid hac2;have hszj:=hbj.size;clear hte hstep hobj hbj hbxj hac2;have hwl2:=wX t.data.toList;have hwl3:t.data.toList.length=t.size:=by simp
     obtain ⟨wt,hwt⟩:∃wt:ByteArray,⟨(zI t.data.toList).toArray⟩=wt:=⟨_,rfl⟩;have hwts:wt.size<=384:=by rw [<-hwt];show (zI t.data.toList).toArray.size<=384;rw [List.size_toArray];omega
     rw [hwt] at HW;obtain ⟨nq,hnq⟩:∃nq:ByteArray,x.name++⟨#[61]⟩=nq:=⟨_,rfl⟩;have hnqs:nq.size<=33:=by rw [<-hnq,ByteArray.size_append];show x.name.size+1<=33;omega
     obtain ⟨wd,hwd⟩:∃wd:ByteArray,nq++wt=wd:=⟨_,rfl⟩;have HWD:Hid (xE x.name t=wd):=by show _=_;rw [<-hwd,<-hnq,<-hwt];rfl
     have hA:∀w,Sem.run Tryz.prog (Op.stringOp .add x.name ⟨#[61]⟩) w=.ok (tq nq) w:=fun w=>by rw [<-hnq];exact run_string_add_sum _ _ _ (by show x.name.size+1<=_;omega)
     have hB:∀w,Sem.run Tryz.prog (Op.stringOp .add nq wt) w=.ok (tq wd) w:=fun w=>by rw [<-hwd];exact run_string_add_sum _ _ _ (by omega)
     clear hwl2 hwl3 hwt hnq hwd hwts hnqs
     have KS:Hid (∀w':World,w'.heap[F]? = wr.heap[F]?->w'.cell? (aa F 0)=some (tq x.name)):=fun w' e=>by
      rw [Lib.cell_of_heap (e.trans HBX.out)];rfl
     have KA:Hid (∀w3 w4:World,w3.heap[F]? = wr.heap[F]?->yV w.heap.size w3 u4 ac2->w3.grownBy w4 u4.ownBlock->w4.heap[F]? = wr.heap[F]?):=fun w3 w4 e ho hg=>by
      refine (hg.block F (Array.getElem?_eq_some_iff.1 (e.trans HBX.out)).1 fun e'=>?_).trans e
      rcases ho.2 with ⟨hv,_⟩|⟨g,c,cur,hv,_,hgb,_⟩
      ·rw [hv] at e';cases e'
      ·rw [hv] at e';have:F=g:=by simpa [Value.ownBlock] using e'
       subst this;rw [e,HBX.out] at hgb;injection hgb with hgb
       injection hgb with _ hgb
       exact absurd hgb (by decide)
     go_wp2_with fail
     go_region_held3 (fun w'=>w'.cell? (aa F 0)=some (tq x.name))
      (first|exact q0|exact q2|exact q3|exact q4)
      (first|(go_at_call 130;refine HW.out.mono ?_;rintro o w2 ⟨rfl,hb2⟩;have e2:=hb2.block F hFl;have q2:=KS.out _ e2;have e3:=fun o=>(Below.heap_alloc w2 o F (Nat.lt_of_lt_of_le hFl hb2.size)).trans e2;have e3w:=e3 (.cells #[tq wd] 9);have q3:=KS.out _ e3w;have hbase3:w.heap.size<=(w2.alloc (.cells #[tq wd] 9)).heap.size:=(by have:=hb2.size;simp at this ⊢;omega);have hown3:yV w.heap.size (w2.alloc (.cells #[tq wd] 9)) u4 ac2:=(yV.on (w:=wr.drew) HOJ.out hb2).on ((Below.refl _ _).alloc (Nat.le_refl _) _))|(refine step_append_lies _ (by rfl) (.tmp 25) (.tmp 32) 43 (by rfl) w.heap.size 9 i0 (tq ⟨#[]⟩) 1 16 Tryz.underlying43 HI.out hz0 hz1 hz2 rfl (by decide) u4 ac2.length (ac2.map Value.string) (by rfl) (by assumption) _ 1 1 [tq wd] (by rfl) rfl (by intro j u hj;match j,hj with|0,hj=>simp at hj;subst hj;simp [Addr.add]) (by intro u hu;simp at hu;subst hu;rfl) (by decide) (by unfold maxLen;omega) (by omega) (by assumption) _ rfl ?_;intro g cap w4 hown4 hg4 hat4 hlt4;have e4:=KA.out _ _ (by assumption) (by assumption) hg4;have q4:=KS.out _ e4))
     have hbw:Below w.heap.size w w4:=(((HBJ.out.drew.trans (hb2.mono (by simpa using hszj))).alloc (by have:=hb2.size;simp at this ⊢;omega) _).grown hg4 hbase3 (fun k hk=>(World.ownsRow.lt hown3 k hk).1))
     have HF4:Hid (Below w.heap.size w w4/\w4.heap[F]? = some (.cells #[tq x.name,sc (some (aa b2 off2)) x.txt.length x.cap] 45 (0,0))/\yV w.heap.size w4 (sc (some (aa g 0)) (ac2.length+1) cap) (acc++(x.txt.take (j+1)).map (xE x.name))):=by
      refine ⟨hbw,e4.trans HBX.out,?_⟩;have e5:acc++(x.txt.take (j+1)).map (xE x.name)=ac2++[wd]:=by rw [HST.out,<-List.append_assoc,HAC2.out,HWD.out]
      rw [e5];unfold yV;rw [List.length_append,List.map_append];exact hown4
     clear hbw hown4 hg4 hown3 e4 e3w e3 e2 hb2 q4 q3 q2 hat4 hlt4;go_wp2_with fail;go_roundg (x.txt.length-(j+1))
     case measure=>omega
     exact ⟨j+1,by go_num,by omega,by omega,HF4.out⟩
    ·have hljz:¬ (j:Int)<(x.txt.length:Int):=by omega
     have htk2:x.txt.take j=x.txt:=List.take_of_length_le (by omega);rw [htk2] at hobj;have HOJ:=hid hobj;have HBJ:=hid hbj;clear hobj hbj htk2 hbxj;go_wp2_with fail;go_roundg (d.length-(i+1))
     case measure=>omega
     refine ⟨i+1,by go_num,by omega,by omega,HBJ.out,?_⟩;rw [HTK.out];exact HOJ.out
  ·have hltz:¬ (i:Int)<(d.length:Int):=by omega
   have htk2:(d.map Fx.fld).take i=d.map Fx.fld:=List.take_of_length_le (by rw [List.length_map];omega);rw [htk2] at hob;have hwn:(yM (d.map Fx.fld)).length<=128:=kD (wE HMM.out) (qC HMM.out).1;have hws:=zJX (wE HMM.out);have HLN:Hid (mG (d.map Fx.fld)=⟨(Lib.join ((yM (d.map Fx.fld)).map (·.data.toList)) [32]).toArray⟩):=rfl;obtain ⟨ws,hwe⟩:∃ws,yM (d.map Fx.fld)=ws:=⟨_,rfl⟩;rw [hwe] at hob hwn hws HLN;clear htk2 hwe
   obtain ⟨p4,cap4,rfl⟩:∃p cap,u4=sc p ws.length cap:=by
    rcases hob.2 with ⟨hv,h0⟩|⟨g,cap,cur,hv,_⟩
    ·exact ⟨none,0,by rw [hv,h0]⟩
    ·exact ⟨_,_,hv⟩
   have HJ:=hid (zF1 ws p4 cap4 wr hob hwn hws);clear hob hws hwn;go_wp2_with (first|(go_at_call 26;refine HJ.out.mono ?_;rintro e w2 ⟨rfl,hb2⟩))
   go_ret2
   rw [HLN.out];exact ⟨rfl,hb.trans (hb2.mono hb.size)⟩
end
section
open Go.RowKit Go.Sort Go.Lib
theorem zLc (a b:ByteArray):ltN a b=ltB a b:=by
 unfold ltN ltB;rw [Lib.toList_data,Lib.toList_data,zIU]
end
section
open Go.RowKit Go.Sort Go.Lib
theorem zMG {n0:Nat} {w:World} {u:Value} {d:List Fx} (h:vQ n0 w u d):∃p c,u=.slice p d.length c:=by
 rcases h.1.2 with ⟨rfl,h0⟩|⟨g,cap,cur,rfl,_⟩
 ·exact ⟨none,0,by rw [h0]⟩
 ·exact ⟨_,_,rfl⟩
theorem zLq {n0:Nat} {w:World} {g c:Nat} {l:List UInt8} (h:bW n0 w (.slice (some ⟨g,0,none⟩) l.length c) l):zHM w.heap.size w (.slice (some ⟨g,0,none⟩) l.length c) l:=by
 rcases h.2 with ⟨hv,_⟩|⟨g',cap,cur,hv,_,hg,hc,hcm,hsz,htk⟩
 ·cases hv
 ·cases hv;refine ⟨_,_,rfl,by omega,by omega,Or.inr ⟨g,0,rfl,(Array.getElem?_eq_some_iff.1 hg).1,fun i hi=>?_⟩⟩;rw [Nat.zero_add,cell_of_row w g i cur _ _ hg]
  have:(Lib.byteCells l)[i]? = cur.toList[i]?:=by
   rw [<-htk,List.getElem?_take,if_pos (by omega)]
  rw [<-Array.getElem?_toList,<-this];simp [Lib.byteCells,hi]
end
section
open Go.RowKit Go.Sort Go.Lib
def vC (fs:List Fld) (c:ByteArray):List ByteArray:=(fs.filter fun x=>decide (x.1=c)).flatMap (·.2)
def zAC (l:List Fld):Prop:=l.Pairwise fun x y=>ltB x.1 y.1=true
theorem pX (l:List Fld) (f:Fld) (c:ByteArray):vC (l++[f]) c=vC l c++if f.1=c then f.2 else []:=by
 unfold vC;rw [List.filter_append,List.flatMap_append]
 by_cases e:f.1=c
 ·rw [if_pos e,List.filter_cons_of_pos (by simp [e])];simp
 ·rw [if_neg e,List.filter_cons_of_neg (by simp [e])];simp
theorem zH0 {l:List Fld} {c:ByteArray} (h:∀f∈l,f.1≠c):vC l c=[]:=by
 unfold vC;rw [List.filter_eq_nil_iff.2 (fun x hx=>by simpa using h x hx)];rfl
structure pD (l o:List Fld):Prop where
 rising:zAC o
 names:∀c,(∃f∈o,f.1=c)↔∃f∈l,f.1=c
 texts:∀f∈o,f.2=vC l f.1
theorem kX {a b:ByteArray} (h:ltB a b=true):a≠b:=by
 rintro rfl;rw [vP] at h
 cases h
theorem pD.step {l o:List Fld} {f:Fld} (h:pD l o) (hf:∀x∈l,ltB f.1 x.1=false):pD (l++[f]) (wC o f):=by
 obtain ⟨h1,h2,h3⟩:=h
 have hfo:∀x∈o,ltB f.1 x.1=false:=fun x hx=>by
  obtain ⟨y,hy,e⟩:=(h2 x.1).1 ⟨x,hx,rfl⟩;rw [<-e];exact hf y hy
 rcases List.eq_nil_or_concat o with rfl|⟨o',g,rfl⟩
 ·have hl:l=[]:=by
   cases l with
   | nil=>rfl
   | cons y l =>
    obtain ⟨z,hz,_⟩:=(h2 y.1).2 ⟨y,by simp,rfl⟩;simp at hz
  subst hl;rw [pP];refine ⟨List.pairwise_singleton _ _,fun c=>by simp,fun x hx=>?_⟩;rw [List.mem_singleton] at hx;subst hx;simp [vC]
 ·rw [List.concat_eq_append] at *;have hr:=List.pairwise_append.1 h1;have ho':∀x∈o',ltB x.1 g.1=true:=fun x hx=>hr.2.2 x hx g (by simp)
  have hgf:=hfo g (by simp)
  by_cases e:g.1=f.1
  ·rw [tL _ _ _ e];refine ⟨?_,fun c=>?_,fun x hx=>?_⟩
   ·refine List.pairwise_append.2 ⟨hr.1,List.pairwise_singleton _ _,fun a ha b hb=>?_⟩;rw [List.mem_singleton] at hb;subst hb;exact ho' a ha
   ·have:=h2 c;constructor
    ·rintro ⟨x,hx,rfl⟩;rw [List.mem_append,List.mem_singleton] at hx
     rcases hx with hx|rfl
     ·obtain ⟨y,hy,ey⟩:=(h2 x.1).1 ⟨x,by simp [hx],rfl⟩;exact ⟨y,by simp [hy],ey⟩
     ·exact ⟨f,by simp,e.symm⟩
    ·rintro ⟨y,hy,rfl⟩;rw [List.mem_append,List.mem_singleton] at hy
     rcases hy with hy|rfl
     ·obtain ⟨x,hx,ex⟩:=this.2 ⟨y,hy,rfl⟩;rw [List.mem_append,List.mem_singleton] at hx
      rcases hx with hx|rfl
      ·exact ⟨x,by simp [hx],ex⟩
      ·exact ⟨_,List.mem_append_right _ (List.mem_singleton.2 rfl),ex⟩
     ·exact ⟨_,List.mem_append_right _ (List.mem_singleton.2 rfl),e⟩
   ·rw [List.mem_append,List.mem_singleton] at hx
    rcases hx with hx|rfl
    ·rw [pX,if_neg (fun k=>kX (ho' x hx) (k.symm.trans e.symm)),List.append_nil];exact h3 x (by simp [hx])
    ·show g.2++f.2=vC (l++[f]) g.1
     rw [pX,if_pos e.symm,<-h3 g (by simp)]
  ·rw [uZ _ _ _ e]
   have hgf':ltB g.1 f.1=true:=by
    rcases qI g.1 f.1 with k|k|k
    ·exact k
    ·exact absurd k e
    ·rw [hgf] at k;cases k
   have hlt:∀x∈o'++[g],ltB x.1 f.1=true:=fun x hx=>by
    rw [List.mem_append,List.mem_singleton] at hx
    rcases hx with hx|rfl
    ·exact qG (ho' x hx) hgf'
    ·exact hgf'
   refine ⟨?_,fun c=>?_,fun x hx=>?_⟩
   ·refine List.pairwise_append.2 ⟨h1,List.pairwise_singleton _ _,fun a ha b hb=>?_⟩;rw [List.mem_singleton] at hb;subst hb;exact hlt a ha
   ·constructor
    ·rintro ⟨x,hx,rfl⟩;rw [List.mem_append,List.mem_singleton] at hx
     rcases hx with hx|rfl
     ·obtain ⟨y,hy,ey⟩:=(h2 x.1).1 ⟨x,hx,rfl⟩;exact ⟨y,List.mem_append_left _ hy,ey⟩
     ·exact ⟨x,by simp,rfl⟩
    ·rintro ⟨y,hy,rfl⟩;rw [List.mem_append,List.mem_singleton] at hy
     rcases hy with hy|rfl
     ·obtain ⟨x,hx,ex⟩:=(h2 y.1).2 ⟨y,hy,rfl⟩;exact ⟨x,List.mem_append_left _ hx,ex⟩
     ·exact ⟨y,by simp,rfl⟩
   ·rw [List.mem_append,List.mem_singleton] at hx
    rcases hx with hx|rfl
    ·rw [pX,if_neg (fun k=>kX (hlt x hx) k.symm),List.append_nil];exact h3 x hx
    ·rw [pX,if_pos rfl,zH0,List.nil_append];intro y hy k;obtain ⟨z,hz,ez⟩:=(h2 y.1).2 ⟨y,hy,rfl⟩;exact kX (hlt z hz) (ez.trans k)
theorem zDg (l:List Fld) (h:sL l):pD l (wN l):=by
 have:∀k,k<=l.length->pD (l.take k) (wN (l.take k)):=by
  intro k
  induction k with
  | zero=>intro _;exact ⟨List.Pairwise.nil,fun c=>by simp [wN],fun f hf=>by simp [wN] at hf⟩
  | succ k ih =>
   intro hk;rw [List.take_succ_eq_append_getElem hk,zBi];refine (ih (by omega)).step fun x hx=>?_
   have h1:sL (l.take (k+1)):=h.sublist (List.take_sublist _ _);rw [List.take_succ_eq_append_getElem hk] at h1;exact (List.pairwise_append.1 h1).2.2 x hx _ (by simp)
 have:=this l.length (Nat.le_refl _)
 rwa [List.take_length] at this
theorem jN (fs:List Fld):pD fs (vH fs):=by
 obtain ⟨h1,h2⟩:=zBn fs;obtain ⟨g1,g2,g3⟩:=zDg _ h1
 have hm:∀c,(∃f∈zBH fs,f.1=c)↔∃f∈fs,f.1=c:=fun c=>by
  have e:=h2 c;constructor
  ·rintro ⟨f,hf,rfl⟩;have:f∈fs.filter (fun x=>decide (x.1=f.1)):=by rw [<-e];exact List.mem_filter.2 ⟨hf,by simp⟩
   exact ⟨f,(List.mem_filter.1 this).1,rfl⟩
  ·rintro ⟨f,hf,rfl⟩;have:f∈(zBH fs).filter (fun x=>decide (x.1=f.1)):=by rw [e];exact List.mem_filter.2 ⟨hf,by simp⟩
   exact ⟨f,(List.mem_filter.1 this).1,rfl⟩
 refine ⟨g1,fun c=>(g2 c).trans (hm c),fun f hf=>?_⟩;rw [g3 f hf];unfold vC;rw [h2]
theorem zCJ {l o p:List Fld} (h:pD l o) (k:pD l p):o=p:=by
 refine jR o p (h.rising.imp fun hxy=>pU hxy) (k.rising.imp fun hxy=>pU hxy) fun c=>?_
 have one:∀{q:List Fld},pD l q->q.filter (fun x=>decide (x.1=c))=if ∃f∈l,f.1=c then [(c,vC l c)] else []:=by
  intro q hq
  split
  ·rename_i hex
   obtain ⟨f,hf,rfl⟩:=(hq.names c).2 hex;obtain ⟨a,b,rfl⟩:=List.append_of_mem hf;have hr:=List.pairwise_append.1 hq.rising;have hr2:=List.pairwise_cons.1 hr.2.1;have ha:a.filter (fun x=>decide (x.1=f.1))=[]:=List.filter_eq_nil_iff.2 fun x hx e=>kX (hr.2.2 x hx f (by simp)) (by simpa using e)
   have hb:b.filter (fun x=>decide (x.1=f.1))=[]:=List.filter_eq_nil_iff.2 fun x hx e=>kX (hr2.1 x hx) (Eq.symm (of_decide_eq_true e))
   rw [List.filter_append,ha,List.filter_cons_of_pos (by simp),hb,List.nil_append,<-hq.texts f (by simp)]
  ·rename_i hex
   refine List.filter_eq_nil_iff.2 fun x hx e=>hex ((hq.names c).1 ⟨x,hx,by simpa using e⟩)
 rw [one h,one k]
def cC (last nx:ByteArray) (f:Fld):ByteArray:=if ltB last f.1&&(decide (nx.size=0)||ltB f.1 nx) then f.1 else nx
def tH (last:ByteArray) (fs:List Fld):ByteArray:=fs.foldl (cC last) ⟨#[]⟩
theorem zBC (last:ByteArray) (l:List Fld) (f:Fld):tH last (l++[f])=cC last (tH last l) f:=by simp [tH]
theorem zJr (last:ByteArray) (fs:List Fld) (hne:∀f∈fs,f.1.size≠0) :
  (tH last fs=⟨#[]⟩/\∀f∈fs,ltB last f.1=false)∨((tH last fs).size≠0/\(∃f∈fs,f.1=tH last fs)/\ltB last (tH last fs)=true/\∀g∈fs,ltB last g.1=true->ltB g.1 (tH last fs)=false):=by
 have:∀k,k<=fs.length->(tH last (fs.take k)=⟨#[]⟩/\∀f∈fs.take k,ltB last f.1=false)∨((tH last (fs.take k)).size≠0/\(∃f∈fs.take k,f.1=tH last (fs.take k))/\ltB last (tH last (fs.take k))=true/\∀g∈fs.take k,ltB last g.1=true->ltB g.1 (tH last (fs.take k))=false):=by
  intro k
  induction k with
  | zero=>intro _;left;exact ⟨rfl,fun f hf=>by simp at hf⟩
  | succ k ih =>
   intro hk;have ih:=ih (by omega);rw [List.take_succ_eq_append_getElem hk,zBC];have hnf:(fs[k]).1.size≠0:=hne _ (List.getElem_mem hk)
   generalize fs[k]=f at hnf ⊢
   generalize fs.take k=l at ih ⊢
   generalize tH last l=r at ih ⊢
   unfold cC
   cases c1:ltB last f.1 with
   | false =>
    rw [Bool.false_and,if_neg (by simp)]
    rcases ih with ⟨i1,i2⟩|⟨i1,⟨x,hx,ex⟩,i3,i4⟩
    ·left;refine ⟨i1,fun x hx=>?_⟩;rw [List.mem_append,List.mem_singleton] at hx
     rcases hx with hx|rfl
     ·exact i2 x hx
     ·exact c1
    ·right;refine ⟨i1,⟨x,by simp [hx],ex⟩,i3,fun g hg hl=>?_⟩;rw [List.mem_append,List.mem_singleton] at hg
     rcases hg with hg|rfl
     ·exact i4 g hg hl
     ·rw [c1] at hl;cases hl
   | true =>
    rcases ih with ⟨i1,i2⟩|⟨i1,⟨x,hx,ex⟩,i3,i4⟩
    ·have:decide (r.size=0)=true:=by rw [i1];rfl
     rw [this,if_pos (by simp)];right;refine ⟨hnf,⟨f,by simp,rfl⟩,c1,fun g hg hl=>?_⟩;rw [List.mem_append,List.mem_singleton] at hg
     rcases hg with hg|rfl
     ·rw [i2 g hg] at hl;cases hl
     ·exact vP _
    ·rw [decide_eq_false i1,Bool.false_or,Bool.true_and];right
     cases c2:ltB f.1 r with
     | true =>
      rw [if_pos rfl];refine ⟨hnf,⟨f,by simp,rfl⟩,c1,fun g hg hl=>?_⟩;rw [List.mem_append,List.mem_singleton] at hg
      rcases hg with hg|rfl
      ·have:=i4 g hg hl
       cases c3:ltB g.1 f.1 with
       | false=>rfl
       | true=>rw [qG c3 c2] at this;cases this
      ·exact vP _
     | false =>
      rw [if_neg (by simp)];refine ⟨i1,⟨x,by simp [hx],ex⟩,i3,fun g hg hl=>?_⟩;rw [List.mem_append,List.mem_singleton] at hg
      rcases hg with hg|rfl
      ·exact i4 g hg hl
      ·exact c2
 have h:=this fs.length (Nat.le_refl _)
 rwa [List.take_length] at h
theorem zNA {c:ByteArray} (h:c.size≠0):ltB ⟨#[]⟩ c=true:=by
 rcases qI ⟨#[]⟩ c with k|k|k
 ·exact k
 ·rw [<-k] at h;exact absurd rfl h
 ·unfold ltB at k;rw [decide_eq_true_iff] at k
  exfalso
  have e:(ByteArray.mk #[]).data.toList=[]:=rfl;rw [e] at k
  cases hc:c.data.toList with
  | nil=>rw [hc] at k;simp [Lib.compareBytes] at k
  | cons x l=>rw [hc] at k;simp [Lib.compareBytes] at k
def mM (o:List Fld) (k:Nat):ByteArray:=if k=0 then ⟨#[]⟩ else (o.getD (k-1) default).1
theorem zAC.get {o:List Fld} (h:zAC o) {i j:Nat} (hij:i<j) (hj:j<o.length):ltB (o[i]'(by omega)).1 (o[j]).1=true:=by
 exact List.pairwise_iff_getElem.1 h i j (by omega) hj hij
theorem zIk {fs o:List Fld} (h:pD fs o) (hne:∀f∈fs,f.1.size≠0) (k:Nat) (hk:k<=o.length):tH (mM o k) fs=if hlt:k<o.length then (o[k]).1 else ⟨#[]⟩:=by
 have hno:∀f∈o,f.1.size≠0:=fun f hf=>by
  obtain ⟨g,hg,e⟩:=(h.names f.1).1 ⟨f,hf,rfl⟩;rw [<-e];exact hne g hg
 have hge:∀j,(hj:j<o.length)->k<=j->ltB (mM o k) (o[j]).1=true:=fun j hj hkj=>by
  unfold mM
  split
  ·exact zNA (hno _ (List.getElem_mem hj))
  ·rw [List.getD_eq_getElem?_getD,List.getElem?_eq_getElem (show k-1<o.length by omega)];exact h.rising.get (by omega) hj
 have hlt:∀j,(hj:j<o.length)->j<k->ltB (mM o k) (o[j]).1=false:=fun j hj hkj=>by
  unfold mM;rw [if_neg (by omega),List.getD_eq_getElem?_getD,List.getElem?_eq_getElem (show k-1<o.length by omega)];show ltB (o[k-1]).1 (o[j]).1=false
  by_cases e:j=k-1
  ·subst e;exact vP _
  ·exact pU (h.rising.get (show j<k-1 by omega) (by omega))
 rcases zJr (mM o k) fs hne with ⟨s1,s2⟩|⟨s1,⟨x,hx,ex⟩,s3,s4⟩
 ·rw [s1,dif_neg];intro hk';obtain ⟨y,hy,ey⟩:=(h.names (o[k]).1).1 ⟨_,List.getElem_mem hk',rfl⟩;have h1:=s2 y hy;rw [ey,hge k hk' (Nat.le_refl _)] at h1
  cases h1
 ·obtain ⟨z,hz,ez⟩:=(h.names x.1).2 ⟨x,hx,rfl⟩;obtain ⟨j,hj,rfl⟩:=List.mem_iff_getElem.1 hz
  have hjk:k<=j:=by
   refine Nat.le_of_not_lt fun hjk=>?_
   have h1:=hlt j hj hjk;rw [ez,ex,s3] at h1
   cases h1
  have hk':k<o.length:=by omega
  rw [dif_pos hk',<-ex,<-ez]
  have h2:¬ k<j:=fun hkj=>by
   obtain ⟨y,hy,ey⟩:=(h.names (o[k]).1).1 ⟨_,List.getElem_mem hk',rfl⟩;have h1:=s4 y hy (by rw [ey];exact hge k hk' (Nat.le_refl _));rw [ey,<-ex,<-ez,h.rising.get hkj hj] at h1
   cases h1
  obtain rfl:k=j:=by omega
  rfl
theorem zIj {fs o:List Fld} (h:pD fs o) (hne:∀f∈fs,f.1.size≠0) {k:Nat} (hk:k<o.length):(o[k]).1.size≠0:=by
 obtain ⟨g,hg,e⟩:=(h.names (o[k]).1).1 ⟨_,List.getElem_mem hk,rfl⟩;rw [<-e];exact hne g hg
def dL (f:Fld):Fld:=(f.1,f.2.take 9)
theorem zN5 {f:Fld} (h:f.2.length<=8):dL f=f:=by
 unfold dL;rw [List.take_of_length_le (by omega)]
theorem zIP {o:List Fld} (h:∀f∈o,f.2.length<=8):o.map dL=o:=by
 induction o with
 | nil=>rfl
 | cons f o ih=>rw [List.map_cons,zN5 (h f (by simp)),ih (fun g hg=>h g (by simp [hg]))]
theorem zMn (o:List Fld):xU (o.map dL)=xU o:=by
 by_cases hs:∀f∈o,f.2.length<=8
 ·rw [zIP hs]
 ·have hno:∃f∈o,¬ f.2.length<=8:=by
   refine Classical.byContradiction fun hc=>hs fun f hf=>Classical.byContradiction fun hl=>hc ⟨f,hf,hl⟩
  obtain ⟨f,hf,hl⟩:=hno
  have e1:xU o=false:=by
   cases hm:xU o with
   | false=>rfl
   | true=>have:=(xO (wE hm f hf)).2.2.1;omega
  have e2:xU (o.map dL)=false:=by
   cases hm:xU (o.map dL) with
   | false=>rfl
   | true =>
    have:=(xO (wE hm (dL f) (List.mem_map.2 ⟨f,hf,rfl⟩))).2.2.1;simp only [dL,List.length_take] at this;omega
  rw [e1,e2]
end
section
open Go.RowKit
def cls (n:Int):Int:=if uI n then 1 else if yW n then 2 else if zIv n then 3 else if n=45∨n=46 then 4 else 0
theorem tZ (n:Int) :
  (cls n=1/\uI n=true/\yW n=false/\wV n=true/\yL n=true/\idB n=true) ∨
  (cls n=2/\uI n=false/\yW n=true/\wV n=true/\yL n=true/\idB n=true) ∨
  (cls n=3/\uI n=false/\yW n=false/\wV n=false/\yL n=true/\idB n=true) ∨
  (cls n=4/\uI n=false/\yW n=false/\wV n=false/\yL n=false/\idB n=true) ∨
  (cls n=0/\uI n=false/\yW n=false/\wV n=false/\yL n=false/\idB n=false):=by
 cases h1:uI n
 ·cases h2:yW n
  ·cases h3:zIv n
   ·by_cases h4:n=45∨n=46
    ·right;right;right;left;refine ⟨by simp [cls,h1,h2,h3,h4],rfl,rfl,by simp [wV,h1,h2],by simp [yL,wV,h1,h2,h3],?_⟩
     rcases h4 with rfl|rfl<;>decide
    ·right;right;right;right;have h45:(n==45)=false:=beq_eq_false_iff_ne.2 fun e=>h4 (.inl e)
     have h46:(n==46)=false:=beq_eq_false_iff_ne.2 fun e=>h4 (.inr e)
     exact ⟨by simp [cls,h1,h2,h3,h4],rfl,rfl,by simp [wV,h1,h2],by simp [yL,wV,h1,h2,h3],by simp [idB,yL,wV,h1,h2,h3,h45,h46]⟩
   ·right;right;left;exact ⟨by simp [cls,h1,h2,h3],rfl,rfl,by simp [wV,h1,h2],by simp [yL,h3],by simp [idB,yL,h3]⟩
  ·right;left;exact ⟨by simp [cls,h1,h2],rfl,rfl,by simp [wV,h2],by simp [yL,wV,h2],by simp [idB,yL,wV,h2]⟩
 ·left
  have h2:yW n=false:=by
   rw [zJZ] at h1;rw [Bool.eq_false_iff,Ne,zEx];omega
  exact ⟨by simp [cls,h1],rfl,h2,by simp [wV,h1],by simp [yL,wV,h1],by simp [idB,yL,wV,h1]⟩
theorem tX (n:Int) (w:World):Calls Tryz.prog 125 #[.int .u8 n] w fun e w'=>e=.returned (.int .i64 (cls n))/\w'=w:=by
 go_enter Tryz.func125,Tryz.ntmps125
 go_wp2
 all_goals go_ret
 all_goals refine ⟨yY ?_,rfl⟩
 all_goals (simp_all [cls,uI,yW,zIv];try omega)
theorem jM (s : ByteArray) (w : World) (hs : s.size <= maxLen) :
    Calls Tryz.prog 126 #[.string s] w fun e w' => e = .returned (.bool (yU s.data.toList)) /\ w' = w := by
  unfold maxLen at hs;have HE := hid (vX yW yL s);have HG := hid (tA yW yL s);have HF := hid (vW yW yL s);have HA := hid (qS yW yL s);have HT := hid (uU yW yL s);have HB : Hid (yU s.data.toList = xD yW yL s.data.toList) := rfl;go_enter Tryz.func126, Tryz.ntmps126;go_wp2
  go_loop [3] (fun i => ∃ k : Nat, k <= s.size /\ i = ii k /\ (∀ j, j < k -> (hj : j < s.size) -> (j = 0 -> yW (s[j].toNat : Int) = true) /\ (1 <= j -> yL (s[j].toNat : Int) = true))) (fun i => s.size - (intOf i).toNat)
  case atStart => exact ⟨0, by omega, rfl, fun j h => by omega⟩
  case round =>
    obtain ⟨k, hk, rfl, hall⟩ := hrel;have HL := hid hall;clear hall
    by_cases hlt : k < s.size
    · rcases Nat.eq_zero_or_pos k with h0 | h0
      · have HZ := hid h0
        have hz : ((k : Int) == 0) = true := by rw [h0]; rfl
        clear h0
        rcases tZ (s[k].toNat : Int) with h | h | h | h | h
        all_goals
          have HC := hid h;clear h;go_wp2_with (go_at_call 125; refine (tX _ _).mono ?_; rintro e w' ⟨rfl, rfl⟩; rw [HC.out.1])
          first
          | (go_ret; exact ⟨zA (by rw [HB.out]; have hz' := HZ.out; subst hz'; exact (HF.out hlt (by first | exact HC.out.2.1 | exact HC.out.2.2.1 | exact HC.out.2.2.2.2.1 | exact HC.out.2.2.2.2.2)).symm), rfl⟩)
          | (go_round
             case rel =>
               refine ⟨k + 1, by omega, by go_num, fun j h1 hj => ?_⟩;have hz' := HZ.out;have hj0 : j = k := by omega
               subst hj0;exact ⟨fun _ => (by first | exact HC.out.2.1 | exact HC.out.2.2.1 | exact HC.out.2.2.2.2.1 | exact HC.out.2.2.2.2.2), fun _ => by omega⟩
             case measure => simp [intOf]; omega)
      · have HZ := hid h0
        have hz : ((k : Int) == 0) = false := by rw [beq_eq_false_iff_ne]; omega
        clear h0
        rcases tZ (s[k].toNat : Int) with h | h | h | h | h
        all_goals
          have HC := hid h;clear h;go_wp2_with (go_at_call 125; refine (tX _ _).mono ?_; rintro e w' ⟨rfl, rfl⟩; rw [HC.out.1])
          first
          | (go_ret; exact ⟨zA (by rw [HB.out]; exact (HA.out k HZ.out hlt (by first | exact HC.out.2.2.2.1 | exact HC.out.2.2.2.2.1 | exact HC.out.2.2.2.2.2)).symm), rfl⟩)
          | (go_round
             case rel =>
               refine ⟨k + 1, by omega, by go_num, fun j h1 hj => ?_⟩
               by_cases hjk : j = k
               · subst hjk
                 exact ⟨fun e => by have := HZ.out; omega, fun _ => (by first | exact HC.out.2.2.2.1 | exact HC.out.2.2.2.2.1 | exact HC.out.2.2.2.2.2)⟩
               · exact HL.out j (by omega) hj
             case measure => simp [intOf]; omega)
    · have hks : k = s.size := by omega
      rcases Nat.eq_zero_or_pos s.size with hz | hz
      · have hn : ¬ (0 : Int) < (s.size : Int) := by omega
        have HZ := hid hz;clear hz hks;go_wp2_with fail;go_ret;exact ⟨zA (by rw [HB.out]; exact (HE.out HZ.out).symm), rfl⟩
      · have hn : (0 : Int) < (s.size : Int) := by omega
        by_cases hm : s.size <= 32
        · have hm' : (s.size : Int) <= 32 := by omega
          have HK := hid hks;clear hks;go_wp2_with fail;go_ret;refine ⟨zA (by rw [HB.out]; exact (HT.out hz hm ((HL.out 0 (by have := HK.out; omega) hz).1 rfl) (fun j h1 hj => (HL.out j (by have := HK.out; omega) hj).2 h1)).symm), rfl⟩
        · have hm' : ¬ (s.size : Int) <= 32 := by omega
          clear hks;go_wp2_with fail;go_ret;exact ⟨zA (by rw [HB.out]; exact (HG.out (by omega)).symm), rfl⟩
end
section
open Go.RowKit
theorem zI2 {fs:List Fld} {i:Nat} {f:Fld} (h:fs.getD i default=f) (h1:yU f.1.data.toList=true) (h2:0<f.2.length) (h3:f.2.length<=8) (h4:∀t∈f.2,t.size<=128) (h5:i=0∨ltN (fs.getD (i-1) default).1 f.1=true):wW fs i=true:=by
 unfold wW tG;rw [h,h1,decide_eq_true h3]
 have e1:f.2.isEmpty=false:=by
  cases hf:f.2 with
  | nil=>rw [hf] at h2;simp at h2
  | cons _ _=>rfl
 have e2:f.2.any kF=false:=by
  rw [List.any_eq_false];intro t ht;have:=h4 t ht;unfold kF
  simpa using this
 rw [e1,e2]
 rcases h5 with h5|h5
 ·rw [decide_eq_true h5];rfl
 ·rw [h5];simp
theorem qW {fs:List Fld} {i:Nat} {f:Fld} (h:fs.getD i default=f) (hn:yU f.1.data.toList=false∨f.2.length=0∨8<f.2.length∨(∃t∈f.2,128<t.size)∨(i≠0/\ltN (fs.getD (i-1) default).1 f.1=false)):wW fs i=false:=by
 unfold wW tG;rw [h]
 rcases hn with hn|hn|hn|⟨t,ht,hn⟩|⟨hn,hm⟩
 ·rw [hn];rfl
 ·rw [List.length_eq_zero_iff] at hn;rw [hn];simp
 ·rw [decide_eq_false (by omega)];simp
 ·have:f.2.any kF=true:=by
   rw [List.any_eq_true];exact ⟨t,ht,by unfold kF;simpa using hn⟩
  rw [this];simp
 ·rw [decide_eq_false hn,hm];simp
theorem zB9 (v:Value) (d:List Fx) (w:World) (hv:qZ w v d) (hf:sD d):Calls Tryz.prog 84 #[v] w fun e w'=>e=.returned (.bool (xU (d.map Fx.fld)))/\zK w w':=by
 obtain ⟨p,cap,rfl,hd,ht⟩:=hv;have HT:=hid ht;have HF:=hid hf.2;have hl:=hf.1;unfold maxLen at hl;have HD:=hid hd;clear ht hf hd;obtain ⟨r,hr⟩:∃r,xU (d.map Fx.fld)=r:=⟨_,rfl⟩;rw [hr];have HR:=hid hr;clear hr;go_enter Tryz.func84,Tryz.ntmps84;go_wp2_with fail
 go_loopg [3] d.length (fun g vi wr=>∃i:Nat,vi=ii i/\i<=d.length/\i<=16/\d.length-i<=g/\zK w wr/\Hid (∀j,j<i->wW (d.map Fx.fld) j=true))
 case atStart=>exact ⟨0,rfl,by omega,by omega,by omega,zK.refl _,fun j h=>by omega⟩
 case round =>
  obtain ⟨i,rfl,hi,hi16,hg,hb,HJ⟩:=hrel
  by_cases hlt:i<d.length
  ·have hltz:(i:Int)<(d.length:Int):=by omega
   have hiz:(0:Int)<=i:=by omega
   obtain ⟨b,off,rfl,hxs⟩:∃b off,p=some (aa b off)/\kL w b off d:=by
    rcases HD.out with h|h
    ·subst h;simp at hlt
    ·exact h
   have hxr:=hxs.kept hb.below;obtain ⟨c0,c1⟩:=hxr i hlt;have hxi:(d[i]).at wr:=(HT.out _ (List.getElem_mem hlt)).kept hb.below;have hfi:=HF.out _ (List.getElem_mem hlt);have hsx:=zAh hlt;obtain ⟨x,hx⟩:∃x,d[i]=x:=⟨_,rfl⟩;rw [hx] at c0 c1 hxi hfi hsx;have HXR:=hid hxr;have HXI:=hid hxi;have hns:x.name.size<=maxLen:=hfi.1;have htl:x.txt.length<=maxLen:=hfi.2.1;unfold maxLen at htl;have HNS:=hid hns;have HFI:=hid hfi;have HSX:=hid hsx;clear hxr hxs hxi hfi hx hsx hns;unfold Fx.sl at c1;have mixed:=Tryz.mixed;have HFX:Hid (∀W,Calls Tryz.prog 126 #[tq x.name] W fun e w'=>e=.returned (.bool (yU x.name.data.toList))/\w'=W):=fun W=>jM x.name W HNS.out
   by_cases h16:i=16
   ·subst h16;have H0:Hid (r=false):=HR.out.symm.trans (zBG (by rw [List.length_map];omega));go_wp2_with fail
    go_quiet (fail)
    go_wp2_with fail
    go_ret;exact ⟨zA H0.out.symm,(hb.alloc _).drewN _⟩
   have h16z:decide ((16:Int)<=(i:Int))=false:=decide_eq_false (by omega)
   cases hfx:yU x.name.data.toList with
   | false =>
    rw [hfx] at HFX;have H0:Hid (r=false):=HR.out.symm.trans (nE (i:=i) (by rw [List.length_map];exact hlt) (qW HSX.out (Or.inl hfx)));go_wp2_with fail;refine wp_region_quiet_lit mixed (by kernel_rfl) ?_
    repeat (go_big_quiet_step (first|(go_at_call 126;refine Calls.quiet_of_same (HFX.out _))))
    refine wpQuiet_nil ?_;intro _ hw';obtain ⟨nq,hw''⟩:=hw';subst hw'';go_wp2_with fail;go_ret;exact ⟨zA H0.out.symm,(hb.alloc _).drewN _⟩
   | true =>
    rw [hfx] at HFX
    by_cases h0:i=0
    ·have h0z:decide ((0:Int)<(i:Int))=false:=decide_eq_false (by omega);have h0y:decide (0<i)=false:=decide_eq_false (by omega);have H00:=hid h0;clear h0
     by_cases ht0:x.txt.length=0
     ·have ht0z:(x.txt.length:Int)=0:=by omega
      have H0:Hid (r=false):=HR.out.symm.trans (nE (i:=i) (by rw [List.length_map];exact hlt) (qW HSX.out (Or.inr (Or.inl ht0))));go_wp2_with fail;refine wp_region_quiet_lit mixed (by kernel_rfl) ?_
      repeat (go_big_quiet_step (first|(go_at_call 126;refine Calls.quiet_of_same (HFX.out _))))
      refine wpQuiet_nil ?_;intro _ hw';obtain ⟨nq,hw''⟩:=hw';subst hw'';go_wp2_with fail;go_ret;exact ⟨zA H0.out.symm,(hb.alloc _).drewN _⟩
     have ht0z:¬ (x.txt.length:Int)=0:=by omega
     have ht0d:((x.txt.length:Int)==0)=false:=beq_eq_false_iff_ne.2 ht0z
     by_cases ht8:8<x.txt.length
     ·have ht8z:(8:Int)<(x.txt.length:Int):=by omega
      have H0:Hid (r=false):=HR.out.symm.trans (nE (i:=i) (by rw [List.length_map];exact hlt) (qW HSX.out (Or.inr (Or.inr (Or.inl ht8)))));go_wp2_with fail;refine wp_region_quiet_lit mixed (by kernel_rfl) ?_
      repeat (go_big_quiet_step (first|(go_at_call 126;refine Calls.quiet_of_same (HFX.out _))))
      refine wpQuiet_nil ?_;intro _ hw';obtain ⟨nq,hw''⟩:=hw';subst hw'';go_wp2_with fail;go_ret;exact ⟨zA H0.out.symm,(hb.alloc _).drewN _⟩
     have ht8z:decide ((8:Int)<(x.txt.length:Int))=false:=decide_eq_false (by omega);have HST:Hid ((∀t∈x.txt,t.size<=128)->wW (d.map Fx.fld) (i)=true):=fun h=>zI2 HSX.out hfx (by show 0<x.txt.length;omega) (by show x.txt.length<=8;omega) h (Or.inl H00.out)
     obtain ⟨bt,ot,hpt,hct0⟩:∃bt ot,x.p=some (aa bt ot)/\∀l,(h:l<x.txt.length)->wr.cell? (aa bt (ot+l))=some (tq x.txt[l]):=by
      rcases HXI.out with h|h
      ·exact absurd (by rw [h];rfl) ht0
      ·exact h
     have HCT0:=hid hct0;rw [hpt] at c1;clear hpt hct0;go_wp2_with fail;refine wp_region_quiet_lit mixed (by kernel_rfl) ?_
     repeat (go_big_quiet_step (first|(go_at_call 126;refine Calls.quiet_of_same (HFX.out _))))
     refine wpQuiet_nil ?_;intro _ hw';obtain ⟨nq,hw''⟩:=hw';subst hw'';go_wp2_with fail;obtain ⟨W2,hW2⟩:∃W2,(wr.alloc (.cells #[tq x.name,sc (some (aa bt ot)) x.txt.length x.cap] 45)).drewN nq=W2:=⟨_,rfl⟩;have hgW:zK wr W2:=by rw [<-hW2];exact ((zK.refl wr).alloc _).drewN _
     have q1:W2.cell? (aa wr.heap.size 1)=some (sc (some (aa bt ot)) x.txt.length x.cap):=by rw [<-hW2];exact (zHy wr ⟨x.name,some (aa bt ot),x.cap,x.txt⟩ (wr.alloc _) (Below.refl _ _)).2
     have hat:∀l,(h:l<x.txt.length)->W2.cell? (aa bt (ot+l))=some (tq x.txt[l]):=fun l h=>(hgW.below.cell (p:=(aa bt (ot+l))) (zJ (HCT0.out l h))).trans (HCT0.out l h)
     have HGW:=hid hgW;have HAT:=hid hat;rw [hW2];clear hgW hat hW2
     go_loopg [5] x.txt.length (fun g vj W=>∃j:Nat,vj=ii j/\j<=x.txt.length/\x.txt.length-j<=g/\W=W2/\Hid (∀l (h:l<x.txt.length),l<j->(x.txt[l]).size<=128))
     case atStart=>exact ⟨0,rfl,by omega,by omega,rfl,fun l _ h=>by omega⟩
     case round =>
      obtain ⟨j,rfl,hj,hgj,rfl,HL⟩:=hrel
      by_cases hjl:j<x.txt.length
      ·have hjz:(j:Int)<(x.txt.length:Int):=by omega
       have hj0:(0:Int)<=(j:Int):=by omega
       have ctj:=HAT.out j hjl;obtain ⟨t,htt⟩:∃t,x.txt[j]=t:=⟨_,rfl⟩;have HTT:=hid htt;rw [htt] at ctj;clear htt
       by_cases hts:128<t.size
       ·have htsz:(128:Int)<(t.size:Int):=by omega
        have H0:Hid (r=false):=HR.out.symm.trans (nE (i:=i) (by rw [List.length_map];exact hlt) (qW HSX.out (Or.inr (Or.inr (Or.inr (Or.inl ⟨t,by rw [<-HTT.out];exact List.getElem_mem hjl,hts⟩))))));go_wp2_with fail;go_ret;exact ⟨zA H0.out.symm,hb.trans HGW.out⟩
       ·have htsz:¬ (128:Int)<(t.size:Int):=by omega
        go_wp2_with fail
        go_roundg (x.txt.length-(j+1))
        case measure=>omega
        refine ⟨j+1,by go_num,by omega,by omega,rfl,fun l hl hlj=>?_⟩
        by_cases e:l=j
        ·subst e;rw [HTT.out];omega
        ·exact HL.out l hl (by omega)
      ·have hjz:¬ (j:Int)<(x.txt.length:Int):=by omega
       have H1:=hid (HST.out fun t ht=>by
        obtain ⟨l,hl,rfl⟩:=List.mem_iff_getElem.1 ht;exact HL.out l hl (by omega))
       go_wp2_with fail
       go_roundg (d.length-(i+1))
       case measure=>omega
       refine ⟨i+1,by go_num,by omega,by omega,by omega,hb.trans HGW.out,fun l hl=>?_⟩
       by_cases e:l=i
       ·subst e;exact H1.out
       ·exact HJ.out l (by omega)
    ·obtain ⟨k,rfl⟩:∃k,i=k+1:=⟨i-1,by omega⟩;obtain ⟨e0,_⟩:=HXR.out k (by omega);have hsy:=zAh (d:=d) (i:=k) (by omega);obtain ⟨y,hy⟩:∃y,d[k]=y:=⟨_,rfl⟩;rw [hy] at e0 hsy;have HSY:=hid hsy;clear hy hsy;have k1:(0:Int)<(k:Int)+1:=by omega
     have hltk:(k:Int)+1<(d.length:Int):=by omega
     have h16y:decide ((16:Int)<=(k:Int)+1)=false:=decide_eq_false (by omega);have k2:(0:Int)<=(k:Int):=by omega
     have k3:(k:Int)<(d.length:Int):=by omega
     have e1:∀o,(wr.alloc o).cell? (aa b (off+k * 2))=some (tq y.name):=fun o=>by
      rw [<-e0];exact ((Below.refl wr.heap.size wr).alloc (Nat.le_refl _) _).cell (p:=(aa b (off+k * 2))) (zJ e0)
     cases hlt2:Op.bytesLess y.name.toList x.name.toList with
     | false =>
      have H0:Hid (r=false):=HR.out.symm.trans (nE (i:=k+1) (by rw [List.length_map];exact hlt) (qW HSX.out (Or.inr (Or.inr (Or.inr (Or.inr ⟨by omega,by rw [Nat.add_sub_cancel,HSY.out];exact hlt2⟩))))));go_wp2_with fail;refine wp_region_quiet_lit mixed (by kernel_rfl) ?_
      repeat (go_big_quiet_step (first|(go_at_call 126;refine Calls.quiet_of_same (HFX.out _))))
      refine wpQuiet_nil ?_;intro _ hw';obtain ⟨nq,hw''⟩:=hw';subst hw'';go_wp2_with fail;go_ret;exact ⟨zA H0.out.symm,(hb.alloc _).drewN _⟩
     | true =>
      by_cases ht0:x.txt.length=0
      ·have ht0z:(x.txt.length:Int)=0:=by omega
       have H0:Hid (r=false):=HR.out.symm.trans (nE (i:=k+1) (by rw [List.length_map];exact hlt) (qW HSX.out (Or.inr (Or.inl ht0))));go_wp2_with fail;refine wp_region_quiet_lit mixed (by kernel_rfl) ?_
       repeat (go_big_quiet_step (first|(go_at_call 126;refine Calls.quiet_of_same (HFX.out _))))
       refine wpQuiet_nil ?_;intro _ hw';obtain ⟨nq,hw''⟩:=hw';subst hw'';go_wp2_with fail;go_ret;exact ⟨zA H0.out.symm,(hb.alloc _).drewN _⟩
      have ht0z:¬ (x.txt.length:Int)=0:=by omega
      have ht0d:((x.txt.length:Int)==0)=false:=beq_eq_false_iff_ne.2 ht0z
      by_cases ht8:8<x.txt.length
      ·have ht8z:(8:Int)<(x.txt.length:Int):=by omega
       have H0:Hid (r=false):=HR.out.symm.trans (nE (i:=k+1) (by rw [List.length_map];exact hlt) (qW HSX.out (Or.inr (Or.inr (Or.inl ht8)))));go_wp2_with fail;refine wp_region_quiet_lit mixed (by kernel_rfl) ?_
       repeat (go_big_quiet_step (first|(go_at_call 126;refine Calls.quiet_of_same (HFX.out _))))
       refine wpQuiet_nil ?_;intro _ hw';obtain ⟨nq,hw''⟩:=hw';subst hw'';go_wp2_with fail;go_ret;exact ⟨zA H0.out.symm,(hb.alloc _).drewN _⟩
      have ht8z:decide ((8:Int)<(x.txt.length:Int))=false:=decide_eq_false (by omega);have HST:Hid ((∀t∈x.txt,t.size<=128)->wW (d.map Fx.fld) (k+1)=true):=fun h=>zI2 HSX.out hfx (by show 0<x.txt.length;omega) (by show x.txt.length<=8;omega) h (Or.inr (by rw [Nat.add_sub_cancel,HSY.out];exact hlt2))
      obtain ⟨bt,ot,hpt,hct0⟩:∃bt ot,x.p=some (aa bt ot)/\∀l,(h:l<x.txt.length)->wr.cell? (aa bt (ot+l))=some (tq x.txt[l]):=by
       rcases HXI.out with h|h
       ·exact absurd (by rw [h];rfl) ht0
       ·exact h
      have HCT0:=hid hct0;rw [hpt] at c1;clear hpt hct0;go_wp2_with fail;refine wp_region_quiet_lit mixed (by kernel_rfl) ?_
      repeat (go_big_quiet_step (first|(go_at_call 126;refine Calls.quiet_of_same (HFX.out _))))
      refine wpQuiet_nil ?_;intro _ hw';obtain ⟨nq,hw''⟩:=hw';subst hw'';go_wp2_with fail;obtain ⟨W2,hW2⟩:∃W2,(wr.alloc (.cells #[tq x.name,sc (some (aa bt ot)) x.txt.length x.cap] 45)).drewN nq=W2:=⟨_,rfl⟩;have hgW:zK wr W2:=by rw [<-hW2];exact ((zK.refl wr).alloc _).drewN _
      have q1:W2.cell? (aa wr.heap.size 1)=some (sc (some (aa bt ot)) x.txt.length x.cap):=by rw [<-hW2];exact (zHy wr ⟨x.name,some (aa bt ot),x.cap,x.txt⟩ (wr.alloc _) (Below.refl _ _)).2
      have hat:∀l,(h:l<x.txt.length)->W2.cell? (aa bt (ot+l))=some (tq x.txt[l]):=fun l h=>(hgW.below.cell (p:=(aa bt (ot+l))) (zJ (HCT0.out l h))).trans (HCT0.out l h)
      have HGW:=hid hgW;have HAT:=hid hat;rw [hW2];clear hgW hat hW2
      go_loopg [5] x.txt.length (fun g vj W=>∃j:Nat,vj=ii j/\j<=x.txt.length/\x.txt.length-j<=g/\W=W2/\Hid (∀l (h:l<x.txt.length),l<j->(x.txt[l]).size<=128))
      case atStart=>exact ⟨0,rfl,by omega,by omega,rfl,fun l _ h=>by omega⟩
      case round =>
       obtain ⟨j,rfl,hj,hgj,rfl,HL⟩:=hrel
       by_cases hjl:j<x.txt.length
       ·have hjz:(j:Int)<(x.txt.length:Int):=by omega
        have hj0:(0:Int)<=(j:Int):=by omega
        have ctj:=HAT.out j hjl;obtain ⟨t,htt⟩:∃t,x.txt[j]=t:=⟨_,rfl⟩;have HTT:=hid htt;rw [htt] at ctj;clear htt
        by_cases hts:128<t.size
        ·have htsz:(128:Int)<(t.size:Int):=by omega
         have H0:Hid (r=false):=HR.out.symm.trans (nE (i:=k+1) (by rw [List.length_map];exact hlt) (qW HSX.out (Or.inr (Or.inr (Or.inr (Or.inl ⟨t,by rw [<-HTT.out];exact List.getElem_mem hjl,hts⟩))))));go_wp2_with fail;go_ret;exact ⟨zA H0.out.symm,hb.trans HGW.out⟩
        ·have htsz:¬ (128:Int)<(t.size:Int):=by omega
         go_wp2_with fail
         go_roundg (x.txt.length-(j+1))
         case measure=>omega
         refine ⟨j+1,by go_num,by omega,by omega,rfl,fun l hl hlj=>?_⟩
         by_cases e:l=j
         ·subst e;rw [HTT.out];omega
         ·exact HL.out l hl (by omega)
       ·have hjz:¬ (j:Int)<(x.txt.length:Int):=by omega
        have H1:=hid (HST.out fun t ht=>by
         obtain ⟨l,hl,rfl⟩:=List.mem_iff_getElem.1 ht;exact HL.out l hl (by omega))
        go_wp2_with fail
        go_roundg (d.length-(k+1+1))
        case measure=>omega
        refine ⟨k+1+1,by go_num,by omega,by omega,by omega,hb.trans HGW.out,fun l hl=>?_⟩
        by_cases e:l=k+1
        ·subst e;exact H1.out
        ·exact HJ.out l (by omega)
  ·have hltz:¬ (i:Int)<(d.length:Int):=by omega
   have H0:Hid (r=true):=HR.out.symm.trans (zIF (by rw [List.length_map];omega) (fun j hj=>HJ.out j (by rw [List.length_map] at hj;omega)));go_wp2_with fail;go_ret;exact ⟨zA H0.out.symm,hb⟩
end
section
open Go.RowKit Go.Lib
def zMr (w:World) (G:List Fld) (k:Nat) (v:Value) (wr:World):Prop :=
 ∃dr,vQ w.heap.size wr v dr/\dr.map Fx.fld=(G.take (min k 17)).map dL/\Below w.heap.size w wr
def zOV (N : Nat) (fs : List Fld) (e : Ending) (w' : World) : Prop :=
  (fs.any nQ = true /\ e = .returned (.tuple #[.slice none 0 0, .int .i64 2])) ∨
    (fs.any nQ = false /\
     (((vH fs).any wZ = true /\ e = .returned (.tuple #[.slice none 0 0, .int .i64 3])) ∨
      ((vH fs).any wZ = false /\ xU (vH fs) = false /\ e = .returned (.tuple #[.slice none 0 0, .int .i64 5])) ∨
      ((vH fs).any wZ = false /\ xU (vH fs) = true /\ ∃ u o, e = .returned (.tuple #[u, .int .i64 0]) /\ vQ N w' u o /\ o.map Fx.fld = vH fs)))
def zNx (w:World) (fs:List Fld) (e:Ending) (w':World):Prop:=zOV w.heap.size fs e w'/\Below w.heap.size w w'
theorem zId {fs:List Fld} {c t:ByteArray} (h:t∈vC fs c):∃f∈fs,t∈f.2:=by
 unfold vC at h;obtain ⟨f,hf,ht⟩:=List.mem_flatMap.1 h;exact ⟨f,(List.mem_filter.1 hf).1,ht⟩
theorem zIs (fs:List Fld) (c:ByteArray):(vC fs c).length<=vN fs:=by
 unfold vC vN
 induction fs with
 | nil=>simp
 | cons f fs ih =>
  rw [List.map_cons,List.sum_cons]
  by_cases e:f.1=c
  ·rw [List.filter_cons_of_pos (by simp [e]),List.flatMap_cons,List.length_append];omega
  ·rw [List.filter_cons_of_neg (by simp [e])];omega
theorem zJ5 (fs:List Fld) (i:Nat):vN (fs.take i)<=vN fs:=by
 conv=>rhs;rw [<-List.take_append_drop i fs,tW]
 omega
theorem zHc {d:List Fx} {i:Nat} (h:i<d.length) (c:ByteArray):vC ((d.map Fx.fld).take (i+1)) c=vC ((d.map Fx.fld).take i) c++if (d[i]).name=c then (d[i]).txt else []:=by
 rw [List.take_succ_eq_append_getElem (by simpa using h),pX];simp [Fx.fld]
theorem zGn {d:List Fx} {i:Nat} (h:i<d.length) (last:ByteArray):tH last ((d.map Fx.fld).take (i+1)) =
  if ltB last (d[i]).name&&(decide ((tH last ((d.map Fx.fld).take i)).size=0)||ltB (d[i]).name (tH last ((d.map Fx.fld).take i))) then (d[i]).name else tH last ((d.map Fx.fld).take i):=by
 rw [List.take_succ_eq_append_getElem (by simpa using h),zBC];simp [cC,Fx.fld]
theorem zME {d:List Fx} (h:∀j,(h:j<d.length)->yU (d[j]).name.data.toList=true):(d.map Fx.fld).any nQ=false:=by
 rw [List.any_eq_false];intro f hf;obtain ⟨x,hx,rfl⟩:=List.mem_map.1 hf;obtain ⟨j,hj,rfl⟩:=List.mem_iff_getElem.1 hx;have:=h j hj;simp [nQ,Fx.fld,this]
theorem zL4 {l:ByteArray} (h:yU l.data.toList=true):l.size≠0:=by
 intro e;have:l.data.toList=[]:=List.length_eq_zero_iff.1 (by simpa using e);rw [this] at h
 revert h
 decide
theorem zG7 {T a b:List ByteArray} (h:9<=(T++a).length):(T++(a++b)).take 9=(T++a).take 9:=by
 rw [<-List.append_assoc,List.take_append_of_le_length h]
theorem zLC {G:List Fld} {k:Nat} (h:k<G.length):(G.take (k+1)).any wZ=((G.take k).any wZ||wZ G[k]):=by
 rw [List.take_succ_eq_append_getElem h,List.any_append];simp
theorem zLS {G:List Fld} {k:Nat} (h:k<G.length) (hk:k<17):(G.take (min (k+1) 17)).map dL=(G.take (min k 17)).map dL++[dL G[k]]:=by
 rw [Nat.min_eq_left (by omega),Nat.min_eq_left (by omega),List.take_succ_eq_append_getElem h,List.map_append];rfl
theorem zFv {G:List Fld} {k:Nat} (h:k<G.length):mM G (k+1)=(G[k]).1:=by
 unfold mM;rw [if_neg (by omega),Nat.add_sub_cancel,List.getD_eq_getElem?_getD,List.getElem?_eq_getElem h];rfl
theorem zN8 {d dr:List Fx} {k:Nat} (hf:sD d) (h:dr.map Fx.fld=((vH (d.map Fx.fld)).take (min k 17)).map dL):sD dr:=by
 have hg:=jN (d.map Fx.fld)
 have hl:dr.length<=17:=by
  have:=congrArg List.length h;rw [List.length_map,List.length_map,List.length_take] at this;omega
 refine ⟨by unfold maxLen;omega,fun x hx=>?_⟩;have hm:x.fld∈((vH (d.map Fx.fld)).take (min k 17)).map dL:=by rw [<-h];exact List.mem_map.2 ⟨x,hx,rfl⟩
 obtain ⟨g,hgm,e⟩:=List.mem_map.1 hm;have hgm:=List.mem_of_mem_take hgm;have e1:x.name=g.1:=(congrArg Prod.fst e).symm;have e2:x.txt=g.2.take 9:=(congrArg Prod.snd e).symm;obtain ⟨f,hfm,ef⟩:=(hg.names g.1).1 ⟨g,hgm,rfl⟩;obtain ⟨y,hy,rfl⟩:=List.mem_map.1 hfm;refine ⟨?_,?_,fun t ht=>?_⟩
 ·show x.name.size<=maxLen
  rw [e1,<-ef];exact (hf.2 y hy).1
 ·show x.txt.length<=maxLen
  rw [e2,List.length_take];unfold maxLen;omega
 ·have ht:t∈x.txt:=ht;rw [e2] at ht;have ht:=List.mem_of_mem_take ht;rw [hg.texts g hgm] at ht;obtain ⟨f',hf',ht'⟩:=zId ht;obtain ⟨z,hz,rfl⟩:=List.mem_map.1 hf';exact (hf.2 z hz).2.2 t ht'
end
section
open Go.RowKit Go.Lib
theorem cT {a b:ByteArray} {c:Bool} (h:ltB a b=c):Op.bytesLess a.toList b.toList=c:=by
 rw [<-h,<-zLc];rfl
theorem zFG {a b:ByteArray} (h:a≠b):(a.toList==b.toList)=false:=by
 rw [Lib.toList_data,Lib.toList_data,beq_eq_false_iff_ne];exact fun e=>h (nN e)
theorem zIN {a b:ByteArray} (h:a=b):(a.toList==b.toList)=true:=by rw [h];simp
theorem zMA {a:ByteArray} (h:a.size=0):a.toList.isEmpty=true:=by
 rw [Lib.toList_data];have:a.data.toList=[]:=List.length_eq_zero_iff.1 (by simpa using h);rw [this];rfl
theorem gM {a:ByteArray} (h:a.size≠0):a.toList.isEmpty=false:=by
 rw [Lib.toList_data]
 cases e:a.data.toList with
 | nil=>exact absurd (by simpa using congrArg List.length e) h
 | cons _ _=>rfl
theorem zJP (v:Value) (d:List Fx) (w:World) (hv:qZ w v d) (hf:sD d) (hl:d.length * 40<=140737488355328) (htot:vN (d.map Fx.fld) * 16<=140737488355328) :
  Calls Tryz.prog 122 #[v] w fun e w'=>zNx w (d.map Fx.fld) e w':=by
 obtain ⟨i0,hi0,hz0,hz1,hz2⟩:=info_parts Tryz.infoStr;obtain ⟨j0,hj0,hy0,hy1,hy2⟩:=info_parts Tryz.infoFld;have HI:=hid hi0;have HJ:=hid hj0;obtain ⟨p,cap,rfl,hd,ht⟩:=hv;have HD:=hid hd;have HT:=hid ht;have HF:=hid hf;have hll:d.length<=3600000000000:=by omega
 have HTOT:=hid htot;clear hi0 hj0 hd ht hf htot hl;go_enter Tryz.func122,Tryz.ntmps122;go_wp2_with fail
 go_loopg [4] d.length (fun g vi wr=>∃i:Nat,vi=ii i/\i<=d.length/\d.length-i<=g/\w=wr/\Hid (∀j,(h:j<d.length)->j<i->yU (d[j]).name.data.toList=true))
 case atStart=>exact ⟨0,rfl,by omega,by omega,rfl,fun j _ h=>by omega⟩
 case round =>
 obtain ⟨i,rfl,hi,hgk,rfl,HOK⟩:=hrel
 by_cases hlt:i<d.length
 ·have hltz:(i:Int)<(d.length:Int):=by omega
  have hiz:(0:Int)<=i:=by omega
  obtain ⟨b,off,rfl,hxs⟩:∃b off,p=some (aa b off)/\kL w b off d:=by
   rcases HD.out with h|h
   ·subst h;simp at hlt
   ·exact h
  have c0:=(hxs i hlt).1;have HFX:Hid (∀W,Calls Tryz.prog 126 #[tq (d[i]).name] W fun e w'=>e=.returned (.bool (yU (d[i]).name.data.toList))/\w'=W):=fun W=>jM _ W (HF.out.2 _ (List.getElem_mem hlt)).1
  have HM:Hid (yU (d[i]).name.data.toList=false->(d.map Fx.fld).any nQ=true):=fun h=>by
   rw [List.any_eq_true];exact ⟨(d[i]).fld,List.mem_map.2 ⟨_,List.getElem_mem hlt,rfl⟩,by simp [nQ,Fx.fld,h]⟩
  have HS:Hid (yU (d[i]).name.data.toList=true->∀j,(h:j<d.length)->j<i+1->yU (d[j]).name.data.toList=true):=fun h j hj h2=>by
   by_cases e:j=i
   ·subst e;exact h
   ·exact HOK.out j hj (by omega)
  generalize (d[i]).name=nm at c0 HFX HM HS
  clear hxs HOK
  cases hfx:yU nm.data.toList with
  | false =>
   rw [hfx] at HFX;have H0:=hid (HM.out hfx);clear hfx HM HS;go_wp2_with (first|(go_at_call 126;refine (HFX.out _).mono ?_;rintro e w1 ⟨rfl,rfl⟩))
   go_ret2
   exact ⟨Or.inl ⟨H0.out,rfl⟩,Below.refl _ _⟩
  | true =>
   rw [hfx] at HFX;have H0:=hid (HS.out hfx);clear hfx HM HS;go_wp2_with (first|(go_at_call 126;refine (HFX.out _).mono ?_;rintro e w1 ⟨rfl,rfl⟩));go_roundg (d.length-(i+1))
   case measure=>omega
   case rel=>exact ⟨i+1,by go_num,by omega,by omega,rfl,H0⟩
 have hltz:¬ (i:Int)<(d.length:Int):=by omega
 have HMIS:=hid (zME fun j hj=>HOK.out j hj (by omega))
 have hne:∀f∈d.map Fx.fld,f.1.size≠0:=fun f hf=>by
  obtain ⟨x,hx,rfl⟩:=List.mem_map.1 hf;obtain ⟨j,hj,rfl⟩:=List.mem_iff_getElem.1 hx;exact zL4 (HOK.out j hj (by omega))
 have hgr:=jN (d.map Fx.fld);obtain ⟨G,hG⟩:∃G,vH (d.map Fx.fld)=G:=⟨_,rfl⟩;rw [hG] at hgr;have HGR:=hid hgr;have HNE:=hid hne;have HGE:=hid hG;clear hgr hne hG HOK hgk hi hlt;have ST0:Hid (zMr w G 0 (sc none 0 0) w):=⟨[],⟨World.ownsRow_nil _ _ _ _,fun x hx=>by simp at hx⟩,by simp,Below.refl _ _⟩;go_wp2_with fail
 go_loopg [5,6,7,8] G.length (fun g v5 v6 v7 v8 ws=>∃k:Nat,k<=G.length/\G.length-k<=g/\v6=.bool ((G.take k).any wZ)/\v7=.bool (decide (16<k))/\v8=tq (mM G k)/\zMr w G k v5 ws)
 case atStart=>exact ⟨0,by omega,by omega,by simp,rfl,rfl,ST0.out⟩
 case round =>
 clear ST0;obtain ⟨k,hk,hgk,rfl,rfl,rfl,dr,hox,hdm,hbw⟩:=hrel;have HSN:=hid (zIk HGR.out HNE.out k hk)
 have hkeep:∀j,(h:j<d.length)->∃b off,p=some (aa b off)/\(∀W,Below w.heap.size w W->W.cell? (aa b (off+j * 2))=some (tq (d[j]).name)/\W.cell? (aa b (off+j * 2+1))=some (sc (d[j]).p (d[j]).txt.length (d[j]).cap)):=fun j hj=>by
  rcases HD.out with h|⟨b,off,rfl,hxs⟩
  ·subst h;simp at hj
  ·exact ⟨b,off,rfl,fun W hW=>hxs.kept hW j hj⟩
 have HKP:=hid hkeep;have HOX:=hid hox;have HDM:=hid hdm;have HBW:=hid hbw;have hszw:=hbw.size;clear hox hdm hbw hkeep;obtain ⟨B6,hB6⟩:∃B,(G.take k).any wZ=B:=⟨_,rfl⟩;obtain ⟨last,hlast⟩:∃l,mM G k=l:=⟨_,rfl⟩;rw [hB6,hlast];rw [hlast] at HSN;have HB6:=hid hB6;clear hB6 hlast;go_wp2_with fail
 go_loopg [9,10] d.length (fun g vn vi ws=>∃i:Nat,vi=ii i/\i<=d.length/\d.length-i<=g/\vn=tq (tH last ((d.map Fx.fld).take i))/\wr=ws)
 case atStart=>exact ⟨0,rfl,by omega,by omega,by simp [tH],rfl⟩
 case round =>
 obtain ⟨i,rfl,hi,hgi,rfl,rfl⟩:=hrel
 by_cases hlt:i<d.length
 ·have hltz:(i:Int)<(d.length:Int):=by omega
  have hiz:(0:Int)<=i:=by omega
  obtain ⟨b,off,rfl,hc⟩:=HKP.out i hlt;have c0:=(hc _ HBW.out).1;have HST:=hid (zGn hlt last)
  generalize tH last ((d.map Fx.fld).take i)=nx at HST ⊢
  generalize (d[i]).name=nm at c0 HST
  clear hc
  cases h1:ltB last nm with
  | false =>
   rw [h1] at HST;simp only [Bool.false_and,Bool.false_eq_true,if_false] at HST
   rcases qI nm last with h2|h2|h2
   ·have f1:=cT h2;clear h1 h2;go_wp2_with fail;go_roundg (d.length-(i+1))
    case measure=>omega
    case rel=>exact ⟨i+1,by go_num,by omega,by omega,by rw [HST.out],rfl⟩
   ·have f1:=zIN h2;have f0:Op.bytesLess nm.toList last.toList=false:=cT (by rw [h2];exact vP _);clear h1 h2;go_wp2_with fail;go_roundg (d.length-(i+1))
    case measure=>omega
    case rel=>exact ⟨i+1,by go_num,by omega,by omega,by rw [HST.out],rfl⟩
   ·rw [h1] at h2;cases h2
  | true =>
   have f0:=cT (pU h1);have f1:=zFG (Ne.symm (kX h1));rw [h1] at HST;simp only [Bool.true_and] at HST;clear h1
   by_cases h2:nx.size=0
   ·have f2:=zMA h2;rw [decide_eq_true h2] at HST;simp only [Bool.true_or,if_true] at HST;clear h2;go_wp2_with fail;go_roundg (d.length-(i+1))
    case measure=>omega
    case rel=>exact ⟨i+1,by go_num,by omega,by omega,by rw [HST.out],rfl⟩
   ·have f2:=gM h2;rw [decide_eq_false h2] at HST;simp only [Bool.false_or] at HST;clear h2
    cases h3:ltB nm nx with
    | true =>
     have f3:=cT h3;rw [h3,if_pos rfl] at HST;clear h3;go_wp2_with fail;go_roundg (d.length-(i+1))
     case measure=>omega
     case rel=>exact ⟨i+1,by go_num,by omega,by omega,by rw [HST.out],rfl⟩
    | false =>
     have f3:=cT h3;rw [h3,if_neg Bool.false_ne_true] at HST;clear h3;go_wp2_with fail;go_roundg (d.length-(i+1))
     case measure=>omega
     case rel=>exact ⟨i+1,by go_num,by omega,by omega,by rw [HST.out],rfl⟩
 have hltz2:¬ (i:Int)<(d.length:Int):=by omega
 rw [List.take_of_length_le (show (d.map Fx.fld).length<=i by simp;omega)];rw [HSN.out];clear hlt hi hgi HSN
 by_cases hkl:k<G.length
 ·rw [dif_pos hkl];have hsz0:=zIj HGR.out HNE.out hkl;have hgt:=HGR.out.texts _ (List.getElem_mem hkl);have HAN:=hid (zLC hkl);have HCS:=hid (fun h=>zLS hkl h);have HLS:=hid (zFv hkl);obtain ⟨⟨nm,gt⟩,hgk2⟩:∃g,G[k]=g:=⟨_,rfl⟩;rw [hgk2] at hsz0 hgt HAN HCS HLS;rw [hgk2];have hnz:=gM hsz0;have HGT:Hid (gt=vC (d.map Fx.fld) nm):=hgt;clear hsz0 hgt hgk2;show Code.wp _ _ _ _ _;simp only;obtain ⟨W0,rfl⟩:∃W0,W0=wr:=⟨_,rfl⟩;obtain ⟨N0,hN0⟩:∃n,W0.heap.size=n:=⟨_,rfl⟩;have HN0:=hid hN0;have IN0:Hid (yV N0 W0 (sc none 0 0) []/\Below N0 W0 W0):=⟨World.ownsRow_nil _ _ _ _,Below.refl _ _⟩
  have KPW:Hid (∀W,Below N0 W0 W->Below w.heap.size w W/\N0<=W.heap.size):=fun W h=>by
   rw [<-hN0] at h ⊢;exact ⟨HBW.out.trans (h.mono hszw),h.size⟩
  clear hN0;go_wp2_with fail
  go_loopg [11,12,13] d.length (fun g vl vn vi ws=>∃(i n:Nat) (ts:List ByteArray),vi=ii i/\vn=ii n/\i<=d.length/\d.length-i<=g/\Hid (yV N0 ws vl ts)/\Hid (ts=(vC ((d.map Fx.fld).take i) nm).take 9)/\Hid (n=(vC ((d.map Fx.fld).take i) nm).length)/\Hid (Below N0 W0 ws))
  case atStart=>exact ⟨0,0,[],rfl,rfl,by omega,by omega,IN0.out.1,(show Hid _ from by simp [Hid,vC]),(show Hid _ from by simp [Hid,vC]),IN0.out.2⟩
  case round =>
  clear IN0;obtain ⟨i,n,ts,rfl,rfl,hi,hgi,HOT,HTS,HN,HBS⟩:=hrel
  have hnn:n<=9000000000000:=by
   have h1:=HN.out;have h2:=zIs ((d.map Fx.fld).take i) nm;have h3:=zJ5 (d.map Fx.fld) i;have h4:=HTOT.out;omega
  by_cases hlt:i<d.length
  ·have hltz:(i:Int)<(d.length:Int):=by omega
   have hiz:(0:Int)<=i:=by omega
   obtain ⟨hbw,hN0w⟩:=KPW.out _ HBS.out;obtain ⟨b,off,rfl,hc⟩:=HKP.out i hlt;obtain ⟨c0,c1⟩:=hc _ hbw;have HKC:=hid hc;have HTX:=hid (zHc hlt nm);have hxt:=(HT.out _ (List.getElem_mem hlt)).kept hbw
   have hxl:(d[i]).txt.length<=9000000000000:=by
    have h1:=zBl (List.mem_map.2 ⟨_,List.getElem_mem hlt,rfl⟩:(d[i]).fld∈d.map Fx.fld);have h4:=HTOT.out;have:(d[i]).fld.2.length=(d[i]).txt.length:=rfl;omega
   have HXT0:=hid (HT.out _ (List.getElem_mem hlt));obtain ⟨x,hx⟩:∃x,d[i]=x:=⟨_,rfl⟩;rw [hx] at c0 c1 HTX hxt hxl HKC HXT0;obtain ⟨xn,xp,xc,xt⟩:=x;simp only at c0 c1 HTX hxl HKC;have HXT:=hid hxt;clear hc hx hxt hbw
   by_cases hnm:xn=nm
   ·have hq:=zIN hnm;rw [if_pos hnm] at HTX;have HN2:Hid (n+xt.length=(vC ((d.map Fx.fld).take (i+1)) nm).length):=by show _=_;rw [HTX.out,List.length_append,<-HN.out]
    obtain ⟨T0,hT0⟩:∃T,vC ((d.map Fx.fld).take i) nm=T:=⟨_,rfl⟩;rw [hT0] at HTX HTS;clear hnm hT0 HN
    by_cases hx0:xt.length=0
    ·have hx00:xt=[]:=List.length_eq_zero_iff.1 hx0;subst hx00;rw [List.append_nil] at HTX;have HT2:Hid (ts=(vC ((d.map Fx.fld).take (i+1)) nm).take 9):=by show _=_;rw [HTX.out];exact HTS.out
     clear hx0 HXT HXT0;go_wp2_with fail;refine wp_loop_rounds 1 ?_;rw [rounds_succ];go_wp2_with fail;go_roundg (d.length-(i+1))
     case measure=>omega
     case rel=>exact ⟨i+1,n,ts,by go_num,by first|rfl|go_num,by omega,by omega,HOT,HT2,HN2,HBS⟩
    ·obtain ⟨bt,ot,hpt,hct⟩:∃b off,xp=some (aa b off)/\∀i,(h:i<xt.length)->w.cell? (aa b (off+i))=some (tq xt[i]):=by
      rcases HXT0.out with h|h
      ·exact absurd (by rw [show xt=[] from h];rfl) hx0
      ·exact h
     subst hpt;have HCT:Hid (∀W,Below w.heap.size w W->∀i,(h:i<xt.length)->W.cell? (aa bt (ot+i))=some (tq xt[i])):=fun W hW i h=>(hW.cell (p:=(aa bt (ot+i))) (zJ (hct i h))).trans (hct i h)
     have HBS0:=HBS;have HOT0:=HOT;clear HXT HXT0 hct;go_wp2_with fail
     go_loopg [11,14] xt.length (fun g vl vj wt=>∃(j:Nat) (us:List ByteArray),vj=ii j/\j<=xt.length/\xt.length-j<=g/\Hid (yV N0 wt vl us)/\Hid (us=(T0++xt.take j).take 9)/\Hid (Below N0 W0 wt))
     case atStart=>exact ⟨0,ts,rfl,by omega,by omega,HOT0,(show Hid _ from by show _=_;rw [List.take_zero,List.append_nil];exact HTS.out),HBS0⟩
     case round =>
     clear HOT0 HBS0 HOT HTS HBS c0 c1 hN0w;obtain ⟨j,us,rfl,hj,hgj,HOU,HUS,HBU⟩:=hrel;obtain ⟨hbw,hN0w⟩:=KPW.out _ HBU.out;have c1:=(HKC.out _ hbw).2;obtain ⟨pu,cu,rfl⟩:=tF HOU.out
     have hu9:us.length<=9:=by
      have:=congrArg List.length HUS.out;rw [List.length_take] at this;omega
     by_cases hjl:j<xt.length
     ·have hjz:(j:Int)<(xt.length:Int):=by omega
      have hjd:decide ((j:Int)<(xt.length:Int))=true:=decide_eq_true hjz;have hj0:(0:Int)<=(j:Int):=by omega
      by_cases h9:us.length<9
      ·have h9z:(us.length:Int)<9:=by omega
       have h9d:decide ((us.length:Int)<9)=true:=decide_eq_true h9z;have ct:=HCT.out _ hbw j hjl
       have hus:us++[xt[j]]=(T0++xt.take (j+1)).take 9:=by
        have h1:=HUS.out
        have h2:(T0++xt.take j).length<9:=by
         have:=congrArg List.length h1;rw [List.length_take] at this;omega
        rw [List.take_of_length_le (by omega)] at h1;rw [List.take_succ_eq_append_getElem hjl,<-List.append_assoc,<-h1,List.take_of_length_le (by rw [List.length_append,List.length_singleton];omega)]
       obtain ⟨t,htt⟩:∃t,xt[j]=t:=⟨_,rfl⟩;rw [htt] at ct hus;have HUN:=hid hus;clear htt hus HUS hbw;go_wp2_with (first|(at_builtin;refine wpList_append_own _ rfl _ _ 43 rfl N0 9 i0 (tq ⟨#[]⟩) 1 16 Tryz.underlying43 HI.out hz0 hz1 hz2 rfl (by decide) _ _ _ rfl (World.ownsRow.alloc HOU.out _) (aa wr.heap.size 0) 1 1 [tq t] rfl rfl ?c1 ?c2 ?c3 ?c4 ?c5 ?_))
       case c1 =>
        intro m u hm
        match m,hm with
        | 0,hm=>simp at hm;subst hm;simp [Addr.add]
       case c2=>intro u hu;simp at hu;subst hu;rfl
       case c3=>unfold maxLen;omega
       case c4=>omega
       case c5=>simp;omega
       intro v4 w4 hown4 hg4 _
       have HO4:Hid (yV N0 w4 v4 (us++[t])):=by
        show yV N0 w4 v4 (us++[t])
        unfold yV;simp only [List.length_append,List.length_cons,List.length_nil,List.map_append,List.map_cons,List.map_nil];exact hown4
       have HB4:Hid (Below N0 W0 w4):=(HBU.out.alloc hN0w _).grown hg4 (by simp;omega) (fun q hq=>(World.ownsRow.lt HOU.out q hq).1);clear hown4 hg4;go_wp2_with fail;go_roundg (xt.length-(j+1))
       case measure=>omega
       case rel=>exact ⟨j+1,us++[t],by go_num,by omega,by omega,HO4,HUN,HB4⟩
      ·have h9z:¬ (us.length:Int)<9:=by omega
       have h9d:decide ((us.length:Int)<9)=false:=decide_eq_false h9z
       have HU2:Hid (us=(vC ((d.map Fx.fld).take (i+1)) nm).take 9):=by
        show _=_
        rw [HTX.out]
        conv=>rhs;rw [<-List.take_append_drop j xt]
        rw [zG7]
        ·exact HUS.out
        ·have:=congrArg List.length HUS.out;rw [List.length_take] at this;omega
       clear HUS hbw;go_wp2_with fail;go_roundg (d.length-(i+1))
       case measure=>omega
       case rel=>exact ⟨i+1,n+xt.length,us,by go_num,by first|rfl|go_num,by omega,by omega,HOU,HU2,HN2,HBU⟩
     ·have hjz:¬ (j:Int)<(xt.length:Int):=by omega
      have hjd:decide ((j:Int)<(xt.length:Int))=false:=decide_eq_false hjz
      have HU2:Hid (us=(vC ((d.map Fx.fld).take (i+1)) nm).take 9):=by
       show _=_
       rw [HTX.out,HUS.out,List.take_of_length_le (show xt.length<=j by omega)]
      clear HUS hbw;go_wp2_with fail;go_roundg (d.length-(i+1))
      case measure=>omega
      case rel=>exact ⟨i+1,n+xt.length,us,by go_num,by first|rfl|go_num,by omega,by omega,HOU,HU2,HN2,HBU⟩
   ·have hq:=zFG hnm;rw [if_neg hnm,List.append_nil] at HTX;rw [<-HTX.out] at HTS HN;clear hnm HTX HXT HXT0;go_wp2_with fail;go_roundg (d.length-(i+1))
    case measure=>omega
    case rel=>exact ⟨i+1,n,ts,by go_num,rfl,by omega,by omega,HOT,HTS,HN,HBS⟩
  have hltz:¬ (i:Int)<(d.length:Int):=by omega
  rw [List.take_of_length_le (show (d.map Fx.fld).length<=i by simp;omega),<-HGT.out] at HTS HN;obtain ⟨hbw,hN0w⟩:=KPW.out _ HBS.out;have HXS:Hid (vQ w.heap.size wr u5 dr):=HOX.out.on (by rw [HN0.out];exact HBS.out);obtain ⟨pl,cl,rfl⟩:=tF HOT.out;obtain ⟨pr,cr,rfl,_⟩:=HXS.out.is
  have hdl1:dr.length<=k:=by
   have:=congrArg List.length HDM.out;rw [List.length_map,List.length_map,List.length_take] at this;omega
  have hdl2:dr.length<=17:=by
   have:=congrArg List.length HDM.out;rw [List.length_map,List.length_map,List.length_take] at this;omega
  have hdl3:k<=dr.length∨17<=dr.length:=by
   have:=congrArg List.length HDM.out;rw [List.length_map,List.length_map,List.length_take] at this;omega
  have hwN:w.heap.size<=N0:=by rw [<-HN0.out];exact hszw
  have HBX:=hid hbw;have hszx:=hbw.size;clear hlt hi hgi hbw hltz2;go_upto_region 27 with fail
  go_cut [6] from 108 to 112 (fun vb wx=>wr=wx/\vb=.bool ((G.take (k+1)).any wZ))
  case first =>
   cases B6 with
   | true =>
    go_wp2_with fail
    go_meet
    case rel=>exact ⟨rfl,by rw [HAN.out,HB6.out];rfl⟩
   | false =>
    by_cases hn0:n=0
    ·have hnz2:((n:Int)==0)=true:=beq_iff_eq.2 (by omega)
     have HG0:Hid (gt.isEmpty=true):=by
      show _=_
      have:=HN.out;rw [hn0] at this;rw [List.length_eq_zero_iff.1 this.symm];rfl
     clear hn0;go_wp2_with fail;go_meet
     case rel=>exact ⟨rfl,by rw [HAN.out,HB6.out];simp only [wZ];rw [HG0.out];rfl⟩
    ·have hnz2:((n:Int)==0)=false:=beq_eq_false_iff_ne.2 (by omega)
     have HG0:Hid (gt.isEmpty=false):=by
      show _=_
      have:=HN.out
      cases hg:gt with
      | nil=>rw [hg] at this;exact absurd this hn0
      | cons _ _=>rfl
     clear hn0;go_wp2_with fail;go_meet
     case rel=>exact ⟨rfl,by rw [HAN.out,HB6.out];simp only [wZ];rw [HG0.out];rfl⟩
  case rest =>
  obtain ⟨rfl,rfl⟩:=hcut;obtain ⟨B7,hB7⟩:∃B,(G.take (k+1)).any wZ=B:=⟨_,rfl⟩;rw [hB7];have HB7:=hid hB7;clear hB7
  have HX9:Hid (∀v5 w5,w5.ownsRow w.heap.size 45 2 v5 (dr.length+1) (yN dr++yN [⟨nm,pl,cl,ts⟩])->(wr.alloc (.cells #[tq nm,sc pl ts.length cl] 45)).grownBy w5 (Value.slice pr dr.length cr).ownBlock->k<17->zMr w G (k+1) v5 w5):=fun v5 w5 hown5 hg5 hk17=>by
   have hal:Below wr.heap.size wr (wr.alloc (.cells #[tq nm,sc pl ts.length cl] 45)):=(Below.refl _ _).alloc (Nat.le_refl _) _;have hox5:=(HXS.out.on hal).put (x:=⟨nm,pl,cl,ts⟩) (own_weak (yV.on HOT.out hal) hwN) hown5 hg5;refine ⟨_,hox5,?_,(HBX.out.alloc hszx _).grown hg5 (by simp;omega) (fun q hq=>(World.ownsRow.lt HXS.out.1 q hq).1)⟩;rw [HCS.out hk17,List.map_append,HDM.out];simp only [List.map_cons,List.map_nil,Fx.fld,dL];rw [HTS.out]
  by_cases hk16:k<16
  ·have g1:decide (16<k)=false:=decide_eq_false (by omega);have g2:((dr.length:Int)==16)=false:=beq_eq_false_iff_ne.2 (by omega);have g3:(dr.length:Int)<17:=by omega
   have g4:decide (16<k+1)=false:=decide_eq_false (by omega);go_wp2_with (first|(at_builtin;refine wpList_append_own _ rfl _ _ 37 rfl w.heap.size 45 j0 (.agg #[tq ⟨#[]⟩,sc none 0 0]) 2 40 Tryz.underlying37 HJ.out hy0 hy1 hy2 rfl (by decide) _ _ _ rfl (World.ownsRow.alloc HXS.out.1 _) (aa wr.heap.size 0) 1 1 (yN [⟨nm,pl,cl,ts⟩]) rfl rfl (zBe wr ⟨nm,pl,cl,ts⟩) (tS _) ?c3 ?c4 ?c5 ?_))
   case c3=>unfold maxLen;omega
   case c4=>omega
   case c5=>first|omega|(simp;omega)
   intro v5 w5 hown5 hg5 _;have HST:=hid (HX9.out v5 w5 hown5 hg5 (by omega));clear hown5 hg5;go_wp2_with fail;go_roundg (G.length-(k+1))
   case measure=>omega
   case rel=>exact ⟨k+1,by omega,by omega,by rw [HB7.out],by rw [g4],by rw [HLS.out],HST.out⟩
  ·by_cases hk17:k=16
   ·have g1:decide (16<k)=false:=decide_eq_false (by omega);have g2:((dr.length:Int)==16)=true:=beq_iff_eq.2 (by omega);have g3:(dr.length:Int)<17:=by omega
    have g4:decide (16<k+1)=true:=decide_eq_true (by omega);clear hk16;have hk17':k<17:=by omega
    clear hk17;go_wp2_with (first|(at_builtin;refine wpList_append_own _ rfl _ _ 37 rfl w.heap.size 45 j0 (.agg #[tq ⟨#[]⟩,sc none 0 0]) 2 40 Tryz.underlying37 HJ.out hy0 hy1 hy2 rfl (by decide) _ _ _ rfl (World.ownsRow.alloc HXS.out.1 _) (aa wr.heap.size 0) 1 1 (yN [⟨nm,pl,cl,ts⟩]) rfl rfl (zBe wr ⟨nm,pl,cl,ts⟩) (tS _) ?c3 ?c4 ?c5 ?_))
    case c3=>unfold maxLen;omega
    case c4=>omega
    case c5=>first|omega|(simp;omega)
    intro v5 w5 hown5 hg5 _;have HST:=hid (HX9.out v5 w5 hown5 hg5 hk17');clear hown5 hg5;go_wp2_with fail;go_roundg (G.length-(k+1))
    case measure=>omega
    case rel=>exact ⟨k+1,by omega,by omega,by rw [HB7.out],by rw [g4],by rw [HLS.out],HST.out⟩
   ·have g1:decide (16<k)=true:=decide_eq_true (by omega);have g3:¬ (dr.length:Int)<17:=by omega
    have g4:decide (16<k+1)=true:=decide_eq_true (by omega);have HST:Hid (zMr w G (k+1) (sc pr dr.length cr) wr):=⟨dr,HXS.out,by rw [HDM.out,Nat.min_eq_right (show 17<=k by omega),Nat.min_eq_right (show 17<=k+1 by omega)],HBX.out⟩;go_wp2_with fail;go_roundg (G.length-(k+1))
    case measure=>omega
    case rel=>exact ⟨k+1,by omega,by omega,by rw [HB7.out],by rw [g4],by rw [HLS.out],HST.out⟩
 ·rw [dif_neg hkl];obtain rfl:k=G.length:=by omega
  rw [List.take_length] at HB6
  have hmm:xU (dr.map Fx.fld)=xU G∨16<G.length:=by
   by_cases h:16<G.length
   ·exact Or.inr h
   ·left;rw [HDM.out,Nat.min_eq_left (by omega),List.take_length,zMn]
  have HMM:=hid hmm;have hfit:=zN8 HF.out (by rw [HGE.out];exact HDM.out);have HMY:=hid (zB9 u5 dr wr HOX.out.is hfit);clear hmm hfit
  cases B6 with
  | true =>
   go_wp2_with fail
   go_ret2
   exact ⟨Or.inr ⟨HMIS.out,Or.inl ⟨by rw [HGE.out];exact HB6.out,rfl⟩⟩,HBW.out⟩
  | false =>
   by_cases h16:16<G.length
   ·have g1:decide (16<G.length)=true:=decide_eq_true h16;go_wp2_with fail
    go_ret2
    exact ⟨Or.inr ⟨HMIS.out,Or.inr (Or.inl ⟨by rw [HGE.out];exact HB6.out,by rw [HGE.out];exact zBG h16,rfl⟩)⟩,HBW.out⟩
   ·have g1:decide (16<G.length)=false:=decide_eq_false h16;have HME:Hid (xU (dr.map Fx.fld)=xU G):=HMM.out.resolve_right h16;rw [HME.out] at HMY
    cases hm:xU G with
    | false =>
     rw [hm] at HMY;go_wp2_with (first|(go_at_call 84;refine HMY.out.mono ?_;rintro e w2 ⟨rfl,hg2⟩))
     go_ret2
     exact ⟨Or.inr ⟨HMIS.out,Or.inr (Or.inl ⟨by rw [HGE.out];exact HB6.out,by rw [HGE.out];exact hm,rfl⟩)⟩,HBW.out.trans (hg2.below.mono hszw)⟩
    | true =>
     rw [hm] at HMY;go_wp2_with (first|(go_at_call 84;refine HMY.out.mono ?_;rintro e w2 ⟨rfl,hg2⟩))
     go_ret2
     refine ⟨Or.inr ⟨HMIS.out,Or.inr (Or.inr ⟨by rw [HGE.out];exact HB6.out,by rw [HGE.out];exact hm,u5,dr,rfl,HOX.out.on hg2.below,?_⟩)⟩,HBW.out.trans (hg2.below.mono hszw)⟩;rw [HGE.out,HDM.out,Nat.min_eq_left (by omega),List.take_length];exact zIP fun f hf=>(xO (wE hm f hf)).2.2.1
end
section
open Go.RowKit
theorem zLm {s t:ByteArray} (h:¬ s=t):(s.toList==t.toList)=false:=by
 rw [Lib.toList_data,Lib.toList_data,beq_eq_false_iff_ne];intro e;apply h;obtain ⟨⟨s⟩⟩:=s;obtain ⟨⟨t⟩⟩:=t;simp at e;rw [e]
theorem zJz (p q:Option Addr) (cap cap':Nat) (ts us:List ByteArray) (w:World) (h1:wJ w p ts) (h2:wJ w q us) (hl1:ts.length<=maxLen) :
  Calls Tryz.prog 45 #[.slice p ts.length cap,.slice q us.length cap'] w fun e w'=>e=.returned (.bool (decide (ts=us)))/\∃n,w'=w.drewN n:=by
 unfold maxLen at hl1;obtain ⟨r,hr⟩:∃r,decide (ts=us)=r:=⟨_,rfl⟩;rw [hr];have HR:=hid hr;have H1:=hid h1;have H2:=hid h2;clear hr h1 h2
 by_cases hl:ts.length=us.length
 ·have hb:((ts.length:Int) != (us.length:Int))=false:=by simp [hl]
  have HL:=hid hl;clear hl;go_enter Tryz.func45,Tryz.ntmps45;go_wp2_with fail
  go_loopg [5] ts.length (fun g vi wr=>∃i m:Nat,vi=ii i/\i<=ts.length/\ts.length-i<=g/\wr=w.drewN m/\Hid (∀j,j<i->ts[j]? = us[j]?))
  case atStart=>exact ⟨0,0,rfl,by omega,by omega,rfl,fun j h=>by omega⟩
  case round =>
   obtain ⟨i,m,rfl,hi,hg,rfl,HJ⟩:=hrel
   by_cases hlt:i<ts.length
   ·have hlt2:i<us.length:=by rw [<-HL.out];exact hlt
    have i1:(0:Int)<=↑i:=by omega
    have i2:(↑i:Int) < ↑ts.length:=by omega
    have i3:(↑i:Int) < ↑us.length:=by omega
    rcases H1.out with hn|⟨b1,o1,rfl,k1⟩
    ·rw [hn] at hlt;simp at hlt
    rcases H2.out with hn|⟨b2,o2,rfl,k2⟩
    ·rw [hn] at hlt2;simp at hlt2
    have e1:=k1 i hlt;have e2:=k2 i hlt2;have g1:ts[i]? = some ts[i]:=List.getElem?_eq_getElem hlt;have g2:us[i]? = some us[i]:=List.getElem?_eq_getElem hlt2;clear k1 k2;obtain ⟨s,hs⟩:∃s,ts[i]=s:=⟨_,rfl⟩;obtain ⟨t,ht⟩:∃t,us[i]=t:=⟨_,rfl⟩;rw [hs] at e1 g1;rw [ht] at e2 g2;have G1:=hid g1;have G2:=hid g2;clear hs ht g1 g2
    by_cases hst:s=t
    ·subst hst;go_wp2_with fail
     go_quiet (fail)
     go_wp2_with fail
     go_roundg (ts.length-(i+1))
     case measure=>omega
     refine ⟨i+1,_,by go_num,by omega,by omega,rfl,fun j hj=>?_⟩
     by_cases e:j=i
     ·subst e;rw [G1.out,G2.out]
     ·exact HJ.out j (by omega)
    ·have hne:=zLm hst
     have H0:Hid (r=false):=HR.out.symm.trans (decide_eq_false fun e=>hst (by
      have:=G1.out;rw [e,G2.out] at this;exact (Option.some.inj this).symm))
     go_wp2_with fail
     go_quiet (fail)
     go_wp2_with fail
     go_ret;exact ⟨zA H0.out.symm,_,by rw [World.drewN_drewN]⟩
   ·have hltz:¬ (i:Int)<(ts.length:Int):=by omega
    have H0:Hid (r=true):=HR.out.symm.trans (decide_eq_true (List.ext_getElem? fun j=>by
     by_cases hj:j<ts.length
     ·exact HJ.out j (by omega)
     ·rw [List.getElem?_eq_none (by omega),List.getElem?_eq_none (by have:=HL.out;omega)]))
    go_wp2_with fail
    go_ret;exact ⟨zA H0.out.symm,_,rfl⟩
 ·have hb:((ts.length:Int) != (us.length:Int))=true:=by simp;omega
  have H0:Hid (r=false):=HR.out.symm.trans (decide_eq_false fun e=>hl (by rw [e]));go_enter Tryz.func45,Tryz.ntmps45;go_wp2_with fail;go_ret;exact ⟨zA H0.out.symm,0,rfl⟩
theorem zKB (v u:Value) (d e:List Fx) (w:World) (hv:qZ w v d) (hu:qZ w u e) (hf:sD d) (hg:sD e) :
  Calls Tryz.prog 21 #[v,u] w fun r w'=>r=.returned (.bool (decide (d.map Fx.fld=e.map Fx.fld)))/\∃n,w'=w.drewN n:=by
 obtain ⟨p,cap,rfl,hd,ht⟩:=hv;obtain ⟨q,cap',rfl,he,ht'⟩:=hu;have hl1:=hf.1;have hl2:=hg.1;unfold maxLen at hl1 hl2;have HF:=hid hf.2;have HG:=hid hg.2;have HD:=hid hd;have HE:=hid he;have HT:=hid ht;have HT':=hid ht';obtain ⟨r,hr⟩:∃r,decide (d.map Fx.fld=e.map Fx.fld)=r:=⟨_,rfl⟩;rw [hr];have HR:=hid hr;clear hr hd he ht ht' hf hg
 by_cases hl:d.length=e.length
 ·have hb:((d.length:Int) != (e.length:Int))=false:=by simp [hl]
  have HL:=hid hl;clear hl;go_enter Tryz.func21,Tryz.ntmps21;go_wp2_with fail
  go_loopg [5] d.length (fun g vi wr=>∃i m:Nat,vi=ii i/\i<=d.length/\d.length-i<=g/\wr=w.drewN m/\Hid (∀j,j<i->(d.map Fx.fld)[j]? = (e.map Fx.fld)[j]?))
  case atStart=>exact ⟨0,0,rfl,by omega,by omega,rfl,fun j h=>by omega⟩
  case round =>
   obtain ⟨i,m,rfl,hi,hgk,rfl,HJ⟩:=hrel
   by_cases hlt:i<d.length
   ·have hlt2:i<e.length:=by rw [<-HL.out];exact hlt
    have i1:(0:Int)<=↑i:=by omega
    have i2:(↑i:Int) < ↑d.length:=by omega
    have i3:(↑i:Int) < ↑e.length:=by omega
    rcases HD.out with hn|⟨b1,o1,rfl,k1⟩
    ·rw [hn] at hlt;simp at hlt
    rcases HE.out with hn|⟨b2,o2,rfl,k2⟩
    ·rw [hn] at hlt2;simp at hlt2
    obtain ⟨x0,x1⟩:=k1 i hlt;obtain ⟨y0,y1⟩:=k2 i hlt2;have g1:(d.map Fx.fld)[i]? = some (d[i]).fld:=by rw [List.getElem?_map,List.getElem?_eq_getElem hlt];rfl
    have g2:(e.map Fx.fld)[i]? = some (e[i]).fld:=by rw [List.getElem?_map,List.getElem?_eq_getElem hlt2];rfl
    have fx:=HF.out _ (List.getElem_mem hlt);have fy:=HG.out _ (List.getElem_mem hlt2);have tx:=HT.out _ (List.getElem_mem hlt);have ty:=HT'.out _ (List.getElem_mem hlt2);clear k1 k2;obtain ⟨x,hx⟩:∃x,d[i]=x:=⟨_,rfl⟩;obtain ⟨y,hy⟩:∃y,e[i]=y:=⟨_,rfl⟩;rw [hx] at x0 x1 g1 fx tx;rw [hy] at y0 y1 g2 fy ty;unfold Fx.sl at x1 y1;have G1:=hid g1;have G2:=hid g2;obtain ⟨W,hW⟩:∃W,w.drewN m=W:=⟨_,rfl⟩
    have HC:Hid (∀n,Calls Tryz.prog 45 #[sc x.p x.txt.length x.cap,sc y.p y.txt.length y.cap] (W.drewN n) fun r w'=>r=.returned (.bool (decide (x.txt=y.txt)))/\∃k,w'=(W.drewN n).drewN k):=fun n=>by
     subst hW;exact zJz _ _ _ _ _ _ _ tx ty fx.2.1
    replace x0:W.cell? (aa b1 (o1+i * 2))=some (tq x.name):=by subst hW;exact x0
    replace x1:W.cell? (aa b1 (o1+i * 2+1))=some (sc x.p x.txt.length x.cap):=by subst hW;exact x1
    replace y0:W.cell? (aa b2 (o2+i * 2))=some (tq y.name):=by subst hW;exact y0
    replace y1:W.cell? (aa b2 (o2+i * 2+1))=some (sc y.p y.txt.length y.cap):=by subst hW;exact y1
    have HW:=hid hW;rw [hW];have mixed:=Tryz.mixed;clear hx hy g1 g2 fx fy tx ty hW
    by_cases hst:x.name=y.name
    ·obtain ⟨nm,hnm⟩:∃nm,y.name=nm:=⟨_,rfl⟩;rw [hst,hnm] at x0;rw [hnm] at y0;have HN:Hid (x.name=nm/\y.name=nm):=⟨hst.trans hnm,hnm⟩;clear hst hnm
     by_cases hts:x.txt=y.txt
     ·have hd:=decide_eq_true hts;have HTS:=hid hts;rw [hd] at HC;clear hd hts;go_wp2_with fail;refine wp_region_quiet_lit mixed (by kernel_rfl) ?_
      repeat (go_big_quiet_step (first|(go_at_call 45;refine Calls.quiet_of (HC.out _))))
      refine wpQuiet_nil ?_;intro _ hw';obtain ⟨nq,hw''⟩:=hw';subst hw'';go_wp2_with fail;go_roundg (d.length-(i+1))
      case measure=>omega
      refine ⟨i+1,m+nq,by go_num,by omega,by omega,by rw [<-HW.out,World.drewN_drewN],fun j hj=>?_⟩
      by_cases ej:j=i
      ·subst ej;rw [G1.out,G2.out];unfold Fx.fld;rw [HN.out.1,HN.out.2,HTS.out]
      ·exact HJ.out j (by omega)
     ·have hd:=decide_eq_false hts;rw [hd] at HC
      have H0:Hid (r=false):=HR.out.symm.trans (decide_eq_false fun ee=>hts (by
       have:=G1.out;rw [ee,G2.out] at this;have:=congrArg Prod.snd (Option.some.inj this);exact this.symm))
      clear hd hts;go_wp2_with fail;refine wp_region_quiet_lit mixed (by kernel_rfl) ?_
      repeat (go_big_quiet_step (first|(go_at_call 45;refine Calls.quiet_of (HC.out _))))
      refine wpQuiet_nil ?_;intro _ hw';obtain ⟨nq,hw''⟩:=hw';subst hw'';go_wp2_with fail;go_ret;exact ⟨zA H0.out.symm,m+nq,by rw [<-HW.out,World.drewN_drewN]⟩
    ·have hne:=zLm hst
     have H0:Hid (r=false):=HR.out.symm.trans (decide_eq_false fun ee=>hst (by
      have:=G1.out;rw [ee,G2.out] at this;have:=congrArg Prod.fst (Option.some.inj this);exact this.symm))
     go_wp2_with fail
     refine wp_region_quiet_lit mixed (by kernel_rfl) ?_
     repeat (go_big_quiet_step (first|(go_at_call 45;refine Calls.quiet_of (HC.out _))))
     refine wpQuiet_nil ?_;intro _ hw';obtain ⟨nq,hw''⟩:=hw';subst hw'';go_wp2_with fail;go_ret;exact ⟨zA H0.out.symm,m+nq,by rw [<-HW.out,World.drewN_drewN]⟩
   ·have hltz:¬ (i:Int)<(d.length:Int):=by omega
    have H0:Hid (r=true):=HR.out.symm.trans (decide_eq_true (List.ext_getElem? fun j=>by
     by_cases hj:j<d.length
     ·exact HJ.out j (by omega)
     ·rw [List.getElem?_eq_none (by simp;omega),List.getElem?_eq_none (by have:=HL.out;simp;omega)]))
    go_wp2_with fail
    go_ret;exact ⟨zA H0.out.symm,_,rfl⟩
 ·have hb:((d.length:Int) != (e.length:Int))=true:=by simp;omega
  have H0:Hid (r=false):=HR.out.symm.trans (decide_eq_false fun ee=>hl (by have:=congrArg List.length ee;simpa using this));go_enter Tryz.func21,Tryz.ntmps21;go_wp2_with fail;go_ret;exact ⟨zA H0.out.symm,0,rfl⟩
end
section
open Go.RowKit Go.Lib
def tM (fs:List Fld):Int:=if fs.any nQ then 2 else if (vH fs).any wZ then 3 else if xU (vH fs) then 0 else 5
def dK (fs:List Fld):List Fld:=if tM fs=0 then vH fs else []
theorem zCI {fs:List Fld} (h:tM fs=0):fs.any nQ=false/\(vH fs).any wZ=false/\xU (vH fs)=true:=by
 unfold tM at h
 cases h1:fs.any nQ with
 | true=>rw [h1] at h;simp at h
 | false =>
  cases h2:(vH fs).any wZ with
  | true=>rw [h1,h2] at h;simp at h
  | false =>
   cases h3:xU (vH fs) with
   | true=>exact ⟨rfl,rfl,rfl⟩
   | false=>rw [h1,h2,h3] at h;simp at h
theorem zMz {d:List Fx} {fs:List Fld} (hmay:xU fs=true) (hm:d.map Fx.fld=fs):sD d:=by
 have hl:=(qC hmay).1;refine ⟨?_,fun x hx=>?_⟩
 ·rw [<-hm,List.length_map] at hl;unfold maxLen;omega
 ·have hx':x.fld∈fs:=by rw [<-hm];exact List.mem_map.2 ⟨x,hx,rfl⟩
  obtain ⟨h1,_,h3,h4,_⟩:=xO (wE hmay _ hx');refine ⟨?_,?_,fun t ht=>?_⟩
  ·unfold maxLen;omega
  ·unfold maxLen;omega
  ·have:=h4 t ht;unfold maxLen;omega
theorem zIO {d:List Fx} {fs:List Fld} (hm:d.map Fx.fld=dK fs):sD d:=by
 unfold dK at hm
 split at hm
 ·rename_i h
  exact zMz (zCI h).2.2 hm
 ·rw [List.map_eq_nil_iff] at hm;subst hm;exact ⟨by unfold maxLen;simp,fun x hx=>by simp at hx⟩
def zO0 (w:World) (fs:List Fld) (e:Ending) (w':World):Prop :=
 (∃u o,e=.returned (.tuple #[u,.int .i64 (tM fs)])/\vQ w.heap.size w' u o/\o.map Fx.fld=dK fs)/\Below w.heap.size w w'
theorem jB (N:Nat) (w:World):vQ N w (.slice none 0 0) []:=⟨World.ownsRow_nil _ _ _ _,fun x hx=>by simp at hx⟩
theorem zF6 {N : Nat} {fs : List Fld} {e : Ending} {w' : World}
    (h : (fs.any nQ = true /\ e = .returned (.tuple #[.slice none 0 0, .int .i64 2])) ∨
    (fs.any nQ = false /\
     (((vH fs).any wZ = true /\ e = .returned (.tuple #[.slice none 0 0, .int .i64 3])) ∨
      ((vH fs).any wZ = false /\ xU (vH fs) = false /\ e = .returned (.tuple #[.slice none 0 0, .int .i64 5])) ∨
      ((vH fs).any wZ = false /\ xU (vH fs) = true /\ ∃ u o, e = .returned (.tuple #[u, .int .i64 0]) /\ vQ N w' u o /\ o.map Fx.fld = vH fs)))) :
    ∃ u o, e = .returned (.tuple #[u, .int .i64 (tM fs)]) /\ vQ N w' u o /\ o.map Fx.fld = dK fs := by
  rcases h with ⟨h1, rfl⟩ | ⟨h1, ⟨h2, rfl⟩ | ⟨h2, h3, rfl⟩ | ⟨h2, h3, u, o, rfl, ho, hm⟩⟩
  · have hc : tM fs = 2 := by unfold tM; rw [h1]; rfl
    exact ⟨_, [], by rw [hc], jB _ _, by unfold dK; rw [hc]; rfl⟩
  · have hc : tM fs = 3 := by unfold tM; rw [h1, h2]; rfl
    exact ⟨_, [], by rw [hc], jB _ _, by unfold dK; rw [hc]; rfl⟩
  · have hc : tM fs = 5 := by unfold tM; rw [h1, h2, h3]; rfl
    exact ⟨_, [], by rw [hc], jB _ _, by unfold dK; rw [hc]; rfl⟩
  · have hc : tM fs = 0 := by unfold tM; rw [h1, h2, h3]; rfl
    exact ⟨u, o, by rw [hc], ho, by unfold dK; rw [hc]; exact hm⟩
theorem zEm (v:Value) (d:List Fx) (w:World) (hv:qZ w v d) (hf:sD d) (hl:d.length * 40<=140737488355328) (htot:vN (d.map Fx.fld) * 16<=140737488355328) :
  Calls Tryz.prog 122 #[v] w fun e w'=>zO0 w (d.map Fx.fld) e w' :=
 (zJP v d w hv hf hl htot).mono fun _ _ h=>⟨zF6 h.1,h.2⟩
end
section
open Go.RowKit
theorem zD1 (n:Int) (w:World):Calls Tryz.prog 176 #[.int .u8 n] w fun e w'=>e=.returned (.bool (idB n))/\w'=w:=by
 go_enter Tryz.func176,Tryz.ntmps176
 go_wp2
 all_goals go_ret
 all_goals refine ⟨zA ?_,rfl⟩
 all_goals (rw [Bool.eq_iff_iff];simp_all [idB,yL,zIv,wV,uI,yW];try omega)
theorem zEC (s:ByteArray) (w:World) (hs:s.size<=maxLen) :
  Calls Tryz.prog 109 #[.string s,.func (.func 112) #[] #[],.func (.func 113) #[] #[]] w fun e w'=>e=.returned (.bool (xM s.data.toList))/\w'=w:=by
 unfold maxLen at hs
 by_cases he:s.size=0
 ·have hb:=vX uI wV s he;have hlt:(s.size:Int)<1:=by omega
  have HB:Hid (xD uI wV s.data.toList=false):=hb;clear he hb;go_enter Tryz.func109,Tryz.ntmps109;go_wp2_with fail;go_ret;exact ⟨zA HB.out.symm,rfl⟩
 have hpos:0<s.size:=by omega
 have hnl:¬ (s.size:Int)<1:=by omega
 by_cases hl:32<s.size
 ·have hb:=tA uI wV s hl;have HB:Hid (xD uI wV s.data.toList=false):=hb;have hgt:(32:Int)<(s.size:Int):=by omega
  clear he hb;go_enter Tryz.func109,Tryz.ntmps109;go_wp2_with fail;go_ret;exact ⟨zA HB.out.symm,rfl⟩
 have hle:¬ (32:Int)<(s.size:Int):=by omega
 clear he
 cases hc:uI (s[0].toNat:Int) with
 | false =>
  have HB:Hid (xD uI wV s.data.toList=false):=vW uI wV s hpos hc;go_enter Tryz.func109,Tryz.ntmps109;go_wp2_with (go_at_call 112;refine (zHw _ _).mono ?_;rintro e w' ⟨rfl,rfl⟩);go_ret;exact ⟨zA HB.out.symm,rfl⟩
 | true =>
  have HT:Hid ((∀k,1<=k->(hk:k<s.size)->wV (s[k].toNat:Int)=true)->xD uI wV s.data.toList=true):=uU uI wV s hpos (by omega) hc;have HA:Hid (∀k,1<=k->(hk:k<s.size)->wV (s[k].toNat:Int)=false->xD uI wV s.data.toList=false):=fun k h1 hk=>qS uI wV s k h1 hk
  go_enter Tryz.func109,Tryz.ntmps109
  go_wp2_with (go_at_call 112;refine (zHw _ _).mono ?_;rintro e w' ⟨rfl,rfl⟩)
  go_loop [7] (fun i=>∃k:Nat,1<=k/\k<=s.size/\i=ii k/\(∀j,1<=j->j<k->(hj:j<s.size)->wV (s[j].toNat:Int)=true)) (fun i=>s.size-(intOf i).toNat)
  case atStart=>exact ⟨1,by omega,by omega,rfl,fun j h1 h2=>by omega⟩
  case round =>
   obtain ⟨k,hk1,hk,rfl,hall⟩:=hrel;have HL:Hid (∀j,1<=j->j<k->(hj:j<s.size)->wV (s[j].toNat:Int)=true):=hall;clear hall
   by_cases hlt:k<s.size
   ·cases hd:wV (s[k].toNat:Int) with
    | false =>
     go_wp2_with (go_at_call 113;refine (zCE _ _).mono ?_;rintro e w' ⟨rfl,rfl⟩)
     go_ret;exact ⟨zA (HA.out k hk1 hlt hd).symm,rfl⟩
    | true =>
     go_wp2_with (go_at_call 113;refine (zCE _ _).mono ?_;rintro e w' ⟨rfl,rfl⟩)
     go_round
     case rel =>
      refine ⟨k+1,by omega,by omega,by go_num,fun j h1 h2 hj=>?_⟩
      by_cases hjk:j=k
      ·subst hjk;exact hd
      ·exact HL.out j h1 (by omega) hj
     case measure=>simp [intOf];omega
   ·go_wp2_with fail
    go_ret;exact ⟨zA (HT.out fun j h1 hj=>HL.out j h1 (by omega) hj).symm,rfl⟩
theorem gC (s:ByteArray) (w:World) (hs:s.size<=maxLen) :
  Calls Tryz.prog 70 #[.string s] w fun e w'=>e=.returned (.bool (xM s.data.toList))/\w'=w:=by
 go_enter Tryz.func70,Tryz.ntmps70
 go_wp2_with (go_at_call 109;refine (zEC _ _ hs).mono ?_;rintro e w' ⟨rfl,rfl⟩)
 go_ret;exact ⟨rfl,rfl⟩
theorem zDK (s:ByteArray) (w:World) (hs:s.size<=maxLen) :
  Calls Tryz.prog 109 #[.string s,.func (.func 176) #[] #[],.func (.func 176) #[] #[]] w fun e w'=>e=.returned (.bool (nY s.data.toList))/\w'=w:=by
 unfold maxLen at hs
 by_cases he:s.size=0
 ·have hb:=vX idB idB s he;have hlt:(s.size:Int)<1:=by omega
  have HB:Hid (xD idB idB s.data.toList=false):=hb;clear he hb;go_enter Tryz.func109,Tryz.ntmps109;go_wp2_with fail;go_ret;exact ⟨zA HB.out.symm,rfl⟩
 have hpos:0<s.size:=by omega
 have hnl:¬ (s.size:Int)<1:=by omega
 by_cases hl:32<s.size
 ·have hb:=tA idB idB s hl;have HB:Hid (xD idB idB s.data.toList=false):=hb;have hgt:(32:Int)<(s.size:Int):=by omega
  clear he hb;go_enter Tryz.func109,Tryz.ntmps109;go_wp2_with fail;go_ret;exact ⟨zA HB.out.symm,rfl⟩
 have hle:¬ (32:Int)<(s.size:Int):=by omega
 clear he
 cases hc:idB (s[0].toNat:Int) with
 | false =>
  have HB:Hid (xD idB idB s.data.toList=false):=vW idB idB s hpos hc;go_enter Tryz.func109,Tryz.ntmps109;go_wp2_with (go_at_call 176;refine (zD1 _ _).mono ?_;rintro e w' ⟨rfl,rfl⟩);go_ret;exact ⟨zA HB.out.symm,rfl⟩
 | true =>
  have HT:Hid ((∀k,1<=k->(hk:k<s.size)->idB (s[k].toNat:Int)=true)->xD idB idB s.data.toList=true):=uU idB idB s hpos (by omega) hc;have HA:Hid (∀k,1<=k->(hk:k<s.size)->idB (s[k].toNat:Int)=false->xD idB idB s.data.toList=false):=fun k h1 hk=>qS idB idB s k h1 hk
  go_enter Tryz.func109,Tryz.ntmps109
  go_wp2_with (go_at_call 176;refine (zD1 _ _).mono ?_;rintro e w' ⟨rfl,rfl⟩)
  go_loop [7] (fun i=>∃k:Nat,1<=k/\k<=s.size/\i=ii k/\(∀j,1<=j->j<k->(hj:j<s.size)->idB (s[j].toNat:Int)=true)) (fun i=>s.size-(intOf i).toNat)
  case atStart=>exact ⟨1,by omega,by omega,rfl,fun j h1 h2=>by omega⟩
  case round =>
   obtain ⟨k,hk1,hk,rfl,hall⟩:=hrel;have HL:Hid (∀j,1<=j->j<k->(hj:j<s.size)->idB (s[j].toNat:Int)=true):=hall;clear hall
   by_cases hlt:k<s.size
   ·cases hd:idB (s[k].toNat:Int) with
    | false =>
     go_wp2_with (go_at_call 176;refine (zD1 _ _).mono ?_;rintro e w' ⟨rfl,rfl⟩)
     go_ret;exact ⟨zA (HA.out k hk1 hlt hd).symm,rfl⟩
    | true =>
     go_wp2_with (go_at_call 176;refine (zD1 _ _).mono ?_;rintro e w' ⟨rfl,rfl⟩)
     go_round
     case rel =>
      refine ⟨k+1,by omega,by omega,by go_num,fun j h1 h2 hj=>?_⟩
      by_cases hjk:j=k
      ·subst hjk;exact hd
      ·exact HL.out j h1 (by omega) hj
     case measure=>simp [intOf];omega
   ·go_wp2_with fail
    go_ret;exact ⟨zA (HT.out fun j h1 hj=>HL.out j h1 (by omega) hj).symm,rfl⟩
theorem zMB (s:ByteArray) (w:World) (hs:s.size<=maxLen) :
  Calls Tryz.prog 138 #[.string s] w fun e w'=>e=.returned (.bool (nY s.data.toList))/\w'=w:=by
 go_enter Tryz.func138,Tryz.ntmps138
 go_wp2_with (go_at_call 109;refine (zDK _ _ hs).mono ?_;rintro e w' ⟨rfl,rfl⟩)
 go_ret;exact ⟨rfl,rfl⟩
theorem zDO (s:ByteArray) (w:World) (hs:s.size<=maxLen) :
  Calls Tryz.prog 109 #[.string s,.func (.func 110) #[] #[],.func (.func 110) #[] #[]] w fun e w'=>e=.returned (.bool (vI s.data.toList))/\w'=w:=by
 unfold maxLen at hs
 by_cases he:s.size=0
 ·have hb:=vX yL yL s he;have hlt:(s.size:Int)<1:=by omega
  have HB:Hid (xD yL yL s.data.toList=false):=hb;clear he hb;go_enter Tryz.func109,Tryz.ntmps109;go_wp2_with fail;go_ret;exact ⟨zA HB.out.symm,rfl⟩
 have hpos:0<s.size:=by omega
 have hnl:¬ (s.size:Int)<1:=by omega
 by_cases hl:32<s.size
 ·have hb:=tA yL yL s hl;have HB:Hid (xD yL yL s.data.toList=false):=hb;have hgt:(32:Int)<(s.size:Int):=by omega
  clear he hb;go_enter Tryz.func109,Tryz.ntmps109;go_wp2_with fail;go_ret;exact ⟨zA HB.out.symm,rfl⟩
 have hle:¬ (32:Int)<(s.size:Int):=by omega
 clear he
 cases hc:yL (s[0].toNat:Int) with
 | false =>
  have HB:Hid (xD yL yL s.data.toList=false):=vW yL yL s hpos hc;go_enter Tryz.func109,Tryz.ntmps109;go_wp2_with (go_at_call 110;refine (gV _ _).mono ?_;rintro e w' ⟨rfl,rfl⟩);go_ret;exact ⟨zA HB.out.symm,rfl⟩
 | true =>
  have HT:Hid ((∀k,1<=k->(hk:k<s.size)->yL (s[k].toNat:Int)=true)->xD yL yL s.data.toList=true):=uU yL yL s hpos (by omega) hc;have HA:Hid (∀k,1<=k->(hk:k<s.size)->yL (s[k].toNat:Int)=false->xD yL yL s.data.toList=false):=fun k h1 hk=>qS yL yL s k h1 hk
  go_enter Tryz.func109,Tryz.ntmps109
  go_wp2_with (go_at_call 110;refine (gV _ _).mono ?_;rintro e w' ⟨rfl,rfl⟩)
  go_loop [7] (fun i=>∃k:Nat,1<=k/\k<=s.size/\i=ii k/\(∀j,1<=j->j<k->(hj:j<s.size)->yL (s[j].toNat:Int)=true)) (fun i=>s.size-(intOf i).toNat)
  case atStart=>exact ⟨1,by omega,by omega,rfl,fun j h1 h2=>by omega⟩
  case round =>
   obtain ⟨k,hk1,hk,rfl,hall⟩:=hrel;have HL:Hid (∀j,1<=j->j<k->(hj:j<s.size)->yL (s[j].toNat:Int)=true):=hall;clear hall
   by_cases hlt:k<s.size
   ·cases hd:yL (s[k].toNat:Int) with
    | false =>
     go_wp2_with (go_at_call 110;refine (gV _ _).mono ?_;rintro e w' ⟨rfl,rfl⟩)
     go_ret;exact ⟨zA (HA.out k hk1 hlt hd).symm,rfl⟩
    | true =>
     go_wp2_with (go_at_call 110;refine (gV _ _).mono ?_;rintro e w' ⟨rfl,rfl⟩)
     go_round
     case rel =>
      refine ⟨k+1,by omega,by omega,by go_num,fun j h1 h2 hj=>?_⟩
      by_cases hjk:j=k
      ·subst hjk;exact hd
      ·exact HL.out j h1 (by omega) hj
     case measure=>simp [intOf];omega
   ·go_wp2_with fail
    go_ret;exact ⟨zA (HT.out fun j h1 hj=>HL.out j h1 (by omega) hj).symm,rfl⟩
theorem zBk (s:ByteArray) (w:World) (hs:s.size<=maxLen) :
  Calls Tryz.prog 68 #[.string s] w fun e w'=>e=.returned (.bool (vI s.data.toList))/\w'=w:=by
 go_enter Tryz.func68,Tryz.ntmps68
 go_wp2_with (go_at_call 109;refine (zDO _ _ hs).mono ?_;rintro e w' ⟨rfl,rfl⟩)
 go_ret;exact ⟨rfl,rfl⟩
end
section
open Go.RowKit
def tR (a b:ByteArray):Bool:=xM a.data.toList&&nY b.data.toList
theorem zDC {W w1:World} (hb:Below W.heap.size W w1):(∀b o,b<W.heap.size->w1.cell? ⟨b,o,none⟩=W.cell? ⟨b,o,none⟩)/\(∀b o,b<W.heap.size->w1.frozen? ⟨b,o,none⟩=W.frozen? ⟨b,o,none⟩) :=
 ⟨fun b o h=>hb.cell (p:=(aa b o)) h,fun b o h=>hb.frozen (p:=(aa b o)) h⟩
theorem cD (a b:ByteArray) (w:World) (ha:a.size<=maxLen) (hb:b.size<=maxLen) :
  Calls Tryz.prog 97 #[.agg #[.string a,.string b]] w fun e w'=>e=.returned (.bool (tR a b))/\Below w.heap.size w w':=by
 have HK:Hid (tR a b=(xM a.L&&nY b.L)):=rfl
 cases ht:xM a.L
 all_goals
  go_enter Tryz.func97,Tryz.ntmps97
  go_wp2_with (first|(go_at_call 70;refine (gC _ _ ha).mono ?_;rintro e w' ⟨rfl,rfl⟩)|(go_at_call 138;refine (zMB _ _ hb).mono ?_;rintro e w' ⟨rfl,rfl⟩))
  go_ret;exact ⟨zA (by rw [HK.out,ht];rfl),(Below.refl _ _).alloc (Nat.le_refl _) _⟩
theorem zHI (a b:ByteArray) (w:World) (ha:a.size<=maxLen) (hb:b.size<=maxLen) (ha32:a.size<=32) (hb32:b.size<=32) (hk:tR a b=true) :
  Calls Tryz.prog 87 #[.agg #[.string a,.string b]] w fun e w'=>e=.returned (.tuple #[.string (a++⟨#[47]⟩++b),.int .i64 0])/\Below w.heap.size w w':=by
 go_enter Tryz.func87,Tryz.ntmps87
 go_wp2_with (go_at_call 97;refine (cD _ _ _ ha hb).mono ?_;rintro e w1 ⟨rfl,hq⟩;obtain ⟨hc,hf⟩:=zDC hq)
 go_ret2
 refine ⟨?_,((Below.refl _ _).alloc (Nat.le_refl _) _).trans (hq.mono (by simp))⟩;rfl
theorem bK {l:List UInt8} (h:xM l=true):l.length<=32:=by
 cases l with
 | nil=>simp
 | cons c r=>simp [xM,xD] at h;simp;omega
theorem zJB {l:List UInt8} (h:nY l=true):l.length<=32:=by
 cases l with
 | nil=>simp
 | cons c r=>simp [nY,xD] at h;simp;omega
theorem zFI:nY []=false:=rfl
theorem zHk (a:ByteArray):tR a ⟨#[]⟩=false:=by
 unfold tR;rw [show (⟨#[]⟩:ByteArray).data.toList=[] from rfl,zFI,Bool.and_false]
theorem mT (s:ByteArray) (i j:Nat) (h:s.size<=maxLen):(s.extract i j).size<=maxLen:=by
 have:(s.extract i j).size<=s.size:=by simp;omega
 omega
theorem zGc (s:ByteArray) (w:World) (hs:s.size<=maxLen) (hix:Lib.indexByte s.data.toList 47=-1) :
  Calls Tryz.prog 69 #[.string s] w fun e w'=>e=.returned (.tuple #[.agg #[.string ⟨#[]⟩,.string ⟨#[]⟩],.int .i64 2])/\Below w.heap.size w w':=by
 have HX:Hid (Lib.indexByte s.data.toList 47=-1):=hix;clear hix;have hk:=zHk s;have h0:(⟨#[]⟩:ByteArray).size<=maxLen:=by decide
 go_enter Tryz.func69,Tryz.ntmps69
 go_wp2_with (first|(go_at_call 111;refine (zLK _ _ _ HX.out).mono ?_;rintro e w' ⟨rfl,rfl⟩)|(go_at_call 97;refine (cD _ _ _ hs h0).mono ?_;rintro e w1 ⟨rfl,hq⟩;obtain ⟨hc,hf⟩:=zDC hq))
 have c0:w1.cell? (aa w.heap.size 0)=some (tq ⟨#[]⟩):=by rw [hc _ _ (by simp;omega)];simp [go_sem]
 have c1:w1.cell? (aa w.heap.size 1)=some (tq ⟨#[]⟩):=by rw [hc _ _ (by simp;omega)];simp [go_sem]
 exact bodyPost_ret (v:=.tuple #[.agg #[tq ⟨#[]⟩,tq ⟨#[]⟩],ii 2]) (by simp [results,Tryz.results69,go_sem,c0,c1]) rfl
  ⟨rfl,(((((Below.refl _ _).alloc (Nat.le_refl _) _).alloc (by simp) _).trans (hq.mono (by simp;omega))).setCell (by simp) _).setCell (by simp) _⟩
theorem zLJ (s:ByteArray) (w:World) (hs:s.size<=maxLen) (i:Nat) (hix:Lib.indexByte s.data.toList 47=(i:Int)) (hi:i<s.size)
  (hk:tR (s.extract 0 i) (s.extract (i+1) s.size)=false) :
  Calls Tryz.prog 69 #[.string s] w fun e w'=>e=.returned (.tuple #[.agg #[.string ⟨#[]⟩,.string ⟨#[]⟩],.int .i64 2])/\Below w.heap.size w w':=by
 have HX:Hid (Lib.indexByte s.data.toList 47=(i:Int)):=hix;have h1:=mT s 0 i hs;have h2:=mT s (i+1) s.size hs;have HH:Hid (i<s.size/\s.size<=maxLen/\(s.extract 0 i).size<=maxLen/\(s.extract (i+1) s.size).size<=maxLen):=⟨hi,hs,h1,h2⟩;clear hix hi hs h1 h2;go_enter Tryz.func69,Tryz.ntmps69;go_wp2_with (first|(go_at_call 111;refine (zAc _ _ _ i HX.out HH.out.1 HH.out.2.1).mono ?_;rintro e w' ⟨rfl,n,rfl⟩)|(go_at_call 97;refine (cD _ _ _ HH.out.2.2.1 HH.out.2.2.2).mono ?_;rintro e w1 ⟨rfl,hq⟩;obtain ⟨hc,hf⟩:=zDC hq));have c0:w1.cell? (aa w.heap.size 0)=some (tq ⟨#[]⟩):=by rw [hc _ _ (by simp;omega)];simp [go_sem]
 have c1:w1.cell? (aa w.heap.size 1)=some (tq ⟨#[]⟩):=by rw [hc _ _ (by simp;omega)];simp [go_sem]
 exact bodyPost_ret (v:=.tuple #[.agg #[tq ⟨#[]⟩,tq ⟨#[]⟩],ii 2]) (by simp [results,Tryz.results69,go_sem,c0,c1]) rfl
  ⟨rfl,((((_root_.Go.below_drewN ((Below.refl _ _).alloc (Nat.le_refl _) _) _).alloc (by simp) _).trans (hq.mono (by simp;omega))).setCell (by simp) _).setCell (by simp) _⟩
theorem zJG (s:ByteArray) (w:World) (hs:s.size<=maxLen) (i:Nat) (hix:Lib.indexByte s.data.toList 47=(i:Int)) (hi:i<s.size)
  (hk:tR (s.extract 0 i) (s.extract (i+1) s.size)=true) :
  Calls Tryz.prog 69 #[.string s] w fun e w'=>e=.returned (.tuple #[.agg #[.string (s.extract 0 i),.string (s.extract (i+1) s.size)],.int .i64 0])/\Below w.heap.size w w':=by
 have HX:Hid (Lib.indexByte s.data.toList 47=(i:Int)):=hix;have h1:=mT s 0 i hs;have h2:=mT s (i+1) s.size hs;have HH:Hid (i<s.size/\s.size<=maxLen/\(s.extract 0 i).size<=maxLen/\(s.extract (i+1) s.size).size<=maxLen):=⟨hi,hs,h1,h2⟩;clear hix hi hs h1 h2;go_enter Tryz.func69,Tryz.ntmps69;go_wp2_with (first|(go_at_call 111;refine (zAc _ _ _ i HX.out HH.out.1 HH.out.2.1).mono ?_;rintro e w' ⟨rfl,n,rfl⟩)|(go_at_call 97;refine (cD _ _ _ HH.out.2.2.1 HH.out.2.2.2).mono ?_;rintro e w1 ⟨rfl,hq⟩;obtain ⟨hc,hf⟩:=zDC hq));have c0:w1.cell? (aa w.heap.size 0)=some (tq ⟨#[]⟩):=by rw [hc _ _ (by simp;omega)];simp [go_sem]
 have c1:w1.cell? (aa w.heap.size 1)=some (tq ⟨#[]⟩):=by rw [hc _ _ (by simp;omega)];simp [go_sem]
 exact bodyPost_ret (v:=.tuple #[.agg #[tq (s.extract 0 i),tq (s.extract (i+1) s.size)],ii 0]) (by simp [results,Tryz.results69,go_sem,c0,c1]) rfl
  ⟨rfl,((((_root_.Go.below_drewN ((Below.refl _ _).alloc (Nat.le_refl _) _) _).alloc (by simp) _).trans (hq.mono (by simp;omega))).setCell (by simp) _).setCell (by simp) _⟩
end
section
open Go.RowKit
theorem zCu (s : ByteArray) (w : World) (hs : s.size <= maxLen) :
    Calls Tryz.prog 82 #[.string s] w fun e w' => e = .returned (.bool (xM s.data.toList)) /\ w' = w := by
  unfold maxLen at hs;have HE := hid (vX uI wV s);have HG := hid (tA uI wV s);have HF := hid (vW uI wV s);have HA := hid (qS uI wV s);have HT := hid (uU uI wV s);have HB : Hid (xM s.data.toList = xD uI wV s.data.toList) := rfl;go_enter Tryz.func82, Tryz.ntmps82;go_wp2
  go_loop [3] (fun i => ∃ k : Nat, k <= s.size /\ i = ii k /\ (∀ j, j < k -> (hj : j < s.size) -> (j = 0 -> uI (s[j].toNat : Int) = true) /\ (1 <= j -> wV (s[j].toNat : Int) = true))) (fun i => s.size - (intOf i).toNat)
  case atStart => exact ⟨0, by omega, rfl, fun j h => by omega⟩
  case round =>
    obtain ⟨k, hk, rfl, hall⟩ := hrel;have HL := hid hall;clear hall
    by_cases hlt : k < s.size
    · rcases Nat.eq_zero_or_pos k with h0 | h0
      · have HZ := hid h0
        have hz : ((k : Int) == 0) = true := by rw [h0]; rfl
        clear h0
        rcases tZ (s[k].toNat : Int) with h | h | h | h | h
        all_goals
          have HC := hid h;clear h;go_wp2_with (go_at_call 125; refine (tX _ _).mono ?_; rintro e w' ⟨rfl, rfl⟩; rw [HC.out.1])
          first
          | (go_ret; exact ⟨zA (by rw [HB.out]; have hz' := HZ.out; subst hz'; exact (HF.out hlt (by first | exact HC.out.2.1 | exact HC.out.2.2.1 | exact HC.out.2.2.2.2.1 | exact HC.out.2.2.2.2.2)).symm), rfl⟩)
          | (go_round
             case rel =>
               refine ⟨k + 1, by omega, by go_num, fun j h1 hj => ?_⟩;have hz' := HZ.out;have hj0 : j = k := by omega
               subst hj0;exact ⟨fun _ => (by first | exact HC.out.2.1 | exact HC.out.2.2.1 | exact HC.out.2.2.2.2.1 | exact HC.out.2.2.2.2.2), fun _ => by omega⟩
             case measure => simp [intOf]; omega)
      · have HZ := hid h0
        have hz : ((k : Int) == 0) = false := by rw [beq_eq_false_iff_ne]; omega
        clear h0
        rcases tZ (s[k].toNat : Int) with h | h | h | h | h
        all_goals
          have HC := hid h;clear h;go_wp2_with (go_at_call 125; refine (tX _ _).mono ?_; rintro e w' ⟨rfl, rfl⟩; rw [HC.out.1])
          first
          | (go_ret; exact ⟨zA (by rw [HB.out]; exact (HA.out k HZ.out hlt (by first | exact HC.out.2.2.2.1 | exact HC.out.2.2.2.2.1 | exact HC.out.2.2.2.2.2)).symm), rfl⟩)
          | (go_round
             case rel =>
               refine ⟨k + 1, by omega, by go_num, fun j h1 hj => ?_⟩
               by_cases hjk : j = k
               · subst hjk
                 exact ⟨fun e => by have := HZ.out; omega, fun _ => (by first | exact HC.out.2.2.2.1 | exact HC.out.2.2.2.2.1 | exact HC.out.2.2.2.2.2)⟩
               · exact HL.out j (by omega) hj
             case measure => simp [intOf]; omega)
    · have hks : k = s.size := by omega
      rcases Nat.eq_zero_or_pos s.size with hz | hz
      · have hn : ¬ (0 : Int) < (s.size : Int) := by omega
        have HZ := hid hz;clear hz hks;go_wp2_with fail;go_ret;exact ⟨zA (by rw [HB.out]; exact (HE.out HZ.out).symm), rfl⟩
      · have hn : (0 : Int) < (s.size : Int) := by omega
        by_cases hm : s.size <= 32
        · have hm' : (s.size : Int) <= 32 := by omega
          have HK := hid hks;clear hks;go_wp2_with fail;go_ret;refine ⟨zA (by rw [HB.out]; exact (HT.out hz hm ((HL.out 0 (by have := HK.out; omega) hz).1 rfl) (fun j h1 hj => (HL.out j (by have := HK.out; omega) hj).2 h1)).symm), rfl⟩
        · have hm' : ¬ (s.size : Int) <= 32 := by omega
          clear hks;go_wp2_with fail;go_ret;exact ⟨zA (by rw [HB.out]; exact (HG.out (by omega)).symm), rfl⟩
theorem zJ1 (s : ByteArray) (w : World) (hs : s.size <= maxLen) :
    Calls Tryz.prog 120 #[.string s] w fun e w' => e = .returned (.bool (nY s.data.toList)) /\ w' = w := by
  unfold maxLen at hs;have HE := hid (vX idB idB s);have HG := hid (tA idB idB s);have HF := hid (vW idB idB s);have HA := hid (qS idB idB s);have HT := hid (uU idB idB s);have HB : Hid (nY s.data.toList = xD idB idB s.data.toList) := rfl;go_enter Tryz.func120, Tryz.ntmps120;go_wp2
  go_loop [3] (fun i => ∃ k : Nat, k <= s.size /\ i = ii k /\ (∀ j, j < k -> (hj : j < s.size) -> (j = 0 -> idB (s[j].toNat : Int) = true) /\ (1 <= j -> idB (s[j].toNat : Int) = true))) (fun i => s.size - (intOf i).toNat)
  case atStart => exact ⟨0, by omega, rfl, fun j h => by omega⟩
  case round =>
    obtain ⟨k, hk, rfl, hall⟩ := hrel;have HL := hid hall;clear hall
    by_cases hlt : k < s.size
    · rcases Nat.eq_zero_or_pos k with h0 | h0
      · have HZ := hid h0
        have hz : ((k : Int) == 0) = true := by rw [h0]; rfl
        clear h0
        rcases tZ (s[k].toNat : Int) with h | h | h | h | h
        all_goals
          have HC := hid h;clear h;go_wp2_with (go_at_call 125; refine (tX _ _).mono ?_; rintro e w' ⟨rfl, rfl⟩; rw [HC.out.1])
          first
          | (go_ret; exact ⟨zA (by rw [HB.out]; have hz' := HZ.out; subst hz'; exact (HF.out hlt (by first | exact HC.out.2.1 | exact HC.out.2.2.1 | exact HC.out.2.2.2.2.1 | exact HC.out.2.2.2.2.2)).symm), rfl⟩)
          | (go_round
             case rel =>
               refine ⟨k + 1, by omega, by go_num, fun j h1 hj => ?_⟩;have hz' := HZ.out;have hj0 : j = k := by omega
               subst hj0;exact ⟨fun _ => (by first | exact HC.out.2.1 | exact HC.out.2.2.1 | exact HC.out.2.2.2.2.1 | exact HC.out.2.2.2.2.2), fun _ => by omega⟩
             case measure => simp [intOf]; omega)
      · have HZ := hid h0
        have hz : ((k : Int) == 0) = false := by rw [beq_eq_false_iff_ne]; omega
        clear h0
        rcases tZ (s[k].toNat : Int) with h | h | h | h | h
        all_goals
          have HC := hid h;clear h;go_wp2_with (go_at_call 125; refine (tX _ _).mono ?_; rintro e w' ⟨rfl, rfl⟩; rw [HC.out.1])
          first
          | (go_ret; exact ⟨zA (by rw [HB.out]; exact (HA.out k HZ.out hlt (by first | exact HC.out.2.2.2.1 | exact HC.out.2.2.2.2.1 | exact HC.out.2.2.2.2.2)).symm), rfl⟩)
          | (go_round
             case rel =>
               refine ⟨k + 1, by omega, by go_num, fun j h1 hj => ?_⟩
               by_cases hjk : j = k
               · subst hjk
                 exact ⟨fun e => by have := HZ.out; omega, fun _ => (by first | exact HC.out.2.2.2.1 | exact HC.out.2.2.2.2.1 | exact HC.out.2.2.2.2.2)⟩
               · exact HL.out j (by omega) hj
             case measure => simp [intOf]; omega)
    · have hks : k = s.size := by omega
      rcases Nat.eq_zero_or_pos s.size with hz | hz
      · have hn : ¬ (0 : Int) < (s.size : Int) := by omega
        have HZ := hid hz;clear hz hks;go_wp2_with fail;go_ret;exact ⟨zA (by rw [HB.out]; exact (HE.out HZ.out).symm), rfl⟩
      · have hn : (0 : Int) < (s.size : Int) := by omega
        by_cases hm : s.size <= 32
        · have hm' : (s.size : Int) <= 32 := by omega
          have HK := hid hks;clear hks;go_wp2_with fail;go_ret;refine ⟨zA (by rw [HB.out]; exact (HT.out hz hm ((HL.out 0 (by have := HK.out; omega) hz).1 rfl) (fun j h1 hj => (HL.out j (by have := HK.out; omega) hj).2 h1)).symm), rfl⟩
        · have hm' : ¬ (s.size : Int) <= 32 := by omega
          clear hks;go_wp2_with fail;go_ret;exact ⟨zA (by rw [HB.out]; exact (HG.out (by omega)).symm), rfl⟩
theorem zJ8 (s : ByteArray) (w : World) (hs : s.size <= maxLen) :
    Calls Tryz.prog 83 #[.string s] w fun e w' => e = .returned (.bool (vI s.data.toList)) /\ w' = w := by
  unfold maxLen at hs;have HE := hid (vX yL yL s);have HG := hid (tA yL yL s);have HF := hid (vW yL yL s);have HA := hid (qS yL yL s);have HT := hid (uU yL yL s);have HB : Hid (vI s.data.toList = xD yL yL s.data.toList) := rfl;go_enter Tryz.func83, Tryz.ntmps83;go_wp2
  go_loop [3] (fun i => ∃ k : Nat, k <= s.size /\ i = ii k /\ (∀ j, j < k -> (hj : j < s.size) -> (j = 0 -> yL (s[j].toNat : Int) = true) /\ (1 <= j -> yL (s[j].toNat : Int) = true))) (fun i => s.size - (intOf i).toNat)
  case atStart => exact ⟨0, by omega, rfl, fun j h => by omega⟩
  case round =>
    obtain ⟨k, hk, rfl, hall⟩ := hrel;have HL := hid hall;clear hall
    by_cases hlt : k < s.size
    · rcases Nat.eq_zero_or_pos k with h0 | h0
      · have HZ := hid h0
        have hz : ((k : Int) == 0) = true := by rw [h0]; rfl
        clear h0
        rcases tZ (s[k].toNat : Int) with h | h | h | h | h
        all_goals
          have HC := hid h;clear h;go_wp2_with (go_at_call 125; refine (tX _ _).mono ?_; rintro e w' ⟨rfl, rfl⟩; rw [HC.out.1])
          first
          | (go_ret; exact ⟨zA (by rw [HB.out]; have hz' := HZ.out; subst hz'; exact (HF.out hlt (by first | exact HC.out.2.1 | exact HC.out.2.2.1 | exact HC.out.2.2.2.2.1 | exact HC.out.2.2.2.2.2)).symm), rfl⟩)
          | (go_round
             case rel =>
               refine ⟨k + 1, by omega, by go_num, fun j h1 hj => ?_⟩;have hz' := HZ.out;have hj0 : j = k := by omega
               subst hj0;exact ⟨fun _ => (by first | exact HC.out.2.1 | exact HC.out.2.2.1 | exact HC.out.2.2.2.2.1 | exact HC.out.2.2.2.2.2), fun _ => by omega⟩
             case measure => simp [intOf]; omega)
      · have HZ := hid h0
        have hz : ((k : Int) == 0) = false := by rw [beq_eq_false_iff_ne]; omega
        clear h0
        rcases tZ (s[k].toNat : Int) with h | h | h | h | h
        all_goals
          have HC := hid h;clear h;go_wp2_with (go_at_call 125; refine (tX _ _).mono ?_; rintro e w' ⟨rfl, rfl⟩; rw [HC.out.1])
          first
          | (go_ret; exact ⟨zA (by rw [HB.out]; exact (HA.out k HZ.out hlt (by first | exact HC.out.2.2.2.1 | exact HC.out.2.2.2.2.1 | exact HC.out.2.2.2.2.2)).symm), rfl⟩)
          | (go_round
             case rel =>
               refine ⟨k + 1, by omega, by go_num, fun j h1 hj => ?_⟩
               by_cases hjk : j = k
               · subst hjk
                 exact ⟨fun e => by have := HZ.out; omega, fun _ => (by first | exact HC.out.2.2.2.1 | exact HC.out.2.2.2.2.1 | exact HC.out.2.2.2.2.2)⟩
               · exact HL.out j (by omega) hj
             case measure => simp [intOf]; omega)
    · have hks : k = s.size := by omega
      rcases Nat.eq_zero_or_pos s.size with hz | hz
      · have hn : ¬ (0 : Int) < (s.size : Int) := by omega
        have HZ := hid hz;clear hz hks;go_wp2_with fail;go_ret;exact ⟨zA (by rw [HB.out]; exact (HE.out HZ.out).symm), rfl⟩
      · have hn : (0 : Int) < (s.size : Int) := by omega
        by_cases hm : s.size <= 32
        · have hm' : (s.size : Int) <= 32 := by omega
          have HK := hid hks;clear hks;go_wp2_with fail;go_ret;refine ⟨zA (by rw [HB.out]; exact (HT.out hz hm ((HL.out 0 (by have := HK.out; omega) hz).1 rfl) (fun j h1 hj => (HL.out j (by have := HK.out; omega) hj).2 h1)).symm), rfl⟩
        · have hm' : ¬ (s.size : Int) <= 32 := by omega
          clear hks;go_wp2_with fail;go_ret;exact ⟨zA (by rw [HB.out]; exact (HG.out (by omega)).symm), rfl⟩
end
section
open Go.RowKit
theorem zER (a b:ByteArray) (w:World) (ha:a.size<=maxLen) (hb:b.size<=maxLen) :
  Calls Tryz.prog 78 #[.agg #[.string a,.string b]] w fun e w'=>e=.returned (.bool (tR a b))/\Below w.heap.size w w':=by
 have HK:Hid (tR a b=(xM a.L&&nY b.L)):=rfl
 cases ht:xM a.L
 all_goals
  go_enter Tryz.func78,Tryz.ntmps78
  go_wp2_with (first|(go_at_call 82;refine (zCu _ _ ha).mono ?_;rintro e w' ⟨rfl,rfl⟩)|(go_at_call 120;refine (zJ1 _ _ hb).mono ?_;rintro e w' ⟨rfl,rfl⟩))
  go_ret;exact ⟨zA (by rw [HK.out,ht];rfl),(Below.refl _ _).alloc (Nat.le_refl _) _⟩
end
section
open Go.RowKit
theorem jY {a b:ByteArray} (h:a.data.toList=b.data.toList):a=b:=by
 obtain ⟨⟨x⟩⟩:=a;obtain ⟨⟨y⟩⟩:=b;simp at h;rw [h]
theorem yR (a b:ByteArray):(a++b).data.toList=a.data.toList++b.data.toList:=by simp
theorem zHU:wV (47:Int)=false:=by decide
theorem zHn:uI (47:Int)=false:=by decide
theorem zEr {l:List UInt8} (h:xM l=true):(47:UInt8) ∉ l:=by
 cases l with
 | nil=>simp
 | cons c r =>
  simp only [xM,xD,Bool.and_eq_true,List.all_eq_true] at h;obtain ⟨⟨_,h1⟩,h2⟩:=h;simp only [List.mem_cons,not_or];refine ⟨?_,?_⟩
  ·rintro rfl;rw [show ((47:UInt8).toNat:Int)=47 from rfl,zHn] at h1
   cases h1
  ·intro hm;have:=h2 _ hm;rw [show ((47:UInt8).toNat:Int)=47 from rfl,zHU] at this
   cases this
theorem zFU (a b:List UInt8) (c:UInt8) (h:c ∉ a):Lib.indexByte (a++c::b) c=(a.length:Int):=by
 induction a with
 | nil=>simp [Lib.indexByte]
 | cons x a ih =>
  simp only [List.mem_cons,not_or] at h;have hx:(x==c)=false:=by rw [beq_eq_false_iff_ne];exact fun e=>h.1 e.symm
  rw [List.cons_append];unfold Lib.indexByte;rw [hx,ih h.2];have:((a.length:Int) == -1)=false:=by rw [beq_eq_false_iff_ne];omega
  simp [this]
theorem zAw {a b:ByteArray} (h:tR a b=true):xM a.data.toList=true/\nY b.data.toList=true:=by
 simpa [tR] using h
theorem nF {a b:ByteArray} (h:tR a b=true):a.size<=32/\b.size<=32:=by
 obtain ⟨h1,h2⟩:=zAw h;exact ⟨by simpa using bK h1,by simpa using zJB h2⟩
theorem zKe (a b:ByteArray):(a++⟨#[47]⟩++b).data.toList=a.data.toList++(47:UInt8)::b.data.toList:=by
 rw [yR,yR,List.append_assoc];rfl
theorem gP {w:World} {a:Addr} {v:Value} (h:w.cell? a=some v):a.block<w.heap.size:=by
 rcases Nat.lt_or_ge a.block w.z with h'|h'
 ·exact h'
 ·simp [World.cell?,Array.getElem?_eq_none h'] at h
theorem kept {W w':World} (hq:Below W.heap.size W w') {b o:Nat} {v:Value} (h:W.cell? ⟨b,o,none⟩=some v):w'.cell? ⟨b,o,none⟩=some v:=by
 rw [(zDC hq).1 _ _ (gP h)];exact h
end
section
open Go.RowKit
def zEy (w wr:World):Prop :=
 Below w.heap.size w wr/\wr.cell? ⟨w.heap.size,0,none⟩=some (.string ⟨#[]⟩)/\wr.cell? ⟨w.heap.size,1,none⟩=some (.string ⟨#[]⟩)/\wr.frozen? ⟨w.heap.size,0,none⟩=false/\wr.frozen? ⟨w.heap.size,1,none⟩=false
theorem zEy.on {w W w':World} (h:zEy w W) (hq:Below W.heap.size W w'):zEy w w':=by
 obtain ⟨h0,h1,h2,h3,h4⟩:=h;have hlt:w.z<W.z:=gP h1;obtain ⟨_,hf⟩:=zDC hq;exact ⟨h0.trans (hq.mono h0.size),kept hq h1,kept hq h2,by rw [hf _ _ hlt];exact h3,by rw [hf _ _ hlt];exact h4⟩
theorem gF (s:ByteArray) (w:World) (hs:s.size<=maxLen) (x y:ByteArray) (n:Int)
  (hyes:∀k,(hk:k<s.size)->s[k]=47->tR (s.extract 0 k) (s.extract (k+1) s.size)=true->x=s.extract 0 k/\y=s.extract (k+1) s.size/\n=0)
  (hno:(∀k,(hk:k<s.size)->s[k]=47->tR (s.extract 0 k) (s.extract (k+1) s.size)=false)->x=⟨#[]⟩/\y=⟨#[]⟩/\n=2) :
  Calls Tryz.prog 41 #[.string s] w fun e w'=>e=.returned (.tuple #[.agg #[.string x,.string y],.int .i64 n])/\Below w.heap.size w w':=by
 have HS:=hid hs;have HY:=hid hyes;have HN:=hid hno;unfold maxLen at hs;clear hyes hno
 have hbl:zEy w (w.alloc (.cells #[tq ⟨#[]⟩,tq ⟨#[]⟩] 36)):=by
  refine ⟨(Below.refl _ _).alloc (Nat.le_refl _) _,?_,?_,?_,?_⟩<;>simp [go_sem]
 have HW:=hid hbl;clear hbl;go_enter Tryz.func41,Tryz.ntmps41;go_wp2
 go_loopw [4] (fun i wr=>∃k:Nat,k<=s.size/\i=ii k/\zEy w wr/\(∀j,j<k->(hj:j<s.size)->s[j]=47->tR (s.extract 0 j) (s.extract (j+1) s.size)=false)) (fun i _=>s.size-(intOf i).toNat)
 case atStart=>exact ⟨0,by omega,rfl,HW.out,fun j h=>by omega⟩
 case round =>
  obtain ⟨k,hk,rfl,hb0,hall⟩:=hrel;have HB:=hid hb0;have HL:=hid hall;clear hall hb0
  by_cases hlt:k<s.size
  ·by_cases hc:s[k]=47
   ·have hb:((s[k].toNat:Int)==47)=true:=by rw [hc];rfl
    have HC:=hid hc;clear hc;have c1:(0:Int)<=↑k:=by omega
    have c2:(↑k:Int)<=↑s.size:=by omega
    have c3:(0:Int)<=↑k+1:=by omega
    have c4:(↑k+1:Int)<=↑s.size:=by omega
    go_wp2_with fail
    go_region
    go_wp2_with fail
    have bl1:=HB.out.on (((Below.refl wr.heap.size wr).alloc (Nat.le_refl _) (.cells #[tq (s.extract 0 k),tq (s.extract (k+1) s.size)] 36)).drew);refine (zER _ _ _ (mT s 0 k HS.out) (mT s (k+1) s.size HS.out)).mono ?_;rintro o w2 ⟨rfl,hq2⟩;have bl2:=bl1.on hq2;have e0:w2.cell? (aa wr.heap.size 0)=some (tq (s.extract 0 k)):=kept hq2 (by simp [go_sem]);have e1:w2.cell? (aa wr.heap.size 1)=some (tq (s.extract (k+1) s.size)):=kept hq2 (by simp [go_sem]);have HB2:=hid bl2;clear bl1 bl2 hq2
    cases hkb:tR (s.extract 0 k) (s.extract (k+1) s.size) with
    | true =>
     obtain ⟨rfl,rfl,rfl⟩:=HY.out k hlt HC.out hkb;obtain ⟨b0,d0,d1,f0,f1⟩:=HB2.out;go_wp2_with fail
     exact bodyPost_ret (v:=.tuple #[.agg #[tq (s.extract 0 k),tq (s.extract (k+1) s.size)],ii 0]) (by simp [results,Tryz.results41,go_sem,d0,d1]) rfl
      ⟨rfl,(b0.setCell (Nat.le_refl _) _).setCell (Nat.le_refl _) _⟩
    | false =>
     have HK:=hid hkb;go_wp2_with fail;refine ⟨⟨k+1,by omega,by go_num,HB2.out,fun j h1 hj=>?_⟩,by simp [intOf];omega⟩
     by_cases hjk:j=k
     ·subst hjk;exact fun _=>HK.out
     ·exact HL.out j (by omega) hj
   ·have hb:((s[k].toNat:Int)==47)=false:=by
     rw [beq_eq_false_iff_ne];intro h;apply hc;apply UInt8.toNat_inj.1;have:(47:UInt8).toNat=47:=rfl;omega
    have HC:=hid hc;clear hc;go_wp2;refine ⟨⟨k+1,by omega,by go_num,HB.out,fun j h1 hj=>?_⟩,by simp [intOf];omega⟩
    by_cases hjk:j=k
    ·subst hjk;exact fun e=>absurd e HC.out
    ·exact HL.out j (by omega) hj
  ·obtain ⟨rfl,rfl,rfl⟩:=HN.out fun j hj=>HL.out j (by omega) hj
   obtain ⟨b0,d0,d1,f0,f1⟩:=HB.out;go_wp2
   exact bodyPost_ret (v:=.tuple #[.agg #[tq ⟨#[]⟩,tq ⟨#[]⟩],ii 2]) (by simp [results,Tryz.results41,go_sem,d0,d1]) rfl
    ⟨rfl,(b0.setCell (Nat.le_refl _) _).setCell (Nat.le_refl _) _⟩
end
end Go.Proofs.YtjeogllmpjihaaaGreatDoor
namespace Go.Proofs
open Go.Shelf
open Go.RowKit Go.Lib in
theorem Tryz.strings_Index (s sub:ByteArray) (m:Int) (w:World) (hs:s.size<4294967281) (hm:w.cell? ⟨2,0,none⟩=some (.int .i64 m)) :
  Calls Tryz.prog 63 #[.string s,.string sub] w fun e w'=>e=.returned (.int .i64 (Lib.index s.data.toList sub.data.toList))/\w'=w:=Any.strings_Index Tryz.lays143 s sub m w hs hm
def Tryz.lays146_ren:Go.Shelf.Ren:=⟨fun|146=>33|221=>64|268=>106|138=>107|143=>63|195=>149|197=>62|218=>150|219=>105|260=>104|217=>145|225=>146|224=>147|267=>148|266=>181|314=>182|n=>n,fun|9=>9|31=>43|3=>3|4=>4|0=>0|105=>106|21=>21|5=>5|46=>163|119=>162|139=>166|138=>165|146=>185|51=>184|n=>n,fun|1=>2|3=>0|4=>1|n=>n⟩
theorem Tryz.lays146:Go.Proofs.Lays.n146 Tryz.prog Tryz.lays146_ren:={
 mixed:=by kernel_rfl
 f138:=Tryz.func107.trans (congrArg some (by kernel_rfl))
 f143:=Tryz.func63.trans (congrArg some (by kernel_rfl))
 f146:=Tryz.func33.trans (congrArg some (by kernel_rfl))
 f195:=Tryz.func149.trans (congrArg some (by kernel_rfl))
 f197:=Tryz.func62.trans (congrArg some (by kernel_rfl))
 f217:=Tryz.func145.trans (congrArg some (by kernel_rfl))
 f218:=Tryz.func150.trans (congrArg some (by kernel_rfl))
 f219:=Tryz.func105.trans (congrArg some (by kernel_rfl))
 f221:=Tryz.func64.trans (congrArg some (by kernel_rfl))
 f224:=Tryz.func147.trans (congrArg some (by kernel_rfl))
 f225:=Tryz.func146.trans (congrArg some (by kernel_rfl))
 f260:=Tryz.func104.trans (congrArg some (by kernel_rfl))
 f266:=Tryz.func181.trans (congrArg some (by kernel_rfl))
 f267:=Tryz.func148.trans (congrArg some (by kernel_rfl))
 f268:=Tryz.func106.trans (congrArg some (by kernel_rfl))
 f314:=Tryz.func182.trans (congrArg some (by kernel_rfl))
 t0:=Tryz.underlying0
 a0:=Tryz.isAgg0
 z0:=Tryz.sizeOf0
 v0:=Tryz.zeroValue0
 t3:=Tryz.underlying3
 a3:=Tryz.isAgg3
 z3:=Tryz.sizeOf3
 v3:=Tryz.zeroValue3
 t4:=Tryz.underlying4
 a4:=Tryz.isAgg4
 z4:=Tryz.sizeOf4
 v4:=Tryz.zeroValue4
 t5:=Tryz.underlying5
 a5:=Tryz.isAgg5
 z5:=Tryz.sizeOf5
 v5:=Tryz.zeroValue5
 t9:=Tryz.underlying9
 a9:=Tryz.isAgg9
 z9:=Tryz.sizeOf9
 v9:=Tryz.zeroValue9
 t21:=Tryz.underlying21
 a21:=Tryz.isAgg21
 z21:=Tryz.sizeOf21
 v21:=Tryz.zeroValue21
 t31:=Tryz.underlying43
 a31:=Tryz.isAgg43
 z31:=Tryz.sizeOf43
 v31:=Tryz.zeroValue43
 t46:=Tryz.underlying163
 a46:=Tryz.isAgg163
 z46:=Tryz.sizeOf163
 v46:=Tryz.zeroValue163
 t51:=Tryz.underlying184
 a51:=Tryz.isAgg184
 z51:=Tryz.sizeOf184
 v51:=Tryz.zeroValue184
 t105:=Tryz.underlying106
 a105:=Tryz.isAgg106
 z105:=Tryz.sizeOf106
 v105:=Tryz.zeroValue106
 t119:=Tryz.underlying162
 a119:=Tryz.isAgg162
 z119:=Tryz.sizeOf162
 t138:=Tryz.underlying165
 a138:=Tryz.isAgg165
 z138:=Tryz.sizeOf165
 v138:=Tryz.zeroValue165
 t139:=Tryz.underlying166
 a139:=Tryz.isAgg166
 z139:=Tryz.sizeOf166
 v139:=Tryz.zeroValue166
 t146:=Tryz.underlying185
 a146:=Tryz.isAgg185
 z146:=Tryz.sizeOf185
 v146:=Tryz.zeroValue185
 g1:=by kernel_rfl
 g3:=by kernel_rfl
 g4:=by kernel_rfl }
open Go.RowKit Go.Lib in
theorem Tryz.strings_Split (s sep:ByteArray) (m:Int) (w:World) (hs:s.size<4294967281) (hm:w.cell? ⟨2,0,none⟩=some (.int .i64 m)) (h1:1<=sep.size) :
  Calls Tryz.prog 33 #[.string s,.string sep] w fun e w' =>
   e=.returned (.slice (some ⟨w.heap.size,0,none⟩) (Lib.countB s sep+1) (Lib.countB s sep+1))/\w'=w.alloc (.cells ((Lib.splitB sep 0 (Lib.countB s sep) s).map Value.string).toArray 9):=Any.strings_Split Tryz.lays146 (by kernel_rfl) s sep m w hs hm h1
def Tryz.laysM171_ren:Go.Shelf.Ren:=⟨fun|171=>88|243=>129|246=>169|283=>172|284=>173|285=>174|286=>175|129=>208|317=>207|318=>209|319=>210|320=>211|337=>229|338=>230|n=>n,fun|3=>3|9=>9|2=>2|4=>4|171=>177|0=>0|53=>40|37=>89|5=>5|173=>180|212=>211|51=>184|20=>20|213=>212|46=>163|232=>241|233=>242|n=>n,fun|17=>4|18=>7|19=>8|n=>n⟩
theorem Tryz.laysM171:Go.Proofs.LaysM.n171 Tryz.prog Tryz.laysM171_ren:={
 mixed:=by kernel_rfl
 f129:=Tryz.func208.trans (congrArg some (by kernel_rfl))
 f171:=Tryz.func88.trans (congrArg some (by kernel_rfl))
 f243:=Tryz.func129.trans (congrArg some (by kernel_rfl))
 f246:=Tryz.func169.trans (congrArg some (by kernel_rfl))
 f283:=Tryz.func172.trans (congrArg some (by kernel_rfl))
 f284:=Tryz.func173.trans (congrArg some (by kernel_rfl))
 f285:=Tryz.func174.trans (congrArg some (by kernel_rfl))
 f286:=Tryz.func175.trans (congrArg some (by kernel_rfl))
 f317:=Tryz.func207.trans (congrArg some (by kernel_rfl))
 f318:=Tryz.func209.trans (congrArg some (by kernel_rfl))
 f319:=Tryz.func210.trans (congrArg some (by kernel_rfl))
 f320:=Tryz.func211.trans (congrArg some (by kernel_rfl))
 f337:=Tryz.func229.trans (congrArg some (by kernel_rfl))
 f338:=Tryz.func230.trans (congrArg some (by kernel_rfl))
 t0:=Tryz.underlying0
 a0:=Tryz.isAgg0
 z0:=Tryz.sizeOf0
 v0:=Tryz.zeroValue0
 t2:=Tryz.underlying2
 a2:=Tryz.isAgg2
 z2:=Tryz.sizeOf2
 v2:=Tryz.zeroValue2
 t3:=Tryz.underlying3
 a3:=Tryz.isAgg3
 z3:=Tryz.sizeOf3
 v3:=Tryz.zeroValue3
 t4:=Tryz.underlying4
 a4:=Tryz.isAgg4
 z4:=Tryz.sizeOf4
 v4:=Tryz.zeroValue4
 t5:=Tryz.underlying5
 a5:=Tryz.isAgg5
 z5:=Tryz.sizeOf5
 v5:=Tryz.zeroValue5
 t9:=Tryz.underlying9
 a9:=Tryz.isAgg9
 z9:=Tryz.sizeOf9
 v9:=Tryz.zeroValue9
 t20:=Tryz.underlying20
 a20:=Tryz.isAgg20
 z20:=Tryz.sizeOf20
 v20:=Tryz.zeroValue20
 t37:=Tryz.underlying89
 a37:=Tryz.isAgg89
 z37:=Tryz.sizeOf89
 v37:=Tryz.zeroValue89
 t46:=Tryz.underlying163
 a46:=Tryz.isAgg163
 z46:=Tryz.sizeOf163
 v46:=Tryz.zeroValue163
 t51:=Tryz.underlying184
 a51:=Tryz.isAgg184
 z51:=Tryz.sizeOf184
 v51:=Tryz.zeroValue184
 t53:=Tryz.underlying40
 a53:=Tryz.isAgg40
 z53:=Tryz.sizeOf40
 v53:=Tryz.zeroValue40
 t171:=Tryz.underlying177
 a171:=Tryz.isAgg177
 z171:=Tryz.sizeOf177
 v171:=Tryz.zeroValue177
 t173:=Tryz.underlying180
 a173:=Tryz.isAgg180
 z173:=Tryz.sizeOf180
 v173:=Tryz.zeroValue180
 t212:=Tryz.underlying211
 a212:=Tryz.isAgg211
 z212:=Tryz.sizeOf211
 v212:=Tryz.zeroValue211
 t213:=Tryz.underlying212
 a213:=Tryz.isAgg212
 z213:=Tryz.sizeOf212
 t232:=Tryz.underlying241
 a232:=Tryz.isAgg241
 z232:=Tryz.sizeOf241
 v232:=Tryz.zeroValue241
 t233:=Tryz.underlying242
 a233:=Tryz.isAgg242
 z233:=Tryz.sizeOf242
 v233:=Tryz.zeroValue242
 g17:=by kernel_rfl
 g18:=by kernel_rfl
 g19:=by kernel_rfl
 i0:=by kernel_rfl
 i2:=by kernel_rfl
 i3:=by kernel_rfl
 i4:=by kernel_rfl
 i5:=by kernel_rfl
 i9:=by kernel_rfl
 i20:=by kernel_rfl
 i37:=by kernel_rfl
 i46:=by kernel_rfl
 i51:=by kernel_rfl
 i53:=by kernel_rfl
 i171:=by kernel_rfl
 i173:=by kernel_rfl
 i212:=by kernel_rfl
 i232:=by kernel_rfl
 i233:=by kernel_rfl
 m17:=by kernel_rfl
 m18:=by kernel_rfl
 m19:=by kernel_rfl }
open Go.RowKit Go.Sort Go.Lib in
theorem Tryz.strconv_Itoa (n:Int) (h0:-9223372036854775808<=n) (h1:n<=9223372036854775807) (w:World) (htab:Lib.TabIs Tryz.prog w "internal/strconv.uint64pow10" .u64 Lib.pow10Tab) :
  Calls Tryz.prog 88 #[.int .i64 n] w fun e w'=>e=.returned (.string ⟨(Lib.itoa n).toArray⟩)/\∃k os,w'=grow (w.drewN k) os:=Any.strconv_Itoa Tryz.laysM171 n h0 h1 w htab
def Tryz.lays283_ren:Go.Shelf.Ren:=⟨fun|283=>172|n=>n,fun|3=>3|9=>9|4=>4|n=>n,fun|n=>n⟩
theorem Tryz.lays283:Go.Proofs.Lays.n283 Tryz.prog Tryz.lays283_ren:={
 mixed:=by kernel_rfl
 f283:=Tryz.func172.trans (congrArg some (by kernel_rfl))
 t3:=Tryz.underlying3
 a3:=Tryz.isAgg3
 z3:=Tryz.sizeOf3
 v3:=Tryz.zeroValue3
 t4:=Tryz.underlying4
 a4:=Tryz.isAgg4
 z4:=Tryz.sizeOf4
 v4:=Tryz.zeroValue4
 t9:=Tryz.underlying9
 a9:=Tryz.isAgg9
 z9:=Tryz.sizeOf9
 v9:=Tryz.zeroValue9 }
open Go.Lib in
theorem Tryz.internal_strconv_small (i:Nat) (h:i<100) (w:World) :
  Calls Tryz.prog 172 #[.int .i64 i] w fun e w'=>e=.returned (.string ⟨(Lib.decDigits i).toArray⟩)/\w'=w:=Any.internal_strconv_small Tryz.lays283 i h w
def Tryz.laysM284_ren:Go.Shelf.Ren:=⟨fun|284=>173|129=>208|317=>207|318=>209|n=>n,fun|53=>40|3=>3|212=>211|0=>0|4=>4|46=>163|5=>5|9=>9|n=>n,fun|17=>4|n=>n⟩
theorem Tryz.laysM284:Go.Proofs.LaysM.n284 Tryz.prog Tryz.laysM284_ren:={
 mixed:=by kernel_rfl
 f129:=Tryz.func208.trans (congrArg some (by kernel_rfl))
 f284:=Tryz.func173.trans (congrArg some (by kernel_rfl))
 f317:=Tryz.func207.trans (congrArg some (by kernel_rfl))
 f318:=Tryz.func209.trans (congrArg some (by kernel_rfl))
 t0:=Tryz.underlying0
 a0:=Tryz.isAgg0
 z0:=Tryz.sizeOf0
 v0:=Tryz.zeroValue0
 t3:=Tryz.underlying3
 a3:=Tryz.isAgg3
 z3:=Tryz.sizeOf3
 v3:=Tryz.zeroValue3
 t4:=Tryz.underlying4
 a4:=Tryz.isAgg4
 z4:=Tryz.sizeOf4
 v4:=Tryz.zeroValue4
 t5:=Tryz.underlying5
 a5:=Tryz.isAgg5
 z5:=Tryz.sizeOf5
 v5:=Tryz.zeroValue5
 t9:=Tryz.underlying9
 a9:=Tryz.isAgg9
 z9:=Tryz.sizeOf9
 v9:=Tryz.zeroValue9
 t46:=Tryz.underlying163
 a46:=Tryz.isAgg163
 z46:=Tryz.sizeOf163
 v46:=Tryz.zeroValue163
 t53:=Tryz.underlying40
 a53:=Tryz.isAgg40
 z53:=Tryz.sizeOf40
 v53:=Tryz.zeroValue40
 t212:=Tryz.underlying211
 a212:=Tryz.isAgg211
 z212:=Tryz.sizeOf211
 v212:=Tryz.zeroValue211
 g17:=by kernel_rfl
 i0:=by kernel_rfl
 i3:=by kernel_rfl
 i4:=by kernel_rfl
 i5:=by kernel_rfl
 i9:=by kernel_rfl
 i46:=by kernel_rfl
 i53:=by kernel_rfl
 i212:=by kernel_rfl
 m17:=by kernel_rfl }
open Go.Lib in
theorem Tryz.internal_strconv_numDigits (u:Nat) (h1:1<=u) (h2:u<18446744073709551616) (w:World) (htab:Lib.TabIs Tryz.prog w "internal/strconv.uint64pow10" .u64 Lib.pow10Tab) :
  Calls Tryz.prog 173 #[.int .u64 u] w fun e w'=>e=.returned (.int .i64 (Lib.nDigits u))/\w'=w:=Any.internal_strconv_numDigits Tryz.laysM284 u h1 h2 w htab
def Tryz.lays285_ren:Go.Shelf.Ren:=⟨fun|285=>174|n=>n,fun|37=>89|53=>40|3=>3|4=>4|51=>184|9=>9|5=>5|0=>0|n=>n,fun|n=>n⟩
theorem Tryz.lays285:Go.Proofs.Lays.n285 Tryz.prog Tryz.lays285_ren:={
 mixed:=by kernel_rfl
 f285:=Tryz.func174.trans (congrArg some (by kernel_rfl))
 t0:=Tryz.underlying0
 a0:=Tryz.isAgg0
 z0:=Tryz.sizeOf0
 v0:=Tryz.zeroValue0
 t3:=Tryz.underlying3
 a3:=Tryz.isAgg3
 z3:=Tryz.sizeOf3
 v3:=Tryz.zeroValue3
 t4:=Tryz.underlying4
 a4:=Tryz.isAgg4
 z4:=Tryz.sizeOf4
 v4:=Tryz.zeroValue4
 t5:=Tryz.underlying5
 a5:=Tryz.isAgg5
 z5:=Tryz.sizeOf5
 v5:=Tryz.zeroValue5
 t9:=Tryz.underlying9
 a9:=Tryz.isAgg9
 z9:=Tryz.sizeOf9
 v9:=Tryz.zeroValue9
 t37:=Tryz.underlying89
 a37:=Tryz.isAgg89
 z37:=Tryz.sizeOf89
 v37:=Tryz.zeroValue89
 t51:=Tryz.underlying184
 a51:=Tryz.isAgg184
 z51:=Tryz.sizeOf184
 v51:=Tryz.zeroValue184
 t53:=Tryz.underlying40
 a53:=Tryz.isAgg40
 z53:=Tryz.sizeOf40
 v53:=Tryz.zeroValue40 }
open Go.RowKit Go.Sort Go.Lib in
theorem Tryz.internal_strconv_formatBase10 (blk off cap:Nat) (u:Nat) (d:Array UInt8) (w:World) (hH:Holds (fun (b:UInt8)=>Value.int .u8 (b.toNat:Int)) w blk off d) (hu:u<10 ^ d.size) (hu64:u<18446744073709551616) (hsz:d.size<4611686018427387904) :
  Calls Tryz.prog 174 #[.slice (some ⟨blk,off,none⟩) d.size cap,.int .u64 u] w fun e w' =>
   e=.returned (.tuple #[])/\∃(n v':Nat) (dk:Array UInt8),w'=(putRow (fun (b:UInt8)=>Value.int .u8 (b.toNat:Int)) w blk off dk).drewN n/\FmtInv d.size u 0 v' dk:=Any.internal_strconv_formatBase10 Tryz.lays285 blk off cap u d w hH hu hu64 hsz
def Tryz.laysPu14_ren:Go.Shelf.Ren:=⟨fun|14=>119|16=>166|17=>167|19=>201|20=>202|21=>203|22=>204|23=>205|24=>206|25=>227|27=>88|26=>228|28=>129|29=>169|30=>172|31=>173|32=>174|33=>175|35=>208|34=>207|36=>209|37=>210|38=>211|39=>229|40=>230|n=>n,fun|9=>9|3=>3|22=>40|24=>94|25=>147|4=>4|34=>204|5=>5|36=>163|37=>89|0=>0|39=>205|21=>21|44=>228|47=>130|50=>240|48=>238|2=>2|52=>177|55=>180|59=>211|60=>184|20=>20|61=>212|65=>241|66=>242|67=>97|n=>n,fun|0=>5|1=>6|2=>4|3=>7|4=>8|n=>n⟩
theorem Tryz.laysPu14:Go.Proofs.LaysPu.n14 Tryz.prog Tryz.laysPu14_ren:={
 mixed:=by kernel_rfl
 f14:=Tryz.func119.trans (congrArg some (by kernel_rfl))
 f16:=Tryz.func166.trans (congrArg some (by kernel_rfl))
 f17:=Tryz.func167.trans (congrArg some (by kernel_rfl))
 f19:=Tryz.func201.trans (congrArg some (by kernel_rfl))
 f20:=Tryz.func202.trans (congrArg some (by kernel_rfl))
 f21:=Tryz.func203.trans (congrArg some (by kernel_rfl))
 f22:=Tryz.func204.trans (congrArg some (by kernel_rfl))
 f23:=Tryz.func205.trans (congrArg some (by kernel_rfl))
 f24:=Tryz.func206.trans (congrArg some (by kernel_rfl))
 f25:=Tryz.func227.trans (congrArg some (by kernel_rfl))
 f26:=Tryz.func228.trans (congrArg some (by kernel_rfl))
 f27:=Tryz.func88.trans (congrArg some (by kernel_rfl))
 f28:=Tryz.func129.trans (congrArg some (by kernel_rfl))
 f29:=Tryz.func169.trans (congrArg some (by kernel_rfl))
 f30:=Tryz.func172.trans (congrArg some (by kernel_rfl))
 f31:=Tryz.func173.trans (congrArg some (by kernel_rfl))
 f32:=Tryz.func174.trans (congrArg some (by kernel_rfl))
 f33:=Tryz.func175.trans (congrArg some (by kernel_rfl))
 f34:=Tryz.func207.trans (congrArg some (by kernel_rfl))
 f35:=Tryz.func208.trans (congrArg some (by kernel_rfl))
 f36:=Tryz.func209.trans (congrArg some (by kernel_rfl))
 f37:=Tryz.func210.trans (congrArg some (by kernel_rfl))
 f38:=Tryz.func211.trans (congrArg some (by kernel_rfl))
 f39:=Tryz.func229.trans (congrArg some (by kernel_rfl))
 f40:=Tryz.func230.trans (congrArg some (by kernel_rfl))
 t0:=Tryz.underlying0
 a0:=Tryz.isAgg0
 z0:=Tryz.sizeOf0
 v0:=Tryz.zeroValue0
 i0:=by kernel_rfl
 t2:=Tryz.underlying2
 a2:=Tryz.isAgg2
 z2:=Tryz.sizeOf2
 v2:=Tryz.zeroValue2
 i2:=by kernel_rfl
 t3:=Tryz.underlying3
 a3:=Tryz.isAgg3
 z3:=Tryz.sizeOf3
 v3:=Tryz.zeroValue3
 i3:=by kernel_rfl
 t4:=Tryz.underlying4
 a4:=Tryz.isAgg4
 z4:=Tryz.sizeOf4
 v4:=Tryz.zeroValue4
 i4:=by kernel_rfl
 t5:=Tryz.underlying5
 a5:=Tryz.isAgg5
 z5:=Tryz.sizeOf5
 v5:=Tryz.zeroValue5
 i5:=by kernel_rfl
 t9:=Tryz.underlying9
 a9:=Tryz.isAgg9
 z9:=Tryz.sizeOf9
 v9:=Tryz.zeroValue9
 i9:=by kernel_rfl
 t20:=Tryz.underlying20
 a20:=Tryz.isAgg20
 z20:=Tryz.sizeOf20
 v20:=Tryz.zeroValue20
 i20:=by kernel_rfl
 t21:=Tryz.underlying21
 a21:=Tryz.isAgg21
 z21:=Tryz.sizeOf21
 v21:=Tryz.zeroValue21
 i21:=by kernel_rfl
 t22:=Tryz.underlying40
 a22:=Tryz.isAgg40
 z22:=Tryz.sizeOf40
 v22:=Tryz.zeroValue40
 i22:=by kernel_rfl
 t24:=Tryz.underlying94
 a24:=Tryz.isAgg94
 z24:=Tryz.sizeOf94
 v24:=Tryz.zeroValue94
 i24:=by kernel_rfl
 t25:=Tryz.underlying147
 a25:=Tryz.isAgg147
 z25:=Tryz.sizeOf147
 v25:=Tryz.zeroValue147
 i25:=by kernel_rfl
 t34:=Tryz.underlying204
 a34:=Tryz.isAgg204
 z34:=Tryz.sizeOf204
 v34:=Tryz.zeroValue204
 i34:=by kernel_rfl
 c34:=by kernel_rfl
 t36:=Tryz.underlying163
 a36:=Tryz.isAgg163
 z36:=Tryz.sizeOf163
 v36:=Tryz.zeroValue163
 i36:=by kernel_rfl
 t37:=Tryz.underlying89
 a37:=Tryz.isAgg89
 z37:=Tryz.sizeOf89
 v37:=Tryz.zeroValue89
 i37:=by kernel_rfl
 t39:=Tryz.underlying205
 a39:=Tryz.isAgg205
 z39:=Tryz.sizeOf205
 v39:=Tryz.zeroValue205
 i39:=by kernel_rfl
 t44:=Tryz.underlying228
 a44:=Tryz.isAgg228
 z44:=Tryz.sizeOf228
 v44:=Tryz.zeroValue228
 i44:=by kernel_rfl
 t47:=Tryz.underlying130
 a47:=Tryz.isAgg130
 z47:=Tryz.sizeOf130
 v47:=Tryz.zeroValue130
 i47:=by kernel_rfl
 t48:=Tryz.underlying238
 a48:=Tryz.isAgg238
 z48:=Tryz.sizeOf238
 v48:=Tryz.zeroValue238
 i48:=by kernel_rfl
 t50:=Tryz.underlying240
 a50:=Tryz.isAgg240
 z50:=Tryz.sizeOf240
 v50:=Tryz.zeroValue240
 i50:=by kernel_rfl
 t52:=Tryz.underlying177
 a52:=Tryz.isAgg177
 z52:=Tryz.sizeOf177
 v52:=Tryz.zeroValue177
 i52:=by kernel_rfl
 t55:=Tryz.underlying180
 a55:=Tryz.isAgg180
 z55:=Tryz.sizeOf180
 v55:=Tryz.zeroValue180
 i55:=by kernel_rfl
 t59:=Tryz.underlying211
 a59:=Tryz.isAgg211
 z59:=Tryz.sizeOf211
 v59:=Tryz.zeroValue211
 i59:=by kernel_rfl
 t60:=Tryz.underlying184
 a60:=Tryz.isAgg184
 z60:=Tryz.sizeOf184
 v60:=Tryz.zeroValue184
 i60:=by kernel_rfl
 t61:=Tryz.underlying212
 a61:=Tryz.isAgg212
 z61:=Tryz.sizeOf212
 t65:=Tryz.underlying241
 a65:=Tryz.isAgg241
 z65:=Tryz.sizeOf241
 v65:=Tryz.zeroValue241
 i65:=by kernel_rfl
 t66:=Tryz.underlying242
 a66:=Tryz.isAgg242
 z66:=Tryz.sizeOf242
 v66:=Tryz.zeroValue242
 i66:=by kernel_rfl
 t67:=Tryz.underlying97
 a67:=Tryz.isAgg97
 z67:=Tryz.sizeOf97
 v67:=Tryz.zeroValue97
 i67:=by kernel_rfl
 g0:=by kernel_rfl
 m0:=by kernel_rfl
 g1:=by kernel_rfl
 m1:=by kernel_rfl
 g2:=by kernel_rfl
 m2:=by kernel_rfl
 g3:=by kernel_rfl
 m3:=by kernel_rfl
 g4:=by kernel_rfl
 m4:=by kernel_rfl }
open Go.RowKit in
theorem Tryz.strconv_ParseUint_10_at64_ok (s:ByteArray) (hmax:s.size<=9223372036854775806) (u:Nat) (h:Lib.parseUintB 64 s.data.toList=.ok u) (w:World) :
  Calls Tryz.prog 119 #[.string s,.int .i64 10,.int .i64 64] w fun e w'=>e=.returned (.tuple #[.int .u64 u,.nilIface])/\(w'=w∨w'=Lib.bytesWorld w 5 s):=Any.strconv_ParseUint_10_at64_ok Tryz.laysPu14 s hmax u h w
open Go.RowKit in
theorem Tryz.strconv_ParseUint_10_at64_syntax (s:ByteArray) (hlim:s.size<=281474976710656) (h:Lib.parseUintB 64 s.data.toList=.«syntax») (ev:Value) (w:World) (hv:w.cell? ⟨5,0,none⟩=some ev) (hev:ev=.nilIface∨∃te pe,ev=.iface te pe) :
  Calls Tryz.prog 119 #[.string s,.int .i64 10,.int .i64 64] w fun e w'=>∃N,e=.returned (.tuple #[.int .u64 0,.iface 205 (.pointer (some ⟨N,0,none⟩))])/\w.heap.size<=N/\w'.heap[N]? = some (.cells #[.string ⟨#[80,97,114,115,101,85,105,110,116]⟩,.string s,ev] 228 (0,0))/\Below w.heap.size w w':=Any.strconv_ParseUint_10_at64_syntax Tryz.laysPu14 s hlim h ev w hv hev
open Go.RowKit in
theorem Tryz.strconv_ParseUint_10_at64_range (s:ByteArray) (hlim:s.size<=281474976710656) (h:Lib.parseUintB 64 s.data.toList=.range) (ev:Value) (w:World) (hv:w.cell? ⟨6,0,none⟩=some ev) (hev:ev=.nilIface∨∃te pe,ev=.iface te pe) :
  Calls Tryz.prog 119 #[.string s,.int .i64 10,.int .i64 64] w fun e w'=>∃N,e=.returned (.tuple #[.int .u64 18446744073709551615,.iface 205 (.pointer (some ⟨N,0,none⟩))])/\w.heap.size<=N/\w'.heap[N]? = some (.cells #[.string ⟨#[80,97,114,115,101,85,105,110,116]⟩,.string s,ev] 228 (0,0))/\Below w.heap.size w w':=Any.strconv_ParseUint_10_at64_range Tryz.laysPu14 s hlim h ev w hv hev
def Tryz.lays101_ren:Go.Shelf.Ren:=⟨fun|101=>67|208=>108|206=>60|n=>n,fun|9=>9|4=>4|3=>3|n=>n,fun|n=>n⟩
theorem Tryz.lays101:Go.Proofs.Lays.n101 Tryz.prog Tryz.lays101_ren:={
 mixed:=by kernel_rfl
 f101:=Tryz.func67.trans (congrArg some (by kernel_rfl))
 f206:=Tryz.func60.trans (congrArg some (by kernel_rfl))
 f208:=Tryz.func108.trans (congrArg some (by kernel_rfl))
 t3:=Tryz.underlying3
 a3:=Tryz.isAgg3
 z3:=Tryz.sizeOf3
 v3:=Tryz.zeroValue3
 t4:=Tryz.underlying4
 a4:=Tryz.isAgg4
 z4:=Tryz.sizeOf4
 v4:=Tryz.zeroValue4
 t9:=Tryz.underlying9
 a9:=Tryz.isAgg9
 z9:=Tryz.sizeOf9
 v9:=Tryz.zeroValue9 }
open Go.RowKit Go.Lib in
theorem Tryz.strings_TrimPrefix (s p:ByteArray) (w:World) :
  Calls Tryz.prog 67 #[.string s,.string p] w fun e w'=>e=.returned (.string ⟨(Lib.trimPrefix s.data.toList p.data.toList).toArray⟩)/\w'=w:=Any.strings_TrimPrefix Tryz.lays101 s p w
def Tryz.eqEdt_ren:Go.Shelf.Ren:=⟨fun|8=>58|n=>n,fun|22=>38|24=>47|4=>4|3=>3|0=>0|n=>n,fun|n=>n⟩
theorem Tryz.eqEdt:Go.Proofs.SlLaysQ.n8 Tryz.prog Tryz.eqEdt_ren:={
 mixed:=by kernel_rfl
 f8:=⟨Tryz.f58.name,by decide,Tryz.func58.trans (congrArg some (by kernel_rfl))⟩
 t0:=Tryz.underlying0
 a0:=Tryz.isAgg0
 z0:=Tryz.sizeOf0
 v0:=Tryz.zeroValue0
 t3:=Tryz.underlying3
 a3:=Tryz.isAgg3
 z3:=Tryz.sizeOf3
 v3:=Tryz.zeroValue3
 t4:=Tryz.underlying4
 a4:=Tryz.isAgg4
 z4:=Tryz.sizeOf4
 v4:=Tryz.zeroValue4
 t22:=Tryz.underlying38
 a22:=Tryz.isAgg38
 z22:=Tryz.sizeOf38
 v22:=Tryz.zeroValue38 }
end Go.Proofs
namespace Go.Proofs.YtjeogllmpjihaaaGreatDoor
section
open Go.RowKit Go.Lib
def zBd (g:Nat) (w:World):Prop:=∃ev,w.cell? ⟨g,0,none⟩=some ev/\(ev=.nilIface∨∃te pe,ev=.iface te pe)
theorem zBd.on {g:Nat} {w w':World} (h:zBd g w) (hb:Below w.heap.size w w'):zBd g w':=by
 obtain ⟨ev,h1,h2⟩:=h
 have hlt:g<w.z:=by
  rcases Nat.lt_or_ge g w.z with h|h
  ·exact h
  ·unfold World.cell? at h1;simp only [Array.getElem?_eq_none h] at h1
   cases h1
 exact ⟨ev,(hb.cell (p:=(aa g 0)) hlt).trans h1,h2⟩
theorem zN1 {w w':World} {name:String} {k:IntKind} {zs:List Int} (h:TabIs Tryz.prog w name k zs) (hb:Below w.heap.size w w'):TabIs Tryz.prog w' name k zs:=by
 unfold TabIs World.var? at *
 cases hg:Tryz.prog.globalNamed name with
 | none=>simp [hg] at h
 | some g =>
  simp only [hg,Option.bind_some] at h ⊢
  have hlt:g<w.z:=by
   rcases Nat.lt_or_ge g w.z with h'|h'
   ·exact h'
   ·rw [Array.getElem?_eq_none h'] at h;simp at h
  rw [hb.block g hlt];exact h
structure wQ (w:World):Prop where
 plain:zY w
 max:∃m:Int,w.cell? ⟨2,0,none⟩=some (.int .i64 m)
 pow:TabIs Tryz.prog w "internal/strconv.uint64pow10" .u64 pow10Tab
 syn:zBd 5 w
 ran:zBd 6 w
theorem wQ.on {w w':World} (h:wQ w) (hb:Below w.heap.size w w'):wQ w':=by
 refine ⟨h.plain.on hb,?_,zN1 h.pow hb,h.syn.on hb,h.ran.on hb⟩;obtain ⟨m,hm⟩:=h.max
 have hlt:(2:Nat)<w.z:=by
  rcases Nat.lt_or_ge (2:Nat) w.z with h|h
  ·exact h
  ·unfold World.cell? at hm;simp only [Array.getElem?_eq_none h] at hm
   cases hm
 exact ⟨m,(hb.cell (p:=(aa 2 0)) hlt).trans hm⟩
end
section
def yH (n:Nat):List UInt8:=if n<10 then [UInt8.ofNat (48+n)] else yH (n / 10)++[UInt8.ofNat (48+n % 10)]
 termination_by n
 decreasing_by omega
theorem tD {n:Nat} (h:n<10):yH n=[UInt8.ofNat (48+n % 10)]:=by
 unfold yH;rw [if_pos h,Nat.mod_eq_of_lt h]
theorem tY {n:Nat} (h:¬ n<10):yH n=yH (n / 10)++[UInt8.ofNat (48+n % 10)]:=by
 conv=>lhs;unfold yH
 rw [if_neg h]
theorem pV {d:Nat} (h:d<10):(UInt8.ofNat (48+d)).toNat=48+d:=by
 rw [UInt8.toNat_ofNat'];exact Nat.mod_eq_of_lt (by omega)
theorem nW (n:Nat):yH n≠[]:=by
 by_cases h:n<10
 ·rw [tD h];simp
 ·rw [tY h];simp
theorem dF (n:Nat):∀c∈yH n,48<=c.toNat/\c.toNat<=57:=by
 induction n using Nat.strongRecOn with
 | ind n ih =>
  by_cases h:n<10
  ·rw [tD h];intro c hc;rw [List.mem_singleton] at hc;rw [hc,pV (Nat.mod_lt _ (by omega))];omega
  ·rw [tY h];intro c hc
   rcases List.mem_append.1 hc with hc|hc
   ·exact ih (n / 10) (by omega) c hc
   ·rw [List.mem_singleton] at hc;rw [hc,pV (Nat.mod_lt _ (by omega))];omega
theorem zIq (n:Nat) (h0:0<n):(yH n).head?≠some 48:=by
 induction n using Nat.strongRecOn with
 | ind n ih =>
  by_cases h:n<10
  ·rw [tD h];intro e;have e1:UInt8.ofNat (48+n % 10)=48:=by simpa using e
   have e2:=congrArg UInt8.toNat e1;rw [pV (Nat.mod_lt _ (by omega))] at e2;have e3:(48:UInt8).toNat=48:=rfl;omega
  ·rw [tY h];have hi:=ih (n / 10) (by omega) (by omega)
   cases hd:yH (n / 10) with
   | nil=>exact absurd hd (nW _)
   | cons x r=>rw [hd] at hi;simpa using hi
theorem qX (n k:Nat) (h:n<10 ^ (k+1)):(yH n).length<=k+1:=by
 induction k generalizing n with
 | zero=>rw [tD (by simpa using h)];simp
 | succ k ih =>
  by_cases h1:n<10
  ·rw [tD h1];simp
  ·rw [tY h1,List.length_append];have:=ih (n / 10) (by rw [Nat.pow_succ] at h;omega);simp only [List.length_cons,List.length_nil];omega
def fF (most:Nat) (n:Nat) (c:UInt8):Option Nat :=
 if c.toNat<48∨57<c.toNat then none
 else if most<c.toNat-48∨(most-(c.toNat-48)) / 10<n then none
 else some (n * 10+(c.toNat-48))
def qV (most:Nat):Nat->List UInt8->Option Nat
 | n,[]=>some n
 | n,c::l=>(fF most n c).bind fun m=>qV most m l
def xH (most:Nat) (l:List UInt8):Option Nat :=
 if l=[] then none else if 1<l.length/\l.head? = some 48 then none else qV most 0 l
theorem nS (most:Nat) (a b:List UInt8) (n:Nat):qV most n (a++b)=(qV most n a).bind fun m=>qV most m b:=by
 induction a generalizing n with
 | nil=>rfl
 | cons c a ih =>
  simp only [List.cons_append,qV]
  cases fF most n c with
  | none=>rfl
  | some m=>simp only [Option.bind_some];exact ih m
theorem zKY (most n:Nat) (h:n<=most):qV most 0 (yH n)=some n:=by
 induction n using Nat.strongRecOn with
 | ind n ih =>
  have hd:=pV (Nat.mod_lt n (by omega:0<10))
  by_cases h1:n<10
  ·rw [tD h1];simp only [qV,fF,hd];rw [if_neg (by omega),if_neg (by omega)];simp only [Option.bind_some]
   congr 1;omega
  ·rw [tY h1,nS,ih (n / 10) (by omega) (by omega)];simp only [Option.bind_some,qV,fF,hd];rw [if_neg (by omega),if_neg (by omega)];simp only [Option.bind_some]
   congr 1;omega
theorem nV {most n:Nat} (h:n<=most):xH most (yH n)=some n:=by
 unfold xH;rw [if_neg (nW n),if_neg,zKY most n h];rintro ⟨h1,h2⟩
 by_cases h0:0<n
 ·exact zIq n h0 h2
 ·rw [tD (by omega)] at h1;simp at h1
theorem zM6 {most n:Nat}:∀{l:List UInt8} {m:Nat},n<=most->qV most n l=some m->m<=most:=by
 intro l
 induction l generalizing n with
 | nil=>intro m h e;simp only [qV,Option.some.injEq] at e;omega
 | cons c l ih =>
  intro m h e;simp only [qV] at e
  cases hc:fF most n c with
  | none=>rw [hc] at e;cases e
  | some k =>
   rw [hc] at e;refine ih ?_ e;unfold fF at hc
   split at hc
   ·cases hc
   ·split at hc
    ·cases hc
    ·simp only [Option.some.injEq] at hc;omega
theorem sO {most:Nat} {l:List UInt8} {m:Nat} (e:xH most l=some m):m<=most:=by
 unfold xH at e
 split at e
 ·cases e
 ·split at e
  ·cases e
  ·exact zM6 (Nat.zero_le _) e
theorem zDU (n:Nat):(32:UInt8) ∉ yH n:=fun h=>by
 have:=(dF n 32 h).1
 revert this;decide
end
section
open Go.Lib
theorem cO (n:Nat):decDigits n=yH n:=by
 induction n using Nat.strongRecOn with
 | ind n ih =>
  by_cases h:n<10
  ·rw [yH,if_pos h,decDigits,dif_pos h]
  ·rw [yH,if_neg h,decDigits,dif_neg h,ih (n / 10) (by omega)]
theorem zCT (M:Nat) (b:List UInt8):∀(a:List UInt8) (acc m:Nat),parseUintM M acc a=.ok m->parseUintM M acc (a++b)=parseUintM M m b:=by
 intro a
 induction a with
 | nil=>intro acc m h;simp only [parseUintM,NumEnd.ok.injEq] at h;subst h;rfl
 | cons c a ih =>
  intro acc m h;rw [parseUintM] at h;rw [List.cons_append,parseUintM]
  split at h
  ·rename_i h1
   rw [if_pos h1]
   split at h
   ·cases h
   ·rename_i h2
    rw [if_neg h2]
    split at h
    ·cases h
    ·rename_i h3
     rw [if_neg h3];exact ih _ _ h
  ·cases h
theorem zH3 (n:Nat) (h:n<=18446744073709551615):parseUintM 18446744073709551615 0 (yH n)=.ok n:=by
 induction n using Nat.strongRecOn with
 | ind n ih =>
  have hd:=pV (Nat.mod_lt n (by omega:0<10))
  by_cases h1:n<10
  ·rw [tD h1];simp only [parseUintM,hd];rw [if_pos (by omega),if_neg (by omega),if_neg (by omega)]
   congr 1;omega
  ·rw [tY h1,zCT _ _ _ _ _ (ih (n / 10) (by omega) (by omega))];simp only [parseUintM,hd];rw [if_pos (by omega),if_neg (by omega),if_neg (by omega)]
   congr 1;omega
theorem zAy (n:Nat) (h:n<=18446744073709551615):parseUintB 64 (yH n)=.ok n:=by
 unfold parseUintB;rw [if_neg (nW n)];exact zH3 n h
theorem zIT {most n m:Nat} {c:UInt8} (h:fF most n c=some m):48<=c.toNat/\c.toNat<=57/\m=n * 10+(c.toNat-48):=by
 unfold fF at h
 split at h
 ·cases h
 ·split at h
  ·cases h
  ·simp only [Option.some.injEq] at h;omega
theorem zB1 {c:UInt8} (h1:48<=c.toNat):UInt8.ofNat (48+(c.toNat-48))=c:=by
 rw [Nat.add_sub_cancel' h1];simp
theorem zJN:yH 0=[48]:=by rw [tD (by omega)];rfl
theorem zJb (most:Nat):∀(k:Nat) (l:List UInt8),l.length=k+1->¬ (1<l.length/\l.head? = some 48)->∀n,qV most 0 l=some n->yH n=l:=by
 intro k
 induction k with
 | zero =>
  intro l hl h n hn
  match l,hl with
  | [c],_ =>
   simp only [qV] at hn
   cases hc:fF most 0 c with
   | none=>rw [hc] at hn;cases hn
   | some m =>
    rw [hc] at hn;simp only [Option.bind_some,Option.some.injEq] at hn;obtain ⟨h1,h2,h3⟩:=zIT hc;subst hn;rw [yH,if_pos (by omega)];have:m=c.toNat-48:=by omega
    rw [this,zB1 h1]
 | succ k ih =>
  intro l hl h n hn;have hne:l≠[]:=by intro e;rw [e] at hl;simp at hl
  obtain ⟨a,c,rfl⟩:∃a c,l=a++[c]:=⟨l.dropLast,l.getLast hne,(List.dropLast_concat_getLast hne).symm⟩;have hla:a.length=k+1:=by simpa using hl
  have hda:a.head?≠some 48:=fun e=>h ⟨by simp;omega,by
   cases a with
   | nil=>simp at hla
   | cons x a=>simpa using e⟩
  rw [nS] at hn
  cases ha:qV most 0 a with
  | none=>rw [ha] at hn;cases hn
  | some m =>
   rw [ha] at hn;have e1:=ih a hla (fun e=>hda e.2) m ha;simp only [Option.bind_some,qV] at hn
   cases hc:fF most m c with
   | none=>rw [hc] at hn;cases hn
   | some q =>
    rw [hc] at hn;simp only [Option.bind_some,Option.some.injEq] at hn;subst hn;obtain ⟨h1,h2,h3⟩:=zIT hc
    have hm:0<m:=by
     apply Nat.pos_of_ne_zero
     intro e0;rw [e0,zJN] at e1;exact hda (by rw [<-e1];rfl)
    rw [tY (by omega)];have eq1:q / 10=m:=by omega
    have eq2:q % 10=c.toNat-48:=by omega
    rw [eq1,eq2,e1,zB1 h1]
theorem gH {most n:Nat} {l:List UInt8} (h:xH most l=some n):yH n=l:=by
 unfold xH at h
 split at h
 ·cases h
 ·rename_i h0
  split at h
  ·cases h
  ·rename_i h1
   cases l with
   | nil=>exact absurd rfl h0
   | cons c l=>exact zJb most l.length _ (by simp) h1 n h
def zD7 (l:List UInt8):Option Nat:=match parseUintB 64 l with
 | .ok u=>if decDigits u=l then some u else none
 | _=>none
theorem zJW (M:Nat):∀(l:List UInt8) (acc u:Nat),acc<=M->parseUintM M acc l=.ok u->u<=M:=by
 intro l
 induction l with
 | nil=>intro acc u h e;simp only [parseUintM,NumEnd.ok.injEq] at e;omega
 | cons c l ih =>
  intro acc u h e;rw [parseUintM] at e
  split at e
  ·split at e
   ·cases e
   ·split at e
    ·cases e
    ·exact ih _ _ (by omega) e
  ·cases e
theorem zDE {l:List UInt8} {u:Nat} (h:parseUintB 64 l=.ok u):u<=18446744073709551615:=by
 unfold parseUintB at h
 split at h
 ·cases h
 ·exact zJW _ _ _ _ (by omega) h
theorem zIx (l:List UInt8):zD7 l=xH 18446744073709551615 l:=by
 unfold zD7
 cases hp:parseUintB 64 l with
 | ok u =>
  simp only;have hu:=zDE hp
  by_cases hd:decDigits u=l
  ·rw [if_pos hd];rw [cO] at hd;rw [<-hd,nV hu]
  ·rw [if_neg hd]
   cases hn:xH 18446744073709551615 l with
   | none=>rfl
   | some n =>
    exfalso
    have e:=gH hn;have e2:=zAy n (sO hn);rw [e,hp] at e2;simp only [NumEnd.ok.injEq] at e2;exact hd (by rw [cO,e2,e])
 | _ =>
  simp only
  cases hn:xH 18446744073709551615 l with
  | none=>rfl
  | some n =>
   exfalso
   have e2:=zAy n (sO hn);rw [gH hn,hp] at e2
   cases e2
theorem zLi {most:Nat} (hm:most<=18446744073709551615) (l:List UInt8) :
  xH most l=(xH 18446744073709551615 l).bind fun n=>if n<=most then some n else none:=by
 cases hn:xH most l with
 | none =>
  cases hb:xH 18446744073709551615 l with
  | none=>rfl
  | some n =>
   simp only [Option.bind_some]
   by_cases h:n<=most
   ·exfalso
    have:=nV h;rw [gH hb,hn] at this
    cases this
   ·rw [if_neg h]
 | some n =>
  have h:=sO hn;have:=nV (most:=18446744073709551615) (n:=n) (by omega);rw [gH hn] at this;rw [this,Option.bind_some,if_pos h]
end
section
open Go.RowKit Go.Lib Go.Sort
theorem zEc (w:World) (T:TypeId) (nd:Nat) (hs:nd<=24):Holds (fun (b:UInt8)=>Value.int .u8 (b.toNat:Int)) (w.alloc (.cells zeros24 T)) w.heap.size 0 (Array.replicate nd (0:UInt8)):=fun j hj=>by
 have hj':j<nd:=by simpa using hj
 refine ⟨?_,World.frozen?_alloc_new _ _ _ _⟩;rw [World.cell?_alloc_new,zeros24_at _ (by omega),getElem!_pos _ j hj];simp
theorem zMH (u:Nat) (h1:u<=18446744073709551615) (w:World) (htab:TabIs Tryz.prog w "internal/strconv.uint64pow10" .u64 pow10Tab) :
  Calls Tryz.prog 133 #[.int .u64 u,.int .i64 10] w fun e w'=>e=.returned (.string ⟨(decDigits u).toArray⟩)/\Below w.heap.size w w':=by
 by_cases hs:u<100
 ·have hc:IntKind.i64.wrap (u:Int)=(u:Int):=by rw [IntKind.wrap_i64];omega
  have hlt:(u:Int)<100:=by omega
  go_enter Tryz.func133,Tryz.ntmps133
  go_wp2_with (go_at_call 172;refine (Tryz.internal_strconv_small u hs _).mono ?_;rintro e w' ⟨rfl,rfl⟩)
  go_ret;exact ⟨rfl,Below.refl _ _⟩
 ·have hlt:¬ (u:Int)<100:=by omega
  have hu1:1<=u:=by omega
  have hu64:u<18446744073709551616:=by omega
  have hnd20:nDigits u<=20:=by have:=numDigits_eq u hu1 hu64;split at this<;>omega
  have hb3:nDigits u<=24:=by omega
  have hal:Tryz.prog.arrayLen 177=24:=by kernel_rfl
  have hsl1:∀W,(Instr.sliceAt 177 (.pointer (some (aa w.heap.size 0))) none (some (ii (nDigits u:Int))) none).run Tryz.prog W=.ok (sc (some (aa w.heap.size 0)) (nDigits u) 24) W:=fun W=>by
   rw [run_sliceAt_array_h W 177 (aa w.heap.size 0) (by kernel_rfl) .i64 (nDigits u:Int) (by omega) (by rw [hal];omega)]
   go_simp
  have hH0:=zEc w 177 (nDigits u) (by omega);have hfmt:=Tryz.internal_strconv_formatBase10 w.heap.size 0 24 u (Array.replicate (nDigits u) 0) (w.alloc (.cells zeros24 177)) hH0 (by rw [Array.size_replicate];exact lt_pow_nDigits u) hu64 (by rw [Array.size_replicate];omega);rw [Array.size_replicate] at hfmt;have HH0:=hid hH0;clear hH0 hal;go_enter Tryz.func133,Tryz.ntmps133;go_wp2_with (go_at_call 173;refine (Tryz.internal_strconv_numDigits u hu1 hu64 _ (tabIs_alloc htab _)).mono ?_;rintro e w' ⟨rfl,rfl⟩)
  go_at_call 174
  refine hfmt.mono ?_;rintro e w' ⟨rfl,k,v',dk,rfl,hF⟩
  have hcv:(convert 89 9 (sc (some (aa w.heap.size 0)) (nDigits u) 24)).run Tryz.prog ((putRow (fun (b:UInt8)=>Value.int .u8 (b.toNat:Int)) (w.alloc (.cells zeros24 177)) w.heap.size 0 dk).drewN k)=.ok (tq ⟨(decDigits u).toArray⟩) ((putRow (fun (b:UInt8)=>Value.int .u8 (b.toNat:Int)) (w.alloc (.cells zeros24 177)) w.heap.size 0 dk).drewN k):=by
   have h:=run_convert_bytes_back (P:=Tryz.prog) ((putRow (fun (b:UInt8)=>Value.int .u8 (b.toNat:Int)) (w.alloc (.cells zeros24 177)) w.heap.size 0 dk).drewN k) 89 9 5 (aa w.heap.size 0) 24 (decDigits u) Tryz.underlying89 Tryz.underlying5 Tryz.underlying9 (fun j hj=>by
    rw [row_is_numeral hF j hj,add_plain,World.cell?_drewN];exact cell?_putRow (fun (b:UInt8)=>Value.int .u8 (b.toNat:Int)) _ w.heap.size 0 _ dk HH0.out (by rw [hF.size,Array.size_replicate]) j (by rw [hF.size];rw [decDigits_length] at hj;exact hj))
   rw [decDigits_length] at h;exact h
  go_wp2
  go_ret;refine ⟨rfl,?_⟩
  obtain ⟨os,eo⟩:∃os,(putRow (fun (b:UInt8)=>Value.int .u8 (b.toNat:Int)) (w.alloc (.cells zeros24 177)) w.heap.size 0 dk).drewN k=grow (w.drewN k) os:=by
   rw [alloc_eq_grow];obtain ⟨os',_,e⟩:=putRow_grow_new (fun (b:UInt8)=>Value.int .u8 (b.toNat:Int)) w #[.cells zeros24 177] w.heap.size 0 dk (Nat.le_refl _);exact ⟨os',by rw [e];rfl⟩
  rw [eo];exact ((zK.refl w).on (q:=k) (os:=os)).below
theorem zBj (u:Nat) (h1:u<=18446744073709551615) (w:World) (hv:wQ w) :
  Calls Tryz.prog 92 #[.int .u64 u,.int .i64 10] w fun e w'=>e=.returned (.string ⟨(yH u).toArray⟩)/\Below w.heap.size w w':=by
 go_enter Tryz.func92,Tryz.ntmps92
 go_wp2_with (go_at_call 133;refine (zMH u h1 _ hv.pow).mono ?_;rintro e w1 ⟨rfl,hb⟩)
 go_ret;exact ⟨by rw [cO];rfl,hb⟩
theorem zFL (n:Nat) (h1:n<=999999999) (w:World) (hv:wQ w) :
  Calls Tryz.prog 88 #[.int .i64 n] w fun e w'=>e=.returned (.string ⟨(yH n).toArray⟩)/\Below w.heap.size w w' :=
 (Tryz.strconv_Itoa n (by omega) (by omega) w hv.pow).mono (by
  rintro e w' ⟨rfl,k,os,rfl⟩;refine ⟨by rw [itoa_nonneg,cO],((zK.refl w).on (q:=k) (os:=os)).below⟩)
def zNM (o:Option Nat):Int:=(o.getD 0:Nat)
theorem zGN (s:ByteArray) (w:World) (hs:s.size<=4294967000) (hv:wQ w) :
  Calls Tryz.prog 119 #[.string s,.int .i64 10,.int .i64 64] w fun e w' =>
   (∃(n:Int) (ev:Value),e=.returned (.tuple #[.int .u64 n,ev])/\((∃u:Nat,parseUintB 64 s.data.toList=.ok u/\n=u/\ev=.nilIface)∨((∀u,parseUintB 64 s.data.toList≠.ok u)/\∃t p,ev=.iface t p)))/\Below w.heap.size w w':=by
 rcases hp:parseUintB 64 s.data.toList with u|_|_
 ·refine (Tryz.strconv_ParseUint_10_at64_ok s (by omega) u hp w).mono ?_;rintro e w' ⟨rfl,hw⟩;refine ⟨⟨_,_,rfl,.inl ⟨u,rfl,rfl,rfl⟩⟩,?_⟩
  rcases hw with rfl|rfl
  ·exact Below.refl _ _
  ·exact bytesWorld_below w _ s
 ·obtain ⟨ev,h1,h2⟩:=hv.syn;refine (Tryz.strconv_ParseUint_10_at64_syntax s (by omega) hp ev w h1 h2).mono ?_;rintro e w' ⟨N,rfl,_,_,hb⟩;exact ⟨⟨_,_,rfl,.inr ⟨fun u h=>(by cases h),_,_,rfl⟩⟩,hb⟩
 ·obtain ⟨ev,h1,h2⟩:=hv.ran;refine (Tryz.strconv_ParseUint_10_at64_range s (by omega) hp ev w h1 h2).mono ?_;rintro e w' ⟨N,rfl,_,_,hb⟩;exact ⟨⟨_,_,rfl,.inr ⟨fun u h=>(by cases h),_,_,rfl⟩⟩,hb⟩
theorem zCk (s:ByteArray) (w:World) (hs:s.size<=4294967000) (hv:wQ w) :
  Calls Tryz.prog 76 #[.string s] w fun e w' =>
   e=.returned (.tuple #[.int .u64 (zNM (xH 18446744073709551615 s.data.toList)),.bool (xH 18446744073709551615 s.data.toList).isSome])/\Below w.heap.size w w':=by
 have HV:=hid hv;have HW:=hid (zIx s.data.toList);clear hv;go_enter Tryz.func76,Tryz.ntmps76;go_wp2_with fail;refine (zGN s w hs HV.out).mono ?_;rintro e w1 ⟨⟨n,ev,rfl,hc⟩,hb⟩;have HB1:=hid hb;clear hb
 rcases hc with ⟨u,hp,rfl,rfl⟩|⟨hp,t,p,rfl⟩
 ·have hu:=zDE hp;have HP:=hid hp;clear hp
  by_cases hd:(⟨(yH u).toArray⟩:ByteArray)=s
  ·have HE:xH 18446744073709551615 s.data.toList=some u:=by rw [<-hd];exact nV hu
   go_wp2_with (go_at_call 92;refine (zBj u hu _ (HV.out.on HB1.out)).mono ?_;rintro e w2 ⟨rfl,hb2⟩;have HB2:=hid hb2;clear hb2)
   go_ret2
   rw [HE];exact ⟨rfl,HB1.out.trans (HB2.out.mono HB1.out.size)⟩
  ·have HE:xH 18446744073709551615 s.data.toList=none:=by
    rw [<-HW.out];unfold zD7;rw [HP.out];simp only;rw [if_neg];intro q;rw [cO] at q;exact hd (by rw [q])
   have hq:(yH u==s.toList)=false:=beq_eq_false_iff_ne.2 fun q=>hd (by rw [q,toList_data])
   go_wp2_with (go_at_call 92;refine (zBj u hu _ (HV.out.on HB1.out)).mono ?_;rintro e w2 ⟨rfl,hb2⟩;have HB2:=hid hb2;clear hb2)
   go_ret2
   rw [HE];exact ⟨rfl,HB1.out.trans (HB2.out.mono HB1.out.size)⟩
 ·have HE:xH 18446744073709551615 s.data.toList=none:=by
   rw [<-HW.out];unfold zD7
   split
   ·rename_i u hu;exact absurd hu (hp u)
   ·rfl
  clear hp;go_wp2_with fail
  go_ret2
  rw [HE];exact ⟨rfl,HB1.out⟩
theorem zAZ (s:ByteArray) (w:World) (hs:s.size<=4294967000) (hv:wQ w) :
  Calls Tryz.prog 75 #[.string s] w fun e w' =>
   e=.returned (.tuple #[.int .i64 (zNM (xH 999999999 s.data.toList)),.bool (xH 999999999 s.data.toList).isSome])/\Below w.heap.size w w':=by
 have HM:=hid (zLi (most:=999999999) (by omega) s.data.toList);have HV:=hid hv;clear hv;go_enter Tryz.func75,Tryz.ntmps75;go_wp2_with fail;refine (zCk s w hs HV.out).mono ?_;rintro e w1 ⟨rfl,hb⟩;have HB1:=hid hb;clear hb
 cases hn:xH 18446744073709551615 s.data.toList with
 | none =>
  have HE:xH 999999999 s.data.toList=none:=by rw [HM.out,hn];rfl
  have h1:(none:Option Nat).isSome=false:=rfl;rw [h1];go_wp2_with fail
  go_ret2
  rw [HE];exact ⟨rfl,HB1.out⟩
 | some n =>
  have hle:=sO hn;have h1:(some n).isSome=true:=rfl;have h2:zNM (some n)=(n:Int):=rfl;rw [h1,h2]
  by_cases h:n<=999999999
  ·have HE:xH 999999999 s.data.toList=some n:=by rw [HM.out,hn,Option.bind_some,if_pos h]
   have hc:IntKind.i64.wrap (n:Int)=(n:Int):=by rw [IntKind.wrap_i64];omega
   have hg:¬ (999999999:Int)<(n:Int):=by omega
   go_wp2_with fail
   go_ret2
   rw [HE];exact ⟨rfl,HB1.out⟩
  ·have HE:xH 999999999 s.data.toList=none:=by rw [HM.out,hn,Option.bind_some,if_neg h]
   have hg:(999999999:Int)<(n:Int):=by omega
   go_wp2_with fail
   go_ret2
   rw [HE];exact ⟨rfl,HB1.out⟩
theorem fY {b:ByteArray} (h:b.data.toList=[]):b=⟨#[]⟩:=by
 cases b with|mk d=>cases d with|mk l=>simp only at h;rw [h]
def zAY (s:ByteArray):List UInt8:=trimPrefix s.data.toList [105,102,32]
def cE (s:ByteArray):Option Nat:=if s.data.toList=[] then some 0 else (xH 999999999 (zAY s)).bind fun n=>if 0<n then some n else none
theorem zBp (a b:List UInt8):(trimPrefix a b).length<=a.length:=by
 unfold trimPrefix
 split
 ·simp
 ·exact Nat.le_refl _
theorem zCP (s:ByteArray) (w:World) (hs:s.size<=4294967000) (hv:wQ w) :
  Calls Tryz.prog 71 #[.string s] w fun e w' =>
   (∃n:Int,e=.returned (.tuple #[.int .i64 n,.bool (cE s).isSome])/\0<=n/\n<=999999999/\∀m,cE s=some m->n=m)/\Below w.heap.size w w':=by
 have HV:=hid hv;clear hv
 by_cases h0:s=⟨#[]⟩
 ·subst h0;go_enter Tryz.func71,Tryz.ntmps71;go_wp2_with fail
  go_ret2
  exact ⟨⟨0,rfl,by omega,by omega,fun m hm=>by have:(0:Nat)=m:=Option.some.inj hm;omega⟩,Below.refl _ _⟩
 ·have hne:s.data.toList≠[]:=fun q=>h0 (fY q)
  have HC:cE s=(xH 999999999 (zAY s)).bind fun n=>if 0<n then some n else none:=by unfold cE;rw [if_neg hne]
  have HC':=hid HC
  have hse:s.toList.isEmpty=false:=by
   rw [toList_data]
   cases hl:s.data.toList with
   | nil=>exact absurd hl hne
   | cons _ _=>rfl
  clear HC hne
  have hsz:(⟨(zAY s).toArray⟩:ByteArray).size<=4294967000:=by
   have:=zBp s.data.toList [105,102,32];have e1:(⟨(zAY s).toArray⟩:ByteArray).size=(trimPrefix s.data.toList [105,102,32]).length:=rfl;have e2:s.data.toList.length=s.size:=rfl;omega
  go_enter Tryz.func71,Tryz.ntmps71
  go_wp2_with (go_at_call 67;refine (Tryz.strings_TrimPrefix _ _ _).mono ?_;rintro e w1 ⟨rfl,rfl⟩)
  refine (zAZ ⟨(zAY s).toArray⟩ _ hsz HV.out).mono ?_;rintro e w1 ⟨rfl,hb⟩;have HB1:=hid hb;clear hb;have eu:(⟨(zAY s).toArray⟩:ByteArray).data.toList=zAY s:=rfl;rw [eu]
  cases hn:xH 999999999 (zAY s) with
  | none =>
   have HE:cE s=none:=by rw [HC'.out,hn];rfl
   have h1:(none:Option Nat).isSome=false:=rfl;rw [h1];go_wp2_with fail
   go_ret2
   rw [HE];exact ⟨⟨_,rfl,by decide,by decide,fun m hm=>by cases hm⟩,HB1.out⟩
  | some n =>
   have hle:=sO hn;have h1:(some n).isSome=true:=rfl;have h2:zNM (some n)=(n:Int):=rfl;rw [h1,h2]
   by_cases h:0<n
   ·have HE:cE s=some n:=by rw [HC'.out,hn,Option.bind_some,if_pos h]
    have hg:(0:Int)<(n:Int):=by omega
    go_wp2_with fail
    go_ret2
    rw [HE];exact ⟨⟨_,rfl,by omega,by omega,fun m hm=>by have:=Option.some.inj hm;omega⟩,HB1.out⟩
   ·have HE:cE s=none:=by rw [HC'.out,hn,Option.bind_some,if_neg h]
    have hg:¬ (0:Int)<(n:Int):=by omega
    go_wp2_with fail
    go_ret2
    rw [HE];exact ⟨⟨_,rfl,by omega,by omega,fun m hm=>by cases hm⟩,HB1.out⟩
end
section
open Go.RowKit
structure zE (α:Type) where
 T:TypeId
 k:Nat
 enc:α->List Value
 len:∀x,(enc x).length=k
 pos:0<k
 one:∀x,∀u∈enc x,u.oneCell'=true
def zE.cells {α:Type} (K:zE α) (d:List α):List Value:=d.flatMap K.enc
theorem zE.cells_one {α:Type} (K:zE α) (x:α):K.cells [x]=K.enc x:=by simp [zE.cells]
theorem zE.cells_append {α:Type} (K:zE α) (a b:List α):K.cells (a++b)=K.cells a++K.cells b:=List.flatMap_append
theorem zE.cells_len {α:Type} (K:zE α) (d:List α):(K.cells d).length=d.length * K.k:=by
 induction d with
 | nil=>simp [zE.cells]
 | cons x d ih =>
  have e:K.cells (x::d)=K.enc x++K.cells d:=rfl;rw [e,List.length_append,K.len,ih,List.length_cons,Nat.add_mul,Nat.one_mul,Nat.add_comm]
theorem zE.cells_get {α:Type} (K:zE α) (d:List α) (i:Nat) (h:i<d.length) (j:Nat) (hj:j<K.k):(K.cells d)[i * K.k+j]? = (K.enc d[i])[j]?:=by
 induction d generalizing i with
 | nil=>simp at h
 | cons x d ih =>
  have e:K.cells (x::d)=K.enc x++K.cells d:=rfl;rw [e]
  cases i with
  | zero=>rw [Nat.zero_mul,Nat.zero_add,List.getElem?_append_left (by rw [K.len];exact hj)];rfl
  | succ i =>
   have hl:(K.enc x).length<=(i+1) * K.k+j:=by rw [K.len,Nat.add_mul,Nat.one_mul];omega
   rw [List.getElem?_append_right hl,K.len];have e2:(i+1) * K.k+j-K.k=i * K.k+j:=by rw [Nat.add_mul,Nat.one_mul];omega
   rw [e2];exact ih i (by simpa using h)
theorem zE.cells_ones {α:Type} (K:zE α) (d:List α):∀u∈K.cells d,u.oneCell'=true:=by
 intro u hu;obtain ⟨x,_,hx⟩:=List.mem_flatMap.1 hu;exact K.one x u hx
def zE.At {α:Type} (K:zE α) (w:World) (b off:Nat) (d:List α):Prop :=
 ∀i,(h:i<d.length)->∀j u,(K.enc d[i])[j]? = some u->w.cell? ⟨b,off+i * K.k+j,none⟩=some u
def zE.Is {α:Type} (K:zE α) (w:World) (v:Value) (d:List α):Prop :=
 ∃p cap,v=.slice p d.length cap/\(d=[]∨∃b off,p=some ⟨b,off,none⟩/\K.At w b off d)
def zE.Own {α:Type} (K:zE α) (n0:Nat) (w:World) (v:Value) (d:List α):Prop:=w.ownsRow n0 K.T K.k v d.length (K.cells d)
theorem zE.at_kept {α:Type} {K:zE α} {w w':World} {b off:Nat} {d:List α} (h:K.At w b off d) (hb:Below w.heap.size w w'):K.At w' b off d :=
 fun i hi j u hu=>(hb.cell (p:=(aa b (off+i * K.k+j))) (zJ (h i hi j u hu))).trans (h i hi j u hu)
theorem zE.is_kept {α:Type} {K:zE α} {w w':World} {v:Value} {d:List α} (h:K.Is w v d) (hb:Below w.heap.size w w'):K.Is w' v d:=by
 obtain ⟨p,cap,rfl,h⟩:=h;refine ⟨p,cap,rfl,?_⟩
 rcases h with h|⟨b,off,hp,h⟩
 ·exact Or.inl h
 ·exact Or.inr ⟨b,off,hp,K.at_kept h hb⟩
theorem zE.is_nil {α:Type} (K:zE α) (w:World):K.Is w (.slice none 0 0) []:=⟨none,0,rfl,Or.inl rfl⟩
theorem zE.own_nil {α:Type} (K:zE α) (n0:Nat) (w:World):K.Own n0 w (.slice none 0 0) []:=World.ownsRow_nil _ _ _ _
theorem zE.own_on {α:Type} {K:zE α} {n0:Nat} {w w':World} {v:Value} {d:List α} (h:K.Own n0 w v d) (hb:Below w.heap.size w w'):K.Own n0 w' v d:=_root_.Go.Proofs.YtjeogllmpjihaaaGreatDoor.own_on h hb
theorem zE.own_weak {α:Type} {K:zE α} {n0 n1:Nat} {w:World} {v:Value} {d:List α} (h:K.Own n0 w v d) (hn:n1<=n0):K.Own n1 w v d:=_root_.Go.Proofs.YtjeogllmpjihaaaGreatDoor.own_weak h hn
theorem zE.own_shape {α:Type} {K:zE α} {n0:Nat} {w:World} {v:Value} {d:List α} (h:K.Own n0 w v d):∃p cap,v=.slice p d.length cap:=by
 rcases h.2 with ⟨hv,h0⟩|⟨g,cap,cur,hv,_⟩
 ·exact ⟨none,0,by rw [hv,h0]⟩
 ·exact ⟨_,_,hv⟩
theorem zE.own_is {α:Type} {K:zE α} {n0:Nat} {w:World} {v:Value} {d:List α} (h:K.Own n0 w v d):K.Is w v d:=by
 rcases h.2 with ⟨rfl,h0⟩|⟨g,c,cur,rfl,_,hg,_,_,hsz,htk⟩
 ·obtain rfl:=List.length_eq_zero_iff.1 h0;exact K.is_nil w
 ·refine ⟨_,c,rfl,Or.inr ⟨g,0,rfl,fun i hi j u hu=>?_⟩⟩
  have hj:j<K.k:=by
   have:=(List.getElem?_eq_some_iff.1 hu).1
   rwa [K.len] at this
  have hlt:i * K.k+j<d.length * K.k:=by
   have h1:(i+1) * K.k<=d.length * K.k:=Nat.mul_le_mul_right _ hi;rw [Nat.add_mul,Nat.one_mul] at h1;omega
  rw [Nat.zero_add,cell_of_row w g _ cur _ _ hg,<-Array.getElem?_toList];have:(K.cells d)[i * K.k+j]? = cur.toList[i * K.k+j]?:=by rw [<-htk,List.getElem?_take,if_pos hlt]
  rw [<-this,K.cells_get d i hi j hj,hu]
theorem zE.src {α:Type} {K:zE α} {w:World} {p:Option Addr} {d:List α} (h:d=[]∨∃b off,p=some ⟨b,off,none⟩/\K.At w b off d) :
  d.length=0∨∃ad,p=some ad/\∀j u,(K.cells d)[j]? = some u->w.cell? (ad.add j)=some u:=by
 rcases h with rfl|⟨b,off,rfl,hx⟩
 ·exact Or.inl rfl
 ·refine Or.inr ⟨_,rfl,fun j u hu=>?_⟩
  have hj:j<d.length * K.k:=by
   have:=(List.getElem?_eq_some_iff.1 hu).1
   rwa [K.cells_len] at this
  have hk:j / K.k<d.length:=(Nat.div_lt_iff_lt_mul K.pos).2 hj;have hm:j % K.k<K.k:=Nat.mod_lt _ K.pos;have e:j / K.k * K.k+j % K.k=j:=by rw [Nat.mul_comm];exact Nat.div_add_mod j K.k
  have hg:=K.cells_get d (j / K.k) hk (j % K.k) hm;rw [e,hu] at hg;have:=hx (j / K.k) hk (j % K.k) u hg.symm;rw [addr_add];rw [Nat.add_assoc,e] at this;exact this
theorem zE.news {α:Type} (K:zE α) (w:World) (x:α):∀j u,(K.cells [x])[j]? = some u->(w.alloc (.cells (K.enc x).toArray K.T)).cell? ((⟨w.heap.size,0,none⟩:Addr).add j)=some u:=by
 intro j u hu;rw [K.cells_one] at hu;rw [addr_add,Nat.zero_add,cell_of_row _ _ _ _ _ _ (heap_alloc_new w _)]
 simpa using hu
theorem zE.own_snoc {α:Type} {K:zE α} {n0:Nat} {w:World} {v:Value} {d:List α} {x:α} {n:Nat} {xs:List Value} (h:w.ownsRow n0 K.T K.k v n xs) (hn:n=d.length+1) (hx:xs=K.cells d++K.cells [x]):K.Own n0 w v (d++[x]):=by
 subst hn hx;unfold zE.Own;rw [K.cells_append,List.length_append];exact h
end
section
open Go.RowKit
abbrev Tm:=ByteArray × Int × ByteArray
def uC (x:Tm):List Value:=[.string x.1,.int .i64 x.2.1,.string x.2.2]
def KM:zE Tm:=⟨49,3,uC,fun _=>rfl,by decide,fun x u hu=>by simp [uC] at hu;rcases hu with rfl|rfl|rfl<;>rfl⟩
def pY (p:List Tm):Prop:=p.length<=maxLen/\∀x∈p,x.1.size<=maxLen/\x.2.2.size<=maxLen/\-9223372036854775808<=x.2.1/\x.2.1<=9223372036854775807
def yP (x:Tm):Bool:=decide (1<=x.2.1)&&decide (x.2.1<=7)&&(decide (x.2.1<6)||decide (x.2.2.size=0))
def uG (x:Tm):Bool:=yU x.1.data.toList
def vR (x:Tm):Bool:=decide (x.2.2.size<=128)
def wA (p:List Tm):Int:=if 8<p.length then 5 else if p.all uG=false then 2 else if p.all yP=false then 1 else if p.all vR=false then 5 else 0
def ltM (a b:Tm):Bool:=if a.1≠b.1 then ltB a.1 b.1 else if a.2.1≠b.2.1 then decide (a.2.1<b.2.1) else ltB a.2.2 b.2.2
theorem tP (a:Tm):ltM a a=false:=by simp [ltM,vP]
theorem zDT {a b:ByteArray} (h:ltB a b=true):a≠b:=by
 rintro rfl;rw [vP] at h
 cases h
theorem fC (a b:Tm):ltM a b=true∨a=b∨ltM b a=true:=by
 obtain ⟨a1,a2,a3⟩:=a;obtain ⟨b1,b2,b3⟩:=b;unfold ltM;simp only
 by_cases h1:a1=b1
 ·subst h1
  by_cases h2:a2=b2
  ·subst h2
   rcases qI a3 b3 with h|h|h
   ·left;simpa using h
   ·right;left;rw [h]
   ·right;right;simpa using h
  ·have h2':b2≠a2:=fun e=>h2 e.symm
   rcases Int.lt_or_gt_of_ne h2 with h|h
   ·left;simp [h2,h]
   ·right;right;simp [h2',h]
 ·have h1':b1≠a1:=fun e=>h1 e.symm
  rcases qI a1 b1 with h|h|h
  ·left;simp [h1,h]
  ·exact absurd h h1
  ·right;right;simp [h1',h]
theorem mP {a b c:Tm} (h:ltM a b=true) (k:ltM b c=true):ltM a c=true:=by
 obtain ⟨a1,a2,a3⟩:=a;obtain ⟨b1,b2,b3⟩:=b;obtain ⟨c1,c2,c3⟩:=c;unfold ltM at *;simp only at *
 by_cases h1:a1=b1
 ·subst h1
  by_cases k1:a1=c1
  ·subst k1;simp only [ne_eq,not_true_eq_false,if_false] at *
   by_cases h2:a2=b2
   ·subst h2
    by_cases k2:a2=c2
    ·subst k2;simp only [not_true_eq_false,if_false] at *;exact qG h k
    ·simp only [not_true_eq_false,if_false,k2,not_false_eq_true,if_true] at *;exact k
   ·by_cases k2:b2=c2
    ·subst k2;simp only [h2,not_false_eq_true,if_true] at *;exact h
    ·simp only [h2,k2,not_false_eq_true,if_true,decide_eq_true_eq] at h k;have h3:a2≠c2:=by omega
     simp only [h3,not_false_eq_true,if_true,decide_eq_true_eq];omega
  ·simp only [ne_eq,k1,not_false_eq_true,if_true] at *;exact k
 ·by_cases k1:b1=c1
  ·subst k1;simp only [ne_eq,h1,not_false_eq_true,if_true] at *;exact h
  ·simp only [ne_eq,h1,k1,not_false_eq_true,if_true] at h k;have h3:ltB a1 c1=true:=qG h k;have h4:a1≠c1:=zDT h3;simp only [ne_eq,h4,not_false_eq_true,if_true];exact h3
theorem zCa {a b:Tm} (h:ltM a b=true):ltM b a=false:=by
 cases k:ltM b a with
 | false=>rfl
 | true =>
  have:=mP h k;rw [tP] at this
  cases this
theorem zL8 {a b:Tm} (h:ltM a b=true):a≠b:=by
 rintro rfl;rw [tP] at h
 cases h
def uR (l:List Tm):Prop:=l.Pairwise fun x y=>ltM x y=true
theorem fG:∀(a b:List Tm),uR a->uR b->(∀x,x∈a↔x∈b)->a=b
 | [],[],_,_,_=>rfl
 | [],y::b,_,_,h=>by have:=(h y).2 (by simp);simp at this
 | x::a,[],_,_,h=>by have:=(h x).1 (by simp);simp at this
 | x::a,y::b,ha,hb,h=>by
  have ha':=List.pairwise_cons.1 ha;have hb':=List.pairwise_cons.1 hb
  have hxy:x=y:=by
   rcases List.mem_cons.1 ((h x).1 (by simp)) with e|e
   ·exact e
   ·rcases List.mem_cons.1 ((h y).2 (by simp)) with e2|e2
    ·exact e2.symm
    ·have h1:=hb'.1 x e;have h2:=ha'.1 y e2;rw [zCa h1] at h2
     cases h2
  subst hxy
  congr 1
  refine fG a b ha'.2 hb'.2 fun z=>⟨fun hz=>?_,fun hz=>?_⟩
  ·rcases List.mem_cons.1 ((h z).1 (by simp [hz])) with e|e
   ·exact absurd e.symm (zL8 (ha'.1 z hz))
   ·exact e
  ·rcases List.mem_cons.1 ((h z).2 (by simp [hz])) with e|e
   ·exact absurd e.symm (zL8 (hb'.1 z hz))
   ·exact e
def fZ (x:Tm):List Tm->List Tm
 | []=>[x]
 | y::l=>if ltM x y then x::y::l else if x=y then y::l else y::fZ x l
def uS (p:List Tm):List Tm:=p.foldl (fun acc x=>fZ x acc) []
theorem zE4 (x z:Tm) (l:List Tm):z∈fZ x l↔z=x∨z∈l:=by
 induction l with
 | nil=>simp [fZ]
 | cons y l ih =>
  unfold fZ
  split
  ·simp
  ·split
   ·rename_i h;subst h;simp
   ·simp [ih,or_left_comm]
theorem zFj (x:Tm) (l:List Tm) (h:uR l):uR (fZ x l):=by
 induction l with
 | nil=>exact List.pairwise_singleton _ _
 | cons y l ih =>
  have h':=List.pairwise_cons.1 h;unfold fZ
  split
  ·rename_i hlt
   refine List.pairwise_cons.2 ⟨fun z hz=>?_,h⟩
   rcases List.mem_cons.1 hz with rfl|hz
   ·exact hlt
   ·exact mP hlt (h'.1 z hz)
  ·rename_i hlt
   split
   ·exact h
   ·rename_i hne
    refine List.pairwise_cons.2 ⟨fun z hz=>?_,ih h'.2⟩
    rcases (zE4 x z l).1 hz with rfl|hz
    ·rcases fC z y with h1|h1|h1
     ·exact absurd h1 hlt
     ·exact absurd h1 hne
     ·exact h1
    ·exact h'.1 z hz
theorem nC (p:List Tm):uR (uS p)/\∀x,x∈uS p↔x∈p:=by
 have:∀(l acc:List Tm),uR acc->uR (l.foldl (fun acc x=>fZ x acc) acc)/\∀x,x∈l.foldl (fun acc x=>fZ x acc) acc↔x∈acc∨x∈l:=by
  intro l
  induction l with
  | nil=>intro acc h;exact ⟨h,fun x=>by simp⟩
  | cons y l ih =>
   intro acc h;obtain ⟨h1,h2⟩:=ih (fZ y acc) (zFj y acc h);refine ⟨h1,fun x=>?_⟩;rw [List.foldl_cons,h2,zE4,List.mem_cons];constructor
   ·rintro ((h|h)|h)
    ·exact Or.inr (Or.inl h)
    ·exact Or.inl h
    ·exact Or.inr (Or.inr h)
   ·rintro (h|h|h)
    ·exact Or.inl (Or.inr h)
    ·exact Or.inl (Or.inl h)
    ·exact Or.inr h
 obtain ⟨h1,h2⟩:=this p [] List.Pairwise.nil;exact ⟨h1,fun x=>by rw [uS,h2];simp⟩
theorem dY {p l:List Tm} (h1:uR l) (h2:∀x,x∈l↔x∈p):l=uS p :=
 fG _ _ h1 (nC p).1 fun x=>(h2 x).trans ((nC p).2 x).symm
theorem jA (p:List Tm):(uS p).length<=p.length:=by
 have key:∀(x:Tm) (l:List Tm),(fZ x l).length<=l.length+1:=by
  intro x l
  induction l with
  | nil=>simp [fZ]
  | cons y l ih =>
   unfold fZ
   split
   ·simp
   ·split
    ·simp
    ·simp;omega
 have:∀(l acc:List Tm),(l.foldl (fun acc x=>fZ x acc) acc).length<=acc.length+l.length:=by
  intro l
  induction l with
  | nil=>intro acc;simp
  | cons y l ih =>
   intro acc;have h1:=ih (fZ y acc);have h2:=key y acc;rw [List.foldl_cons,List.length_cons];omega
 simpa [uS] using this p []
theorem zJw {p q:List Tm} (h:∀x,x∈p↔x∈q) (hl:p.length<=8) (hm:q.length<=8):wA p=wA q:=by
 have key:∀f:Tm->Bool,p.all f=q.all f:=fun f=>by
  rw [Bool.eq_iff_iff,List.all_eq_true,List.all_eq_true];exact ⟨fun H x hx=>H x ((h x).2 hx),fun H x hx=>H x ((h x).1 hx)⟩
 unfold wA;rw [if_neg (show ¬ 8<p.length by omega),key uG,key yP,key vR,if_neg (show ¬ 8<q.length by omega)]
def wB (p:List Tm):List Tm:=if wA p=0 then uS p else []
theorem tE {p:List Tm} (h:wA p=0):p.length<=8/\p.all uG=true/\p.all yP=true/\p.all vR=true:=by
 unfold wA at h
 split at h
 ·omega
 ·rename_i h1
  split at h
  ·omega
  ·rename_i h2
   split at h
   ·omega
   ·rename_i h3
    split at h
    ·omega
    ·rename_i h4
     exact ⟨by omega,by simpa using h2,by simpa using h3,by simpa using h4⟩
end
section
open Go.RowKit
theorem qR {w:World} {b off:Nat} {p:List Tm} (h:KM.At w b off p) (i:Nat) (hi:i<p.length) :
  w.cell? ⟨b,off+i * 3,none⟩=some (.string (p[i]).1)/\w.cell? ⟨b,off+i * 3+1,none⟩=some (.int .i64 (p[i]).2.1)/\w.cell? ⟨b,off+i * 3+2,none⟩=some (.string (p[i]).2.2) :=
 ⟨h i hi 0 _ rfl,h i hi 1 _ rfl,h i hi 2 _ rfl⟩
theorem bX (a b:Tm) (w:World):Calls Tryz.prog 128 #[.agg #[.string a.1,.int .i64 a.2.1,.string a.2.2],.agg #[.string b.1,.int .i64 b.2.1,.string b.2.2]] w fun e w'=>e=.returned (.bool (ltM a b))/\zK w w':=by
 obtain ⟨a1,a2,a3⟩:=a;obtain ⟨b1,b2,b3⟩:=b;simp only;obtain ⟨r,hr⟩:∃r,ltM (a1,a2,a3) (b1,b2,b3)=r:=⟨_,rfl⟩;rw [hr];unfold ltM at hr;simp only at hr
 by_cases h1:a1=b1
 ·have f1:=kT h1
  by_cases h2:a2=b2
  ·have f2:(a2==b2)=true:=beq_iff_eq.2 h2;have f2':(a2 != b2)=false:=by simp [h2]
   rw [if_neg (by simp [h1]),if_neg (by simp [h2])] at hr;have f3:=zF0 hr;clear h1 h2 hr;go_enter Tryz.func128,Tryz.ntmps128;go_wp2_with fail;go_ret;exact ⟨rfl,((zK.refl _).alloc _).alloc _⟩
  ·have f2:(a2==b2)=false:=beq_eq_false_iff_ne.2 h2;have f2':(a2 != b2)=true:=by simp [h2]
   rw [if_neg (by simp [h1]),if_pos h2] at hr;have HR:=hid hr;clear h1 h2 hr;go_enter Tryz.func128,Tryz.ntmps128;go_wp2_with fail;go_ret;exact ⟨zA HR.out,((zK.refl _).alloc _).alloc _⟩
 ·have f1:=wI h1;rw [if_pos h1] at hr;have f3:=zF0 hr;clear h1 hr;go_enter Tryz.func128,Tryz.ntmps128;go_wp2_with fail;go_ret;exact ⟨rfl,((zK.refl _).alloc _).alloc _⟩
theorem zCH {p:List Tm} {f:Tm->Bool} {i:Nat} (h:i<p.length):(p.take (i+1)).all f=((p.take i).all f&&f p[i]):=by
 rw [List.take_succ_eq_append_getElem h,List.all_append];simp
theorem zIl (v:Value) (p:List Tm) (w:World) (hv:KM.Is w v p) (hf:pY p) :
  Calls Tryz.prog 127 #[v] w fun e w'=>e=.returned (.int .i64 (wA p))/\w'=w:=by
 obtain ⟨q,cap,rfl,hd⟩:=hv;have hl:=hf.1;unfold maxLen at hl;have HD:=hid hd;have HF:=hid hf.2;obtain ⟨r,hr⟩:∃r,wA p=r:=⟨_,rfl⟩;rw [hr];have HR:=hid hr;clear hd hf hr
 by_cases h8:8<p.length
 ·have h8z:(8:Int)<(p.length:Int):=by omega
  have H0:Hid (r=5):=by show _=_;rw [<-HR.out];unfold wA;rw [if_pos h8]
  clear h8;go_enter Tryz.func127,Tryz.ntmps127;go_wp2_with fail;go_ret;exact ⟨yY H0.out.symm,rfl⟩
 ·have h8z:¬ (8:Int)<(p.length:Int):=by omega
  have HR2:Hid (r=if p.all uG=false then 2 else if p.all yP=false then 1 else if p.all vR=false then 5 else 0):=by show _=_;rw [<-HR.out];unfold wA;rw [if_neg h8]
  clear h8;go_enter Tryz.func127,Tryz.ntmps127;go_wp2_with fail
  go_loopg [3,4,5,6] p.length (fun g v3 v4 v5 vi wr=>∃i:Nat,vi=ii i/\i<=p.length/\p.length-i<=g/\v3=.bool ((p.take i).all uG)/\v4=.bool ((p.take i).all yP)/\v5=.bool ((p.take i).all vR)/\w=wr)
  case atStart=>exact ⟨0,rfl,by omega,by omega,by simp,by simp,by simp,rfl⟩
  case round =>
  obtain ⟨i,rfl,hi,hgk,rfl,rfl,rfl,rfl⟩:=hrel
  by_cases hlt:i<p.length
  ·have hltz:(i:Int)<(p.length:Int):=by omega
   have hiz:(0:Int)<=(i:Int):=by omega
   obtain ⟨b,off,rfl,hat⟩:∃b off,q=some (aa b off)/\KM.At w b off p:=by
    rcases HD.out with h|h
    ·subst h;simp at hlt
    ·exact h
   obtain ⟨c0,c1,c2⟩:=qR hat i hlt;have hfx:=HF.out _ (List.getElem_mem hlt);have HN:=hid (zCH (f:=uG) hlt);have HG:=hid (zCH (f:=yP) hlt);have HS:=hid (zCH (f:=vR) hlt);obtain ⟨x,hx⟩:∃x,p[i]=x:=⟨_,rfl⟩;rw [hx] at c0 c1 c2 hfx HN HG HS;obtain ⟨xf,xo,xt⟩:=x;simp only at c0 c1 c2;obtain ⟨B1,hB1⟩:∃B,(p.take i).all uG=B:=⟨_,rfl⟩;obtain ⟨B2,hB2⟩:∃B,(p.take i).all yP=B:=⟨_,rfl⟩;obtain ⟨B3,hB3⟩:∃B,(p.take i).all vR=B:=⟨_,rfl⟩;rw [hB1] at HN ⊢;rw [hB2] at HG ⊢;rw [hB3] at HS ⊢;obtain ⟨hs1,hs2,hs3,hs4⟩:=hfx;simp only at hs1 hs2 hs3 hs4;have HFC:Hid (∀W,Calls Tryz.prog 126 #[tq xf] W fun e w'=>e=.returned (.bool (yU xf.data.toList))/\w'=W):=fun W=>jM xf W hs1
   unfold maxLen at hs2;clear hat hx hB1 hB2 hB3 hs1;go_upto_region 7 with fail
   go_cut [3] from 10 to 67 (fun v wx=>w=wx/\v=.bool (B1&&yU xf.data.toList))
   case first =>
    cases B1 with
    | false =>
     go_wp2_with fail
     go_meet
     case rel=>exact ⟨rfl,rfl⟩
    | true =>
     go_wp2_with (first|(go_at_call 126;refine (HFC.out _).mono ?_;rintro e w1 ⟨rfl,rfl⟩))
     go_meet
     case rel=>exact ⟨rfl,rfl⟩
   case rest =>
   obtain ⟨rfl,rfl⟩:=hcut;go_upto_region 8 with fail
   go_cut [4] from 10 to 67 (fun v wx=>w=wx/\v=.bool (B2&&yP (xf,xo,xt)))
   case first =>
    have HRM:Hid (yP (xf,xo,xt)=(decide (1<=xo)&&decide (xo<=7)&&(decide (xo<6)||decide (xt.size=0)))):=rfl
    cases B2 with
    | false =>
     go_wp2_with fail
     go_meet
     case rel=>exact ⟨rfl,rfl⟩
    | true =>
     by_cases g1:1<=xo
     ·have d1:decide (1<=xo)=true:=decide_eq_true g1
      by_cases g2:xo<=7
      ·have d2:decide (xo<=7)=true:=decide_eq_true g2
       by_cases g3:xo<6
       ·have d3:decide (xo<6)=true:=decide_eq_true g3;have HV:Hid (yP (xf,xo,xt)=true):=by show _=_;rw [HRM.out,d1,d2,d3];rfl
        go_wp2_with fail
        go_meet
        case rel=>exact ⟨rfl,by rw [HV.out];rfl⟩
       ·have d3:decide (xo<6)=false:=decide_eq_false g3
        by_cases g4:xt.size=0
        ·have e4:=fB g4;have HV:Hid (yP (xf,xo,xt)=true):=by show _=_;rw [HRM.out,d1,d2,d3,decide_eq_true g4];rfl
         clear g4;go_wp2_with fail;go_meet
         case rel=>exact ⟨rfl,by rw [HV.out];rfl⟩
        ·have e4:=mZ g4;have HV:Hid (yP (xf,xo,xt)=false):=by show _=_;rw [HRM.out,d1,d2,d3,decide_eq_false g4];rfl
         clear g4;go_wp2_with fail;go_meet
         case rel=>exact ⟨rfl,by rw [HV.out];rfl⟩
      ·have d2:decide (xo<=7)=false:=decide_eq_false g2;have HV:Hid (yP (xf,xo,xt)=false):=by show _=_;rw [HRM.out,d1,d2];rfl
       go_wp2_with fail
       go_meet
       case rel=>exact ⟨rfl,by rw [HV.out];rfl⟩
     ·have d1:decide (1<=xo)=false:=decide_eq_false g1;have HV:Hid (yP (xf,xo,xt)=false):=by show _=_;rw [HRM.out,d1];rfl
      go_wp2_with fail
      go_meet
      case rel=>exact ⟨rfl,by rw [HV.out];rfl⟩
   case rest =>
   obtain ⟨rfl,rfl⟩:=hcut;have HSM:Hid (vR (xf,xo,xt)=decide (xt.size<=128)):=rfl
   cases B3 with
   | false =>
    go_wp2_with fail
    go_roundg (p.length-(i+1))
    case measure=>omega
    case rel=>exact ⟨i+1,by go_num,by omega,by omega,by rw [HN.out];rfl,by rw [HG.out],by rw [HS.out];rfl,rfl⟩
   | true =>
    by_cases g1:xt.size<=128
    ·have g1z:(xt.size:Int)<=128:=by omega
     have HV:Hid (vR (xf,xo,xt)=true):=by show _=_;rw [HSM.out];exact decide_eq_true g1
     go_wp2_with fail
     go_roundg (p.length-(i+1))
     case measure=>omega
     case rel=>exact ⟨i+1,by go_num,by omega,by omega,by rw [HN.out];rfl,by rw [HG.out],by rw [HS.out,HV.out];rfl,rfl⟩
    ·have g1z:¬ (xt.size:Int)<=128:=by omega
     have HV:Hid (vR (xf,xo,xt)=false):=by show _=_;rw [HSM.out];exact decide_eq_false g1
     go_wp2_with fail
     go_roundg (p.length-(i+1))
     case measure=>omega
     case rel=>exact ⟨i+1,by go_num,by omega,by omega,by rw [HN.out];rfl,by rw [HG.out],by rw [HS.out,HV.out];rfl,rfl⟩
  ·have hltz:¬ (i:Int)<(p.length:Int):=by omega
   rw [List.take_of_length_le (by omega)]
   cases h1:p.all uG with
   | false =>
    have H0:Hid (r=2):=by show _=_;rw [HR2.out,h1];rfl
    clear h1;go_wp2_with fail;go_ret;exact ⟨yY H0.out.symm,rfl⟩
   | true =>
    cases h2:p.all yP with
    | false =>
     have H0:Hid (r=1):=by show _=_;rw [HR2.out,h1,h2];rfl
     clear h1 h2;go_wp2_with fail;go_ret;exact ⟨yY H0.out.symm,rfl⟩
    | true =>
     cases h3:p.all vR with
     | false =>
      have H0:Hid (r=5):=by show _=_;rw [HR2.out,h1,h2,h3];rfl
      clear h1 h2 h3;go_wp2_with fail;go_ret;exact ⟨yY H0.out.symm,rfl⟩
     | true =>
      have H0:Hid (r=0):=by show _=_;rw [HR2.out,h1,h2,h3];rfl
      clear h1 h2 h3;go_wp2_with fail;go_ret;exact ⟨yY H0.out.symm,rfl⟩
end
section
open Go.RowKit
theorem Tryz.infoTrm:(Tryz.prog.info? 49).map (fun i=>(i.zero,i.size,i.bytes))=some (some (.agg #[.string ⟨#[]⟩,.int .i64 0,.string ⟨#[]⟩]),3,40):=by kernel_rfl
theorem zBQ (a b:Tm) (w:World):(binOp .neq 49 (.agg #[.string a.1,.int .i64 a.2.1,.string a.2.2]) (.agg #[.string b.1,.int .i64 b.2.1,.string b.2.2])).run Tryz.prog w=.ok (.bool (!decide (a=b))) w:=by
 obtain ⟨a1,a2,a3⟩:=a;obtain ⟨b1,b2,b3⟩:=b;have hS:Tryz.prog.underlying 49=some (.struct (Tryz.prog.fieldsOf 49)):=by kernel_rfl
 have hp:Tryz.prog.stoodInHeld 49=false:=by kernel_rfl
 have u9:=Tryz.underlying9;have a9:=Tryz.isAgg9;have z9:=Tryz.sizeOf9;have u3:=Tryz.underlying3;have a3':=Tryz.isAgg3;have z3:=Tryz.sizeOf3;rw [run_neq_struct,show (10000:Nat)=9999+1 from rfl,run_equalIn_agg w 9999 49 _ _ hS hp];simp only [Program.fieldsOf,Tryz.underlying49]
 go_simp
 by_cases h1:a1=b1
 ·subst h1
  by_cases h2:a2=b2
  ·subst h2
   by_cases h3:a3=b3
   ·subst h3;simp
   ·have e3:=beq_eq_false_iff_ne.1 (wI h3);simp [h3,e3]
  ·simp [h2]
 ·have e1:=beq_eq_false_iff_ne.1 (wI h1);simp [h1,e1]
theorem zAv (v u:Value) (p q:List Tm) (w:World) (hv:KM.Is w v p) (hu:KM.Is w u q) (hl1:p.length<=maxLen) :
  Calls Tryz.prog 23 #[v,u] w fun e w'=>e=.returned (.bool (decide (p=q)))/\∃n,w'=w.drewN n:=by
 unfold maxLen at hl1;obtain ⟨a1,k1,rfl,hd1⟩:=hv;obtain ⟨a2,k2,rfl,hd2⟩:=hu;obtain ⟨r,hr⟩:∃r,decide (p=q)=r:=⟨_,rfl⟩;rw [hr];have HR:=hid hr;have HD1:=hid hd1;have HD2:=hid hd2;clear hr hd1 hd2
 by_cases hl:p.length=q.length
 ·have hb:((p.length:Int) != (q.length:Int))=false:=by simp [hl]
  have HL:=hid hl;clear hl;go_enter Tryz.func23,Tryz.ntmps23;go_wp2_with fail
  go_loopg [5] p.length (fun g vi wr=>∃i m:Nat,vi=ii i/\i<=p.length/\p.length-i<=g/\wr=w.drewN m/\Hid (∀j,j<i->p[j]? = q[j]?))
  case atStart=>exact ⟨0,0,rfl,by omega,by omega,rfl,fun j h=>by omega⟩
  case round =>
   obtain ⟨i,m,rfl,hi,hg,rfl,HJ⟩:=hrel
   by_cases hlt:i<p.length
   ·have hlt2:i<q.length:=by rw [<-HL.out];exact hlt
    have i1:(0:Int)<=↑i:=by omega
    have i2:(↑i:Int) < ↑p.length:=by omega
    have i3:(↑i:Int) < ↑q.length:=by omega
    rcases HD1.out with hn|⟨b1,o1,rfl,k1⟩
    ·rw [hn] at hlt;simp at hlt
    rcases HD2.out with hn|⟨b2,o2,rfl,k2⟩
    ·rw [hn] at hlt2;simp at hlt2
    obtain ⟨x0,x1,x2⟩:=qR k1 i hlt;obtain ⟨y0,y1,y2⟩:=qR k2 i hlt2;have hne:=fun W=>zBQ p[i] q[i] W
    have G1:=hid (List.getElem?_eq_getElem hlt);have G2:=hid (List.getElem?_eq_getElem hlt2);obtain ⟨x,hx⟩:∃x,p[i]=x:=⟨_,rfl⟩;obtain ⟨y,hy⟩:∃y,q[i]=y:=⟨_,rfl⟩;rw [hx] at x0 x1 x2 hne G1;rw [hy] at y0 y1 y2 hne G2;clear k1 k2 hx hy
    by_cases hst:x=y
    ·have hd:=decide_eq_true hst;rw [hd] at hne;have HS:=hid hst;clear hst hd;go_wp2_with fail
     go_quiet (fail)
     go_wp2_with fail
     go_roundg (p.length-(i+1))
     case measure=>omega
     refine ⟨i+1,_,by go_num,by omega,by omega,rfl,fun j hj=>?_⟩
     by_cases e:j=i
     ·subst e;rw [G1.out,G2.out,HS.out]
     ·exact HJ.out j (by omega)
    ·have hd:=decide_eq_false hst;rw [hd] at hne
     have H0:Hid (r=false):=HR.out.symm.trans (decide_eq_false fun e=>hst (by
      have:=G1.out;rw [e,G2.out] at this;exact (Option.some.inj this).symm))
     clear hst hd;go_wp2_with fail
     go_quiet (fail)
     go_wp2_with fail
     go_ret;exact ⟨zA H0.out.symm,_,by rw [World.drewN_drewN]⟩
   ·have hltz:¬ (i:Int)<(p.length:Int):=by omega
    have H0:Hid (r=true):=HR.out.symm.trans (decide_eq_true (List.ext_getElem? fun j=>by
     by_cases hj:j<p.length
     ·exact HJ.out j (by omega)
     ·rw [List.getElem?_eq_none (by omega),List.getElem?_eq_none (by have:=HL.out;omega)]))
    go_wp2_with fail
    go_ret;exact ⟨zA H0.out.symm,_,rfl⟩
 ·have hb:((p.length:Int) != (q.length:Int))=true:=by simp;omega
  have H0:Hid (r=false):=HR.out.symm.trans (decide_eq_false fun e=>hl (by rw [e]));go_enter Tryz.func23,Tryz.ntmps23;go_wp2_with fail;go_ret;exact ⟨zA H0.out.symm,0,rfl⟩
def kG (G:List Tm) (k:Nat) (x:Tm):Bool:=decide (k=0)||ltM (G.getD (k-1) default) x
def nH (G p:List Tm) (k i:Nat) (at_:Int):Prop :=
 (at_=-1/\∀j,(h:j<p.length)->j<i->kG G k p[j]=false) ∨
 (∃m:Nat,at_=m/\m<i/\∃hm:m<p.length,kG G k p[m]=true/\∀j,(h:j<p.length)->j<i->kG G k p[j]=true->ltM p[j] p[m]=false)
theorem uR.get {o:List Tm} (h:uR o) {i j:Nat} (hij:i<j) (hj:j<o.length):ltM (o[i]'(by omega)) (o[j])=true :=
 List.pairwise_iff_getElem.1 h i j (by omega) hj hij
theorem zEB {G:List Tm} (h:uR G) {k m:Nat} (hk:k<=G.length) (hm:m<G.length):kG G k G[m]=true↔k<=m:=by
 unfold kG;constructor
 ·intro he;rw [Bool.or_eq_true] at he
  rcases he with he|he
  ·have:=of_decide_eq_true he;omega
  ·refine Nat.le_of_not_lt fun hlt=>?_
   rw [List.getD_eq_getElem?_getD,List.getElem?_eq_getElem (show k-1<G.length by omega)] at he
   by_cases e:m=k-1
   ·subst e;rw [Option.getD_some,tP] at he
    cases he
   ·have:=h.get (show m<k-1 by omega) (by omega);rw [Option.getD_some] at he;rw [zCa this] at he
    cases he
 ·intro hkm
  by_cases h0:k=0
  ·rw [decide_eq_true h0];rfl
  ·rw [Bool.or_eq_true];right;rw [List.getD_eq_getElem?_getD,List.getElem?_eq_getElem (show k-1<G.length by omega),Option.getD_some];exact h.get (by omega) hm
theorem zLr {G p:List Tm} (h1:uR G) (h2:∀x,x∈G↔x∈p) {k:Nat} (hk:k<=G.length) {at_:Int} (hs:nH G p k p.length at_) :
  (at_=-1/\k=G.length)∨(∃m:Nat,at_=m/\∃hm:m<p.length,∃hg:k<G.length,p[m]=G[k]):=by
 rcases hs with ⟨e,hn⟩|⟨m,e,_,hm,he,hl⟩
 ·left;refine ⟨e,?_⟩
  by_cases hkl:k=G.length
  ·exact hkl
  ·exfalso
   have hlt:k<G.length:=by omega
   obtain ⟨j,hj,ej⟩:=List.mem_iff_getElem.1 ((h2 G[k]).1 (List.getElem_mem hlt));have:=hn j hj hj;rw [ej,(zEB h1 hk hlt).2 (Nat.le_refl _)] at this
   cases this
 ·right;obtain ⟨a,ha,ea⟩:=List.mem_iff_getElem.1 ((h2 p[m]).2 (List.getElem_mem hm))
  have hka:k<=a:=by
   rw [<-ea] at he;exact (zEB h1 hk ha).1 he
  refine ⟨m,e,hm,by omega,?_⟩
  by_cases hlt:k<a
  ·exfalso
   obtain ⟨j,hj,ej⟩:=List.mem_iff_getElem.1 ((h2 G[k]).1 (List.getElem_mem (by omega)));have:=hl j hj hj (by rw [ej];exact (zEB h1 hk (by omega)).2 (Nat.le_refl _));rw [ej,<-ea,h1.get hlt ha] at this
   cases this
  ·obtain rfl:a=k:=by omega
   exact ea.symm
theorem zIu (G p:List Tm) (k:Nat):nH G p k 0 (-1):=Or.inl ⟨rfl,fun j _ h=>by omega⟩
theorem zJx {G p:List Tm} {k i:Nat} {a:Int} (h:nH G p k i a) (hi:i<p.length) (he:kG G k p[i]=false):nH G p k (i+1) a:=by
 rcases h with ⟨e,hn⟩|⟨m,e,hm1,hm,hme,hl⟩
 ·refine Or.inl ⟨e,fun j hj hji=>?_⟩
  by_cases ej:j=i
  ·subst ej;exact he
  ·exact hn j hj (by omega)
 ·refine Or.inr ⟨m,e,by omega,hm,hme,fun j hj hji hje=>?_⟩
  by_cases ej:j=i
  ·subst ej;rw [he] at hje;cases hje
  ·exact hl j hj (by omega) hje
theorem zG4 {G p:List Tm} {k i:Nat} (h:nH G p k i (-1)) (hi:i<p.length) (he:kG G k p[i]=true):nH G p k (i+1) (i:Int):=by
 rcases h with ⟨_,hn⟩|⟨m,e,_⟩
 ·refine Or.inr ⟨i,rfl,by omega,hi,he,fun j hj hji hje=>?_⟩
  by_cases ej:j=i
  ·subst ej;exact tP _
  ·rw [hn j hj (by omega)] at hje;cases hje
 ·omega
theorem zJH {G p:List Tm} {k i m:Nat} (h:nH G p k i (m:Int)) (hi:i<p.length) (hm:m<p.length) (he:kG G k p[i]=true) (hl:ltM p[i] p[m]=true):nH G p k (i+1) (i:Int):=by
 rcases h with ⟨e,_⟩|⟨m',e,_,_,_,hll⟩
 ·omega
 ·obtain rfl:m=m':=by omega
  refine Or.inr ⟨i,rfl,by omega,hi,he,fun j hj hji hje=>?_⟩
  by_cases ej:j=i
  ·subst ej;exact tP _
  ·have:=hll j hj (by omega) hje
   cases hc:ltM p[j] p[i] with
   | false=>rfl
   | true=>rw [mP hc hl] at this;cases this
theorem zJc {G p:List Tm} {k i m:Nat} (h:nH G p k i (m:Int)) (hi:i<p.length) (hm:m<p.length) (hl:ltM p[i] p[m]=false):nH G p k (i+1) (m:Int):=by
 rcases h with ⟨e,_⟩|⟨m',e,h1,h2,h3,hll⟩
 ·omega
 ·obtain rfl:m=m':=by omega
  refine Or.inr ⟨m,rfl,by omega,h2,h3,fun j hj hji hje=>?_⟩
  by_cases ej:j=i
  ·subst ej;exact hl
  ·exact hll j hj (by omega) hje
theorem zMv {G p:List Tm} {k i:Nat} {a:Int} (h:nH G p k i a):a=-1∨∃m:Nat,a=m/\m<p.length:=by
 rcases h with ⟨e,_⟩|⟨m,e,_,hm,_⟩
 ·exact Or.inl e
 ·exact Or.inr ⟨m,e,hm⟩
end
end Go.Proofs.YtjeogllmpjihaaaGreatDoor
