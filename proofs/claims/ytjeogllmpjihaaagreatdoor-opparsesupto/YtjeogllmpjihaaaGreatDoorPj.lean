/-
  Texts of this claim, one behind the other: Orx Ory Ozp Pc6 Hp1 Oql Oqg Oqh Orz Oxa Ozr Oka Okp Cob Coz Ozx Bal Hoe Ojo Ojz Oob Oxb Oxl Oxv.
-/
import Derived.Test.YtjeogllmpjihaaaGreatDoorPi
import Derived.Test.YtjeogllmpjihaaaGreatDoorRows
import Derived.MakeChecks
import Derived.ProofKit
import Derived.OpenShut
import Derived.Lay
import Derived.Stop.Joined
import Derived.SliceStrings
import Derived.Deep.SlicePairs
import Derived.Lib.LaidU8
import Derived.SizedLaws
import Derived.ChangeSlices
import Derived.JoinedCond
import Derived.Lib.SmallJoins
import Derived.ShutString
import Derived.Below
import Derived.Deep.DeepHandedRow
import Derived.Stop.LaidErr
import Derived.LaidLaws
import Derived.Shelf.Vars
namespace Go.Proofs.YtjeogllmpjihaaaGreatDoor
section
open Go.RowKit Go.Lib
def okw (x:List UInt8):Prop:=x≠[]∧x≠[59]
theorem num_ok {most n:Nat} {x:List UInt8} (h:numL most x=some n):okw x:=by
 have e:=num_back h
 constructor
 ·rintro rfl;exact decL_ne n e
 ·rintro rfl
  have:=decL_digit n 59 (by rw [e];simp)
  revert this;decide
theorem key_ok {x:List UInt8} {k:ByteArray × ByteArray} (h:keyR x=some k):okw x:=by
 constructor
 ·rintro rfl
  have hz:keyR []=none:=by kernel_rfl
  rw [hz] at h;cases h
 ·rintro rfl
  have hz:keyR [59]=none:=by kernel_rfl
  rw [hz] at h;cases h
theorem type_ok {x:List UInt8} (h:typeB x=true):okw x:=by
 constructor
 ·rintro rfl;cases h
 ·rintro rfl;revert h;decide
theorem kind_ok {x:List UInt8} (h:kindW x≠0):okw x:=by
 constructor
 ·rintro rfl;exact h rfl
 ·rintro rfl;exact h (by decide)
theorem fields_ok:∀{w:List (List UInt8)} {fs:List Fld},fieldsW w=some fs→∀x∈w,okw x
 | [],_,_=>fun x hx=>by cases hx
 | l::r,fs,h=>fun x hx=>by
  rw [fieldsW] at h
  cases ho:wordO l with
  | none=>rw [ho] at h;cases h
  | some nt =>
   obtain ⟨n,t⟩:=nt
   rw [ho] at h
   cases hr:fieldsW r with
   | none=>rw [hr] at h;cases h
   | some gs =>
    rcases List.mem_cons.1 hx with rfl|hx
    ·constructor
     ·rintro rfl
      have hz:wordO []=none:=by kernel_rfl
      rw [hz] at ho;cases ho
     ·rintro rfl
      have hz:wordO [59]=none:=by kernel_rfl
      rw [hz] at ho;cases ho
    ·exact fields_ok hr x hx
theorem terms_ok:∀{w:List (List UInt8)} {fs:List Tm},termsW w=some fs→∀x∈w,okw x
 | [],_,_=>fun x hx=>by cases hx
 | l::r,fs,h=>fun x hx=>by
  rw [termsW] at h
  cases ho:termO l with
  | none=>rw [ho] at h;cases h
  | some nt =>
   rw [ho] at h
   cases hr:termsW r with
   | none=>rw [hr] at h;cases h
   | some gs =>
    rcases List.mem_cons.1 hx with rfl|hx
    ·constructor
     ·rintro rfl
      have hz:termO []=none:=by kernel_rfl
      rw [hz] at ho;cases ho
     ·rintro rfl
      have hz:termO [59]=none:=by kernel_rfl
      rw [hz] at ho;cases ho
    ·exact terms_ok hr x hx
theorem edits_ok:∀{w:List (List UInt8)} {fs:List Ed},editsW w=some fs→∀x∈w,okw x
 | [],_,_=>fun x hx=>by cases hx
 | l::r,fs,h=>fun x hx=>by
  rw [editsW] at h
  cases ho:editO l with
  | none=>rw [ho] at h;cases h
  | some nt =>
   rw [ho] at h
   cases hr:editsW r with
   | none=>rw [hr] at h;cases h
   | some gs =>
    rcases List.mem_cons.1 hx with rfl|hx
    ·constructor
     ·rintro rfl
      have hz:editO []=none:=by kernel_rfl
      rw [hz] at ho;cases ho
     ·rintro rfl
      have hz:editO [59]=none:=by kernel_rfl
      rw [hz] at ho;cases ho
    ·exact edits_ok hr x hx
theorem val_ok {w:List (List UInt8)} {v:List Fld} (h:valR w=some v):∀x∈w,okw x:=by
 unfold valR at h
 cases hf:fieldsW w with
 | none=>rw [hf] at h;cases h
 | some fs=>exact fields_ok hf
theorem prd_ok {w:List (List UInt8)} {v:List Tm} (h:prdR w=some v):∀x∈w,okw x:=by
 unfold prdR at h
 cases hf:termsW w with
 | none=>rw [hf] at h;exact absurd h (by simp [codeW])
 | some fs=>exact terms_ok hf
theorem eds_ok {w:List (List UInt8)} {v:List Ed} (h:edsR w=some v):∀x∈w,okw x:=by
 unfold edsR at h
 cases hf:editsW w with
 | none=>rw [hf] at h;exact absurd h (by simp [codeL])
 | some fs=>exact edits_ok hf
structure KeepE (e f:En):Prop where
 kind:f.kind=e.kind
 ka:f.ka=e.ka
 kb:f.kb=e.kb
theorem rest_ok {e f:En} {w:List (List UInt8)} (h:restR e w=some f):(∀x∈w,okw x)∧KeepE e f:=by
 unfold restR at h
 split at h
 ·cases hv:valR w with
  | none=>rw [hv] at h;cases h
  | some v=>rw [hv] at h;cases h;exact ⟨val_ok hv,rfl,rfl,rfl⟩
 ·split at h
  ·split at h
   ·rename_i hm
    cases hv:valR (w.takeWhile fun x=>decide (x≠[63])) with
    | none=>rw [hv] at h;cases h
    | some v =>
     rw [hv,Option.bind_some] at h
     cases hp:prdR ((w.dropWhile fun x=>decide (x≠[63])).drop 1) with
     | none=>rw [hp] at h;cases h
     | some p =>
      rw [hp] at h
      cases h
      refine ⟨fun x hx=>?_,rfl,rfl,rfl⟩
      rw [←List.takeWhile_append_dropWhile (p:=fun x=>decide (x≠[63])) (l:=w)] at hx
      rcases List.mem_append.1 hx with hx|hx
      ·exact val_ok hv x hx
      ·obtain ⟨r,hd⟩:=drop_while_at hm
       rw [hd] at hx hp
       rcases List.mem_cons.1 hx with rfl|hx
       ·exact ⟨by decide,by decide⟩
       ·exact prd_ok hp x hx
   ·cases h
  ·split at h
   ·cases hv:edsR w with
    | none=>rw [hv] at h;cases h
    | some v=>rw [hv] at h;cases h;exact ⟨eds_ok hv,rfl,rfl,rfl⟩
   ·split at h
    ·split at h
     ·rename_i h0
      cases h
      subst h0
      exact ⟨fun x hx=>(by cases hx),rfl,rfl,rfl⟩
     ·cases h
    ·cases hv:prdR w with
     | none=>rw [hv] at h;cases h
     | some v=>rw [hv] at h;cases h;exact ⟨prd_ok hv,rfl,rfl,rfl⟩
theorem small_ok {x:Option (List UInt8)} {n:Nat} (h:smallR x=some n):∃y,x=some y∧okw y:=by
 unfold smallR at h
 cases x with
 | none=>cases h
 | some y=>exact ⟨y,rfl,num_ok h⟩
theorem stampR_ok {x:Option (List UInt8)} {n:Nat} (h:stampR x=some n):∃y,x=some y∧okw y:=by
 unfold stampR at h
 cases x with
 | none=>cases h
 | some y=>exact ⟨y,rfl,num_ok h⟩
theorem tail_ok {e f:En} {w:List (List UInt8)} (h:tailR e w=some f):(∀x∈w,okw x)∧KeepE e f:=by
 unfold tailR at h
 split at h
 ·split at h
  ·rename_i hl
   match w,hl with
   | [y],_ =>
    cases hn:smallR ([y]:List (List UInt8))[0]? with
    | none=>rw [hn] at h;cases h
    | some n =>
     rw [hn] at h
     cases h
     obtain ⟨z,hz,ho⟩:=small_ok hn
     have:y=z:=by simpa using hz
     subst this
     exact ⟨fun x hx=>by rw [List.mem_singleton] at hx;subst hx;exact ho,rfl,rfl,rfl⟩
  ·cases h
 ·split at h
  ·split at h
   ·rename_i hl
    match w,hl with
    | [y],_ =>
     cases hn:stampR ([y]:List (List UInt8))[0]? with
     | none=>rw [hn] at h;cases h
     | some n =>
      rw [hn] at h
      cases h
      obtain ⟨z,hz,ho⟩:=stampR_ok hn
      have:y=z:=by simpa using hz
      subst this
      exact ⟨fun x hx=>by rw [List.mem_singleton] at hx;subst hx;exact ho,rfl,rfl,rfl⟩
   ·cases h
  ·split at h
   ·split at h
    ·rename_i h0
     cases h
     subst h0
     exact ⟨fun x hx=>(by cases hx),rfl,rfl,rfl⟩
    ·cases h
   ·split at h
    ·rename_i hc
     cases hn:smallR w[1]? with
     | none=>rw [hn] at h;cases h
     | some n =>
      rw [hn,Option.bind_some] at h
      split at h
      ·cases h
      ·obtain ⟨ho,hk⟩:=rest_ok h
       obtain ⟨y,hy,hyo⟩:=small_ok hn
       refine ⟨fun x hx=>?_,hk.1,hk.2,hk.3⟩
       match w,hc,hy with
       | a::b::r,hc,hy =>
        have ha:a=[105,102]:=by simpa using hc.2.2
        have hb:b=y:=by simpa using hy
        subst ha hb
        rcases List.mem_cons.1 hx with rfl|hx
        ·exact ⟨by decide,by decide⟩
        ·rcases List.mem_cons.1 hx with rfl|hx
         ·exact hyo
         ·exact ho x hx
    ·exact rest_ok h
theorem keyT_ok {e f:En} {w:List (List UInt8)} (h:keyT e w=some f) (hm:MayP f):∀x∈w,okw x:=by
 cases w with
 | nil=>cases h
 | cons x w =>
  rw [keyT_cons] at h
  split at h
  ·rename_i ht
   obtain ⟨h1,h2⟩:=tail_ok h
   intro y hy
   rcases List.mem_cons.1 hy with rfl|hy
   ·have hk:=hm.key
    unfold keyEn at hk
    rw [h2.kind] at hk
    have ht':typedK e.kind=true:=ht
    rw [if_pos ht',h2.ka] at hk
    simp only [Bool.and_eq_true] at hk
    exact type_ok hk.2
   ·exact h1 y hy
  ·cases hk:keyR x with
   | none=>rw [hk] at h;cases h
   | some k =>
    rw [hk,Option.bind_some] at h
    obtain ⟨h1,_⟩:=tail_ok h
    intro y hy
    rcases List.mem_cons.1 hy with rfl|hy
    ·exact key_ok hk
    ·exact h1 y hy
theorem stampT_ok {e f:En} {w:List (List UInt8)} (h:stampT e w=some f) (hm:MayP f):∀x∈w,okw x:=by
 unfold stampT at h
 split at h
 ·cases hn:stampR w[0]? with
  | none=>rw [hn] at h;cases h
  | some n =>
   rw [hn,Option.bind_some] at h
   obtain ⟨y,hy,ho⟩:=stampR_ok hn
   cases w with
   | nil=>cases hy
   | cons a w =>
    have ha:a=y:=by simpa using hy
    subst ha
    intro x hx
    rcases List.mem_cons.1 hx with rfl|hx
    ·exact ho
    ·exact keyT_ok h hm x hx
 ·exact keyT_ok h hm
theorem entry_ok {w:List (List UInt8)} {f:En} (h:fil (entryR w)=some f):∀x∈w,okw x:=by
 cases w with
 | nil=>intro x hx;cases hx
 | cons a w =>
  cases hr:entryR (a::w) with
  | none=>rw [hr] at h;cases h
  | some g =>
   have hm:MayP g:=by
    rw [hr] at h
    unfold fil at h
    rw [Option.bind_some] at h
    split at h
    ·rename_i hq;exact mayEn_parts hq
    ·cases h
   rw [entryR_cons] at hr
   split at hr
   ·cases hr
   ·rename_i hk
    intro x hx
    rcases List.mem_cons.1 hx with rfl|hx
    ·exact kind_ok hk
    ·match w,hr,hx with
     | (64::t)::w',hr,hx =>
      by_cases h2:(zeroEn (kindW a)).kind≤2
      ·have he:tempT (zeroEn (kindW a)) ((64::t)::w')=if t=[] then none else stampT { zeroEn (kindW a) with temp:=⟨t.toArray⟩ } w':=by
        show (if (zeroEn (kindW a)).kind≤2 then if t=[] then none else stampT { zeroEn (kindW a) with temp:=⟨t.toArray⟩ } w' else _)=_
        rw [if_pos h2]
       rw [he] at hr
       split at hr
       ·cases hr
       ·rcases List.mem_cons.1 hx with rfl|hx
        ·exact ⟨by simp,by simp⟩
        ·exact stampT_ok hr hm x hx
      ·rw [tempT_no _ _ (fun q=>absurd q h2)] at hr
       exact stampT_ok hr hm x hx
     | [],hr,hx=>cases hx
     | []::w',hr,hx =>
      rw [tempT_no _ _ (fun _ t w'' q=>by cases q)] at hr
      exact stampT_ok hr hm x hx
     | (c::t)::w',hr,hx =>
      by_cases hc:c=64
      ·subst hc
       by_cases h2:(zeroEn (kindW a)).kind≤2
       ·have he:tempT (zeroEn (kindW a)) ((64::t)::w')=if t=[] then none else stampT { zeroEn (kindW a) with temp:=⟨t.toArray⟩ } w':=by
         show (if (zeroEn (kindW a)).kind≤2 then if t=[] then none else stampT { zeroEn (kindW a) with temp:=⟨t.toArray⟩ } w' else _)=_
         rw [if_pos h2]
        rw [he] at hr
        split at hr
        ·cases hr
        ·rcases List.mem_cons.1 hx with rfl|hx
         ·exact ⟨by simp,by simp⟩
         ·exact stampT_ok hr hm x hx
       ·rw [tempT_no _ _ (fun q=>absurd q h2)] at hr
        exact stampT_ok hr hm x hx
      ·rw [tempT_no _ _ (fun _ t' w'' q=>by injection q with q1;injection q1 with q1;exact hc q1)] at hr
       exact stampT_ok hr hm x hx
end
section
open Go.RowKit Go.Lib
theorem splitL_app (a c:List UInt8):splitL (a++32::c)=splitL a++splitL c:=by
 induction h:a.length using Nat.strongRecOn generalizing a with
 | _ k ih =>
  subst h
  rcases ix_cases a 32 with ⟨hn,hnot⟩|⟨i,hi,hl,hat,hbef⟩
  ·have h1:Lib.indexByte (a++32::c) 32=(a.length:Int):=ix_first _ _ _ (by simpa using hnot)
   rw [splitL_yes h1,splitL_no hn,List.take_left,←List.drop_drop,List.drop_left]
   rfl
  ·have h1:Lib.indexByte (a++32::c) 32=(i:Int):=by
    have hs:=ix_split a 32 i hl hat
    have e:a++32::c=a.take i++32::(a.drop (i+1)++32::c):=by
     conv=>lhs;rw [hs]
     simp
    rw [e,ix_first _ _ _ hbef,List.length_take]
    congr 1;omega
   rw [splitL_yes h1,splitL_yes hi,List.take_append_of_le_length (by omega),List.drop_append_of_le_length (by omega),ih _ (by rw [List.length_drop];omega) _ rfl]
   rfl
theorem joinW_cons (x:List UInt8) {w:List (List UInt8)} (h:w≠[]):joinW (x::w)=x++32::joinW w:=by
 cases w with
 | nil=>exact absurd rfl h
 | cons y w=>simp [joinW,Lib.join,List.intercalate]
theorem joinW_app (a:List (List UInt8)) {b:List (List UInt8)} (ha:a≠[]) (hb:b≠[]):joinW (a++b)=joinW a++32::joinW b:=by
 induction a with
 | nil=>exact absurd rfl ha
 | cons x a ih =>
  by_cases h:a=[]
  ·subst h
   rw [List.cons_append,List.nil_append,joinW_cons x hb,joinW_one]
  ·rw [List.cons_append,joinW_cons x (by simp [h]),ih h,joinW_cons x h]
   simp
theorem splitL_ne (l:List UInt8):splitL l≠[]:=fun q=>by have:=splitL_pos l;rw [q] at this;simp at this
theorem join_splitL:∀(k:Nat) (l:List UInt8),l.length≤k→joinW (splitL l)=l
 | k,l,hk=>by
  rcases ix_cases l 32 with ⟨hn,_⟩|⟨i,hi,hl,hat,_⟩
  ·rw [splitL_no hn,joinW_one]
  ·rw [splitL_yes hi,joinW_cons _ (splitL_ne _)]
   cases k with
   | zero=>omega
   | succ k =>
    rw [join_splitL k _ (by rw [List.length_drop];omega)]
    exact (ix_split l 32 i hl hat).symm
theorem splitL_noblank:∀(k:Nat) (l:List UInt8),l.length≤k→∀x∈splitL l,(32:UInt8) ∉ x
 | k,l,hk=>by
  rcases ix_cases l 32 with ⟨hn,hno⟩|⟨i,hi,hl,hat,hbef⟩
  ·rw [splitL_no hn]
   intro x hx
   rw [List.mem_singleton] at hx
   subst hx;exact hno
  ·rw [splitL_yes hi]
   intro x hx
   rcases List.mem_cons.1 hx with rfl|hx
   ·exact hbef
   ·cases k with
    | zero=>omega
    | succ k=>exact splitL_noblank k _ (by rw [List.length_drop];omega) x hx
theorem good_split {l:List UInt8} (h:[] ∉ splitL l):Good (splitL l):=fun x hx=>⟨fun q=>h (by rw [←q];exact hx),splitL_noblank _ l (Nat.le_refl _) x hx⟩
theorem textO_is (l:List UInt8):textO l=fil (entryR (splitL l)):=by
 unfold textO
 by_cases h:[]∈splitL l
 ·rw [if_pos h]
  cases hf:fil (entryR (splitL l)) with
  | none=>rfl
  | some f=>exact absurd rfl (entry_ok hf [] h).1
 ·rw [if_neg h,entryO_is _ (good_split h)]
theorem textO_semi {l:List UInt8} (h:[59]∈splitL l):textO l=none:=by
 rw [textO_is]
 cases hf:fil (entryR (splitL l)) with
 | none=>rfl
 | some f=>exact absurd rfl (entry_ok hf [59] h).2
def entriesF:List (List (List UInt8))→Option (List En)
 | []=>some []
 | c::cs=>(fil (entryR c)).bind fun e=>(entriesF cs).map (e :: ·)
theorem entriesF_bad:∀{cs:List (List (List UInt8))},[]∈cs→entriesF cs=none
 | [],h=>by cases h
 | c::cs,h=>by
  rw [entriesF]
  rcases List.mem_cons.1 h with h|h
  ·subst h;rfl
  ·rw [entriesF_bad h]
   cases fil (entryR c)<;>rfl
theorem cut_ne:∀w:List (List UInt8),cutSemi w≠[]
 | []=>by simp [cutSemi]
 | x::w=>by
  rw [cutSemi]
  split
  ·simp
  ·split<;>simp
theorem cut_head (w:List (List UInt8)):[]∈cutSemi ([59]::w):=by rw [cutSemi,if_pos rfl];simp
theorem cut_tail {w:List (List UInt8)} (h:[]∈(cutSemi w).tail):∀p:List (List UInt8),[]∈(cutSemi (p++w)).tail
 | []=>h
 | x::p=>by
  have ih:=cut_tail h p
  rw [List.cons_append,cutSemi]
  split
  ·exact List.mem_of_mem_tail ih
  ·split
   ·rename_i hc;exact absurd hc (cut_ne _)
   ·rename_i c cs hc
    rw [hc] at ih
    exact ih
theorem cut_last (p:List (List UInt8)):[]∈cutSemi (p++[[59]]):=List.mem_of_mem_tail (cut_tail (by decide) p)
theorem cut_two (p q:List (List UInt8)):[]∈cutSemi (p++[59]::[59]::q):=List.mem_of_mem_tail (cut_tail (by
 rw [cutSemi,if_pos rfl]
 exact cut_head q) p)
theorem semi_ends {a:List UInt8} (h:[59]∈splitL a) (ho:∀j,j+3≤a.length→Lib.occAt a sep3 j=false):(∃r,splitL a=[59]::r)∨∃r,splitL a=r++[[59]]:=by
 obtain ⟨p,q,hpq⟩:=List.append_of_mem h
 by_cases hp:p=[]
 ·subst hp;exact .inl ⟨q,hpq⟩
 ·by_cases hq:q=[]
  ·subst hq;exact .inr ⟨p,hpq⟩
  ·exfalso
   have hj:=join_splitL _ a (Nat.le_refl _)
   rw [hpq,joinW_app p hp (by simp),joinW_cons _ hq] at hj
   have hlen:=congrArg List.length hj
   simp only [List.length_append,List.length_cons,List.length_nil] at hlen
   have hno:=ho (joinW p).length (by omega)
   have hyes:Lib.occAt a sep3 (joinW p).length=true:=by
    unfold Lib.occAt
    rw [←hj,List.drop_left]
    rfl
   rw [hyes] at hno;cases hno
theorem texts_is:∀(k:Nat) (l:List UInt8),l.length≤k→textsO (split3 l)=entriesF (cutSemi (splitL l))
 | k,l,hk=>by
  rcases Lib.index_spec l sep3 with ⟨hn,hno⟩|⟨i,hi,hil,hocc,hbef⟩
  ·rw [split3_no hn]
   by_cases hm:[59]∈splitL l
   ·have h1:textsO [l]=none:=by simp only [textsO];rw [textO_semi hm];rfl
    rw [h1]
    rcases semi_ends hm (fun j hj=>hno j (by omega)) with ⟨r,hr⟩|⟨r,hr⟩
    ·rw [hr,entriesF_bad (cut_head r)]
    ·rw [hr,entriesF_bad (cut_last r)]
   ·rw [cutSemi_no _ (fun x hx q=>hm (by rw [←q];exact hx))]
    simp only [textsO,entriesF]
    rw [textO_is]
  ·have hroom:i+3≤l.length:=by
    have:=Lib.index_room l sep3 (by rw [hi];omega)
    rw [hi] at this
    have e:sep3.length=3:=rfl
    omega
   have hl:l=l.take i++32::([59]++32::l.drop (i+3)):=by
    have h1:sep3 <+: l.drop i:=by
     unfold Lib.occAt at hocc
     exact List.isPrefixOf_iff_prefix.1 hocc
    obtain ⟨t,ht⟩:=h1
    have h2:l.drop (i+3)=t:=by
     rw [←List.drop_drop,←ht];rfl
    rw [h2]
    calc l=l.take i++l.drop i:=(List.take_append_drop i l).symm
     _=_:=by rw [←ht];rfl
   have hs:splitL l=splitL (l.take i)++[59]::splitL (l.drop (i+3)):=by
    conv=>lhs;rw [hl]
    rw [splitL_app,splitL_app]
    have e:splitL ([59]:List UInt8)=[[59]]:=splitL_no (by decide)
    rw [e];rfl
   rw [split3_yes hi,hs]
   cases k with
   | zero=>omega
   | succ k =>
    have ih:=texts_is k (l.drop (i+3)) (by rw [List.length_drop];omega)
    by_cases hm:[59]∈splitL (l.take i)
    ·have h1:textsO (l.take i::split3 (l.drop (i+3)))=none:=by simp only [textsO];rw [textO_semi hm];rfl
     rw [h1]
     have hoc:∀j,j+3≤(l.take i).length→Lib.occAt (l.take i) sep3 j=false:=fun j hj=>by
      rw [List.length_take] at hj
      cases hq:Lib.occAt (l.take i) sep3 j with
      | false=>rfl
      | true =>
       exfalso
       have h2:Lib.occAt l sep3 j=true:=by
        unfold Lib.occAt at hq ⊢
        rw [List.isPrefixOf_iff_prefix] at hq ⊢
        refine hq.trans ?_
        rw [List.drop_take]
        exact List.take_prefix _ _
       have h3:=hbef j (by omega)
       rw [h2] at h3;cases h3
     rcases semi_ends hm hoc with ⟨r,hr⟩|⟨r,hr⟩
     ·rw [hr,List.cons_append,entriesF_bad (cut_head _)]
     ·rw [hr,List.append_assoc]
      exact (entriesF_bad (cut_two r _)).symm
    ·rw [cutSemi_at _ _ (fun x hx q=>hm (by rw [←q];exact hx))]
     simp only [textsO,entriesF]
     rw [textO_is,ih]
theorem entriesF_is:∀cs:List (List (List UInt8)),entriesF cs=(entriesR cs).bind fun es=>if es.all mayEn=true then some es else none
 | []=>rfl
 | c::cs=>by
  rw [entriesF,entriesR,entriesF_is cs]
  cases entryR c with
  | none=>rfl
  | some e =>
   simp only [fil,Option.bind_some]
   by_cases hm:mayEn e=true
   ·rw [if_pos hm]
    cases entriesR cs with
    | none=>rfl
    | some es =>
     simp only [Option.bind_some,Option.map_some,List.all_cons,hm,Bool.true_and]
     split<;>rfl
   ·rw [if_neg hm]
    cases entriesR cs with
    | none=>rfl
    | some es=>simp [hm]
theorem entriesR_len:∀{cs:List (List (List UInt8))} {es:List En},entriesR cs=some es→es.length=cs.length
 | [],es,h=>by cases h;rfl
 | c::cs,es,h=>by
  rw [entriesR] at h
  cases he:entryR c with
  | none=>rw [he] at h;cases h
  | some e =>
   rw [he,Option.bind_some] at h
   cases hr:entriesR cs with
   | none=>rw [hr] at h;cases h
   | some gs=>rw [hr] at h;cases h;simp [entriesR_len hr]
theorem opP_is (l:List UInt8):opP l=(entriesR (cutSemi (splitL l))).bind fun es=>if mayRq es=true then some es else none:=by
 unfold opP
 rw [texts_is _ l (Nat.le_refl _),entriesF_is]
 cases hr:entriesR (cutSemi (splitL l)) with
 | none=>rfl
 | some es =>
  have h1:=entriesR_len hr
  have h2:0<es.length:=by
   rw [h1]
   exact List.length_pos_iff.2 (cut_ne _)
  simp only [Option.bind_some]
  unfold mayRq
  rw [decide_eq_true h2,Bool.true_and]
  by_cases ha:es.all mayEn=true
  ·rw [if_pos ha,ha,Bool.and_true,Option.bind_some]
   by_cases hl:es.length≤16
   ·rw [if_pos hl,if_pos (decide_eq_true hl)]
   ·rw [if_neg hl,if_neg (by simpa using hl)]
  ·rw [if_neg ha,if_neg (by simp [ha])];rfl
theorem opR_is (l:List UInt8):opR l=readRq (wordsAns l):=by
 unfold opR
 by_cases h0:l=[]
 ·subst h0
  have e:splitL ([]:List UInt8)=[[]]:=splitL_no rfl
  have e2:trimPrefix ([]:List UInt8) onceB=[]:=by decide
  rw [e2,opP_is,e];rfl
 have hw:wordsAns l=splitL l:=by unfold wordsAns;rw [if_neg h0]
 rw [hw]
 unfold readRq
 by_cases hp:hasPrefix l onceB=true
 ·obtain ⟨t,ht⟩:∃t,onceB++t=l:=List.isPrefixOf_iff_prefix.1 hp
  have htr:trimPrefix l onceB=t:=by
   unfold trimPrefix
   rw [if_pos hp,←ht,List.drop_left]
  have hsl:splitL l=onceW::splitL t:=by
   have e:l=onceW++32::t:=by rw [←ht];rfl
   rw [e,splitL_app]
   have e2:splitL onceW=[onceW]:=splitL_no (by decide)
   rw [e2];rfl
  rw [htr,hp,hsl,opP_is]
  simp only [List.head?_cons,decide_true,if_true,List.drop_succ_cons,List.drop_zero]
  cases entriesR (cutSemi (splitL t)) with
  | none=>rfl
  | some es =>
   simp only [Option.bind_some]
   split<;>rfl
 ·have hpf:hasPrefix l onceB=false:=by simpa using hp
  have htr:trimPrefix l onceB=l:=by unfold trimPrefix;rw [if_neg hp]
  rw [htr,hpf,opP_is]
  by_cases hh:(splitL l).head? = some onceW
  ·have hone:splitL l=[onceW]:=by
    cases hs:splitL l with
    | nil=>exact absurd hs (splitL_ne l)
    | cons x r =>
     rw [hs] at hh
     have hx:x=onceW:=by simpa using hh
     subst hx
     by_cases hr:r=[]
     ·rw [hr]
     ·exfalso
      have hj:=join_splitL _ l (Nat.le_refl _)
      rw [hs,joinW_cons _ hr] at hj
      apply hp
      unfold hasPrefix
      rw [List.isPrefixOf_iff_prefix]
      exact ⟨joinW r,by rw [←hj];rfl⟩
   rw [hone]
   decide
  ·simp only [hh,decide_false,Bool.false_eq_true,if_false]
   cases entriesR (cutSemi (splitL l)) with
   | none=>rfl
   | some es =>
    simp only [Option.bind_some]
    split<;>rfl
end
section
open Go.RowKit Go.Lib
theorem entriesR_app:∀(a b:List (List (List UInt8))),entriesR (a++b)=(entriesR a).bind fun x=>(entriesR b).map (x ++ ·)
 | [],b=>by
  show entriesR b=(some []).bind _
  rw [Option.bind_some]
  cases entriesR b<;>simp
 | c::a,b=>by
  show (entryR c).bind (fun e=>(entriesR (a++b)).map (e :: ·))=((entryR c).bind fun e=>(entriesR a).map (e :: ·)).bind _
  rw [entriesR_app a b]
  cases entryR c with
  | none=>rfl
  | some e =>
   rw [Option.bind_some,Option.bind_some]
   cases entriesR a with
   | none=>rfl
   | some x =>
    rw [Option.bind_some,Option.map_some,Option.bind_some]
    cases entriesR b<;>simp
def goodR (o:Option (List En)):Option (List En):=o.bind fun l=>if mayRq l=true then some l else none
theorem read_good (ls:List (List UInt8)) (once:Bool) (us:List (List UInt8)) (h1:decide (ls.head? = some onceW)=once) (h2:us=if once=true then ls.drop 1 else ls):readRq ls=(goodR (entriesR (cutSemi us))).map fun l=>(once,l):=by
 unfold readRq goodR
 simp only [h1]
 rw [←h2]
 cases entriesR (cutSemi us) with
 | none=>rfl
 | some l =>
  rw [Option.bind_some,Option.bind_some]
  split<;>rfl
theorem good_no {cs pre post:List (List (List UInt8))} {seg:List (List UInt8)} (h:cs=pre++seg::post) (hs:entryR seg=none):goodR (entriesR cs)=none:=by
 have:entriesR cs=none:=by
  rw [h,entriesR_app]
  have:entriesR (seg::post)=none:=by
   show (entryR seg).bind _=none
   rw [hs];rfl
  rw [this]
  cases entriesR pre<;>rfl
 rw [this];rfl
theorem good_many {cs pre post:List (List (List UInt8))} (h:cs=pre++post) (hp:16<pre.length):goodR (entriesR cs)=none:=by
 cases hc:entriesR cs with
 | none=>rfl
 | some l =>
  have hl:=entriesR_len hc
  show (if mayRq l=true then some l else none)=none
  rw [if_neg]
  unfold mayRq
  have:¬ l.length≤16:=by rw [hl,h,List.length_append];omega
  simp [this]
structure PaSt (W3:World) (N Q:Nat) (once:Bool) (ls:List (List UInt8)) (f i:Nat) (out:List Ex) (p:Option Addr) (c:Nat) (wr:World):Prop where
 res:wr.heap[N]? = some (.cells #[.bool false,.slice none 0 0] 25 (0,0))
 box:wr.heap[Q]? = some (.cells #[.bool once,.slice p out.length c] 25 (0,0))
 own:KEx.Own (Q+1) wr (.slice p out.length c) out
 each:∀x∈out,OwnQ (Q+1) x wr
 bel:Below Q W3 wr
 size:Q+1≤wr.heap.size
 few:out.length≤16
 cut:∃pre,entriesR pre=some (out.map Ex.en)∧((i≤ls.length∧f≤i∧cutSemi ls=pre++cutSemi (ls.drop f)∧∀x∈(ls.drop f).take (i-f),x≠[59])∨(i=ls.length+1∧cutSemi ls=pre))
theorem take_seg {ls:List (List UInt8)} {f i:Nat} {x:List UInt8} (hf:f≤i) (hx:ls[i]? = some x) (hs:∀z∈(ls.drop f).take (i-f),z≠[59]) :
  (x≠[59]→∀z∈(ls.drop f).take (i+1-f),z≠[59])∧(x=[59]→cutSemi (ls.drop f)=(ls.drop f).take (i-f)::cutSemi (ls.drop (i+1))):=by
 have hg:(ls.drop f)[i-f]? = some x:=by rw [List.getElem?_drop];rw [show f+(i-f)=i by omega];exact hx
 refine ⟨fun hne z hz=>?_,fun he=>?_⟩
 ·rw [show i+1-f=(i-f)+1 by omega,List.take_add_one,hg] at hz
  rcases List.mem_append.1 hz with h|h
  ·exact hs z h
  ·have:z=x:=by simpa using h
   rw [this];exact hne
 ·subst he
  obtain ⟨hl,hge⟩:=List.getElem?_eq_some_iff.1 hg
  have hsp:ls.drop f=(ls.drop f).take (i-f)++[59]::ls.drop (i+1):=by
   have h1:=(List.take_append_drop (i-f) (ls.drop f)).symm
   rw [List.drop_eq_getElem_cons hl,hge,List.drop_drop,show f+(i-f+1)=i+1 by omega] at h1
   exact h1
  have h2:=cutSemi_at ((ls.drop f).take (i-f)) (ls.drop (i+1)) hs
  rw [←hsp] at h2
  exact h2
theorem last_seg {ls:List (List UInt8)} {f:Nat} (hs:∀z∈(ls.drop f).take (ls.length-f),z≠[59]):cutSemi (ls.drop f)=[(ls.drop f).take (ls.length-f)]:=by
 have e:(ls.drop f).take (ls.length-f)=ls.drop f:=List.take_of_length_le (by rw [List.length_drop];exact Nat.le_refl _)
 rw [e] at hs ⊢
 exact cutSemi_no _ hs
end
section
open Go.RowKit Go.Lib
set_option maxHeartbeats 4000000 in
set_option maxRecDepth 100000 in
theorem word_term (x:Tm) (w:World) (hp:PlainAt w) (h1:1≤x.2.1∧x.2.1≤7) (h2:x.1.size≤32) (h3:x.2.2.size≤128) :
  Calls Tryz.prog 131 #[.agg #[.string x.1,.int .i64 x.2.1,.string x.2.2]] w fun e w'=>e=.returned (.string (wordM x))∧Below w.heap.size w w':=by
 obtain ⟨xf,xo,xt⟩:=x
 simp only at h1 h2 h3 ⊢
 obtain ⟨W,hW⟩:∃W,w.alloc (.cells #[.string xf,.int .i64 xo,.string xt] 49)=W:=⟨_,rfl⟩
 obtain ⟨F,hF⟩:∃F,w.heap.size=F:=⟨_,rfl⟩
 have hbw:Below w.heap.size w W:=by rw [←hW];exact (Below.refl _ _).alloc (Nat.le_refl _) _
 have hbox:BoxM W F (xf,xo,xt):=by rw [←hW,←hF];exact boxM_new w (xf,xo,xt)
 have hwl2:=writeL_len xt.data.toList
 have hwl3:xt.data.toList.length=xt.size:=by simp
 have HW:=hid (write_any xt W.drew (hp.on hbw.drew) (by omega))
 obtain ⟨wt,hwt⟩:∃wt:ByteArray,⟨(writeL xt.data.toList).toArray⟩=wt:=⟨_,rfl⟩
 have hwts:wt.size≤384:=by rw [←hwt];show (writeL xt.data.toList).toArray.size≤384;rw [List.size_toArray];omega
 rw [hwt] at HW
 obtain ⟨S2,hS2⟩:∃S2:ByteArray,xf++⟨#[opC xo]⟩=S2:=⟨_,rfl⟩
 have hS2s:S2.size≤33:=by rw [←hS2,ByteArray.size_append];show _+1≤_;omega
 obtain ⟨S4,hS4⟩:∃S4:ByteArray,S2++wt=S4:=⟨_,rfl⟩
 have HV:Hid (wordM (xf,xo,xt)=S4):=by show _=_;rw [←hS4,←hS2,←hwt];rfl
 have hA:∀w,Sem.run Tryz.prog (Op.stringOp .add xf ⟨#[opC xo]⟩) w=.ok (.string S2) w:=fun w=>by rw [←hS2];exact run_string_add_sum _ _ _ (by show xf.size+1≤_;omega)
 have hC:∀w,Sem.run Tryz.prog (Op.stringOp .add S2 wt) w=.ok (.string S4) w:=fun w=>by rw [←hS4];exact run_string_add_sum _ _ _ (by omega)
 obtain ⟨m,hm7,hxo⟩:∃m:Nat,m<7∧xo=m+1:=⟨(xo-1).toNat,by omega,by omega⟩
 have hw:IntKind.i64.wrap (xo-1)=(m:Int):=by rw [hxo];rw [show (m:Int)+1-1=m by omega];exact wrap_i64 _ (by omega) (by omega)
 have hm0:(0:Int)≤m:=by omega
 have hm7z:(m:Int)<7:=by omega
 have hsg:=sign_at m hm7
 rw [←hxo] at hsg
 have hA2:∀w,Sem.run Tryz.prog (Op.stringOp .add xf (Utf8.encode (((⟨#[61,33,94,60,62,63,45]⟩:ByteArray)[m]'hm7).toNat:Int))) w=.ok (.string S2) w:=by rw [hsg];exact hA
 obtain ⟨c0,c1,c2⟩:=hbox.cells
 have KS:Hid (∀w':World,Below W.drew.heap.size W.drew w'→w'.cell? ⟨F,0,none⟩=some (.string xf)∧w'.cell? ⟨F,2,none⟩=some (.string xt)):=fun w' h=>⟨(BoxM.on (w:=W.drew) hbox h).cells.1,(BoxM.on (w:=W.drew) hbox h).cells.2.2⟩
 have HBW:=hid hbw
 simp only at c0 c1 c2
 clear hwl2 hwl3 hwt hS2 hS4 hwts hS2s h1 h2 h3 hp hA hxo hsg hbox hbw
 go_enter Tryz.func131,Tryz.ntmps131
 rw [hF]
 go_wp2_with fail
 go_region_held3 (fun w'=>w'.cell? ⟨F,0,none⟩=some (.string xf)∧w'.cell? ⟨F,2,none⟩=some (.string xt))
  (first|exact ⟨c0,c2⟩|exact q2)
  (first|(go_at_call 130;refine HW.out.mono ?_;rintro o w2 ⟨rfl,hb2⟩;have q2:=KS.out _ hb2))
 all_goals
  go_wp2_with fail
  go_ret
  rw [←hF]
  exact ⟨by rw [HV.out];rfl,bel_then HBW.out.drew HBW.out.drew.size hb2⟩
set_option maxHeartbeats 8000000 in
set_option maxRecDepth 100000 in
theorem pprint_any (v:Value) (p:List Tm) (w:World) (hp:PlainAt w) (hv:KM.Is w v p) (hf:FitM p) :
  Calls Tryz.prog 90 #[v] w fun e w'=>e=.returned (.tuple #[.string (lineM (ansM p)),.int .i64 (mayM p)])∧Below w.heap.size w w':=by
 obtain ⟨i0,hi0,hz0,hz1,hz2⟩:=info_parts Tryz.infoStr
 have HI:=hid hi0
 have HN:=hid (pnorm_any v p w hv hf)
 have HP:=hid hp
 clear hv hf hp hi0
 by_cases hm:mayM p=0
 ·have HAL:=hid (fun x hx=>ansM_all (p:=p) x hx)
  have hal:=ansM_len p
  have HM:=hid hm
  obtain ⟨G,hG⟩:∃G,ansM p=G:=⟨_,rfl⟩
  rw [hG] at HAL hal
  have HG:=hid hG
  clear hm hG
  go_enter Tryz.func90,Tryz.ntmps90
  go_wp2_with (first|(go_at_call 117;refine HN.out.mono ?_;rintro e w1 ⟨⟨u,he,ho⟩,hb1⟩;rw [HM.out] at he;subst he;rw [HG.out] at ho;obtain ⟨p5,c5,hu,hd⟩:=Kind.own_is ho;subst hu;have HD:=hid hd;have HB1:=hid hb1;have HP1:=hid (HP.out.on hb1);clear ho hd hb1))
  go_loopg [6,19] G.length (fun g vs vi wr=>∃i:Nat,vi=.int .i64 i∧i≤G.length∧G.length-i≤g∧Hid (Below w1.heap.size w1 wr)∧Hid (OwnT w1.heap.size wr vs ((G.take i).map wordM)))
  case atStart=>exact ⟨0,rfl,by omega,by omega,Below.refl _ _,World.ownsRow_nil _ _ _ _⟩
  case round =>
   obtain ⟨i,rfl,hi,hgk,HB,HO⟩:=hrel
   by_cases hlt:i<G.length
   ·have hltz:(i:Int)<(G.length:Int):=by omega
    have hiz:(0:Int)≤i:=by omega
    obtain ⟨b,off,rfl,hat⟩:∃b off,p5=some ⟨b,off,none⟩∧KM.At w1 b off G:=by
     rcases HD.out with h|h
     ·subst h;simp at hlt
     ·exact h
    obtain ⟨c0,c1,c2⟩:=km_cells (Kind.at_kept hat HB.out) i hlt
    obtain ⟨hn,hr,hs⟩:=HAL.out _ (List.getElem_mem hlt)
    have hor:=rightM_range hr
    have hns:=fieldB_len hn
    have hss:=of_decide_eq_true hs
    have htk:(G.take (i+1)).map wordM=(G.take i).map wordM++[wordM G[i]]:=by
     rw [List.take_succ_eq_append_getElem hlt,List.map_append];simp
    have hns2:(G[i]).1.size≤32:=by simpa using hns
    have hal2:((G.take i).map wordM).length=i:=by rw [List.length_map,List.length_take];omega
    obtain ⟨x,hx⟩:∃x,G[i]=x:=⟨_,rfl⟩
    rw [hx] at c0 c1 c2 hor hns2 hss htk
    have HWT:Hid (∀W,Below w1.heap.size w1 W→Calls Tryz.prog 131 #[.agg #[.string x.1,.int .i64 x.2.1,.string x.2.2]] W fun e w'=>e=.returned (.string (wordM x))∧Below W.heap.size W w'):=fun W hb=>word_term x W (HP1.out.on hb) hor hns2 hss
    obtain ⟨acc,hacc⟩:∃acc,(G.take i).map wordM=acc:=⟨_,rfl⟩
    rw [hacc] at HO htk hal2
    obtain ⟨wd,hwd⟩:∃wd,wordM x=wd:=⟨_,rfl⟩
    rw [hwd] at HWT htk
    have HTK:=hid htk
    have HAC:=hid hal2
    have hal3:acc.length≤8:=by omega
    have hsz:=HB.out.size
    obtain ⟨xf,xo,xt⟩:=x
    simp only at c0 c1 c2 HWT
    clear hat hn hr hs hx htk hns hss hor hns2 hwd hacc hal2
    go_wp2_with (first
     | (at_builtin;refine wpList_append_own _ rfl _ _ 43 rfl w1.heap.size 9 i0 (.string ⟨#[]⟩) 1 16 Tryz.underlying43 HI.out hz0 hz1 hz2 rfl (by decide) _ _ _ rfl HO3.out _ 1 1 [.string wd] rfl rfl (by intro j u hj;match j,hj with|0,hj=>simp at hj;subst hj;simp [Addr.add]) (by intro u hu;simp at hu;subst hu;rfl) (by unfold maxLen;omega) (by omega) (by have:=hb2.size;simp at this ⊢;omega) ?_;intro v4 w4 hown4 hg4 hnil4;have HO4:=hid hown4;have HG4:=hid hg4;clear hown4 hg4 hnil4)
     | (go_at_call 131;refine (HWT.out _ (HB.out.alloc hsz _)).mono ?_;rintro e w2 ⟨rfl,hb2⟩;have HO3:Hid (OwnT w1.heap.size (w2.alloc (.cells #[.string wd] 9)) _ acc):=hid ((OwnT.on (OwnT.on HO.out ((Below.refl _ wr).alloc (Nat.le_refl _) _)) hb2).on ((Below.refl _ _).alloc (Nat.le_refl _) _))))
    go_roundg (G.length-(i+1))
    case measure=>omega
    refine ⟨i+1,by go_num,by omega,by omega,?_,?_⟩
    ·have hb3:Below w1.heap.size w1 (w2.alloc (.cells #[.string wd] 9)):=(bel_then (HB.out.alloc hsz _) (HB.out.alloc hsz _).size hb2).alloc (Nat.le_trans (HB.out.alloc hsz _).size hb2.size) _
     exact hb3.grown HG4.out hb3.size (fun k hk=>(World.ownsRow.lt HO3.out k hk).1)
    ·rw [HTK.out]
     show OwnT _ _ _ _
     unfold OwnT
     rw [List.length_append,List.map_append]
     exact HO4.out
   ·have hltz:¬ (i:Int)<(G.length:Int):=by omega
    have htk2:G.take i=G:=List.take_of_length_le (by omega)
    rw [htk2] at HO
    have hws:∀y∈G.map wordM,y.size≤417:=fun y hy=>by
     obtain ⟨t,ht,rfl⟩:=List.mem_map.1 hy
     obtain ⟨a,_,c⟩:=HAL.out t ht
     exact wordM_len a c
    have hwl:(G.map wordM).length≤128:=by rw [List.length_map];omega
    obtain ⟨ws,hwe⟩:∃ws,G.map wordM=ws:=⟨_,rfl⟩
    have HLN:Hid (lineM G=⟨(Lib.join (ws.map (·.data.toList)) [32]).toArray⟩):=by show _=_;rw [←hwe];rfl
    rw [hwe] at HO hws hwl
    clear htk2 hwe
    obtain ⟨p4,cap4,hv4⟩:=own_slice HO.out
    subst hv4
    have HJ:=hid (join_any ws p4 cap4 wr HO.out hwl hws)
    clear hws hwl
    go_wp2_with (first|(go_at_call 26;refine HJ.out.mono ?_;rintro e w2 ⟨rfl,hb2⟩))
    go_ret2
    exact ⟨by rw [HM.out,HG.out,HLN.out];rfl,bel_then (bel_then HB1.out HB1.out.size HB.out) (bel_then HB1.out HB1.out.size HB.out).size hb2⟩
 ·have hne:(mayM p != 0)=true:=by rw [bne_iff_ne];exact hm
  have HA:Hid (ansM p=[]):=by show _=_;unfold ansM;rw [if_neg hm]
  obtain ⟨r,hr⟩:∃r,mayM p=r:=⟨_,rfl⟩
  rw [hr] at hne
  have HR:=hid hr
  clear hm hr
  go_enter Tryz.func90,Tryz.ntmps90
  go_wp2_with (first|(go_at_call 117;refine HN.out.mono ?_;rintro e w1 ⟨⟨u,he,ho⟩,hb1⟩;rw [HR.out] at he;subst he;clear ho))
  go_ret2
  exact ⟨by rw [HR.out,HA.out];rfl,hb1⟩
end
section
open Go.RowKit Go.Lib
def kC (o:Int):UInt8:=if o=1 then 58 else if o=2 then 43 else if o=3 then 45 else if o=4 then 126 else 61
theorem kC_at (m:Nat) (h:m<5):Utf8.encode (((⟨#[58,43,45,126,61]⟩:ByteArray)[m]'h).toNat:Int)=⟨#[kC ((m:Int)+1)]⟩:=by
 have:m=0∨m=1∨m=2∨m=3∨m=4:=by omega
 rcases this with rfl|rfl|rfl|rfl|rfl<;>decide +revert
theorem sign_wipe:signS 4=⟨#[kC 4]⟩:=rfl
theorem sign_else {o:Int} (h1:1≤o) (h2:o≤5) (h4:o≠4):signS o=⟨#[kC o]⟩++⟨#[61]⟩:=by
 have:o=1∨o=2∨o=3∨o=5:=by omega
 rcases this with rfl|rfl|rfl|rfl<;>rfl
theorem rightE_range {x:Ed} (h:rightE x=true):(1≤x.1∧x.1≤5)∧(x.1=4→x.2.2.size=0):=by
 unfold rightE at h
 rw [Bool.and_eq_true,Bool.and_eq_true,Bool.or_eq_true] at h
 refine ⟨⟨of_decide_eq_true h.1.1,of_decide_eq_true h.1.2⟩,fun e=>?_⟩
 rcases h.2 with k|k
 ·exact absurd e (of_decide_eq_true k)
 ·exact of_decide_eq_true k
set_option maxHeartbeats 4000000 in
set_option maxRecDepth 100000 in
theorem word_edit (x:Ed) (w:World) (hp:PlainAt w) (h1:1≤x.1∧x.1≤5) (h2:x.2.1.size≤32) (h3:x.2.2.size≤128) (h4:x.1=4→x.2.2.size=0) :
  Calls Tryz.prog 132 #[.agg #[.int .i64 x.1,.string x.2.1,.string x.2.2]] w fun e w'=>e=.returned (.string (wordE x))∧Below w.heap.size w w':=by
 obtain ⟨xo,xf,xt⟩:=x
 simp only at h1 h2 h3 h4 ⊢
 obtain ⟨W,hW⟩:∃W,w.alloc (.cells #[.int .i64 xo,.string xf,.string xt] 47)=W:=⟨_,rfl⟩
 obtain ⟨F,hF⟩:∃F,w.heap.size=F:=⟨_,rfl⟩
 have hbw:Below w.heap.size w W:=by rw [←hW];exact (Below.refl _ _).alloc (Nat.le_refl _) _
 have hbox:BoxE W F (xo,xf,xt):=by rw [←hW,←hF];exact boxE_new w (xo,xf,xt)
 have hwl2:=writeL_len xt.data.toList
 have hwl3:xt.data.toList.length=xt.size:=by simp
 have HW:Hid (∀n,Calls Tryz.prog 130 #[.string xt] (W.drewN n) fun e w'=>e=.returned (.string ⟨(writeL xt.data.toList).toArray⟩)∧Below (W.drewN n).heap.size (W.drewN n) w'):=fun n=>write_any xt (W.drewN n) (hp.on (belE_drew hbw n)) (by omega)
 obtain ⟨wt,hwt⟩:∃wt:ByteArray,⟨(writeL xt.data.toList).toArray⟩=wt:=⟨_,rfl⟩
 have hwts:wt.size≤384:=by rw [←hwt];show (writeL xt.data.toList).toArray.size≤384;rw [List.size_toArray];omega
 rw [hwt] at HW
 obtain ⟨S2,hS2⟩:∃S2:ByteArray,xf++⟨#[kC xo]⟩=S2:=⟨_,rfl⟩
 have hS2s:S2.size≤33:=by rw [←hS2,ByteArray.size_append];show _+1≤_;omega
 obtain ⟨S3,hS3⟩:∃S3:ByteArray,S2++⟨#[61]⟩=S3:=⟨_,rfl⟩
 have hS3s:S3.size≤34:=by rw [←hS3,ByteArray.size_append];show _+1≤_;omega
 obtain ⟨S4,hS4⟩:∃S4:ByteArray,S3++wt=S4:=⟨_,rfl⟩
 have hA:∀w,Sem.run Tryz.prog (Op.stringOp .add xf ⟨#[kC xo]⟩) w=.ok (.string S2) w:=fun w=>by rw [←hS2];exact run_string_add_sum _ _ _ (by show xf.size+1≤_;omega)
 have hB:∀w,Sem.run Tryz.prog (Op.stringOp .add S2 ⟨#[61]⟩) w=.ok (.string S3) w:=fun w=>by rw [←hS3];exact run_string_add_sum _ _ _ (by show S2.size+1≤_;omega)
 have hC:∀w,Sem.run Tryz.prog (Op.stringOp .add S3 wt) w=.ok (.string S4) w:=fun w=>by rw [←hS4];exact run_string_add_sum _ _ _ (by omega)
 obtain ⟨m,hm5,hxo⟩:∃m:Nat,m<5∧xo=m+1:=⟨(xo-1).toNat,by omega,by omega⟩
 have hw:IntKind.i64.wrap (xo-1)=(m:Int):=by rw [hxo];rw [show (m:Int)+1-1=m by omega];exact wrap_i64E _ (by omega) (by omega)
 have hm0:(0:Int)≤m:=by omega
 have hm5z:(m:Int)<5:=by omega
 have hsg:=kC_at m hm5
 rw [←hxo] at hsg
 have hA2:∀w,Sem.run Tryz.prog (Op.stringOp .add xf (Utf8.encode (((⟨#[58,43,45,126,61]⟩:ByteArray)[m]'hm5).toNat:Int))) w=.ok (.string S2) w:=by rw [hsg];exact hA
 obtain ⟨c0,c1,c2⟩:=hbox.cells
 have HBW:=hid hbw
 simp only at c0 c1 c2
 by_cases hk:xo=4
 ·have hkb:(xo==4)=true:=by rw [hk];rfl
  have HV:Hid (wordE (xo,xf,xt)=S2):=by
   show _=_
   have ht0:xt.data.toList=[]:=List.length_eq_zero_iff.1 (by rw [hwl3];exact h4 hk)
   rw [←hS2]
   unfold wordE
   simp only
   rw [ht0,show writeL []=[] from rfl,hk,sign_wipe]
   exact ba_eq (by simp)
  clear hwl2 hwl3 hwt hS2 hS3 hS4 hwts hS2s hS3s h1 h2 h3 h4 hp hA hB hC hxo hsg hbox hbw HW hk
  go_enter Tryz.func132,Tryz.ntmps132
  rw [hF]
  go_wp2_with fail
  go_quiet (fail)
  go_wp2_with fail
  go_ret
  rw [←hF]
  exact ⟨by rw [HV.out];rfl,belE_drew HBW.out _⟩
 ·have hkb:(xo==4)=false:=beq_eq_false_iff_ne.2 hk
  have HV:Hid (wordE (xo,xf,xt)=S4):=by
   show _=_
   rw [←hS4,←hS3,←hS2,←hwt]
   unfold wordE
   simp only
   rw [sign_else h1.1 h1.2 hk]
   exact ba_eq (by simp)
  clear hwl2 hwl3 hwt hS2 hS3 hS4 hwts hS2s hS3s h1 h2 h3 h4 hp hA hxo hsg hbox hbw hk
  go_enter Tryz.func132,Tryz.ntmps132
  rw [hF]
  go_wp2_with fail
  go_quiet (fail)
  go_wp2_with (go_at_call 130;refine (HW.out _).mono ?_;rintro o w2 ⟨rfl,hb2⟩)
  go_ret
  rw [←hF]
  exact ⟨by rw [HV.out];rfl,(belE_drew HBW.out _).trans (hb2.mono HBW.out.size)⟩
theorem joinE_any (ws:List ByteArray) (p:Option Addr) (cap:Nat) (w:World) {n0:Nat} (h:OwnT n0 w (.slice p ws.length cap) ws) (hn:ws.length≤128) (hs:∀x∈ws,x.size≤418) :
  Calls Tryz.prog 26 #[.slice p ws.length cap,.string ⟨#[32]⟩] w fun e w'=>e=.returned (.string ⟨(Lib.join (ws.map (·.data.toList)) [32]).toArray⟩)∧Below w.heap.size w w':=by
 rcases h.2 with ⟨_,h0⟩|⟨g,c,cur,hv,_,hg,hcap,_,hsz,htk⟩
 ·obtain rfl:=List.length_eq_zero_iff.1 h0
  refine (Tryz.strings_Join_none p cap _ w).mono ?_
  rintro e w' ⟨rfl,rfl⟩
  exact ⟨rfl,Below.refl _ _⟩
 ·injection hv with hp hl hc
  subst hp
  subst hc
  refine (Tryz.strings_Join g 0 cap ws ⟨#[32]⟩ w (fun j x hj=>?_) (Array.getElem?_eq_some_iff.1 hg).1 (by omega) (by omega) ?_).mono ?_
  ·have hjl:=(List.getElem?_eq_some_iff.1 hj).1
   rw [Nat.zero_add,cell_of_row w g j cur _ _ hg,←Array.getElem?_toList]
   have:(ws.map Value.string)[j]? = cur.toList[j]?:=by rw [←htk,List.getElem?_take,if_pos (by omega)]
   rw [←this,List.getElem?_map,hj];rfl
  ·have h1:=join_len (ws.map (·.data.toList)) 418 (fun l hl=>by
    obtain ⟨x,hx,rfl⟩:=List.mem_map.1 hl
    have:=hs x hx
    simpa using this)
   rw [List.length_map] at h1
   have h2:ws.length * 419≤128 * 419:=Nat.mul_le_mul_right _ hn
   show (Lib.join (ws.map (·.data.toList)) [32]).length≤_
   omega
  ·rintro e w' ⟨rfl,hb⟩
   exact ⟨rfl,hb⟩
set_option maxHeartbeats 8000000 in
set_option maxRecDepth 100000 in
theorem pprintE_plain (v:Value) (p:List Ed) (w:World) (hp:PlainAt w) (hv:KE.Is w v p) (hf:FitE p) :
  Calls Tryz.prog 91 #[v] w fun e w'=>e=.returned (.tuple #[.string (prE p),.int .i64 (mayE p)])∧Below w.heap.size w w':=by
 obtain ⟨i0,hi0,hz0,hz1,hz2⟩:=info_parts Tryz.infoStr
 have HI:=hid hi0
 have HN:=hid (pmayE_raw v p w hv hf)
 have HP:=hid hp
 by_cases hm:mayE p=0
 ·obtain ⟨hl16,hn,hr,hs⟩:=mayE_zero hm
  have HAL:=hid (fun x (hx:x∈p)=>And.intro (hn x hx) (And.intro (hr x hx) (hs x hx)))
  have HM:=hid hm
  rw [hm] at HN
  obtain ⟨q,cap,rfl,hd⟩:=hv
  have HD:=hid hd
  have HPR:Hid (prE p=lineB (p.map wordE)):=by show _=_;unfold prE lineE;rw [if_pos hm]
  clear hm hn hr hs hf hp hi0 hd
  go_enter Tryz.func91,Tryz.ntmps91
  go_wp2_with fail
  refine HN.out.mono ?_
  rintro e w1 ⟨rfl,hb1⟩
  have HB1:=hid hb1
  have HP1:=hid (HP.out.on hb1)
  have HD1:Hid (p=[]∨∃b off,q=some ⟨b,off,none⟩∧KE.At w1 b off p):=by
   rcases HD.out with h|⟨b,off,h1,h2⟩
   ·exact Or.inl h
   ·exact Or.inr ⟨b,off,h1,Kind.at_kept h2 hb1⟩
  clear hb1
  go_wp2_with fail
  go_loopg [5,15] p.length (fun g vs vi wr=>∃i:Nat,vi=.int .i64 i∧i≤p.length∧p.length-i≤g∧Hid (Below w1.heap.size w1 wr)∧Hid (OwnT w1.heap.size wr vs ((p.take i).map wordE)))
  case atStart=>exact ⟨0,rfl,by omega,by omega,Below.refl _ _,World.ownsRow_nil _ _ _ _⟩
  case round =>
   obtain ⟨i,rfl,hi,hgk,HB,HO⟩:=hrel
   by_cases hlt:i<p.length
   ·have hltz:(i:Int)<(p.length:Int):=by omega
    have hiz:(0:Int)≤i:=by omega
    obtain ⟨b,off,rfl,hat⟩:∃b off,q=some ⟨b,off,none⟩∧KE.At w1 b off p:=by
     rcases HD1.out with h|h
     ·subst h;simp at hlt
     ·exact h
    obtain ⟨c0,c1,c2⟩:=ke_cells (Kind.at_kept hat HB.out) i hlt
    obtain ⟨hn,hr,hs⟩:=HAL.out _ (List.getElem_mem hlt)
    obtain ⟨hor,h4⟩:=rightE_range hr
    have hns:=fieldB_len hn
    have hss:=of_decide_eq_true hs
    have htk:(p.take (i+1)).map wordE=(p.take i).map wordE++[wordE p[i]]:=by
     rw [List.take_succ_eq_append_getElem hlt,List.map_append];simp
    have hns2:(p[i]).2.1.size≤32:=by simpa using hns
    have hal2:((p.take i).map wordE).length=i:=by rw [List.length_map,List.length_take];omega
    obtain ⟨x,hx⟩:∃x,p[i]=x:=⟨_,rfl⟩
    rw [hx] at c0 c1 c2 hor hns2 hss htk h4
    have HWT:Hid (∀W,Below w1.heap.size w1 W→Calls Tryz.prog 132 #[.agg #[.int .i64 x.1,.string x.2.1,.string x.2.2]] W fun e w'=>e=.returned (.string (wordE x))∧Below W.heap.size W w'):=fun W hb=>word_edit x W (HP1.out.on hb) hor hns2 hss h4
    obtain ⟨acc,hacc⟩:∃acc,(p.take i).map wordE=acc:=⟨_,rfl⟩
    rw [hacc] at HO htk hal2
    obtain ⟨wd,hwd⟩:∃wd,wordE x=wd:=⟨_,rfl⟩
    rw [hwd] at HWT htk
    have HTK:=hid htk
    have HAC:=hid hal2
    have hal3:acc.length≤16:=by omega
    have hsz:=HB.out.size
    obtain ⟨xo,xf,xt⟩:=x
    simp only at c0 c1 c2 HWT
    clear hat hn hr hs hx htk hns hss hor hns2 hwd hacc hal2 h4
    go_wp2_with (first
     | (at_builtin;refine wpList_append_own _ rfl _ _ 43 rfl w1.heap.size 9 i0 (.string ⟨#[]⟩) 1 16 Tryz.underlying43 HI.out hz0 hz1 hz2 rfl (by decide) _ _ _ rfl HO3.out _ 1 1 [.string wd] rfl rfl (by intro j u hj;match j,hj with|0,hj=>simp at hj;subst hj;simp [Addr.add]) (by intro u hu;simp at hu;subst hu;rfl) (by unfold maxLen;omega) (by omega) (by have:=hb2.size;simp at this ⊢;omega) ?_;intro v4 w4 hown4 hg4 hnil4;have HO4:=hid hown4;have HG4:=hid hg4;clear hown4 hg4 hnil4)
     | (go_at_call 132;refine (HWT.out _ (HB.out.alloc hsz _)).mono ?_;rintro e w2 ⟨rfl,hb2⟩;have HO3:Hid (OwnT w1.heap.size (w2.alloc (.cells #[.string wd] 9)) _ acc):=hid ((OwnT.on (OwnT.on HO.out ((Below.refl _ wr).alloc (Nat.le_refl _) _)) hb2).on ((Below.refl _ _).alloc (Nat.le_refl _) _))))
    go_roundg (p.length-(i+1))
    case measure=>omega
    refine ⟨i+1,by go_num,by omega,by omega,?_,?_⟩
    ·have hb3:Below w1.heap.size w1 (w2.alloc (.cells #[.string wd] 9)):=(bel_then (HB.out.alloc hsz _) (HB.out.alloc hsz _).size hb2).alloc (Nat.le_trans (HB.out.alloc hsz _).size hb2.size) _
     exact hb3.grown HG4.out hb3.size (fun k hk=>(World.ownsRow.lt HO3.out k hk).1)
    ·rw [HTK.out]
     show OwnT _ _ _ _
     unfold OwnT
     rw [List.length_append,List.map_append]
     exact HO4.out
   ·have hltz:¬ (i:Int)<(p.length:Int):=by omega
    have htk2:p.take i=p:=List.take_of_length_le (by omega)
    rw [htk2] at HO
    have hws:∀y∈p.map wordE,y.size≤418:=fun y hy=>by
     obtain ⟨t,ht,rfl⟩:=List.mem_map.1 hy
     obtain ⟨a,_,c⟩:=HAL.out t ht
     exact wordE_len a c
    have hwl:(p.map wordE).length≤128:=by rw [List.length_map];omega
    obtain ⟨ws,hwe⟩:∃ws,p.map wordE=ws:=⟨_,rfl⟩
    rw [hwe] at HPR
    have HLN:Hid (lineB ws=⟨(Lib.join (ws.map (·.data.toList)) [32]).toArray⟩):=by show _=_;rfl
    rw [hwe] at HO hws hwl
    clear htk2 hwe
    obtain ⟨p4,cap4,hv4⟩:=own_slice HO.out
    subst hv4
    have HJ:=hid (joinE_any ws p4 cap4 wr HO.out hwl hws)
    clear hws hwl
    go_wp2_with (first|(go_at_call 26;refine HJ.out.mono ?_;rintro e w2 ⟨rfl,hb2⟩))
    go_ret2
    exact ⟨by rw [HM.out,HPR.out,HLN.out];rfl,bel_then (bel_then HB1.out HB1.out.size HB.out) (bel_then HB1.out HB1.out.size HB.out).size hb2⟩
 ·have hne:(mayE p != 0)=true:=by rw [bne_iff_ne];exact hm
  have HA:Hid (prE p=⟨#[]⟩):=by show _=_;unfold prE;rw [if_neg hm]
  obtain ⟨r,hr⟩:∃r,mayE p=r:=⟨_,rfl⟩
  rw [hr] at hne HN
  have HR:=hid hr
  clear hm hr hv hf hp
  go_enter Tryz.func91,Tryz.ntmps91
  go_wp2_with fail
  refine HN.out.mono ?_
  rintro e w1 ⟨rfl,hb1⟩
  have HB1:=hid hb1
  clear hb1
  go_wp2_with fail
  go_ret2
  exact ⟨by rw [HR.out,HA.out];rfl,HB1.out⟩
end
section
open Go.RowKit Go.Lib
def pieceS (e:En) (p:Nat):ByteArray :=
 if p=1 then if e.temp=⟨#[]⟩ then ⟨#[]⟩ else ⟨#[64]⟩++e.temp
 else if p=2 then e.ka++⟨#[47]⟩++e.kb
 else if p=3 then e.ka
 else if p=4 then if e.iff=0 then ⟨#[]⟩ else ⟨#[105,102,32]⟩++⟨(decL e.iff.toNat).toArray⟩
 else if p=5 then lineOf e.val
 else if p=6 then ⟨#[63]⟩
 else if p=7 then lineM (ansM e.pred)
 else if p=8 then prE e.eds
 else if p=9 then ⟨(decL e.num.toNat).toArray⟩
 else ⟨(decL e.stamp.toNat).toArray⟩
theorem temp_le {s:ByteArray} (h:tempB s.data.toList=true):s.size≤32:=by
 have e:s.size=s.data.toList.length:=rfl
 rw [e]
 unfold tempB spell at h
 split at h
 ·cases h
 ·rename_i c r he
  simp only [Bool.and_eq_true,decide_eq_true_eq] at h
  rw [he,List.length_cons];exact h.1.1
set_option maxHeartbeats 4000000 in
theorem oppiece_any (x:Ex) (p:Nat) (w:World) (hx:ExIn w x) (hv:OpVars w) (h1:1≤p) (h2:p≤10) (hf:fitPt x.en p=true) :
  Calls Tryz.prog 46 #[aggEx x,.int .i64 p] w fun e w'=>e=.returned (.string (pieceS x.en p))∧Below w.heap.size w w':=by
 have HK:=hid (mayK_new hx)
 have hm:x.temp.size≤maxLen:=hx.temp
 have ha:x.ka.size≤maxLen:=hx.ka
 have hbk:x.kb.size≤maxLen:=hx.kb
 have HF:=hid hf
 have HV:=hid (hv.on HK.out.bel)
 have ht0:0≤x.stamp:=hx.t0
 have ht1:x.stamp≤18446744073709551615:=hx.t1
 have HPM:=hid (pprint_any x.ps x.po _ HV.out.plain HK.out.ex.prd HK.out.ex.pfit)
 have HPE:=hid (pprintE_plain x.es x.eo _ HV.out.plain HK.out.ex.eds HK.out.ex.efit)
 have HPV:Hid (mayB (x.vo.map Fx.fld)=true→Calls Tryz.prog 89 #[x.vs] (w.alloc (.cells (encEx x).toArray 42)) fun e w'=>e=.returned (.tuple #[.string (lineOf (x.vo.map Fx.fld)),.int .i64 0])∧Below (w.alloc (.cells (encEx x).toArray 42)).heap.size (w.alloc (.cells (encEx x).toArray 42)) w') :=
  hid fun h=>print_yes x.vs x.vo _ HV.out.plain HK.out.ex.val HK.out.ex.fit h
 have HKB:=hid HK.out.bel
 unfold aggEx
 simp only [encEx,Ex.vs,Ex.es,Ex.ps] at HK HKB HV HPM HPE HPV ⊢
 clear hx hv hf
 have hp:p=1∨p=2∨p=3∨p=4∨p=5∨p=6∨p=7∨p=8∨p=9∨p=10:=by omega
 rcases hp with rfl|rfl|rfl|rfl|rfl|rfl|rfl|rfl|rfl|rfl
 ·by_cases ht:x.temp=⟨#[]⟩
  ·have hse:x.temp.toList.isEmpty=true:=by rw [ht,toList_data];rfl
   have HE:Hid (pieceS x.en 1=⟨#[]⟩):=hid (if_pos ht)
   clear ht
   go_enter Tryz.func46,Tryz.ntmps46
   go_wp2_with fail
   go_ret
   exact ⟨by rw [HE.out];rfl,HKB.out⟩
  ·have hse:x.temp.toList.isEmpty=false:=by
    rw [toList_data]
    cases hl:x.temp.data.toList with
    | nil=>exact absurd (ba_nil hl) ht
    | cons _ _=>rfl
   have HE:Hid (pieceS x.en 1=⟨#[64]⟩++x.temp):=hid (if_neg ht)
   have hsz:x.temp.size≤32:=by
    have h:=HF.out
    have h2:(decide (x.temp=⟨#[]⟩)||tempB x.temp.data.toList)=true:=h
    rw [decide_eq_false ht,Bool.false_or] at h2
    exact temp_le h2
   clear ht
   go_enter Tryz.func46,Tryz.ntmps46
   go_wp2_with fail
   go_ret
   exact ⟨by rw [HE.out];rfl,HKB.out⟩
 ·have hk:keyB x.ka x.kb=true:=HF.out
  obtain ⟨s1,s2⟩:=keyB_sizes hk
  go_enter Tryz.func46,Tryz.ntmps46
  go_wp2_with (go_at_call 87;refine (nprint_yes x.ka x.kb _ ha hbk s1 s2 hk).mono ?_;rintro e w1 ⟨rfl,hb1⟩;have HB1:=hid hb1;clear hb1)
  go_ret
  exact ⟨rfl,HKB.out.trans (HB1.out.mono HKB.out.size)⟩
 ·go_enter Tryz.func46,Tryz.ntmps46
  go_wp2_with fail
  go_ret
  exact ⟨rfl,HKB.out⟩
 ·have h:=HF.out
  have h3:(decide (0≤x.iff)&&decide (x.iff≤999999999))=true:=h
  simp only [Bool.and_eq_true,decide_eq_true_eq] at h3
  obtain ⟨n,hn⟩:∃n:Nat,x.iff=n:=⟨x.iff.toNat,by omega⟩
  have hn9:n≤999999999:=by omega
  by_cases h0:n=0
  ·have HE:Hid (pieceS x.en 4=⟨#[]⟩):=hid (by
    show (if x.iff=0 then (⟨#[]⟩:ByteArray) else _)=_
    rw [if_pos (by omega)])
   have hq:(x.iff != 0)=false:=by rw [hn,h0];rfl
   clear hn h0 h3 h
   go_enter Tryz.func46,Tryz.ntmps46
   go_wp2_with fail
   go_ret
   exact ⟨by rw [HE.out];rfl,HKB.out⟩
  ·have HE:Hid (pieceS x.en 4=⟨#[105,102,32]⟩++⟨(decL n).toArray⟩):=hid (by
    show (if x.iff=0 then (⟨#[]⟩:ByteArray) else ⟨#[105,102,32]⟩++⟨(decL x.iff.toNat).toArray⟩)=_
    rw [if_neg (by omega),hn];rfl)
   have hq:(x.iff != 0)=true:=by rw [bne_iff_ne];omega
   have HI:Hid (∀W,OpVars W→Calls Tryz.prog 88 #[.int .i64 x.iff] W fun e w'=>e=.returned (.string ⟨(decL n).toArray⟩)∧Below W.heap.size W w'):=hid fun W h=>by rw [hn];exact itoa_any n hn9 W h
   have hdl:(decL n).length≤9:=decL_len n 8 (by omega)
   clear hn h3 h
   go_enter Tryz.func46,Tryz.ntmps46
   go_wp2_with (go_at_call 88;refine (HI.out _ HV.out).mono ?_;rintro e w1 ⟨rfl,hb1⟩;have HB1:=hid hb1;clear hb1)
   go_ret
   exact ⟨by rw [HE.out];rfl,HKB.out.trans (HB1.out.mono HKB.out.size)⟩
 ·have hk:mayB (x.vo.map Fx.fld)=true:=HF.out
  go_enter Tryz.func46,Tryz.ntmps46
  go_wp2_with (go_at_call 89;refine (HPV.out hk).mono ?_;rintro e w1 ⟨rfl,hb1⟩;have HB1:=hid hb1;clear hb1)
  go_ret
  exact ⟨rfl,HKB.out.trans (HB1.out.mono HKB.out.size)⟩
 ·go_enter Tryz.func46,Tryz.ntmps46
  go_wp2_with fail
  go_ret
  exact ⟨rfl,HKB.out⟩
 ·go_enter Tryz.func46,Tryz.ntmps46
  go_wp2_with (go_at_call 90;refine HPM.out.mono ?_;rintro e w1 ⟨rfl,hb1⟩;have HB1:=hid hb1;clear hb1)
  go_ret
  exact ⟨rfl,HKB.out.trans (HB1.out.mono HKB.out.size)⟩
 ·go_enter Tryz.func46,Tryz.ntmps46
  go_wp2_with (go_at_call 91;refine HPE.out.mono ?_;rintro e w1 ⟨rfl,hb1⟩;have HB1:=hid hb1;clear hb1)
  go_ret
  exact ⟨rfl,HKB.out.trans (HB1.out.mono HKB.out.size)⟩
 ·have h:=HF.out
  have h3:(decide (0≤x.num)&&decide (x.num≤999999999))=true:=h
  simp only [Bool.and_eq_true,decide_eq_true_eq] at h3
  obtain ⟨n,hn⟩:∃n:Nat,x.num=n:=⟨x.num.toNat,by omega⟩
  have HE:Hid (pieceS x.en 9=⟨(decL n).toArray⟩):=hid (by
   show (⟨(decL x.num.toNat).toArray⟩:ByteArray)=_
   rw [hn];rfl)
  have HI:Hid (∀W,OpVars W→Calls Tryz.prog 88 #[.int .i64 x.num] W fun e w'=>e=.returned (.string ⟨(decL n).toArray⟩)∧Below W.heap.size W w'):=hid fun W h=>by rw [hn];exact itoa_any n (by omega) W h
  clear hn h3 h
  go_enter Tryz.func46,Tryz.ntmps46
  go_wp2_with (go_at_call 88;refine (HI.out _ HV.out).mono ?_;rintro e w1 ⟨rfl,hb1⟩;have HB1:=hid hb1;clear hb1)
  go_ret
  exact ⟨by rw [HE.out];rfl,HKB.out.trans (HB1.out.mono HKB.out.size)⟩
 ·obtain ⟨n,hn⟩:∃n:Nat,x.stamp=n:=⟨x.stamp.toNat,by omega⟩
  have HE:Hid (pieceS x.en 10=⟨(decL n).toArray⟩):=hid (by
   show (⟨(decL x.stamp.toNat).toArray⟩:ByteArray)=_
   rw [hn];rfl)
  have HI:Hid (∀W,OpVars W→Calls Tryz.prog 92 #[.int .u64 x.stamp,.int .i64 10] W fun e w'=>e=.returned (.string ⟨(decL n).toArray⟩)∧Below W.heap.size W w'):=hid fun W h=>by rw [hn];exact fmtu_any n (by omega) W h
  clear hn
  go_enter Tryz.func46,Tryz.ntmps46
  go_wp2_with (go_at_call 92;refine (HI.out _ HV.out).mono ?_;rintro e w1 ⟨rfl,hb1⟩;have HB1:=hid hb1;clear hb1)
  go_ret
  exact ⟨by rw [HE.out];rfl,HKB.out.trans (HB1.out.mono HKB.out.size)⟩
end
section
open Go.RowKit Go.Lib
theorem prE_le (l:List Ed):(prE l).size≤83600:=by
 unfold prE
 split
 ·rename_i h
  obtain ⟨h1,h2,_,h4⟩:=mayE_zero h
  refine Nat.le_trans (lineE_size (by simpa using h1) fun y hy=>?_) (by omega)
  obtain ⟨x,hx,rfl⟩:=List.mem_map.1 hy
  exact wordE_len (h2 x hx) (h4 x hx)
 ·exact Nat.zero_le _
theorem lineM_le (p:List Tm):(lineM (ansM p)).size≤83600:=by
 refine lineB_size (by have:=ansM_len p;simp;omega) fun y hy=>?_
 obtain ⟨x,hx,rfl⟩:=List.mem_map.1 hy
 exact wordM_len (ansM_all x hx).1 (ansM_all x hx).2.2
theorem piece_le (e:En) (p:Nat) (h1:1≤p) (h2:p≤10) (hf:fitPt e p=true) (hs0:0≤e.stamp) (hs1:e.stamp≤18446744073709551615):(pieceS e p).size≤83600:=by
 have hp:p=1∨p=2∨p=3∨p=4∨p=5∨p=6∨p=7∨p=8∨p=9∨p=10:=by omega
 rcases hp with rfl|rfl|rfl|rfl|rfl|rfl|rfl|rfl|rfl|rfl
 ·show (if e.temp=⟨#[]⟩ then (⟨#[]⟩:ByteArray) else ⟨#[64]⟩++e.temp).size≤_
  have hf':(decide (e.temp=⟨#[]⟩)||tempB e.temp.data.toList)=true:=hf
  split
  ·decide
  ·rename_i h
   rw [decide_eq_false h,Bool.false_or] at hf'
   have:=temp_le hf'
   simp only [ByteArray.size_append]
   have e1:(⟨#[64]⟩:ByteArray).size=1:=rfl
   omega
 ·have hk:keyB e.ka e.kb=true:=hf
  obtain ⟨s1,s2⟩:=keyB_sizes hk
  show (e.ka++⟨#[47]⟩++e.kb).size≤_
  simp only [ByteArray.size_append]
  have e1:(⟨#[47]⟩:ByteArray).size=1:=rfl
  omega
 ·have hf':(typeB e.ka.data.toList&&decide (e.kb=⟨#[]⟩))=true:=hf
  rw [Bool.and_eq_true] at hf'
  have:=typeB_len hf'.1
  show e.ka.size≤_
  have e1:e.ka.data.toList.length=e.ka.size:=rfl
  omega
 ·have hf':(decide (0≤e.iff)&&decide (e.iff≤999999999))=true:=hf
  simp only [Bool.and_eq_true,decide_eq_true_eq] at hf'
  show (if e.iff=0 then (⟨#[]⟩:ByteArray) else ⟨#[105,102,32]⟩++⟨(decL e.iff.toNat).toArray⟩).size≤_
  split
  ·decide
  ·have:=decL_len e.iff.toNat 8 (by omega)
   simp only [ByteArray.size_append]
   have e1:(⟨#[105,102,32]⟩:ByteArray).size=3:=rfl
   have e2:(⟨(decL e.iff.toNat).toArray⟩:ByteArray).size=(decL e.iff.toNat).length:=rfl
   omega
 ·have:=line_size (fs:=e.val) hf
  show (lineOf e.val).size≤_
  omega
 ·show (⟨#[63]⟩:ByteArray).size≤_;decide
 ·exact lineM_le _
 ·exact prE_le _
 ·have hf':(decide (0≤e.num)&&decide (e.num≤999999999))=true:=hf
  simp only [Bool.and_eq_true,decide_eq_true_eq] at hf'
  have:=decL_len e.num.toNat 8 (by omega)
  show (decL e.num.toNat).length≤_
  omega
 ·have:=decL_len e.stamp.toNat 19 (by omega)
  show (decL e.stamp.toNat).length≤_
  omega
def pcs (e:En) (ps:List Nat):List ByteArray:=(ps.map (pieceS e)).filter fun s=>decide (s≠⟨#[]⟩)
theorem pcs_snoc (e:En) (ps:List Nat) (p:Nat):pcs e (ps++[p])=pcs e ps++(if pieceS e p=⟨#[]⟩ then [] else [pieceS e p]):=by
 unfold pcs
 rw [List.map_append,List.filter_append]
 congr 1
 by_cases h:pieceS e p=⟨#[]⟩<;>simp [h]
theorem pcs_len (e:En) (ps:List Nat):(pcs e ps).length≤ps.length:=by
 unfold pcs
 exact Nat.le_trans (List.length_filter_le _ _) (by simp)
def lineO (e:En):ByteArray:=textW (⟨(nameN e.kind.toNat).toArray⟩::pcs e (shapeN e.kind.toNat))
theorem words_own {n0:Nat} {w:World} {p:Option Addr} {cap:Nat} {ws:List ByteArray} (h:OwnT n0 w (.slice p ws.length cap) ws) (h0:ws≠[]):WordsAt w (.slice p ws.length cap) ws:=by
 rcases h.2 with ⟨_,h1⟩|⟨g,c,cur,hv,_,hg,hcap,_,hsz,htk⟩
 ·exact absurd (List.length_eq_zero_iff.1 h1) h0
 ·injection hv with hp hl hc
  subst hp
  subst hc
  refine ⟨g,0,cap,rfl,hcap,(Array.getElem?_eq_some_iff.1 hg).1,fun j x hj=>?_⟩
  have hjl:=(List.getElem?_eq_some_iff.1 hj).1
  rw [Nat.zero_add,cell_of_row w g j cur _ _ hg,←Array.getElem?_toList]
  have:(ws.map Value.string)[j]? = cur.toList[j]?:=by rw [←htk,List.getElem?_take,if_pos (by omega)]
  rw [←this,List.getElem?_map,hj];rfl
theorem name_le (k:Nat):(nameN k).length≤7:=by
 unfold nameN
 split<;>simp
theorem text_small (ws:List ByteArray) (hl:ws.length≤6) (hs:∀x∈ws,x.size≤83600):(textW ws).size≤600000:=by
 have h:=join_size 83600 (ws.map (·.data.toList)) (fun l hl=>by
  obtain ⟨x,hx,rfl⟩:=List.mem_map.1 hl
  have:=hs x hx
  simpa using this)
 rw [List.length_map] at h
 have h2:ws.length * 83601≤6 * 83601:=Nat.mul_le_mul_right _ hl
 have e:(textW ws).size=(Lib.join (ws.map (·.data.toList)) [32]).length:=rfl
 omega
theorem line_le (e:En) (hf:(shapeN e.kind.toNat).all (fitPt e)=true) (hs0:0≤e.stamp) (hs1:e.stamp≤18446744073709551615):(lineO e).size≤600000:=by
 refine text_small _ ?_ fun x hx=>?_
 ·have h1:=pcs_len e (shapeN e.kind.toNat)
  have h2:=shape_le e.kind.toNat
  rw [List.length_cons];omega
 ·rcases List.mem_cons.1 hx with rfl|hx
  ·have:=name_le e.kind.toNat
   show (nameN e.kind.toNat).length≤_
   omega
  ·unfold pcs at hx
   obtain ⟨p,hp,rfl⟩:=List.mem_map.1 (List.mem_filter.1 hx).1
   obtain ⟨i,hi⟩:=List.getElem?_of_mem hp
   obtain ⟨h1,h2⟩:=shape_part _ i p hi
   exact piece_le e p h1 h2 (List.all_eq_true.1 hf p hp) hs0 hs1
set_option maxHeartbeats 8000000 in
set_option maxRecDepth 100000 in
theorem opline_any (x:Ex) (w:World) (hx:ExIn w x) (hv:OpVars w) (hr:1≤x.kind∧x.kind≤12) (hf:(shapeN x.kind.toNat).all (fitPt x.en)=true) :
  Calls Tryz.prog 25 #[aggEx x] w fun e w'=>e=.returned (.string (lineO x.en))∧Below w.heap.size w w':=by
 obtain ⟨i0,hi0,hz0,hz1,hz2⟩:=info_parts Tryz.infoStr
 have HI:=hid hi0
 have HX:=hid hx
 have HV:=hid hv
 have HLE:=hid (line_le x.en hf hx.t0 hx.t1)
 have hal:Below w.heap.size w (w.alloc (.cells (encEx x).toArray 42)):=(Below.refl _ _).alloc (Nat.le_refl _) _
 have hb0:(w.alloc (.cells (encEx x).toArray 42)).heap[w.heap.size]? = some (.cells (encEx x).toArray 42 (0,0)):=heap_alloc_new w _
 have HAL:=hid hal
 have HB0:=hid hb0
 have HPC:Hid (∀W p,Below w.heap.size w W→1≤p→p≤10→fitPt x.en p=true→Calls Tryz.prog 46 #[aggEx x,.int .i64 (p:Nat)] W fun e w'=>e=.returned (.string (pieceS x.en p))∧Below W.heap.size W w'):=hid fun W p h h1 h2 h3=>oppiece_any x p W (HX.out.on h) (HV.out.on h) h1 h2 h3
 unfold aggEx at HPC ⊢
 simp only [encEx,Ex.vs,Ex.es,Ex.ps] at HAL HB0 HPC ⊢
 clear hal hb0 hx hv hi0
 obtain ⟨kw,hkw⟩:∃kw:Nat,x.kind=kw:=⟨x.kind.toNat,by omega⟩
 have hk1:1≤kw:=by omega
 have hk12:kw≤12:=by omega
 have hkn:x.kind.toNat=kw:=by omega
 rw [hkn] at hf
 have HF:=hid hf
 have HLO:Hid (lineO x.en=textW (⟨(nameN kw).toArray⟩::pcs x.en (shapeN kw))):=hid (by
  show textW (⟨(nameN x.kind.toNat).toArray⟩::pcs x.en (shapeN x.kind.toNat))=_
  rw [hkn])
 have HSH:Hid (∀W,Calls Tryz.prog 36 #[.int .i64 x.kind] W fun e w'=>(∃a n,e=.returned (.tuple #[.string ⟨(nameN kw).toArray⟩,.slice a n n])∧n=(shapeN kw).length ∧
   ∀(j p:Nat),(shapeN kw)[j]? = some p→∃P,a=some ⟨P,0,none⟩∧W.heap.size≤P∧w'.cell? ⟨P,j,none⟩=some (.int .i64 p))∧Below W.heap.size W w'):=hid fun W=>by rw [hkw];exact shape_any kw W hk12
 clear hkw hr hf hkn
 go_enter Tryz.func25,Tryz.ntmps25
 go_wp2_with fail
 refine (HSH.out _).mono ?_
 rintro e w3 ⟨⟨a,n,rfl,hn,hpt⟩,hb3⟩
 have HN:=hid hn
 have HB3:=hid (HAL.out.trans (hb3.mono HAL.out.size))
 have HBX:Hid (w3.heap[w.heap.size]? = some (.cells #[.int .i64 x.kind,.string x.temp,.string x.ka,.string x.kb,.int .i64 x.iff,.slice x.vp x.vo.length x.vc,.slice x.ep x.eo.length x.ec,.slice x.pp x.po.length x.pc,.int .u64 x.stamp,.int .i64 x.num] 42 (0,0))):=hid ((hb3.block _ (by simp)).trans HB0.out)
 have HPT:Hid (∀(j p:Nat),(shapeN kw)[j]? = some p→∃P,a=some ⟨P,0,none⟩∧w3.cell? ⟨P,j,none⟩=some (.int .i64 p)):=hid fun j p hp=>by
  obtain ⟨P,h1,h2,h3⟩:=hpt j p hp
  exact ⟨P,h1,h3⟩
 clear hn hpt hb3
 have HO0:Hid (OwnT w3.heap.size (w3.alloc (.cells #[.string ⟨(nameN kw).toArray⟩] 9)) (.slice (some ⟨w3.heap.size,0,none⟩) 1 1) [⟨(nameN kw).toArray⟩]):=hid (World.ownsRow_lit w3 #[.string ⟨(nameN kw).toArray⟩] 1 (Nat.le_refl _) (by decide) rfl)
 have HB4:Hid (Below w3.heap.size w3 (w3.alloc (.cells #[.string ⟨(nameN kw).toArray⟩] 9))):=hid ((Below.refl _ _).alloc (Nat.le_refl _) _)
 go_wp2_with fail
 go_loopg [5,19] n (fun g vs vi wr=>∃(i:Nat) (acc:List ByteArray),vi=.int .i64 i∧i≤n∧n-i≤g∧Hid (Below w3.heap.size w3 wr)∧Hid (OwnT w3.heap.size wr vs acc)∧Hid (acc=⟨(nameN kw).toArray⟩::pcs x.en ((shapeN kw).take i))∧acc.length≤i+1)
 case atStart=>exact ⟨0,_,rfl,by omega,by omega,HB4,HO0,hid rfl,by simp⟩
 case round =>
  obtain ⟨i,acc,rfl,hi,hig,HB,HO,HAC,hal⟩:=hrel
  have hn5:n≤5:=by rw [HN.out];exact shape_le kw
  by_cases hlt:i<n
  ·have HLT:=hid hlt
   have hltz:(i:Int)<(n:Int):=by omega
   have hiz:(0:Int)≤(i:Int):=by omega
   obtain ⟨p,hp⟩:∃p,(shapeN kw)[i]? = some p:=⟨_,List.getElem?_eq_getElem (by rw [←HN.out];exact hlt)⟩
   obtain ⟨P,hPa,hPc0⟩:=HPT.out i p hp
   subst hPa
   have hPc:wr.cell? ⟨P,i,none⟩=some (.int .i64 p):=(HB.out.cell (p:=⟨P,i,none⟩) (cell_lt hPc0)).trans hPc0
   obtain ⟨hp1,hp10⟩:=shape_part kw i p hp
   have HTK:Hid ((shapeN kw).take (i+1)=(shapeN kw).take i++[p]):=hid (by
    obtain ⟨h1,h2⟩:=List.getElem?_eq_some_iff.1 hp
    rw [←h2];exact List.take_succ_eq_append_getElem h1)
   have HFP:=hid (List.all_eq_true.1 HF.out p (List.mem_of_getElem? hp))
   clear hp hPc0
   have hbx:wr.heap[w.heap.size]? = some (.cells #[.int .i64 x.kind,.string x.temp,.string x.ka,.string x.kb,.int .i64 x.iff,.slice x.vp x.vo.length x.vc,.slice x.ep x.eo.length x.ec,.slice x.pp x.po.length x.pc,.int .u64 x.stamp,.int .i64 x.num] 42 (0,0)):=(HB.out.block _ (Array.getElem?_eq_some_iff.1 HBX.out).1).trans HBX.out
   have c0:wr.cell? ⟨w.heap.size,0,none⟩=some (.int .i64 x.kind):=cz hbx
   have c1:wr.cell? ⟨w.heap.size,1,none⟩=some (.string x.temp):=cz hbx
   have c2:wr.cell? ⟨w.heap.size,2,none⟩=some (.string x.ka):=cz hbx
   have c3:wr.cell? ⟨w.heap.size,3,none⟩=some (.string x.kb):=cz hbx
   have c4:wr.cell? ⟨w.heap.size,4,none⟩=some (.int .i64 x.iff):=cz hbx
   have c5:wr.cell? ⟨w.heap.size,5,none⟩=some (.slice x.vp x.vo.length x.vc):=cz hbx
   have c6:wr.cell? ⟨w.heap.size,6,none⟩=some (.slice x.ep x.eo.length x.ec):=cz hbx
   have c7:wr.cell? ⟨w.heap.size,7,none⟩=some (.slice x.pp x.po.length x.pc):=cz hbx
   have c8:wr.cell? ⟨w.heap.size,8,none⟩=some (.int .u64 x.stamp):=cz hbx
   have c9:wr.cell? ⟨w.heap.size,9,none⟩=some (.int .i64 x.num):=cz hbx
   have HBW:=hid (HB3.out.trans (HB.out.mono HB3.out.size))
   clear hbx
   go_wp2_with fail
   refine (HPC.out wr p HBW.out hp1 hp10 HFP.out).mono ?_
   rintro e w5 ⟨rfl,hb5⟩
   have HB5:=hid (HB.out.trans (hb5.mono HB.out.size))
   have HO5:=hid (OwnT.on HO.out hb5)
   have hsz5:=HB5.out.size
   clear hb5 c0 c1 c2 c3 c4 c5 c6 c7 c8 c9 hPc
   have HSN:=hid (pcs_snoc x.en ((shapeN kw).take i) p)
   obtain ⟨wd,hwd⟩:∃wd,pieceS x.en p=wd:=⟨_,rfl⟩
   rw [hwd] at HSN ⊢
   clear hwd
   by_cases hw:wd=⟨#[]⟩
   ·have HSN2:Hid (acc=⟨(nameN kw).toArray⟩::pcs x.en ((shapeN kw).take (i+1))):=hid (by
     rw [HTK.out,HSN.out,if_pos hw,List.append_nil];exact HAC.out)
    have hse:wd.toList.isEmpty=true:=by rw [hw,toList_data];rfl
    clear hw
    go_wp2_with fail
    go_roundg (n-(i+1))
    case measure=>omega
    exact ⟨i+1,acc,by go_num,HLT.out,Nat.le_refl _,HB5,HO5,HSN2,by omega⟩
   ·have HSN2:Hid (acc++[wd]=⟨(nameN kw).toArray⟩::pcs x.en ((shapeN kw).take (i+1))):=hid (by
     rw [HTK.out,HSN.out,if_neg hw,←List.cons_append,←HAC.out])
    have hse:wd.toList.isEmpty=false:=by
     rw [toList_data]
     cases hl:wd.data.toList with
     | nil=>exact absurd (ba_nil hl) hw
     | cons _ _=>rfl
    have HO6:=hid (OwnT.on HO5.out ((Below.refl _ w5).alloc (Nat.le_refl _) (.cells #[.string wd] 9)))
    clear hw
    go_wp2_with (at_builtin;refine wpList_append_own _ rfl _ _ 43 rfl w3.heap.size 9 i0 (.string ⟨#[]⟩) 1 16 Tryz.underlying43 HI.out hz0 hz1 hz2 rfl (by decide) _ _ _ rfl HO6.out _ 1 1 [.string wd] rfl rfl (by intro j u hj;match j,hj with|0,hj=>simp at hj;subst hj;simp [Addr.add]) (by intro u hu;simp at hu;subst hu;rfl) (by unfold maxLen;omega) (by omega) (by simp;omega) ?_;intro v4 w4 hown4 hg4 hnil4;have HO7:=hid hown4;have HG7:=hid hg4;clear hown4 hg4 hnil4)
    go_roundg (n-(i+1))
    case measure=>omega
    refine ⟨i+1,acc++[wd],by go_num,HLT.out,Nat.le_refl _,hid ?_,hid (own_snoc HO7.out),HSN2,by rw [List.length_append];simp only [List.length_cons,List.length_nil];omega⟩
    have hb6:Below w3.heap.size w3 (w5.alloc (.cells #[.string wd] 9)):=HB5.out.alloc hsz5 _
    exact hb6.grown HG7.out hb6.size (fun k hk=>(World.ownsRow.lt HO6.out k hk).1)
  ·have hltz:¬ (i:Int)<(n:Int):=by omega
   have HAC2:Hid (acc=⟨(nameN kw).toArray⟩::pcs x.en (shapeN kw)):=hid (by rw [HAC.out,List.take_of_length_le (by rw [←HN.out];omega)])
   obtain ⟨p4,cap4,hv4⟩:=own_slice HO.out
   subst hv4
   have HTX:Hid (textW acc=lineO x.en):=hid (by rw [HLO.out,HAC2.out])
   have HJ:=hid (opjoin_any wr _ acc (words_own HO.out (by rw [HAC2.out];simp)) (by rw [HTX.out];have:=HLE.out;omega) (by omega))
   go_wp2_with (go_at_call 26;refine HJ.out.mono ?_;rintro e w2 ⟨rfl,hb2⟩;have HB9:=hid ((HB3.out.trans (HB.out.mono HB3.out.size)).trans (hb2.mono (HB3.out.trans (HB.out.mono HB3.out.size)).size));clear hb2)
   go_ret
   exact ⟨by rw [←HTX.out];rfl,HB9.out⟩
end
section
open Go.RowKit Go.Lib
def join3 (ls:List ByteArray):ByteArray:=⟨(Lib.join (ls.map (·.data.toList)) [32,59,32]).toArray⟩
def printO (once:Bool) (es:List En):ByteArray:=(if once=true then ⟨#[111,110,99,101,32]⟩ else ⟨#[]⟩)++join3 (es.map lineO)
theorem join3_size (c:Nat):∀ws:List (List UInt8),(∀w∈ws,w.length≤c)→(Lib.join ws [32,59,32]).length≤ws.length * (c+3)
 | [],_=>by simp [Lib.join,List.intercalate]
 | [w],h=>by
  have:=h w (by simp)
  rw [Lib.join_one]
  simp only [List.length_cons,List.length_nil];omega
 | w::v::ws,h=>by
  have ih:=join3_size c (v::ws) fun u hu=>h u (by simp [hu])
  have hw:=h w (by simp)
  have e:Lib.join (w::v::ws) [32,59,32]=w++([32,59,32]++Lib.join (v::ws) [32,59,32]):=by simp [Lib.join,List.intercalate]
  rw [e,List.length_append,List.length_append]
  simp only [List.length_cons,List.length_nil] at ih ⊢
  have:(ws.length+1+1) * (c+3)=(ws.length+1) * (c+3)+(c+3):=by rw [Nat.add_mul (ws.length+1) 1];omega
  omega
theorem mayO_parts {x:Ex} (h:mayO x=true):(1≤x.kind∧x.kind≤12)∧(shapeN x.kind.toNat).all (fitPt x.en)=true∧(leftE x (shapeN x.kind.toNat)).en=(zeroEx 0).en:=by
 unfold mayO at h
 simp only [Bool.and_eq_true,decide_eq_true_eq] at h
 exact ⟨h.1.1,h.1.2,h.2⟩
set_option maxHeartbeats 8000000 in
set_option maxRecDepth 100000 in
theorem opPrint_any (once:Bool) (v:Value) (d:List Ex) (w:World) (hd:RqIn w v d) (hv:OpVars w) :
  Calls Tryz.prog 10 #[.agg #[.bool once,v]] w fun e w' =>
   e=.returned (.tuple #[.string (if mayRO d=true then printO once (d.map Ex.en) else ⟨#[]⟩),.int .i64 (if mayRO d=true then 0 else 4)])∧Below w.heap.size w w':=by
 obtain ⟨i0,hi0,hz0,hz1,hz2⟩:=info_parts Tryz.infoStr
 have HI:=hid hi0
 have HD:=hid hd
 have HV:=hid hv
 obtain ⟨a,cap,rfl,hrow⟩:=hd.row
 have hlen:=hd.len
 have HR:=hid hrow
 have HAL:Hid (Below w.heap.size w (w.alloc (.cells #[.bool once,.slice a d.length cap] 25))):=hid ((Below.refl _ _).alloc (Nat.le_refl _) _)
 have HBX:Hid ((w.alloc (.cells #[.bool once,.slice a d.length cap] 25)).heap[w.heap.size]? = some (.cells #[.bool once,.slice a d.length cap] 25 (0,0))):=hid (heap_alloc_new w _)
 have HMY:=hid (opMay_any once (.slice a d.length cap) d _ (hd.on HAL.out))
 clear hd hrow hv hi0
 cases hm:mayRO d with
 | false =>
  rw [hm] at HMY
  go_enter Tryz.func10,Tryz.ntmps10
  go_wp2_with (go_at_call 12;refine HMY.out.mono ?_;rintro e w1 ⟨rfl,hb1⟩;have HB1:=hid (HAL.out.trans (hb1.mono HAL.out.size));clear hb1)
  go_ret2
  exact ⟨rfl,HB1.out⟩
 | true =>
  rw [hm] at HMY
  have hm2:=hm
  unfold mayRO at hm2
  simp only [Bool.and_eq_true,decide_eq_true_eq] at hm2
  obtain ⟨⟨hl0,hl16⟩,hall⟩:=hm2
  have HALL:=hid hall
  obtain ⟨b,off,rfl,hat⟩:∃b off,a=some ⟨b,off,none⟩∧KEx.At w b off d:=by
   rcases HR.out with h|⟨b,off,h1,h2⟩
   ·rw [h] at hl0;simp at hl0
   ·exact ⟨b,off,h1,h2⟩
  have HAT:=hid hat
  clear hat HR hall hm
  go_enter Tryz.func10,Tryz.ntmps10
  go_wp2_with fail
  refine HMY.out.mono ?_
  rintro e w1 ⟨rfl,hb1⟩
  have HB1:=hid (HAL.out.trans (hb1.mono HAL.out.size))
  have hbx:w1.heap[w.heap.size]? = some (.cells #[.bool once,.slice (some ⟨b,off,none⟩) d.length cap] 25 (0,0)):=(hb1.block _ (by simp)).trans HBX.out
  obtain ⟨e0,e1,_,_⟩:=two_facts hbx
  have HBX1:=hid hbx
  clear hbx hb1
  go_wp2_with fail
  go_loopg [4,14] d.length (fun g vs vi wr=>∃(i:Nat),vi=.int .i64 i∧i≤d.length∧d.length-i≤g∧Hid (Below w1.heap.size w1 wr)∧Hid (OwnT w1.heap.size wr vs ((d.take i).map fun x=>lineO x.en)))
  case atStart=>exact ⟨0,rfl,by omega,by omega,hid (Below.refl _ _),hid (World.ownsRow_nil _ _ _ _)⟩
  case round =>
   obtain ⟨i,rfl,hi,hig,HB,HO⟩:=hrel
   have HBW:=hid (HB1.out.trans (HB.out.mono HB1.out.size))
   by_cases hlt:i<d.length
   ·have HLT:=hid hlt
    have hltz:(i:Int)<(d.length:Int):=by omega
    have hiz:(0:Int)≤(i:Int):=by omega
    obtain ⟨y,hy⟩:∃y,d[i]? = some y:=⟨_,List.getElem?_eq_getElem hlt⟩
    obtain ⟨c0,c1,c2,c3,c4,c5,c6,c7,c8,c9⟩:=row_cellsQ (Kind.at_kept HAT.out HBW.out) i y hy
    simp only [Nat.add_zero] at c0
    have HMEM:=hid (List.mem_of_getElem? hy)
    have HTK:Hid ((d.take (i+1)).map (fun x=>lineO x.en)=(d.take i).map (fun x=>lineO x.en)++[lineO y.en]):=hid (by
     obtain ⟨h1,h2⟩:=List.getElem?_eq_some_iff.1 hy
     rw [←h2,List.take_succ_eq_append_getElem h1,List.map_append];rfl)
    have hmy:=mayO_parts (List.all_eq_true.1 HALL.out y HMEM.out)
    have HLN:Hid (∀W,Below w.heap.size w W→Calls Tryz.prog 25 #[.agg #[.int .i64 y.kind,.string y.temp,.string y.ka,.string y.kb,.int .i64 y.iff,.slice y.vp y.vo.length y.vc,.slice y.ep y.eo.length y.ec,.slice y.pp y.po.length y.pc,.int .u64 y.stamp,.int .i64 y.num]] W fun e w'=>e=.returned (.string (lineO y.en))∧Below W.heap.size W w'):=hid fun W h=>opline_any y W ((HD.out.each y HMEM.out).on h) (HV.out.on h) hmy.1 hmy.2.1
    have HB2:Hid (Below w.heap.size w (wr.alloc (.cells #[.int .i64 y.kind,.string y.temp,.string y.ka,.string y.kb,.int .i64 y.iff,.slice y.vp y.vo.length y.vc,.slice y.ep y.eo.length y.ec,.slice y.pp y.po.length y.pc,.int .u64 y.stamp,.int .i64 y.num] 42))):=hid (HBW.out.alloc HBW.out.size _)
    have HB3:Hid (Below w1.heap.size w1 (wr.alloc (.cells #[.int .i64 y.kind,.string y.temp,.string y.ka,.string y.kb,.int .i64 y.iff,.slice y.vp y.vo.length y.vc,.slice y.ep y.eo.length y.ec,.slice y.pp y.po.length y.pc,.int .u64 y.stamp,.int .i64 y.num] 42))):=hid (HB.out.alloc HB.out.size _)
    have hacl:((d.take i).map fun x=>lineO x.en).length=i:=by rw [List.length_map,List.length_take];omega
    obtain ⟨acc,hacc⟩:∃acc,(d.take i).map (fun x=>lineO x.en)=acc:=⟨_,rfl⟩
    rw [hacc] at HO HTK hacl
    have HO3:=hid (OwnT.on HO.out ((Below.refl _ wr).alloc (Nat.le_refl _) (.cells #[.int .i64 y.kind,.string y.temp,.string y.ka,.string y.kb,.int .i64 y.iff,.slice y.vp y.vo.length y.vc,.slice y.ep y.eo.length y.ec,.slice y.pp y.po.length y.pc,.int .u64 y.stamp,.int .i64 y.num] 42)))
    obtain ⟨wd,hwd⟩:∃wd,lineO y.en=wd:=⟨_,rfl⟩
    rw [hwd] at HLN HTK
    clear hy hmy hacc hwd
    go_wp2_with fail
    refine (HLN.out _ HB2.out).mono ?_
    rintro e w4 ⟨rfl,hb4⟩
    have HB4:=hid (HB3.out.trans (hb4.mono HB3.out.size))
    have hsz4:=HB4.out.size
    have HO4:=hid (OwnT.on (OwnT.on HO3.out hb4) ((Below.refl _ w4).alloc (Nat.le_refl _) (.cells #[.string wd] 9)))
    clear hb4 c0 c1 c2 c3 c4 c5 c6 c7 c8 c9
    go_wp2_with (at_builtin;refine wpList_append_own _ rfl _ _ 43 rfl w1.heap.size 9 i0 (.string ⟨#[]⟩) 1 16 Tryz.underlying43 HI.out hz0 hz1 hz2 rfl (by decide) _ _ _ rfl HO4.out _ 1 1 [.string wd] rfl rfl (by intro j u hj;match j,hj with|0,hj=>simp at hj;subst hj;simp [Addr.add]) (by intro u hu;simp at hu;subst hu;rfl) (by unfold maxLen;omega) (by omega) (by simp;omega) ?_;intro v4 w5 hown4 hg4 hnil4;have HO7:=hid hown4;have HG7:=hid hg4;clear hown4 hg4 hnil4)
    go_roundg (d.length-(i+1))
    case measure=>omega
    refine ⟨i+1,by go_num,HLT.out,Nat.le_refl _,hid ?_,hid (by rw [HTK.out];exact own_snoc HO7.out)⟩
    have hb6:Below w1.heap.size w1 (w4.alloc (.cells #[.string wd] 9)):=HB4.out.alloc hsz4 _
    exact hb6.grown HG7.out hb6.size (fun k hk=>(World.ownsRow.lt HO4.out k hk).1)
   ·have hltz:¬ (i:Int)<(d.length:Int):=by omega
    have htk:d.take i=d:=List.take_of_length_le (by omega)
    rw [htk] at HO
    obtain ⟨ws,hws⟩:∃ws,d.map (fun x=>lineO x.en)=ws:=⟨_,rfl⟩
    have hwl:ws.length=d.length:=by rw [←hws,List.length_map]
    have hwsz:∀l∈ws.map (·.data.toList),l.length≤600000:=fun l hl=>by
     obtain ⟨s,hs,rfl⟩:=List.mem_map.1 hl
     rw [←hws] at hs
     obtain ⟨y,hy,rfl⟩:=List.mem_map.1 hs
     have hp:=mayO_parts (List.all_eq_true.1 HALL.out y hy)
     have hex:=HD.out.each y hy
     exact line_le y.en hp.2.1 hex.t0 hex.t1
    have hjl:=join3_size 600000 (ws.map (·.data.toList)) hwsz
    rw [List.length_map] at hjl
    have hjl2:ws.length * 600003≤16 * 600003:=Nat.mul_le_mul_right _ (by omega)
    have HJ3:Hid ((join3 ws).size≤9600048):=hid (by
     have e:(join3 ws).size=(Lib.join (ws.map (·.data.toList)) [32,59,32]).length:=rfl
     omega)
    rw [hws] at HO
    have HPR:Hid (printO once (d.map Ex.en)=(if once=true then ⟨#[111,110,99,101,32]⟩ else ⟨#[]⟩)++join3 ws):=hid (by
     unfold printO
     rw [←hws,List.map_map];rfl)
    obtain ⟨p4,cap4,hv4⟩:=own_slice HO.out
    subst hv4
    have HJ:Hid (Calls Tryz.prog 26 #[.slice p4 ws.length cap4,.string ⟨#[32,59,32]⟩] wr fun e w'=>e=.returned (.string (join3 ws))∧Below wr.heap.size wr w'):=hid (by
     obtain ⟨bb,oo,cc,h1,h2,h3,h4⟩:=words_own HO.out (by intro q;rw [q] at hwl;simp at hwl;omega)
     injection h1 with a1 a2 a3
     subst a1 a3
     exact Tryz.strings_Join bb oo cap4 ws ⟨#[32,59,32]⟩ wr h4 h3 (by omega) h2 (by
      show (Lib.join (ws.map (·.data.toList)) [32,59,32]).length≤_
      omega))
    have hbx2:wr.heap[w.heap.size]? = some (.cells #[.bool once,.slice (some ⟨b,off,none⟩) d.length cap] 25 (0,0)):=(HB.out.block _ (Array.getElem?_eq_some_iff.1 HBX1.out).1).trans HBX1.out
    have HBX2:=hid hbx2
    clear hbx2 htk hws hwl hwsz hjl hjl2
    go_wp2_with fail
    refine HJ.out.mono ?_
    rintro e w2 ⟨rfl,hb2⟩
    have HB9:=hid (HBW.out.trans (hb2.mono HBW.out.size))
    obtain ⟨q0,q1,_,_⟩:=two_facts ((hb2.block _ (Array.getElem?_eq_some_iff.1 HBX2.out).1).trans HBX2.out)
    have hj3:=HJ3.out
    clear hb2
    cases once with
    | false =>
     have HPR2:Hid (printO false (d.map Ex.en)=join3 ws):=hid (by
      rw [HPR.out]
      apply ba_ext
      rw [ba_append];rfl)
     go_wp2_with fail
     go_ret2
     refine ⟨?_,HB9.out⟩
     show Ending.returned (.tuple #[.string (join3 ws),.int .i64 0])=_
     rw [←HPR2.out]
    | true =>
     have HPR2:Hid (printO true (d.map Ex.en)=⟨#[111,110,99,101,32]⟩++join3 ws):=hid (by rw [HPR.out];rfl)
     go_wp2_with fail
     go_ret2
     refine ⟨?_,HB9.out⟩
     show Ending.returned (.tuple #[.string (⟨#[111,110,99,101,32]⟩++join3 ws),.int .i64 0])=_
     rw [←HPR2.out]
end
section
open Go.RowKit Go.Lib
def wordsP (e:En) (p:Nat):List (List UInt8) :=
 if p=1 then if e.temp=⟨#[]⟩ then [] else [64::e.temp.data.toList]
 else if p=2 then [e.ka.data.toList++47::e.kb.data.toList]
 else if p=3 then [e.ka.data.toList]
 else if p=4 then if e.iff=0 then [] else [[105,102],decL e.iff.toNat]
 else if p=5 then bytesL (wordsL e.val)
 else if p=6 then [[63]]
 else if p=7 then bytesL (e.pred.map wordM)
 else if p=8 then bytesL (e.eds.map wordE)
 else if p=9 then [decL e.num.toNat]
 else [decL e.stamp.toNat]
theorem lineB_words (ws:List ByteArray):(lineB ws).data.toList=joinW (bytesL ws):=by rw [lineB_data];rfl
theorem piece_words {e:En} (h:MayP e) (p:Nat) (h1:1≤p) (h2:p≤10):(pieceS e p).data.toList=joinW (wordsP e p):=by
 have hp:p=1∨p=2∨p=3∨p=4∨p=5∨p=6∨p=7∨p=8∨p=9∨p=10:=by omega
 rcases hp with rfl|rfl|rfl|rfl|rfl|rfl|rfl|rfl|rfl|rfl
 ·show (if e.temp=⟨#[]⟩ then (⟨#[]⟩:ByteArray) else ⟨#[64]⟩++e.temp).data.toList=joinW (if e.temp=⟨#[]⟩ then [] else [64::e.temp.data.toList])
  split
  ·rfl
  ·rw [joinW_one,ba_append];rfl
 ·show (e.ka++⟨#[47]⟩++e.kb).data.toList=joinW [e.ka.data.toList++47::e.kb.data.toList]
  rw [joinW_one];exact cat_data _ _
 ·show e.ka.data.toList=joinW [e.ka.data.toList]
  rw [joinW_one]
 ·show (if e.iff=0 then (⟨#[]⟩:ByteArray) else ⟨#[105,102,32]⟩++⟨(decL e.iff.toNat).toArray⟩).data.toList=joinW (if e.iff=0 then [] else [[105,102],decL e.iff.toNat])
  split
  ·rfl
  ·rw [joinW_two,ba_append];rfl
 ·rfl
 ·show ([63]:List UInt8)=joinW [[63]]
  rw [joinW_one]
 ·show (lineM (ansM e.pred)).data.toList=joinW (bytesL (e.pred.map wordM))
  have ha:ansM e.pred=e.pred:=by unfold ansM;rw [if_pos h.mayp,h.srt]
  rw [ha];exact lineB_words _
 ·show (prE e.eds).data.toList=joinW (bytesL (e.eds.map wordE))
  unfold prE
  rw [if_pos h.maye];exact lineB_words _
 ·show decL e.num.toNat=joinW [decL e.num.toNat]
  rw [joinW_one]
 ·show decL e.stamp.toNat=joinW [decL e.stamp.toNat]
  rw [joinW_one]
theorem join_nil {w:List (List UInt8)} (h:∀x∈w,x≠[]) (q:joinW w=[]):w=[]:=by
 cases w with
 | nil=>rfl
 | cons x w =>
  exfalso
  by_cases hw:w=[]
  ·subst hw
   rw [joinW_one] at q
   exact h x (by simp) q
  ·rw [joinW_cons _ hw] at q
   simp at q
theorem partW_ne {e:En} (h:MayP e) (p:Nat) (h1:1≤p) (h2:p≤10):∀x∈wordsP e p,x≠[]:=by
 have hp:p=1∨p=2∨p=3∨p=4∨p=5∨p=6∨p=7∨p=8∨p=9∨p=10:=by omega
 rcases hp with rfl|rfl|rfl|rfl|rfl|rfl|rfl|rfl|rfl|rfl
 ·show ∀x∈(if e.temp=⟨#[]⟩ then [] else [64::e.temp.data.toList]),x≠[]
  split
  ·intro x hx;cases hx
  ·intro x hx;rw [List.mem_singleton] at hx;subst hx;simp
 ·intro x hx
  have:x=e.ka.data.toList++47::e.kb.data.toList:=List.mem_singleton.1 hx
  subst this;simp
 ·intro x hx
  have:x=e.ka.data.toList:=List.mem_singleton.1 hx
  subst this
  intro q
  have hk:=h.key
  unfold keyEn at hk
  split at hk
  ·simp only [Bool.and_eq_true] at hk
   rw [q] at hk;exact absurd hk.2 (by decide)
  ·have:=(keyB_two hk).1
   rw [q] at this;exact absurd this (by decide)
 ·show ∀x∈(if e.iff=0 then [] else [[105,102],decL e.iff.toNat]),x≠[]
  split
  ·intro x hx;cases hx
  ·intro x hx
   rcases List.mem_cons.1 hx with rfl|hx
   ·decide
   ·rw [List.mem_singleton] at hx;subst hx;exact decL_ne _
 ·intro x hx q
  have:=(valW_is h.mayv x hx).1
  rw [q] at this;simp at this
 ·intro x hx
  have:x=[63]:=List.mem_singleton.1 hx
  subst this;decide
 ·intro x hx q
  have:=(prdW_is h.mayp x hx).1
  rw [q] at this;simp at this
 ·intro x hx q
  have:=(edsW_is h.maye x hx).1
  rw [q] at this;simp at this
 ·intro x hx
  have:x=decL e.num.toNat:=List.mem_singleton.1 hx
  subst this;exact decL_ne _
 ·intro x hx
  have:x=decL e.stamp.toNat:=List.mem_singleton.1 hx
  subst this;exact decL_ne _
theorem join_pcs {e:En} (h:MayP e):∀ps:List Nat,(∀p∈ps,1≤p∧p≤10)→∀a:List (List UInt8),a≠[] →
  joinW (a++(pcs e ps).map (·.data.toList))=joinW (a++ps.flatMap (wordsP e))
 | [],_,a,_=>by simp [pcs]
 | p::ps,hp,a,ha=>by
  obtain ⟨h1,h2⟩:=hp p (by simp)
  have hw:=piece_words h p h1 h2
  have ih:=join_pcs h ps (fun q hq=>hp q (by simp [hq]))
  have hcons:pcs e (p::ps)=(if pieceS e p=⟨#[]⟩ then [] else [pieceS e p])++pcs e ps:=by
   unfold pcs
   by_cases hz:pieceS e p=⟨#[]⟩<;>simp [hz]
  rw [hcons,List.flatMap_cons]
  by_cases hz:pieceS e p=⟨#[]⟩
  ·have hn:wordsP e p=[]:=join_nil (partW_ne h p h1 h2) (by rw [←hw,hz])
   rw [if_pos hz,hn,List.nil_append,List.nil_append]
   exact ih a ha
  ·have hne:wordsP e p≠[]:=fun q=>hz (ba_nil (by rw [hw,q];rfl))
   rw [if_neg hz,List.map_append,List.map_cons,List.map_nil,←List.append_assoc,←List.append_assoc]
   have h3:=ih (a++wordsP e p) (by simp [ha])
   rw [←h3]
   have h4:joinW (a++[(pieceS e p).data.toList])=joinW (a++wordsP e p):=by
    rw [joinW_app a ha (by simp),joinW_app a ha hne,joinW_one,hw]
   by_cases hq:(pcs e ps).map (·.data.toList)=[]
   ·rw [hq,List.append_nil,List.append_nil,h4]
   ·rw [joinW_app _ (by simp) hq,joinW_app _ (by simp [ha]) hq,h4]
theorem if_swap {i:Int} {A:List (List UInt8)} (h:¬ i=0→0≤i∧i≤999999999):(if 0<i then A else [])=if i=0 then [] else A:=by
 by_cases h0:i=0
 ·rw [if_pos h0,if_neg (by omega)]
 ·rw [if_neg h0,if_pos (by have:=h h0;omega)]
theorem words_parts {e:En} (h:MayP e):wordsEn e=nameN e.kind.toNat::(shapeN e.kind.toNat).flatMap (wordsP e):=by
 obtain ⟨h1,h2,h3,h4,h5,h6,h7,h8,h9,h10,h11,h12,h13,h14⟩:=h
 obtain ⟨k,t,a,b,i,v,d,p,s,n⟩:=e
 simp only at h1 h2
 have hk:k=1∨k=2∨k=3∨k=4∨k=5∨k=6∨k=7∨k=8∨k=9∨k=10∨k=11∨k=12:=by omega
 have hkb:∀{a b:ByteArray},keyB a b=true→b≠⟨#[]⟩:=fun hk q=>by
  have:=(keyB_two hk).2
  rw [q] at this;exact absurd this (by decide)
 rcases hk with rfl|rfl|rfl|rfl|rfl|rfl|rfl|rfl|rfl|rfl|rfl|rfl
 all_goals
  simp [keyEn,typedK] at h3 h4 h5 h6 h7 h8 h10 h14
  simp_all [wordsEn,nameK,tailW,keyWd,shapeN,wordsP,bytesL,wordsL]
  try exact hkb h3
  try exact ⟨hkb h3,if_swap h5⟩
theorem line_is {e:En} (h:MayP e):(lineO e).data.toList=joinW (wordsEn e):=by
 have hs:∀p∈shapeN e.kind.toNat,1≤p∧p≤10:=fun p hp=>by
  obtain ⟨i,hi⟩:=List.getElem?_of_mem hp
  exact shape_part _ i p hi
 have hj:=join_pcs h (shapeN e.kind.toNat) hs [nameN e.kind.toNat] (by simp)
 rw [words_parts h]
 show joinW ((⟨(nameN e.kind.toNat).toArray⟩::pcs e (shapeN e.kind.toNat)).map (·.data.toList))=_
 rw [List.map_cons]
 exact hj
theorem join_three (x:List UInt8) {w:List (List UInt8)} (h:w≠[]):Lib.join (x::w) [32,59,32]=x++([32,59,32]++Lib.join w [32,59,32]):=by
 cases w with
 | nil=>exact absurd rfl h
 | cons y w=>simp [Lib.join,List.intercalate]
theorem entriesW_ne {l:List En} (h:l≠[]):entriesW l≠[]:=by
 match l with
 | []=>exact absurd rfl h
 | [e]=>simp [entriesW,wordsEn]
 | e::f::l=>simp [entriesW]
theorem lines_is:∀{es:List En},es≠[]→(∀e∈es,MayP e)→Lib.join ((es.map lineO).map (·.data.toList)) [32,59,32]=joinW (entriesW es)
 | [],h,_=>absurd rfl h
 | [e],_,h=>by
  simp only [List.map_cons,List.map_nil,Lib.join_one,entriesW]
  exact line_is (h e (by simp))
 | e::f::l,_,h=>by
  have ih:=lines_is (es:=f::l) (by simp) fun g hg=>h g (by simp [hg])
  rw [List.map_cons,List.map_cons,join_three _ (by simp),ih,line_is (h e (by simp))]
  simp only [entriesW]
  have hne:wordsEn e≠[]:=by simp [wordsEn]
  rw [joinW_app _ hne (by simp),joinW_cons _ (entriesW_ne (by simp))]
  rfl
theorem print_is {once:Bool} {es:List En} (h:mayRq es=true):(printO once es).data.toList=lineRq once es:=by
 have h':=h
 unfold mayRq at h'
 simp only [Bool.and_eq_true,decide_eq_true_eq,List.all_eq_true] at h'
 have hne:es≠[]:=List.length_pos_iff.1 h'.1.1
 have hl:=lines_is hne fun e he=>mayEn_parts (h'.2 e he)
 unfold printO lineRq wordsRq
 rw [ba_append]
 have hj:(join3 (es.map lineO)).data.toList=joinW (entriesW es):=hl
 rw [hj]
 cases once with
 | false=>rfl
 | true =>
  show [111,110,99,101,32]++joinW (entriesW es)=joinW ([onceW]++entriesW es)
  rw [joinW_app _ (by simp) (entriesW_ne hne),joinW_one]
  rfl
theorem op_back {once:Bool} {es:List En} (h:mayRq es=true) (hs:∀e∈es,0≤e.stamp∧e.stamp≤18446744073709551615):opR (printO once es).data.toList=some (once,es):=by
 rw [opR_is,print_is h,line_words h,rq_back h hs]
theorem mayRO_is (d:List Ex):mayRO d=mayRq (d.map Ex.en):=by
 unfold mayRO mayRq
 rw [List.length_map,List.all_map]
 congr 1
 apply List.all_congr rfl
 intro x
 exact mayO_is x
end
section
open Go.RowKit Go.Lib
def exT:ByteArray:=⟨#[111,110,99,101,32,117,112,100,97,116,101,32,80,97,116,105,101,110,116,47,112,49,32,105,102,32,50,32,110,97,109,101,61,66,111,32,59,32,115,101,97,114,99,104,32,80,97,116,105,101,110,116,32,110,97,109,101,94,65]⟩
def exU:En:=⟨3,⟨#[]⟩,⟨#[80,97,116,105,101,110,116]⟩,⟨#[112,49]⟩,2,[(⟨#[110,97,109,101]⟩,[⟨#[66,111]⟩])],[],[],0,0⟩
def exS:En:=⟨8,⟨#[]⟩,⟨#[80,97,116,105,101,110,116]⟩,⟨#[]⟩,0,[],[],[(⟨#[110,97,109,101]⟩,3,⟨#[65]⟩)],0,0⟩
theorem ex_may:mayRq [exU,exS]=true:=by kernel_rfl
theorem ex_dec:decL 2=[50]:=by rw [decL_one (by omega)];rfl
theorem ex_line:lineRq true [exU,exS]=exT.data.toList:=by
 have h1:wordsEn exU=[[117,112,100,97,116,101],[80,97,116,105,101,110,116,47,112,49],[105,102],[50],[110,97,109,101,61,66,111]]:=by
  have hr:wordsEn exU=nameN 3::(([]:List (List UInt8))++(([]:List (List UInt8))++keyWd exU::([[105,102],decL 2]++(bytesL (wordsL exU.val)++(bytesL (exU.eds.map wordE)++bytesL (exU.pred.map wordM)))))):=by rfl
  rw [hr,ex_dec]
  decide
 have h2:wordsEn exS=[[115,101,97,114,99,104],[80,97,116,105,101,110,116],[110,97,109,101,94,65]]:=by kernel_rfl
 unfold lineRq wordsRq
 simp only [entriesW,h1,h2]
 decide
theorem ex_print:(printO true [exU,exS])=exT:=ba_ext ((print_is ex_may).trans ex_line)
theorem ex_read:opR exT.data.toList=some (true,[exU,exS]):=by
 rw [←ex_print]
 exact op_back ex_may (fun e he=>by
  rcases List.mem_cons.1 he with rfl|he
  ·exact ⟨by decide,by decide⟩
  ·rw [List.mem_singleton] at he;subst he;exact ⟨by decide,by decide⟩)
theorem ex_none:opR []=none:=by rw [opR_is];rfl
theorem own_rq {n:Nat} {w:World} {v:Value} {d:List Ex} (h:KEx.Own n w v d) (hq:∀x∈d,OwnQ n x w) (hl:d.length≤4294967000):RqIn w v d :=
 ⟨Kind.own_is h,fun x hx=>(hq x hx).ex,hl⟩
set_option maxHeartbeats 8000000 in
set_option maxRecDepth 100000 in
theorem fixed16_any (w:World) (hv:OpVars w):Calls Tryz.prog 5 #[] w fun e w'=>e=.returned (.bool true)∧Below w.heap.size w w':=by
 have HV:=hid hv
 have HP1:Hid (Calls Tryz.prog 6 #[.string ⟨#[111,110,99,101,32,117,112,100,97,116,101,32,80,97,116,105,101,110,116,47,112,49,32,105,102,32,50,32,110,97,109,101,61,66,111,32,59,32,115,101,97,114,99,104,32,80,97,116,105,101,110,116,32,110,97,109,101,94,65]⟩] w fun e w'=>∃v d,e=.returned (.tuple #[.agg #[.bool true,v],.int .i64 0])∧RqIn w' v d∧d.map Ex.en=[exU,exS]∧Below w.heap.size w w'):=hid ((opparse_any exT w hv (by decide)).mono (by
  rintro e w' ⟨⟨once,v,d,c,rfl,ho,hq,hc⟩,hb⟩
  rcases hc with ⟨rfl,h⟩|⟨_,_,_,h⟩
  ·rw [ex_read] at h
   have h2:=Option.some.inj h
   have h3:true=once:=congrArg Prod.fst h2
   have h4:[exU,exS]=d.map Ex.en:=congrArg Prod.snd h2
   subst h3
   have hl:d.length=2:=by have:=congrArg List.length h4;simpa using this.symm
   exact ⟨v,d,rfl,own_rq ho hq (by omega),h4.symm,hb⟩
  ·rw [ex_read] at h;cases h))
 have HP0:Hid (∀W,Below w.heap.size w W→Calls Tryz.prog 6 #[.string ⟨#[]⟩] W fun e w'=>∃o pv nv cv,e=.returned (.tuple #[.agg #[.bool o,.slice pv nv cv],.int .i64 4])∧Below W.heap.size W w'):=hid fun W hW=>(opparse_any ⟨#[]⟩ W (HV.out.on hW) (by decide)).mono (by
  rintro e w' ⟨⟨once,v,d,c,rfl,ho,hq,hc⟩,hb⟩
  rcases hc with ⟨_,h⟩|⟨rfl,_,_,h⟩
  ·have h':opR []=some (once,d.map Ex.en):=h
   rw [ex_none] at h';cases h'
  ·obtain ⟨pv,cv,rfl⟩:=Kind.own_shape ho
   exact ⟨once,pv,_,cv,rfl,hb⟩)
 have HM0:Hid (∀W,Calls Tryz.prog 12 #[.agg #[.bool false,.slice none 0 0]] W fun e w'=>e=.returned (.bool false)∧Below W.heap.size W w'):=hid fun W=>(opMay_any false (.slice none 0 0) [] W ⟨⟨none,0,rfl,.inl rfl⟩,(fun x hx=>by cases hx),by decide⟩)
 clear hv
 go_enter Tryz.func5,Tryz.ntmps5
 go_wp2_with fail
 refine HP1.out.mono ?_
 rintro e w1 ⟨v,d,rfl,hd,hes,hb1⟩
 obtain ⟨x,y,rfl⟩:∃x y,d=[x,y]:=by
  have hl:d.length=2:=by have:=congrArg List.length hes;simpa using this
  match d,hl with
  | [x,y],_=>exact ⟨x,y,rfl⟩
 have hes2:[x.en,y.en]=[exU,exS]:=hes
 have hx:x.en=exU:=by injection hes2
 have hy:y.en=exS:=by injection hes2 with _ h2;injection h2
 clear hes2
 obtain ⟨a,cap,rfl,hrow⟩:=hd.row
 obtain ⟨b,off,rfl,hat⟩:∃b off,a=some ⟨b,off,none⟩∧KEx.At w1 b off [x,y]:=by
  rcases hrow with h|⟨b,off,h1,h2⟩
  ·cases h
  ·exact ⟨b,off,h1,h2⟩
 have hxi:x.iff=2:=congrArg En.iff hx
 have hxk:x.kind=3:=congrArg En.kind hx
 have hyk:y.kind=8:=congrArg En.kind hy
 have HIF:=hid hxi
 have HXK:=hid hxk
 have HYK:=hid hyk
 have HMR:Hid (mayRO [x,y]=true):=hid (by rw [mayRO_is,hes];exact ex_may)
 have HPT:Hid (printO true ([x,y].map Ex.en)=exT):=hid (by rw [hes];exact ex_print)
 have HD:=hid hd
 have HAT:=hid hat
 have HB1:=hid hb1
 have HB2:Hid (Below w1.heap.size w1 (w1.alloc (.cells #[.bool true,.slice (some ⟨b,off,none⟩) 2 cap] 25))):=hid ((Below.refl _ _).alloc (Nat.le_refl _) _)
 have HBX:Hid ((w1.alloc (.cells #[.bool true,.slice (some ⟨b,off,none⟩) 2 cap] 25)).heap[w1.heap.size]? = some (.cells #[.bool true,.slice (some ⟨b,off,none⟩) 2 cap] 25 (0,0))):=hid (heap_alloc_new w1 _)
 have HPR:Hid (∀W,Below w1.heap.size w1 W→Calls Tryz.prog 10 #[.agg #[.bool true,.slice (some ⟨b,off,none⟩) 2 cap]] W fun e w'=>e=.returned (.tuple #[.string exT,.int .i64 0])∧Below W.heap.size W w'):=hid fun W hW=>by
  have h:=opPrint_any true (.slice (some ⟨b,off,none⟩) 2 cap) [x,y] W (HD.out.on hW) (HV.out.on (HB1.out.trans (hW.mono HB1.out.size)))
  rw [HMR.out,if_pos rfl,if_pos rfl,HPT.out] at h
  exact h
 have HMY:Hid (∀W,Below w1.heap.size w1 W→Calls Tryz.prog 12 #[.agg #[.bool true,.slice (some ⟨b,off,none⟩) 2 cap]] W fun e w'=>e=.returned (.bool true)∧Below W.heap.size W w'):=hid fun W hW=>by
  have h:=opMay_any true (.slice (some ⟨b,off,none⟩) 2 cap) [x,y] W (HD.out.on hW)
  rw [HMR.out] at h
  exact h
 have HEQ:Hid (∀W,Below w1.heap.size w1 W→Calls Tryz.prog 13 #[.agg #[.bool true,.slice (some ⟨b,off,none⟩) 2 cap],.agg #[.bool true,.slice (some ⟨b,off,none⟩) 2 cap]] W fun e w'=>e=.returned (.bool true)∧Below W.heap.size W w'):=hid fun W hW=>by
  have h:=opEqual_any true true (.slice (some ⟨b,off,none⟩) 2 cap) (.slice (some ⟨b,off,none⟩) 2 cap) [x,y] [x,y] W (HD.out.on hW) (HD.out.on hW)
  rw [decide_eq_true (⟨rfl,rfl⟩:true=true∧[x,y].map Ex.en=[x,y].map Ex.en)] at h
  exact h
 have HW1:Hid (∀W,Calls Tryz.prog 14 #[.agg #[.int .i64 x.kind,.string x.temp,.string x.ka,.string x.kb,.int .i64 x.iff,.slice x.vp x.vo.length x.vc,.slice x.ep x.eo.length x.ec,.slice x.pp x.po.length x.pc,.int .u64 x.stamp,.int .i64 x.num]] W fun e w'=>e=.returned (.bool true)∧Below W.heap.size W w'):=hid fun W=>by
  have h:=opWrites_any x W
  rw [HXK.out] at h
  exact h
 have HW2:Hid (∀W,Calls Tryz.prog 14 #[.agg #[.int .i64 y.kind,.string y.temp,.string y.ka,.string y.kb,.int .i64 y.iff,.slice y.vp y.vo.length y.vc,.slice y.ep y.eo.length y.ec,.slice y.pp y.po.length y.pc,.int .u64 y.stamp,.int .i64 y.num]] W fun e w'=>e=.returned (.bool false)∧Below W.heap.size W w'):=hid fun W=>by
  have h:=opWrites_any y W
  rw [HYK.out] at h
  exact h
 have HCX:Hid (∀W,Below w1.heap.size w1 W→W.cell? ⟨b,off+0,none⟩=some (.int .i64 x.kind)∧W.cell? ⟨b,off+1,none⟩=some (.string x.temp)∧W.cell? ⟨b,off+2,none⟩=some (.string x.ka)∧W.cell? ⟨b,off+3,none⟩=some (.string x.kb)∧W.cell? ⟨b,off+4,none⟩=some (.int .i64 x.iff)∧W.cell? ⟨b,off+5,none⟩=some (.slice x.vp x.vo.length x.vc)∧W.cell? ⟨b,off+6,none⟩=some (.slice x.ep x.eo.length x.ec)∧W.cell? ⟨b,off+7,none⟩=some (.slice x.pp x.po.length x.pc)∧W.cell? ⟨b,off+8,none⟩=some (.int .u64 x.stamp)∧W.cell? ⟨b,off+9,none⟩=some (.int .i64 x.num)):=hid fun W hW=>by
  have h:=row_cellsQ (Kind.at_kept HAT.out hW) 0 x rfl
  simpa using h
 have HCY:Hid (∀W,Below w1.heap.size w1 W→W.cell? ⟨b,off+10+0,none⟩=some (.int .i64 y.kind)∧W.cell? ⟨b,off+10+1,none⟩=some (.string y.temp)∧W.cell? ⟨b,off+10+2,none⟩=some (.string y.ka)∧W.cell? ⟨b,off+10+3,none⟩=some (.string y.kb)∧W.cell? ⟨b,off+10+4,none⟩=some (.int .i64 y.iff)∧W.cell? ⟨b,off+10+5,none⟩=some (.slice y.vp y.vo.length y.vc)∧W.cell? ⟨b,off+10+6,none⟩=some (.slice y.ep y.eo.length y.ec)∧W.cell? ⟨b,off+10+7,none⟩=some (.slice y.pp y.po.length y.pc)∧W.cell? ⟨b,off+10+8,none⟩=some (.int .u64 y.stamp)∧W.cell? ⟨b,off+10+9,none⟩=some (.int .i64 y.num)):=hid fun W hW=>by
  have h:=row_cellsQ (Kind.at_kept HAT.out hW) 1 y rfl
  simpa using h
 clear hd hes hrow hat hx hy hxi hxk hyk hb1
 go_wp2_with fail
 refine (HPR.out _ HB2.out).mono ?_
 rintro e w2 ⟨rfl,hb2⟩
 have HB3:=hid (HB2.out.trans (hb2.mono HB2.out.size))
 have HX2:=hid ((hb2.block _ (by simp)).trans HBX.out)
 clear hb2
 go_wp2_with fail
 refine (HP0.out w2 (HB1.out.trans (HB3.out.mono HB1.out.size))).mono ?_
 rintro e w3 ⟨o0,pv,nv,cv,rfl,hb3⟩
 have hlt2:w1.heap.size<w2.heap.size:=(Array.getElem?_eq_some_iff.1 HX2.out).1
 have hal3:=(Below.refl w3.heap.size w3).alloc (Nat.le_refl _) (.cells #[.bool o0,.slice pv nv cv] 25)
 have HB4:Hid (Below w1.heap.size w1 (w3.alloc (.cells #[.bool o0,.slice pv nv cv] 25))):=hid ((HB3.out.trans (hb3.mono HB3.out.size)).trans (hal3.mono (HB3.out.trans (hb3.mono HB3.out.size)).size))
 have HX3:Hid ((w3.alloc (.cells #[.bool o0,.slice pv nv cv] 25)).heap[w1.heap.size]? = some (.cells #[.bool true,.slice (some ⟨b,off,none⟩) 2 cap] 25 (0,0))):=hid ((hal3.block _ (Nat.lt_of_lt_of_le hlt2 hb3.size)).trans ((hb3.block _ hlt2).trans HX2.out))
 clear hb3 hal3
 obtain ⟨WA,hWA⟩:∃WA,w3.alloc (.cells #[.bool o0,.slice pv nv cv] 25)=WA:=⟨_,rfl⟩
 rw [hWA] at HB4 HX3
 have HWA:=hid hWA
 obtain ⟨q0,q1,_,_⟩:=two_facts HX3.out
 obtain ⟨p0,p1,p2,p3,p4,p5,p6,p7,p8,p9⟩:=HCX.out WA HB4.out
 have p4':=p4
 rw [HIF.out] at p4'
 clear p4
 have hTq:(exT.toList==[111,110,99,101,32,117,112,100,97,116,101,32,80,97,116,105,101,110,116,47,112,49,32,105,102,32,50,32,110,97,109,101,61,66,111,32,59,32,115,101,97,114,99,104,32,80,97,116,105,101,110,116,32,110,97,109,101,94,65])=true:=by rw [toList_data];decide
 go_upto_region 4 with fail
 try rw [hWA]
 go_wp2_with fail
 refine (HMY.out WA HB4.out).mono ?_
 rintro e w5 ⟨rfl,hb5⟩
 have HB5:=hid (HB4.out.trans (hb5.mono HB4.out.size))
 have HX5:=hid ((hb5.block _ (Array.getElem?_eq_some_iff.1 HX3.out).1).trans HX3.out)
 clear hb5
 obtain ⟨r50,r51,_,_⟩:=two_facts HX5.out
 go_wp2_with fail
 refine (HM0.out w5).mono ?_
 rintro e w6 ⟨rfl,hb6⟩
 have HB6:=hid (HB5.out.trans (hb6.mono HB5.out.size))
 have HX6:=hid ((hb6.block _ (Array.getElem?_eq_some_iff.1 HX5.out).1).trans HX5.out)
 clear hb6
 obtain ⟨r60,r61,_,_⟩:=two_facts HX6.out
 go_wp2_with fail
 refine (HEQ.out w6 HB6.out).mono ?_
 rintro e w7 ⟨rfl,hb7⟩
 have HB7:=hid (HB6.out.trans (hb7.mono HB6.out.size))
 have HX7:=hid ((hb7.block _ (Array.getElem?_eq_some_iff.1 HX6.out).1).trans HX6.out)
 clear hb7
 obtain ⟨r70,r71,_,_⟩:=two_facts HX7.out
 obtain ⟨s0,s1,s2,s3,s4,s5,s6,s7,s8,s9⟩:=HCX.out w7 HB7.out
 simp only [Nat.add_zero] at s0
 go_wp2_with fail
 refine (HW1.out w7).mono ?_
 rintro e w8 ⟨rfl,hb8⟩
 have HB8:=hid (HB7.out.trans (hb8.mono HB7.out.size))
 have HX8:=hid ((hb8.block _ (Array.getElem?_eq_some_iff.1 HX7.out).1).trans HX7.out)
 clear hb8
 obtain ⟨r80,r81,_,_⟩:=two_facts HX8.out
 obtain ⟨t0,t1,t2,t3,t4,t5,t6,t7,t8,t9⟩:=HCY.out w8 HB8.out
 try simp only [Nat.add_zero] at t0
 go_wp2_with fail
 refine (HW2.out w8).mono ?_
 rintro e w9 ⟨rfl,hb9⟩
 have HB9:=hid (HB8.out.trans (hb9.mono HB8.out.size))
 clear hb9
 go_wp2_with fail
 go_ret
 exact ⟨rfl,HB1.out.trans (HB9.out.mono HB1.out.size)⟩
end
section
open Go.RowKit Go.Lib
theorem ownT_shape {n:Nat} {w:World} {v:Value} {ts:List ByteArray} (h:OwnT n w v ts):∃p cap,v=.slice p ts.length cap∧ts.length≤cap:=by
 rcases h.2 with ⟨hv,h0⟩|⟨g,cap,cur,hv,hc,hg,hcap,_⟩
 ·exact ⟨none,0,by rw [hv,h0],by omega⟩
 ·exact ⟨_,_,hv,hcap⟩
theorem txt_on2 {n:Nat} {w w':World} {p:Option Addr} {ws:List ByteArray} (h:TxtAt w p ws) (hn:w.heap.size=n) (hb:Below n w w'):TxtAt w' p ws:=by
 subst hn;exact txt_on h hb
theorem rq_none {w W:World} {l:List UInt8} (h:opR l=none) (hb:Below w.heap.size w W):RqPost w l (.returned (.tuple #[.agg #[.bool false,.slice none 0 0],.int .i64 4])) W :=
 ⟨⟨false,.slice none 0 0,[],4,rfl,KEx.own_nil _ _,(fun z h=>by cases h),.inr ⟨rfl,rfl,rfl,h⟩⟩,hb⟩
theorem no_out {w W:World} {N:Nat} (hN:w.heap.size=N) (h:W.heap[N]? = some (.cells #[.bool false,.slice none 0 0] 25 (0,0))) (hb:Below N w W) :
  ∀W',(W.setCell ⟨N,0,none⟩ (.bool false)).setCell ⟨N,1,none⟩ (.slice none 0 0)=W'→W'.cell? ⟨N,0,none⟩=some (.bool false)∧W'.cell? ⟨N,1,none⟩=some (.slice none 0 0)∧Below w.heap.size w W':=by
 intro W' hW
 subst hW
 have h1:=heap_setCell_same _ N 1 _ _ (.slice none 0 0) (heap_setCell_same _ N 0 _ _ (.bool false) h)
 rw [hN]
 exact ⟨by rw [Lib.cell_of_heap h1];rfl,by rw [Lib.cell_of_heap h1];rfl,(hb.setCell (p:=⟨N,0,none⟩) (Nat.le_refl _) _).setCell (p:=⟨N,1,none⟩) (Nat.le_refl _) _⟩
theorem bytes_lenL (us:List ByteArray):(bytesL us).length=us.length:=by unfold bytesL;simp
theorem pa_start {w1 W:World} {N Q:Nat} {once:Bool} {ls:List (List UInt8)} (hr:W.heap[N]? = some (.cells #[.bool false,.slice none 0 0] 25 (0,0))) (hx:W.heap[Q]? = some (.cells #[.bool once,.slice none 0 0] 25 (0,0))) (hb:Below Q w1 W):PaSt w1 N Q once ls 0 0 [] none 0 W :=
 ⟨hr,hx,KEx.own_nil _ _,(fun x hx=>by cases hx),hb,(Array.getElem?_eq_some_iff.1 hx).1,by decide,[],rfl,Or.inl ⟨by omega,by omega,rfl,fun x hx=>by simp at hx⟩⟩
section
variable {W3 wr:World} {N Q f i:Nat} {once:Bool} {us:List ByteArray} {out:List Ex} {p:Option Addr} {c:Nat}
theorem pa_go (h:PaSt W3 N Q once (bytesL us) f i out p c wr) (hB:(match us[i]? with|some x=>decide (x.data.toList≠[59])|none=>false)=true):i+1≤us.length∧PaSt W3 N Q once (bytesL us) f (i+1) out p c wr:=by
 cases hx:us[i]? with
 | none=>rw [hx] at hB;cases hB
 | some x =>
  rw [hx] at hB
  have hne:x.data.toList≠[59]:=of_decide_eq_true hB
  have hlt:i<us.length:=(List.getElem?_eq_some_iff.1 hx).1
  have hl:(bytesL us)[i]? = some x.data.toList:=by unfold bytesL;rw [List.getElem?_map,hx];rfl
  refine ⟨hlt,{ h with cut:=?_ }⟩
  obtain ⟨pre,hp,⟨h1,h2,h3,h4⟩|⟨h1,_⟩⟩:=h.cut
  ·exact ⟨pre,hp,Or.inl ⟨by rw [bytes_lenL];omega,by omega,h3,(take_seg h2 hl h4).1 hne⟩⟩
  ·rw [bytes_lenL] at h1;omega
theorem pa_seg (h:PaSt W3 N Q once (bytesL us) f i out p c wr) (hB:(match us[i]? with|some x=>decide (x.data.toList≠[59])|none=>false)=false) (hi:i≤us.length) :
  ∃pre post,entriesR pre=some (out.map Ex.en)∧cutSemi (bytesL us)=pre++((bytesL us).drop f).take (i-f)::post∧((i+1≤us.length∧post=cutSemi ((bytesL us).drop (i+1)))∨(i=us.length∧post=[])):=by
 obtain ⟨pre,hp,⟨h1,h2,h3,h4⟩|⟨h1,_⟩⟩:=h.cut
 ·cases hx:us[i]? with
  | none =>
   have hge:us.length≤i:=by rw [List.getElem?_eq_none_iff] at hx;exact hx
   obtain rfl:i=us.length:=by omega
   refine ⟨pre,[],hp,?_,Or.inr ⟨rfl,rfl⟩⟩
   rw [h3]
   have hl:=bytes_lenL us
   have:=last_seg (ls:=bytesL us) (f:=f) (by rw [hl];exact h4)
   rw [hl] at this
   rw [this]
  | some x =>
   rw [hx] at hB
   have he:x.data.toList=[59]:=by simpa using hB
   have hlt:i<us.length:=(List.getElem?_eq_some_iff.1 hx).1
   have hl:(bytesL us)[i]? = some x.data.toList:=by unfold bytesL;rw [List.getElem?_map,hx];rfl
   exact ⟨pre,_,hp,by rw [h3,(take_seg h2 hl h4).2 he],Or.inl ⟨hlt,rfl⟩⟩
 ·rw [bytes_lenL] at h1;omega
theorem pa_next {W':World} {y:Ex} {p':Option Addr} {c':Nat} (hs:∃pre post,entriesR pre=some (out.map Ex.en)∧cutSemi (bytesL us)=pre++((bytesL us).drop f).take (i-f)::post∧((i+1≤us.length∧post=cutSemi ((bytesL us).drop (i+1)))∨(i=us.length∧post=[])))
  (he:entryR (((bytesL us).drop f).take (i-f))=some y.en) (hr:W'.heap[N]? = some (.cells #[.bool false,.slice none 0 0] 25 (0,0))) (hx:W'.heap[Q]? = some (.cells #[.bool once,.slice p' (out++[y]).length c'] 25 (0,0)))
  (ho:KEx.Own (Q+1) W' (.slice p' (out++[y]).length c') (out++[y])) (hq:∀x∈out++[y],OwnQ (Q+1) x W') (hb:Below Q W3 W') (hf:(out++[y]).length≤16):PaSt W3 N Q once (bytesL us) (i+1) (i+1) (out++[y]) p' c' W':=by
 refine ⟨hr,hx,ho,hq,hb,(Array.getElem?_eq_some_iff.1 hx).1,hf,?_⟩
 obtain ⟨pre,post,h1,h2,h3⟩:=hs
 refine ⟨pre++[((bytesL us).drop f).take (i-f)],?_,?_⟩
 ·rw [entriesR_app,h1,Option.bind_some]
  show ((entryR _).bind fun e=>(entriesR []).map (e :: ·)).map _=_
  rw [he]
  simp [entriesR]
 ·rcases h3 with ⟨h4,h5⟩|⟨h4,h5⟩
  ·refine Or.inl ⟨by rw [bytes_lenL];exact h4,Nat.le_refl _,?_,fun x hx=>by rw [Nat.sub_self,List.take_zero] at hx;cases hx⟩
   rw [h2,h5,List.append_assoc];rfl
  ·refine Or.inr ⟨by rw [bytes_lenL,h4],?_⟩
   rw [h2,h5]
theorem pa_bad (hs:∃pre post,entriesR pre=some (out.map Ex.en)∧cutSemi (bytesL us)=pre++((bytesL us).drop f).take (i-f)::post∧((i+1≤us.length∧post=cutSemi ((bytesL us).drop (i+1)))∨(i=us.length∧post=[])))
  (he:entryR (((bytesL us).drop f).take (i-f))=none∨16<out.length+1):goodR (entriesR (cutSemi (bytesL us)))=none:=by
 obtain ⟨pre,post,h1,h2,_⟩:=hs
 rcases he with he|he
 ·exact good_no h2 he
 ·refine good_many (pre:=pre++[((bytesL us).drop f).take (i-f)]) (post:=post) (by rw [h2,List.append_assoc];rfl) ?_
  have:=entriesR_len h1
  rw [List.length_map] at this
  rw [List.length_append,←this];exact he
theorem pa_done (h:PaSt W3 N Q once (bytesL us) f i out p c wr) (hi:us.length<i):entriesR (cutSemi (bytesL us))=some (out.map Ex.en):=by
 obtain ⟨pre,hp,⟨h1,_⟩|⟨_,h2⟩⟩:=h.cut
 ·rw [bytes_lenL] at h1;omega
 ·rw [h2];exact hp
end
set_option maxHeartbeats 20000000 in
set_option maxRecDepth 100000 in
theorem rparse16_any (s:ByteArray) (w:World) (hs:s.size≤500000000) :
  Calls Tryz.prog 7 #[.string s] w fun e w'=>RqPost w s.data.toList e w':=by
 obtain ⟨i0,hi0,hz0,hz1,hz2⟩:=info_parts Tryz.infoEnt
 have HI:=hid hi0
 have HWD:=hid fun W=>rwords_any s W (by omega)
 obtain ⟨N,hN⟩:∃N,w.heap.size=N:=⟨_,rfl⟩
 obtain ⟨W1,hW1⟩:∃W1,w.alloc (.cells #[.bool false,.slice none 0 0] 25)=W1:=⟨_,rfl⟩
 have HB1:Hid (Below w.heap.size w W1):=hid (by rw [←hW1];exact (Below.refl _ _).alloc (Nat.le_refl _) _)
 have HZ1:Hid (W1.heap[w.heap.size]? = some (.cells #[.bool false,.slice none 0 0] 25 (0,0))):=hid (by rw [←hW1];exact heap_alloc_new w _)
 rw [hN] at HB1 HZ1
 have HN:=hid hN
 clear hi0
 go_enter Tryz.func7,Tryz.ntmps7
 go_wp2_with fail
 try rw [hW1,hN]
 clear hW1
 refine (HWD.out _).mono ?_
 rintro e w1 ⟨⟨v,ws,rfl,hown,hws,hlen,hsz⟩,hb1⟩
 obtain ⟨pw,cw,rfl,hcw⟩:=ownT_shape hown
 have htx:=OwnT.txtAt hown
 have hl1:ws.length≤500000001:=by have e1:s.data.toList.length=s.size:=rfl;omega
 have hsz2:∀x∈ws,x.size≤1000000000000:=fun x hx=>by have e1:s.data.toList.length=s.size:=rfl;have:=hsz x hx;omega
 obtain ⟨Q,hQ⟩:∃Q,w1.heap.size=Q:=⟨_,rfl⟩
 obtain ⟨W2,hW2⟩:∃W2,w1.alloc (.cells #[.bool false,.slice none 0 0] 25)=W2:=⟨_,rfl⟩
 have hb2:Below w1.heap.size w1 W2:=by rw [←hW2];exact (Below.refl _ _).alloc (Nat.le_refl _) _
 have HX2:Hid (W2.heap[Q]? = some (.cells #[.bool false,.slice none 0 0] 25 (0,0))):=hid (by rw [←hW2,←hQ];exact heap_alloc_new w1 _)
 have hNW:N<W1.heap.size:=(Array.getElem?_eq_some_iff.1 HZ1.out).1
 have HB2:Hid (Below N w w1):=hid (HB1.out.trans (hb1.mono (Nat.le_of_lt hNW)))
 have HZ2:Hid (w1.heap[N]? = some (.cells #[.bool false,.slice none 0 0] 25 (0,0))):=hid ((hb1.block N hNW).trans HZ1.out)
 have hNQ:N<Q:=by rw [←hQ];exact (Array.getElem?_eq_some_iff.1 HZ2.out).1
 have HTX:Hid (∀V,Below Q w1 V→TxtAt V pw ws):=hid fun V hV=>txt_on2 htx hQ hV
 have HBQ:Hid (Below Q w1 W2):=hid (by rw [←hQ];exact hb2)
 have HRS:Hid (∀V,Below Q w1 V→V.heap[N]? = some (.cells #[.bool false,.slice none 0 0] 25 (0,0))):=hid fun V hV=>(hV.block N hNQ).trans HZ2.out
 have HQ:=hid hQ
 obtain ⟨once,honce⟩:∃o,decide ((bytesL ws).head? = some onceW)=o:=⟨_,rfl⟩
 have HON:=hid honce
 obtain ⟨us,hus⟩:∃us,(if once=true then ws.drop 1 else ws)=us:=⟨_,rfl⟩
 have HUS:=hid hus
 have HOP:Hid (opR s.data.toList=(goodR (entriesR (cutSemi (bytesL us)))).map fun l=>(once,l)):=hid (by
  rw [opR_is,←hws]
  refine read_good _ once (bytesL us) honce ?_
  rw [←hus]
  split
  ·show bytesL (ws.drop 1)=(bytesL ws).drop 1
   unfold bytesL;rw [List.map_drop]
  ·rfl)
 have hsu:∀x∈us,x.size≤1000000000000:=by
  rw [←hus]
  intro x hx
  split at hx
  ·exact hsz2 x (List.mem_of_mem_drop hx)
  ·exact hsz2 x hx
 have HSU:=hid hsu
 have hlu:us.length≤500000001:=by
  rw [←hus]
  split
  ·rw [List.length_drop];omega
  ·exact hl1
 clear hown hws hsz hb1 hb2 htx hsz2 hsu HB1 HZ1 hlen honce hus hN
 go_upto_region 3 with fail
 try rw [hW2]
 try rw [hQ]
 clear hW2 hQ
 go_cut [20] from 10 (fun v20 wx=>v20=.bool once∧W2=wx)
 case first =>
  as_aux_lemma =>
  by_cases h0:0<ws.length
  case neg =>
   have hz:¬ (0:Int)<(ws.length:Int):=by omega
   have E:Hid (once=false):=hid (by
    rw [←HON.out,List.length_eq_zero_iff.1 (by omega:ws.length=0)];rfl)
   go_wp2_with fail
   go_meet
   case rel=>exact ⟨by rw [E.out],rfl⟩
  have hz:(0:Int)<(ws.length:Int):=by omega
  obtain ⟨b,off,rfl,hcc⟩:∃b off,pw=some ⟨b,off,none⟩∧∀i,(h:i<ws.length)→W2.cell? ⟨b,off+i,none⟩=some (.string ws[i]):=by
   rcases HTX.out W2 HBQ.out with h|⟨b,off,h1,h2⟩
   ·rw [h] at h0;simp at h0
   ·exact ⟨b,off,h1,h2⟩
  obtain ⟨x,hx⟩:∃x,ws[0]=x:=⟨_,rfl⟩
  have cx:=hcc 0 h0
  rw [hx,Nat.add_zero] at cx
  have HX:Hid ((bytesL ws).head? = some x.data.toList):=hid (by
   rw [List.head?_eq_getElem?]
   unfold bytesL
   rw [List.getElem?_map,List.getElem?_eq_getElem h0,hx];rfl)
  clear hcc hx
  by_cases hq:x.data.toList=onceW
  ·have hq2:(x.toList==[111,110,99,101])=true:=by rw [toList_data,hq];rfl
   have E:Hid (once=true):=hid (by rw [←HON.out,HX.out,hq];simp)
   clear hq
   go_wp2_with fail
   go_meet
   case rel=>exact ⟨by rw [E.out],rfl⟩
  ·have hq2:(x.toList==[111,110,99,101])=false:=by rw [toList_data];exact beq_eq_false_iff_ne.2 hq
   have E:Hid (once=false):=hid (by rw [←HON.out,HX.out,decide_eq_false (fun q=>hq (Option.some.inj q))])
   clear hq
   go_wp2_with fail
   go_meet
   case rel=>exact ⟨by rw [E.out],rfl⟩
 case rest =>
 obtain ⟨rfl,rfl⟩:=hcut
 go_upto_if 20 with fail
 go_cut [4] from 10 (fun v4 wx=>∃(pn:Option Addr) (cn:Nat),v4=.slice pn us.length cn∧us.length≤cn∧Hid (∀V,Below Q w1 V→TxtAt V pn us)∧Hid (PaSt w1 N Q once (bytesL us) 0 0 [] none 0 wx))
 case first =>
  as_aux_lemma =>
  cases once with
  | false =>
   have E:us=ws:=by rw [←HUS.out];rfl
   have HP:Hid (PaSt w1 N Q false (bytesL us) 0 0 [] none 0 W2):=hid (pa_start (HRS.out _ HBQ.out) HX2.out HBQ.out)
   go_wp2_with fail
   go_meet
   case rel=>exact ⟨pw,cw,by rw [E],by rw [E];exact hcw,by rw [E];exact HTX,HP⟩
  | true =>
   have E:us=ws.drop 1:=by rw [←HUS.out];rfl
   have h0:0<ws.length:=by
    have h:=HON.out
    rw [decide_eq_true_eq] at h
    rcases Nat.lt_or_ge 0 ws.length with q|q
    ·exact q
    ·rw [List.length_eq_zero_iff.1 (by omega:ws.length=0)] at h;cases h
   obtain ⟨b,off,rfl⟩:∃b off,pw=some ⟨b,off,none⟩:=by
    rcases HTX.out W2 HBQ.out with h|⟨b,off,h1,h2⟩
    ·rw [h] at h0;simp at h0
    ·exact ⟨b,off,h1⟩
   obtain ⟨f0,f1,z0,z1⟩:W2.frozen? ⟨Q,0,none⟩=false∧W2.frozen? ⟨Q,1,none⟩=false∧W2.cell? ⟨Q,0,none⟩=some (.bool false)∧W2.cell? ⟨Q,1,none⟩=some (.slice none 0 0):=by
    obtain ⟨a1,a2,a3,a4⟩:=two_facts HX2.out
    exact ⟨a3,a4,a1,a2⟩
   obtain ⟨W3,hW3⟩:∃W3,W2.setCell ⟨Q,0,none⟩ (.bool true)=W3:=⟨_,rfl⟩
   have HB3:Hid (Below Q w1 W3):=hid (by rw [←hW3];exact HBQ.out.setCell (p:=⟨Q,0,none⟩) (Nat.le_refl _) _)
   have HX3:Hid (W3.heap[Q]? = some (.cells #[.bool true,.slice none 0 0] 25 (0,0))):=hid (by rw [←hW3];exact heap_setCell_same _ Q 0 _ _ _ HX2.out)
   have HP:Hid (PaSt w1 N Q true (bytesL us) 0 0 [] none 0 W3):=hid (pa_start (HRS.out _ HB3.out) HX3.out HB3.out)
   have hl:us.length=ws.length-1:=by rw [E,List.length_drop]
   have hlz:((ws.length:Int)-1)=((us.length:Nat):Int):=by omega
   have HT1:Hid (∀V,Below Q w1 V→TxtAt V (some ⟨b,off+1,none⟩) us):=hid fun V hV=>by rw [E];exact txt_drop (HTX.out V hV) rfl 1
   have HT0:Hid (us=[]→∀V,Below Q w1 V→TxtAt V (some ⟨b,off,none⟩) us):=hid fun h V _=>Or.inl h
   have h1z:(1:Int)≤(ws.length:Int):=by omega
   clear E h0 z1 f1
   have HL:=hid hl
   have HCW:=hid hcw
   clear hl
   by_cases hc1:cw=1
   ·go_wp2_with fail
    try rw [hW3]
    go_meet
    case rel =>
     have hu:us=[]:=List.length_eq_zero_iff.1 (by have:=HL.out;have:=HCW.out;omega)
     exact ⟨some ⟨b,off,none⟩,0,by rw [HL.out],by rw [hu];exact Nat.zero_le _,hid (HT0.out hu),HP⟩
   ·go_wp2_with fail
    try rw [hW3]
    go_meet
    case rel=>exact ⟨some ⟨b,off+1,none⟩,cw-1,by rw [HL.out],by have:=HL.out;have:=HCW.out;omega,HT1,HP⟩
 case rest =>
 obtain ⟨pn,cn,rfl,hcn,HTU,HP0⟩:=hcut
 go_wp2_with fail
 go_loopg [6,7] (us.length+1) (fun g v6 v7 wr=>∃(f i:Nat) (out:List Ex) (p:Option Addr) (c:Nat),v6=.int .i64 f∧v7=.int .i64 i∧i≤us.length+1∧f≤i∧us.length+1-i≤g∧Hid (PaSt w1 N Q once (bytesL us) f i out p c wr))
 case atStart=>exact ⟨0,0,[],none,0,rfl,rfl,by omega,by omega,by omega,HP0⟩
 case round =>
  clear HP0
  obtain ⟨f,i,out,p,c,rfl,rfl,hi,hfi,hig,HP⟩:=hrel
  by_cases hin:i≤us.length
  ·have hiz:(i:Int)≤(us.length:Int):=by omega
   obtain ⟨B,hB⟩:∃B:Bool,(match us[i]? with|some x=>decide (x.data.toList≠[59])|none=>false)=B:=⟨_,rfl⟩
   have HBB:=hid hB
   clear hB
   go_upto_region 10 with fail
   go_cut [40] from 24 to 68 (fun v40 wx=>v40=.bool B∧wr=wx)
   case first =>
    as_aux_lemma =>
    by_cases hlt:i<us.length
    case neg =>
     have hltz:¬ (i:Int)<(us.length:Int):=by omega
     have E:Hid (B=false):=hid (by rw [←HBB.out,List.getElem?_eq_none (by omega)])
     go_wp2_with fail
     go_meet
     case rel=>exact ⟨by rw [E.out],rfl⟩
    have hltz:(i:Int)<(us.length:Int):=by omega
    have hi0z:(0:Int)≤(i:Int):=by omega
    obtain ⟨b,off,rfl,hcc⟩:∃b off,pn=some ⟨b,off,none⟩∧∀i,(h:i<us.length)→wr.cell? ⟨b,off+i,none⟩=some (.string us[i]):=by
     rcases HTU.out wr HP.out.bel with h|⟨b,off,h1,h2⟩
     ·rw [h] at hlt;simp at hlt
     ·exact ⟨b,off,h1,h2⟩
    obtain ⟨x,hx⟩:∃x,us[i]=x:=⟨_,rfl⟩
    have cx:=hcc i hlt
    rw [hx] at cx
    have HX:Hid (B=decide (x.data.toList≠[59])):=hid (by rw [←HBB.out,List.getElem?_eq_getElem hlt,hx])
    clear hcc hx
    by_cases hq:x.data.toList=[59]
    ·have hq2:(x.toList != [59])=false:=by rw [toList_data,hq];rfl
     have hq3:(x.toList==[59])=true:=by rw [toList_data,hq];rfl
     have E:Hid (B=false):=hid (by rw [HX.out,decide_eq_false (fun h=>h hq)])
     clear hq
     go_wp2_with fail
     go_meet
     case rel=>exact ⟨by rw [E.out],rfl⟩
    ·have hq2:(x.toList != [59])=true:=by rw [toList_data];exact bne_iff_ne.2 hq
     have hq3:(x.toList==[59])=false:=by rw [toList_data];exact beq_eq_false_iff_ne.2 hq
     have E:Hid (B=true):=hid (by rw [HX.out,decide_eq_true hq])
     clear hq
     go_wp2_with fail
     go_meet
     case rel=>exact ⟨by rw [E.out],rfl⟩
   case rest =>
   obtain ⟨rfl,rfl⟩:=hcut
   cases B with
   | true =>
    have HGO:Hid (i+1≤us.length∧PaSt w1 N Q once (bytesL us) f (i+1) out p c wr):=hid (pa_go HP.out HBB.out)
    go_wp2_with fail
    go_roundg (us.length+1-(i+1))
    case measure=>omega
    exact ⟨f,i+1,out,p,c,rfl,by go_num,by omega,by omega,by omega,hid HGO.out.2⟩
   | false =>
    have HSG:=hid (pa_seg HP.out HBB.out hin)
    by_cases hff:i=f
    ·as_aux_lemma =>
     have bz:((i:Int)==(f:Int))=true:=by rw [beq_iff_eq];omega
     have HNO:Hid (opR s.data.toList=none):=hid (by
      obtain ⟨pre,post,hp,hcs,_⟩:=HSG.out
      rw [HOP.out,good_no hcs (by rw [hff,Nat.sub_self,List.take_zero];rfl)];rfl)
     have HLO:Hid (Below N w wr):=hid (HB2.out.trans (HP.out.bel.mono (Nat.le_of_lt hNQ)))
     obtain ⟨z0,z1,f0,f1⟩:=two_facts HP.out.res
     obtain ⟨W4,hW4⟩:∃W4,(wr.setCell ⟨N,0,none⟩ (.bool false)).setCell ⟨N,1,none⟩ (.slice none 0 0)=W4:=⟨_,rfl⟩
     obtain ⟨g0,g1,hb4⟩:=no_out HN.out HP.out.res HLO.out W4 hW4
     have HBB4:=hid hb4
     clear hb4 hff
     go_wp2_with fail
     try rw [hW4]
     exact bodyPost_ret (v:=.tuple #[.agg #[.bool false,.slice none 0 0],.int .i64 4]) (by simp [results,Tryz.results7,go_sem,g0,g1]) rfl (rq_none HNO.out HBB4.out)
    have HFI:Hid (f<i):=hid (by omega)
    have hfz:((i:Int)==(f:Int))=false:=by rw [beq_eq_false_iff_ne];omega
    have h0f:(0:Int)≤(f:Int):=by omega
    have hfiz:(f:Int)≤(i:Int):=by omega
    have hicz:(i:Int)≤(cn:Int):=by omega
    have hcf:¬ cn=f:=by omega
    have hltf:f<us.length:=by omega
    obtain ⟨b,off,rfl⟩:∃b off,pn=some ⟨b,off,none⟩:=by
     rcases HTU.out wr HP.out.bel with h|⟨b,off,h1,h2⟩
     ·rw [h] at hltf;simp at hltf
     ·exact ⟨b,off,h1⟩
    obtain ⟨O,hO⟩:∃O,entryR (((bytesL us).drop f).take (i-f))=O:=⟨_,rfl⟩
    have HOO:=hid hO
    have HEN:Hid (Calls Tryz.prog 19 #[.slice (some ⟨b,off+f,none⟩) (i-f:Nat) (cn-f:Nat)] wr fun e w'=>∃(y:Ex) (ok:Bool),e=.returned (.tuple #[.agg #[.int .i64 y.kind,.string y.temp,.string y.ka,.string y.kb,.int .i64 y.iff,.slice y.vp y.vo.length y.vc,.slice y.ep y.eo.length y.ec,.slice y.pp y.po.length y.pc,.int .u64 y.stamp,.int .i64 y.num],.bool ok])∧(ok=true→OwnQ wr.heap.size y w')∧O=(if ok=true then some y.en else none)∧Below wr.heap.size wr w'):=hid (by
     have h:=rentry16_any (some ⟨b,off+f,none⟩) (cn-f) ((us.drop f).take (i-f)) wr (txt_take (txt_drop (HTU.out wr HP.out.bel) rfl f) _) (by rw [List.length_take,List.length_drop];omega) (by rw [List.length_take,List.length_drop];omega) (by rw [List.length_take,List.length_drop];omega) fun x hx=>HSU.out x (List.mem_of_mem_drop (List.mem_of_mem_take hx))
     rw [List.length_take,List.length_drop,Nat.min_eq_left (by omega)] at h
     refine h.mono ?_
     rintro e w' ⟨⟨y,ok,rfl,ho,hz⟩,hb⟩
     refine ⟨y,ok,rfl,ho,?_,hb⟩
     rw [←hO,←hz]
     unfold bytesL
     rw [List.map_take,List.map_drop])
    clear hO hff hltf
    go_wp2_with fail
    refine HEN.out.mono ?_
    rintro e w2 ⟨y,ok,rfl,hyo,hye,hb2⟩
    have HYE:=hid hye
    have HYO:=hid hyo
    have HB2':=hid hb2
    obtain ⟨G,hG⟩:∃G,w2.heap.size=G:=⟨_,rfl⟩
    have hGQ:Q<G:=by have h1:=HP.out.size;have h2:=hb2.size;omega
    obtain ⟨W3,hW3⟩:∃W3,w2.alloc (.cells #[.int .i64 y.kind,.string y.temp,.string y.ka,.string y.kb,.int .i64 y.iff,.slice y.vp y.vo.length y.vc,.slice y.ep y.eo.length y.ec,.slice y.pp y.po.length y.pc,.int .u64 y.stamp,.int .i64 y.num] 42)=W3:=⟨_,rfl⟩
    have hb3:Below w2.heap.size w2 W3:=by rw [←hW3];exact (Below.refl _ _).alloc (Nat.le_refl _) _
    have HB3:=hid hb3
    have hb13:Below wr.heap.size wr W3:=hb2.trans (hb3.mono hb2.size)
    have HB13:=hid hb13
    have HX3:Hid (W3.heap[G]? = some (.cells #[.int .i64 y.kind,.string y.temp,.string y.ka,.string y.kb,.int .i64 y.iff,.slice y.vp y.vo.length y.vc,.slice y.ep y.eo.length y.ec,.slice y.pp y.po.length y.pc,.int .u64 y.stamp,.int .i64 y.num] 42 (0,0))):=hid (by rw [←hW3,←hG];exact heap_alloc_new w2 _)
    have HRES3:Hid (W3.heap[N]? = some (.cells #[.bool false,.slice none 0 0] 25 (0,0))):=hid ((hb13.block _ (Array.getElem?_eq_some_iff.1 HP.out.res).1).trans HP.out.res)
    have HBOX3:Hid (W3.heap[Q]? = some (.cells #[.bool once,.slice p out.length c] 25 (0,0))):=hid ((hb13.block _ (Array.getElem?_eq_some_iff.1 HP.out.box).1).trans HP.out.box)
    have HBEL3:Hid (Below Q w1 W3):=hid (HP.out.bel.trans (hb13.mono (Nat.le_of_lt HP.out.size)))
    clear hyo hye hb2 hb3 hb13 HEN
    go_upto_region 14 with fail
    try rw [hW3]
    try rw [hG]
    clear hW3 hG
    cases ok with
    | false =>
     as_aux_lemma =>
     have HNO:Hid (opR s.data.toList=none):=hid (by
      rw [HOP.out,pa_bad HSG.out (Or.inl (by rw [HOO.out,HYE.out];rfl))];rfl)
     have HLO:Hid (Below N w W3):=hid (HB2.out.trans (HBEL3.out.mono (Nat.le_of_lt hNQ)))
     obtain ⟨z0,z1,f0,f1⟩:=two_facts HRES3.out
     obtain ⟨W4,hW4⟩:∃W4,(W3.setCell ⟨N,0,none⟩ (.bool false)).setCell ⟨N,1,none⟩ (.slice none 0 0)=W4:=⟨_,rfl⟩
     obtain ⟨g0,g1,hb4⟩:=no_out HN.out HRES3.out HLO.out W4 hW4
     have HBB4:=hid hb4
     clear hb4
     go_wp2_with fail
     try rw [hW4]
     exact bodyPost_ret (v:=.tuple #[.agg #[.bool false,.slice none 0 0],.int .i64 4]) (by simp [results,Tryz.results7,go_sem,g0,g1]) rfl (rq_none HNO.out HBB4.out)
    | true =>
     have HES:Hid (entryR (((bytesL us).drop f).take (i-f))=some y.en):=hid (by rw [HOO.out,HYE.out];rfl)
     have ho16:=HP.out.few
     have b73:Below W3.heap.size W3 (W3.alloc (.cells #[.int .i64 y.kind,.string y.temp,.string y.ka,.string y.kb,.int .i64 y.iff,.slice y.vp y.vo.length y.vc,.slice y.ep y.eo.length y.ec,.slice y.pp y.po.length y.pc,.int .u64 y.stamp,.int .i64 y.num] 42)):=(Below.refl _ _).alloc (Nat.le_refl _) _
     have HN7:Hid ((W3.alloc (.cells #[.int .i64 y.kind,.string y.temp,.string y.ka,.string y.kb,.int .i64 y.iff,.slice y.vp y.vo.length y.vc,.slice y.ep y.eo.length y.ec,.slice y.pp y.po.length y.pc,.int .u64 y.stamp,.int .i64 y.num] 42)).heap[W3.heap.size]? = some (.cells (KEx.enc y).toArray 42 (0,0))):=hid (heap_alloc_new W3 _)
     have hs3:Q+1≤W3.heap.size:=(Array.getElem?_eq_some_iff.1 HBOX3.out).1
     have HR7:Hid (RowSt KEx (Q+1) (W3.alloc (.cells #[.int .i64 y.kind,.string y.temp,.string y.ka,.string y.kb,.int .i64 y.iff,.slice y.vp y.vo.length y.vc,.slice y.ep y.eo.length y.ec,.slice y.pp y.po.length y.pc,.int .u64 y.stamp,.int .i64 y.num] 42)) (.slice p out.length c) out (W3.alloc (.cells #[.int .i64 y.kind,.string y.temp,.string y.ka,.string y.kb,.int .i64 y.iff,.slice y.vp y.vo.length y.vc,.slice y.ep y.eo.length y.ec,.slice y.pp y.po.length y.pc,.int .u64 y.stamp,.int .i64 y.num] 42))):=hid ⟨Kind.own_on (Kind.own_on HP.out.own HB13.out) b73,Below.refl _ _,Nat.le_trans hs3 b73.size⟩
     have HEA7:Hid (∀x∈out++[y],OwnQ (Q+1) x (W3.alloc (.cells #[.int .i64 y.kind,.string y.temp,.string y.ka,.string y.kb,.int .i64 y.iff,.slice y.vp y.vo.length y.vc,.slice y.ep y.eo.length y.ec,.slice y.pp y.po.length y.pc,.int .u64 y.stamp,.int .i64 y.num] 42))):=hid fun x hx=>by
      rcases List.mem_append.1 hx with h|h
      ·exact ((HP.out.each x h).on HB13.out).on b73
      ·rw [List.mem_singleton] at h
       subst h
       exact (((HYO.out rfl).weak HP.out.size).on HB3.out).on b73
     have HBOX7:Hid ((W3.alloc (.cells #[.int .i64 y.kind,.string y.temp,.string y.ka,.string y.kb,.int .i64 y.iff,.slice y.vp y.vo.length y.vc,.slice y.ep y.eo.length y.ec,.slice y.pp y.po.length y.pc,.int .u64 y.stamp,.int .i64 y.num] 42)).heap[Q]? = some (.cells #[.bool once,.slice p out.length c] 25 (0,0))):=hid ((b73.block _ (by omega)).trans HBOX3.out)
     have HBEL7:Hid (Below Q w1 (W3.alloc (.cells #[.int .i64 y.kind,.string y.temp,.string y.ka,.string y.kb,.int .i64 y.iff,.slice y.vp y.vo.length y.vc,.slice y.ep y.eo.length y.ec,.slice y.pp y.po.length y.pc,.int .u64 y.stamp,.int .i64 y.num] 42))):=hid (HBEL3.out.trans (b73.mono (by omega)))
     obtain ⟨-,b1,-,-⟩:=two_facts HBOX3.out
     obtain ⟨c0,c1,c2,c3,c4,c5,c6,c7,c8,c9⟩:W3.cell? ⟨G,0,none⟩=some (.int .i64 y.kind)∧W3.cell? ⟨G,1,none⟩=some (.string y.temp)∧W3.cell? ⟨G,2,none⟩=some (.string y.ka)∧W3.cell? ⟨G,3,none⟩=some (.string y.kb)∧W3.cell? ⟨G,4,none⟩=some (.int .i64 y.iff)∧W3.cell? ⟨G,5,none⟩=some (.slice y.vp y.vo.length y.vc)∧W3.cell? ⟨G,6,none⟩=some (.slice y.ep y.eo.length y.ec)∧W3.cell? ⟨G,7,none⟩=some (.slice y.pp y.po.length y.pc)∧W3.cell? ⟨G,8,none⟩=some (.int .u64 y.stamp)∧W3.cell? ⟨G,9,none⟩=some (.int .i64 y.num):=by
      refine ⟨?_,?_,?_,?_,?_,?_,?_,?_,?_,?_⟩<;>(rw [Lib.cell_of_heap HX3.out];rfl)
     clear b73 hs3
     go_upto_region 17 with (at_builtin;refine wpList_push KEx rfl _ _ 23 rfl i0 _ 152 Tryz.underlying23 HI.out hz0 hz1 hz2 rfl (Q+1) _ _ out rfl HR7.out y _ _ _ rfl rfl _ _ HN7.out (by unfold maxLen;omega) (by omega) ?_;intro g3 k3 w8 hst3 hg3 _;have hq8:=box2_kept HBOX7.out hg3 HR7.out.own (by decide);obtain ⟨q0,q1,q2,q3⟩:=two_facts hq8;have HQ8:=hid hq8;have HST8:=hid hst3;have HG8:=hid hg3;clear hst3 hg3 hq8)
     obtain ⟨W9,hW9⟩:∃W9,w8.setCell ⟨Q,1,none⟩ (.slice (some ⟨g3,0,none⟩) (out.length+1) k3)=W9:=⟨_,rfl⟩
     have hgs:w8.grownBy W9 (some Q):=by rw [←hW9];exact grown_set w8 Q 1 _
     have HBEL9:Hid (Below Q w1 W9):=hid (by
      rw [←hW9]
      exact (below_grown HBEL7.out HG8.out (fun k hk=>by have:=(World.ownsRow.lt (show World.ownsRow _ (Q+1) KEx.T KEx.k _ out.length (KEx.cells out) from HR7.out.own) k hk).1;omega) (by have:=HR7.out.base;omega)).setCell (p:=⟨Q,1,none⟩) (Nat.le_refl _) _)
     have HBX9:Hid (W9.heap[Q]? = some (.cells #[.bool once,.slice (some ⟨g3,0,none⟩) (out.length+1) k3] 25 (0,0))):=hid (by rw [←hW9];exact heap_setCell_same w8 Q 1 _ _ _ HQ8.out)
     have HRES9:=hid (HRS.out W9 HBEL9.out)
     have HNX:Hid ((out++[y]).length≤16→PaSt w1 N Q once (bytesL us) (i+1) (i+1) (out++[y]) (some ⟨g3,0,none⟩) k3 W9):=hid fun h16 =>
      pa_next HSG.out HES.out HRES9.out (by rw [List.length_append];exact HBX9.out) (by rw [List.length_append];exact Kind.own_farE HST8.out.own hgs (Nat.lt_succ_self _)) (fun x hx=>((HEA7.out x hx).grown HR7.out.own HG8.out).far hgs (Nat.lt_succ_self _)) HBEL9.out h16
     clear hgs
     try rw [hW9]
     clear hW9 b1 c0 c1 c2 c3 c4 c5 c6 c7 c8 c9 q0 q1 q2 q3
     obtain ⟨-,b1,-,-⟩:=two_facts HBX9.out
     by_cases h16:16<out.length+1
     ·have h16z:(16:Int)<(out.length:Int)+1:=by omega
      have HNO:Hid (opR s.data.toList=none):=hid (by rw [HOP.out,pa_bad HSG.out (Or.inr h16)];rfl)
      have HLO:Hid (Below N w W9):=hid (HB2.out.trans (HBEL9.out.mono (Nat.le_of_lt hNQ)))
      obtain ⟨z0,z1,f0,f1⟩:=two_facts HRES9.out
      obtain ⟨W4,hW4⟩:∃W4,(W9.setCell ⟨N,0,none⟩ (.bool false)).setCell ⟨N,1,none⟩ (.slice none 0 0)=W4:=⟨_,rfl⟩
      obtain ⟨g0,g1,hb4⟩:=no_out HN.out HRES9.out HLO.out W4 hW4
      have HBB4:=hid hb4
      clear hb4
      go_wp2_with fail
      try rw [hW4]
      exact bodyPost_ret (v:=.tuple #[.agg #[.bool false,.slice none 0 0],.int .i64 4]) (by simp [results,Tryz.results7,go_sem,g0,g1]) rfl (rq_none HNO.out HBB4.out)
     ·have h16z:¬ (16:Int)<(out.length:Int)+1:=by omega
      go_wp2_with fail
      go_roundg (us.length+1-(i+1))
      case measure=>omega
      exact ⟨i+1,i+1,out++[y],some ⟨g3,0,none⟩,k3,by go_num,by go_num,by omega,by omega,by omega,hid (HNX.out (by rw [List.length_append];simp only [List.length_cons,List.length_nil];omega))⟩
  ·have hiz:¬ (i:Int)≤(us.length:Int):=by omega
   have HPQ:Hid (RqIn wr (.slice p out.length c) out):=hid (own_rq HP.out.own HP.out.each (by have:=HP.out.few;omega))
   have HMY:=hid (rMay16_any once (.slice p out.length c) out wr HPQ.out)
   have HES:Hid (opR s.data.toList=if mayRq (out.map Ex.en)=true then some (once,out.map Ex.en) else none):=hid (by
    rw [HOP.out,pa_done HP.out (by omega)]
    unfold goodR
    rw [Option.bind_some]
    split<;>rfl)
   obtain ⟨b0,b1,-,-⟩:=two_facts HP.out.box
   obtain ⟨mb,hmb⟩:∃mb,mayRq (out.map Ex.en)=mb:=⟨_,rfl⟩
   rw [hmb] at HMY HES
   clear hmb
   go_wp2_with fail
   refine HMY.out.mono ?_
   rintro e w2 ⟨rfl,hb2⟩
   have HRES2:Hid (w2.heap[N]? = some (.cells #[.bool false,.slice none 0 0] 25 (0,0))):=hid ((hb2.block _ (Array.getElem?_eq_some_iff.1 HP.out.res).1).trans HP.out.res)
   have HBOX2:Hid (w2.heap[Q]? = some (.cells #[.bool once,.slice p out.length c] 25 (0,0))):=hid ((hb2.block _ (Array.getElem?_eq_some_iff.1 HP.out.box).1).trans HP.out.box)
   have HLO:Hid (Below N w w2):=hid (HB2.out.trans ((HP.out.bel.trans (hb2.mono (Nat.le_of_lt HP.out.size))).mono (Nat.le_of_lt hNQ)))
   have HOW2:=hid (Kind.own_on HP.out.own hb2)
   have HEA2:Hid (∀x∈out,OwnQ (Q+1) x w2):=hid fun x hx=>(HP.out.each x hx).on hb2
   clear hb2 b0 b1
   cases mb with
   | false =>
    as_aux_lemma =>
    have HNO:Hid (opR s.data.toList=none):=hid HES.out
    obtain ⟨z0,z1,f0,f1⟩:=two_facts HRES2.out
    obtain ⟨W4,hW4⟩:∃W4,(w2.setCell ⟨N,0,none⟩ (.bool false)).setCell ⟨N,1,none⟩ (.slice none 0 0)=W4:=⟨_,rfl⟩
    obtain ⟨g0,g1,hb4⟩:=no_out HN.out HRES2.out HLO.out W4 hW4
    have HBB4:=hid hb4
    clear hb4
    go_wp2_with fail
    try rw [hW4]
    exact bodyPost_ret (v:=.tuple #[.agg #[.bool false,.slice none 0 0],.int .i64 4]) (by simp [results,Tryz.results7,go_sem,g0,g1]) rfl (rq_none HNO.out HBB4.out)
   | true =>
    obtain ⟨b0,b1,-,-⟩:=two_facts HBOX2.out
    obtain ⟨z0,z1,f0,f1⟩:=two_facts HRES2.out
    obtain ⟨W4,hW4⟩:∃W4,(w2.setCell ⟨N,0,none⟩ (.bool once)).setCell ⟨N,1,none⟩ (.slice p out.length c)=W4:=⟨_,rfl⟩
    have h4:W4.heap[N]? = some (.cells #[.bool once,.slice p out.length c] 25 (0,0)):=by
     rw [←hW4]
     exact heap_setCell_same _ N 1 _ _ _ (heap_setCell_same _ N 0 _ _ _ HRES2.out)
    have hg1:w2.grownBy (w2.setCell ⟨N,0,none⟩ (.bool once)) (some N):=grown_set w2 N 0 _
    have hg2:(w2.setCell ⟨N,0,none⟩ (.bool once)).grownBy W4 (some N):=by rw [←hW4];exact grown_set _ N 1 _
    have HFIN:Hid (RqPost w s.data.toList (.returned (.tuple #[.agg #[.bool once,.slice p out.length c],.int .i64 0])) W4):=hid
     ⟨⟨once,.slice p out.length c,out,0,rfl,Kind.own_weak (Kind.own_farE (Kind.own_farE HOW2.out hg1 (by omega)) hg2 (by omega)) (by rw [HN.out];omega),fun x hx=>(((HEA2.out x hx).far hg1 (by omega)).far hg2 (by omega)).weak (by rw [HN.out];omega),.inl ⟨rfl,HES.out⟩⟩,by
      rw [←hW4,HN.out]
      exact (HLO.out.setCell (p:=⟨N,0,none⟩) (Nat.le_refl _) _).setCell (p:=⟨N,1,none⟩) (Nat.le_refl _) _⟩
    obtain ⟨g0,g1,-,-⟩:=two_facts h4
    clear h4 hg1 hg2
    go_wp2_with fail
    try rw [hW4]
    exact bodyPost_ret (v:=.tuple #[.agg #[.bool once,.slice p out.length c],.int .i64 0]) (by simp [results,Tryz.results7,go_sem,g0,g1]) rfl HFIN.out
end
section
open Go.RowKit Go.Lib
theorem opR_few {l:List UInt8} {o:Bool} {es:List En} (h:opR l=some (o,es)):es.length≤16:=by
 unfold opR opP at h
 cases ht:textsO (split3 (trimPrefix l onceB)) with
 | none=>rw [ht] at h;cases h
 | some x =>
  rw [ht,Option.bind_some] at h
  by_cases hx:x.length≤16
  ·rw [if_pos hx,Option.map_some] at h
   have:=congrArg Prod.snd (Option.some.inj h)
   have h2:x=es:=this
   rw [←h2];exact hx
  ·rw [if_neg hx] at h;cases h
theorem rq_few {l:List UInt8} {o:Bool} {d:List Ex} {c:Int} (h:(c=0∧opR l=some (o,d.map Ex.en))∨(c=4∧o=false∧d=[]∧opR l=none)):d.length≤16:=by
 rcases h with ⟨_,h⟩|⟨_,_,rfl,_⟩
 ·have:=opR_few h;rw [List.length_map] at this;exact this
 ·exact Nat.zero_le _
theorem rq_same {l:List UInt8} {o o':Bool} {d d':List Ex} {c c':Int} (h:(c=0∧opR l=some (o,d.map Ex.en))∨(c=4∧o=false∧d=[]∧opR l=none)) (h':(c'=0∧opR l=some (o',d'.map Ex.en))∨(c'=4∧o'=false∧d'=[]∧opR l=none)) :
  c=c'∧o=o'∧d.map Ex.en=d'.map Ex.en:=by
 rcases h with ⟨rfl,h⟩|⟨rfl,rfl,rfl,h⟩<;>rcases h' with ⟨rfl,h'⟩|⟨rfl,rfl,rfl,h'⟩<;>rw [h] at h'
 ·have:=Option.some.inj h'
  exact ⟨rfl,congrArg Prod.fst this,congrArg Prod.snd this⟩
 ·cases h'
 ·cases h'
 ·exact ⟨rfl,rfl,rfl⟩
set_option maxHeartbeats 8000000 in
set_option maxRecDepth 100000 in
theorem parses16_any (s:ByteArray) (w:World) (hv:OpVars w) (hs:s.size≤4294967000) (hrp:∀W,Calls Tryz.prog 7 #[.string s] W fun e w'=>RqPost W s.data.toList e w') :
  Calls Tryz.prog 3 #[.string s] w fun e w'=>e=.returned (.bool true)∧Below w.heap.size w w':=by
 have HV:=hid hv
 have HRP:=hid hrp
 have HFX:=hid (fixed16_any w hv)
 have HPA:Hid (∀W,Below w.heap.size w W→Calls Tryz.prog 6 #[.string s] W fun e w'=>RqPost W s.data.toList e w'):=hid fun W hW=>opparse_any s W (HV.out.on hW) hs
 clear hv hrp
 go_enter Tryz.func3,Tryz.ntmps3
 go_wp2_with fail
 refine HFX.out.mono ?_
 rintro e w1 ⟨rfl,hb1⟩
 have HB1:=hid hb1
 clear hb1 HFX
 go_wp2_with fail
 refine (HPA.out _ HB1.out).mono ?_
 rintro e w2 ⟨⟨o1,v1,d1,c1,rfl,ho1,hq1,hc1⟩,hb2⟩
 obtain ⟨p1,k1,rfl⟩:=Kind.own_shape ho1
 have HB2:=hid (HB1.out.trans (hb2.mono HB1.out.size))
 have HC1:=hid hc1
 have HR1:=hid (own_rq ho1 hq1 (by have:=rq_few hc1;omega))
 obtain ⟨W3,hW3⟩:∃W3,w2.alloc (.cells #[.bool o1,.slice p1 d1.length k1] 25)=W3:=⟨_,rfl⟩
 have hb3:Below w2.heap.size w2 W3:=by rw [←hW3];exact (Below.refl _ _).alloc (Nat.le_refl _) _
 have HX3:Hid (W3.heap[w2.heap.size]? = some (.cells #[.bool o1,.slice p1 d1.length k1] 25 (0,0))):=hid (by rw [←hW3];exact heap_alloc_new w2 _)
 have HB3:=hid (HB2.out.trans (hb3.mono HB2.out.size))
 have HR3:=hid (HR1.out.on hb3)
 clear ho1 hq1 hc1 hb2 hb3 HR1
 go_wp2_with fail
 try rw [hW3]
 clear hW3
 refine (HRP.out _).mono ?_
 rintro e w4 ⟨⟨o2,v2,d2,c2,rfl,ho2,hq2,hc2⟩,hb4⟩
 obtain ⟨p2,k2,rfl⟩:=Kind.own_shape ho2
 obtain ⟨rfl,rfl,hsm⟩:=rq_same HC1.out hc2
 have HSM:=hid hsm
 have HB4:=hid (HB3.out.trans (hb4.mono HB3.out.size))
 have HR2:=hid (own_rq ho2 hq2 (by have:=rq_few hc2;omega))
 have HR4:=hid (HR3.out.on hb4)
 obtain ⟨W5,hW5⟩:∃W5,w4.alloc (.cells #[.bool o1,.slice p2 d2.length k2] 25)=W5:=⟨_,rfl⟩
 have hb5:Below w4.heap.size w4 W5:=by rw [←hW5];exact (Below.refl _ _).alloc (Nat.le_refl _) _
 have HX4:Hid (w4.heap[w2.heap.size]? = some (.cells #[.bool o1,.slice p1 d1.length k1] 25 (0,0))):=hid ((hb4.block _ (Array.getElem?_eq_some_iff.1 HX3.out).1).trans HX3.out)
 have HX5:Hid (W5.heap[w2.heap.size]? = some (.cells #[.bool o1,.slice p1 d1.length k1] 25 (0,0))):=hid ((hb5.block _ (Array.getElem?_eq_some_iff.1 HX4.out).1).trans HX4.out)
 have HY5:Hid (W5.heap[w4.heap.size]? = some (.cells #[.bool o1,.slice p2 d2.length k2] 25 (0,0))):=hid (by rw [←hW5];exact heap_alloc_new w4 _)
 have HB5:=hid (HB4.out.trans (hb5.mono HB4.out.size))
 have HEQ:=hid (rEqual16_any o1 o1 (.slice p1 d1.length k1) (.slice p2 d2.length k2) d1 d2 W5 (HR4.out.on hb5) (HR2.out.on hb5))
 rw [decide_eq_true (⟨rfl,HSM.out⟩:o1=o1∧d1.map Ex.en=d2.map Ex.en)] at HEQ
 obtain ⟨l1,l2,_,_⟩:=two_facts HX5.out
 obtain ⟨m1,m2,_,_⟩:=two_facts HY5.out
 have hcc:(c1==c1)=true:=beq_self_eq_true c1
 clear ho2 hq2 hc2 hb4 hb5 hsm HC1
 go_wp2_with fail
 try rw [hW5]
 clear hW5
 go_wp2_with (go_at_call 8;refine HEQ.out.mono ?_;rintro e w6 ⟨rfl,hb6⟩;have HB6:=hid (HB5.out.trans (hb6.mono HB5.out.size));clear hb6)
 go_ret
 exact ⟨rfl,HB6.out⟩
end
section
open Go.ChangeShapes Go.WideShapes Go.ChangeAt Go.RowKit Go.Lib Go.Deep Go.Joins
theorem Tryz.own:ownKnob Tryz.prog.godebug=none:=by kernel_rfl
theorem Tryz.laidOut:laidOutB Tryz.prog=true:=by kernel_rfl
end
section
open Go.ChangeShapes Go.WideShapes Go.ChangeAt Go.RowKit Go.Lib Go.Deep
theorem Tryz.cellsByte:Tryz.prog.cellsOf 5=1:=by kernel_rfl
theorem gPlain:Tryz.prog.globalNamed "folio/value.plain" = some 3:=by kernel_rfl
theorem tPlain:(Tryz.prog.globals[3]?).map (·.type)=some 209:=by kernel_rfl
theorem uPair:Tryz.prog.underlying 208=some (.array 2 5):=by kernel_rfl
theorem cPair:Tryz.prog.cellsOf 208=2:=by kernel_rfl
theorem cPlain:Tryz.prog.cellsOf 209=26:=by kernel_rfl
def plainLits:List (Int × Int):=[(97,122),(65,90),(48,57),(45,45),(46,46),(95,95),(124,124),(42,42),(64,64),(47,47),(58,58),(43,43),(44,44)]
theorem plain_data:(Rows.laid_folio_value_plain:DataW Unit)=.agg (plainLits.map fun p=>.agg [.lit (.int .u8 p.1),.lit (.int .u8 p.2)]):=rfl
theorem one_byte_read {W:World} {f:Nat} {cs:List Value} {k:Int} {q:List MemPlace} (h:DataW.trod (fun _=>()) Tryz.prog W 0 (fun _=>true) false f 5 cs=some (.lit (.int .u8 k),q)):cs=[.int .u8 k]:=by
 obtain ⟨n,rfl,e,_⟩:=DataW.trod_int Tryz.underlying5 h
 cases e
 rfl
theorem pair_cells {W:World} {f:Nat} {cs:List Value} {a b:Int} {q:List MemPlace} (hl:cs.length=2) (h:DataW.trod (fun _=>()) Tryz.prog W 0 (fun _=>true) false f 208 cs=some (.agg [.lit (.int .u8 a),.lit (.int .u8 b)],q)):cs=[.int .u8 a,.int .u8 b]:=by
 match cs,hl with
 | [x,y],_ =>
  obtain ⟨f0,d0,q0,e0,h0⟩:=array_elem uPair h 0 (by decide)
  obtain ⟨f1,d1,q1,e1,h1⟩:=array_elem uPair h 1 (by decide)
  rw [Tryz.cellsByte] at h0 h1
  simp only [List.getElem?_cons_zero,List.getElem?_cons_succ,Option.some.injEq] at e0 e1
  subst e0 e1
  have k0:=one_byte_read h0
  have k1:=one_byte_read h1
  simp at k0 k1
  rw [k0,k1]
theorem list_pairs:∀(n:Nat) (cs:List Value) (ps:List (Int × Int)),cs.length=n * 2→ps.length=n→(∀i (h:i<ps.length),(cs.drop (i * 2)).take 2=[.int .u8 ps[i].1,.int .u8 ps[i].2])→cs=ps.flatMap fun p=>[.int .u8 p.1,.int .u8 p.2]
 | 0,cs,ps,hc,hp,_=>by
  rw [List.length_eq_zero_iff.1 (by omega:cs.length=0),List.length_eq_zero_iff.1 hp]
  rfl
 | n+1,cs,ps,hc,hp,h=>by
  match ps,hp,cs,hc with
  | _::_,_,[],hc=>simp at hc
  | _::_,_,[_],hc=>simp at hc;omega
  | p::ps,hp,x::y::cs,hc =>
   have h0:=h 0 (by simp)
   simp at h0
   have:=list_pairs n cs ps (by simp at hc;omega) (by simpa using hp) (fun i hi=>by
    have:=h (i+1) (by simp;omega)
    rw [show (i+1) * 2=i * 2+1+1 by omega] at this
    simpa using this)
   rw [List.flatMap_cons,←this,h0.1,h0.2]
   rfl
end
section
open Go.ChangeShapes Go.WideShapes Go.ChangeAt Go.RowKit Go.Lib
def seatLaid16:List (String × DataW Unit):=[("math/bits.deBruijn32tab",Rows.laid_math_bits_deBruijn32tab),("math/bits.deBruijn64tab",Rows.laid_math_bits_deBruijn64tab),("internal/strconv.uint64pow10",Rows.laid_internal_strconv_uint64pow10),("unicode/utf8.acceptRanges",Rows.laid_unicode_utf8_acceptRanges),("strconv.ErrRange",Rows.laid_strconv_ErrRange),("strconv.ErrSyntax",Rows.laid_strconv_ErrSyntax),("folio/value.plain",Rows.laid_folio_value_plain),("unicode/utf8.first",Rows.laid_unicode_utf8_first)]
theorem plain_of_laid16 {W:World} (h:laidMet Tryz.prog seatLaid16 W):PlainAt W:=by
 obtain ⟨g,t,cs,fuel,p,hg,ht,hv,hd⟩:=laidMet.reads h (n:= "folio/value.plain") (d:=Rows.laid_folio_value_plain) (.tail _ (.tail _ (.tail _ (.tail _ (.tail _ (.tail _ (.head _)))))))
 obtain rfl:=Option.some.inj (gPlain.symm.trans hg)
 obtain rfl:=Option.some.inj (tPlain.symm.trans ht)
 rw [plain_data] at hd
 obtain ⟨_,_,_,_,hlen,_,_⟩:=DataW.trod_array Tryz.underlying209 hd
 rw [cPlain] at hlen
 have hcs:=list_pairs 13 cs.toList plainLits (by simpa using hlen) rfl (fun i hi=>by
  have hi13:i<13:=hi
  obtain ⟨f,d,q,e,hx⟩:=array_elem Tryz.underlying209 hd i hi13
  rw [cPair] at hx
  rw [List.getElem?_map,List.getElem?_eq_getElem hi] at e
  simp only [Option.map_some,Option.some.injEq] at e
  subst e
  exact pair_cells (by rw [List.length_take,List.length_drop];rw [hlen];omega) hx)
 have hv':W.var? Tryz.prog "folio/value.plain" = some cs:=hv
 simp only [World.var?,hg,Option.bind_some] at hv'
 split at hv'
 ·rename_i c t' fr hh
  cases hv'
  refine ⟨t',fr,?_⟩
  rw [hh]
  have:cs=plainCells:=Array.toList_inj.1 (by rw [hcs];rfl)
  rw [this]
 ·cases hv'
theorem gPow:Tryz.prog.globalNamed "internal/strconv.uint64pow10" = some 4:=by kernel_rfl
theorem tPow:(Tryz.prog.globals[4]?).map (·.type)=some 211:=by kernel_rfl
theorem cPow:Tryz.prog.cellsOf 211=20:=by kernel_rfl
theorem cU64:Tryz.prog.cellsOf 40=1:=by kernel_rfl
theorem uPow:Tryz.prog.underlying 211=some (.array 20 40):=by kernel_rfl
theorem uU64:Tryz.prog.underlying 40=some (.int .u64):=by kernel_rfl
theorem pow_of_laid {W:World} (h:laidMet Tryz.prog seatLaid16 W):TabIs Tryz.prog W "internal/strconv.uint64pow10" .u64 pow10Tab :=
 tabIs_of_head gPow tPow uPow uU64 cU64 cPow (show laidMet Tryz.prog (("internal/strconv.uint64pow10",tabData .u64 pow10Tab)::_) W from h.tail.tail)
theorem gSyn:Tryz.prog.globalNamed "strconv.ErrSyntax" = some 5:=by kernel_rfl
theorem tSyn:(Tryz.prog.globals[5]?).map (·.type)=some 94:=by kernel_rfl
theorem gRan:Tryz.prog.globalNamed "strconv.ErrRange" = some 6:=by kernel_rfl
theorem tRan:(Tryz.prog.globals[6]?).map (·.type)=some 94:=by kernel_rfl
theorem cEs:Tryz.prog.cellsOf 240=1:=by kernel_rfl
theorem cSt:Tryz.prog.cellsOf 9=1:=by kernel_rfl
theorem starE : "*" ++ "errors.errorString" = "*errors.errorString":=by decide
theorem rowE (u:TypeId) (h:Tryz.prog.typeName? 3 u=some "*errors.errorString"):u=238 :=
 typeName_ptr_named (nm:= "errors.errorString") (by rw [starE];kernel_rfl) (by kernel_rfl) (by decide) u (by rw [starE];exact h)
theorem syn_of_laid {W:World} (h:laidMet Tryz.prog seatLaid16 W):ErrIn 5 W:=by
 obtain ⟨a,s,hv,_⟩:=laid_sentinel (h.tail.tail.tail.tail.tail) gSyn tSyn Tryz.underlying94 rowE Tryz.underlying238 Tryz.underlying240 rfl rfl Tryz.underlying9 cEs cSt
 exact ⟨_,by simpa using World.var?_cell gSyn hv 0,.inr ⟨_,_,rfl⟩⟩
theorem ran_of_laid {W:World} (h:laidMet Tryz.prog seatLaid16 W):ErrIn 6 W:=by
 obtain ⟨a,s,hv,_⟩:=laid_sentinel (h.tail.tail.tail.tail) gRan tRan Tryz.underlying94 rowE Tryz.underlying238 Tryz.underlying240 rfl rfl Tryz.underlying9 cEs cSt
 exact ⟨_,by simpa using World.var?_cell gRan hv 0,.inr ⟨_,_,rfl⟩⟩
end
section
open Go.ChangeShapes Go.WideShapes Go.ChangeAt Go.RowKit
theorem vars_of_laid16 {W:World} (h:laidMetH Tryz.prog seatLaid16 W) (hs:W.ShapedOpen Tryz.prog):OpVars W:=by
 rw [MakeChecks.laidMetH_plain _ _ _ (by kernel_rfl)] at h
 exact ⟨plain_of_laid16 h,cell_of_shapedOpen_int (zero:=#[.int .i64 0]) (t:=3) hs (of_decide_eq_true (by kernel_rfl)) (by kernel_rfl) rfl (by kernel_rfl) (by kernel_rfl) Tryz.underlying3,pow_of_laid h,syn_of_laid h,ran_of_laid h⟩
end
end Go.Proofs.YtjeogllmpjihaaaGreatDoor
