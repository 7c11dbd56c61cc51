import PyProof.Rows.All
import Wide.All
import OpenK.AllK
import Wide.FinOn
import PyFlatLaws
import PyProof.DictItems
import PyProof.P3Eq
import PyProof.Rows.IntRules
import PyProof.ListRange
import PyProof.CollectIter
import KE.KRevIter
import PyProof.EqLayable
import PyProof.EqAt
import PyProof.EqKinds
import PyProof.TupleCall
import KE.BitLaws
import Open.SpecLaws
import KE.OsHead
import KE.OsGo
import PySem.Challenge.RW_twobooks_s01_answers
set_option Elab.async false
set_option linter.all false
set_option maxRecDepth 100000
set_option maxHeartbeats 4000000
section
namespace Tb
open Vanbki
structure jB (d:Doc):Prop where
 nd:(numbers d).Nodup
 num:∀ c,c∈d->1<=c.number/\c.number<=99
 len:d.length<=12
 txt:∀ c,c∈d->c.text.length<=200/\∀ b,b∈c.text->b<=255
theorem Qw:jB []:=⟨by simp[numbers],by simp,by simp,by simp⟩
theorem kE {d:Doc}{n:Nat}{c:Cell} (h:find d n=some c):c∈d/\c.number=n:=by
 unfold find at h
 refine⟨List.mem_of_find?_eq_some h,?_⟩
 have:=List.find?_some h
 simpa using this
theorem find_none {d:Doc}{n:Nat}:find d n=none ↔ ∀ c,c∈d->c.number≠n:=by
 unfold find
 rw[List.find?_eq_none]
 simp
theorem has_iff {d:Doc}{n:Nat}:has d n=true ↔ n∈numbers d:=by
 unfold has numbers
 cases e:find d n with
 | none =>
  have:=find_none.mp e
  simp
  intro x hx
  exact this x hx
 | some c =>
  have:=kE e
  simp
  exact⟨c,this.1,this.2⟩
theorem has_false {d:Doc}{n:Nat}:has d n=false ↔ ¬n∈numbers d:=by
 rw[<-has_iff]
 cases has d n <;> simp
theorem wF:∀ {d:Doc}{c:Cell},(numbers d).Nodup->c∈d->find d c.number=some c
 | [],_,_,h=>by cases h
 | x::d,c,nd,h=>by
  unfold numbers at nd
  rw[List.map_cons,List.nodup_cons] at nd
  unfold find
  rw[List.find?_cons]
  by_cases e:x.number=c.number
  . rw[show (x.number == c.number)=true by simpa using e]
    rcases List.mem_cons.mp h with rfl | h
    . rfl
    . exfalso
      apply nd.1
      rw[e]
      exact List.mem_map.mpr ⟨c,h,rfl⟩
  . rw[show (x.number == c.number)=false by simpa using e]
    rcases List.mem_cons.mp h with rfl | h
    . exact absurd rfl e
    . exact wF (d:=d) nd.2 h
theorem jg (d:Doc):(numbers d).length=d.length:=by simp[numbers]
theorem ki (d:Doc) (n:Nat):numbers (dropped d n)=(numbers d).filter (fun m=>m != n):=by
 unfold numbers dropped
 rw[List.filter_map]
 rfl
theorem vk {d:Doc}{n:Nat}{f:Cell->Cell} (hf:∀ c,(f c).number=c.number):numbers (changed1 d n f)=numbers d:=by
 unfold numbers changed1
 rw[List.map_map]
 apply List.map_congr_left
 intro c _
 show (if c.number=n then f c else c).number=c.number
 split
 . exact hf c
 . rfl
def qe:Doc->Nat->Option Nat
 | [],_=>none
 | c::d,n=>if c.number=n then some 0 else (qe d n).map (·+1)
theorem placeOf_none:∀ {d:Doc}{n:Nat},qe d n=none ↔ find d n=none
 | [],n=>by simp[qe,find]
 | c::d,n=>by
  unfold qe
  by_cases e:c.number=n
  . rw[if_pos e]
    simp[find,e]
  . rw[if_neg e]
    have ih:=placeOf_none (d:=d) (n:=n)
    unfold find at ih ⊢
    rw[List.find?_cons,show (c.number == n)=false by simpa using e]
    simp[ih]
theorem xV:∀ {d:Doc}{n i:Nat},qe d n=some i->∃ c,d[i]?=some c/\c.number=n/\find d n=some c
 | [],_,_,h=>by simp[qe] at h
 | c::d,n,i,h=>by
  unfold qe at h
  by_cases e:c.number=n
  . rw[if_pos e] at h
    cases h
    exact⟨c,rfl,e,by simp[find,e]⟩
  . rw[if_neg e] at h
    cases k:qe d n with
    | none=>rw[k] at h;cases h
    | some j =>
     rw[k] at h
     cases h
     obtain⟨x,h1,h2,h3⟩:=xV k
     refine⟨x,by simpa using h1,h2,?_⟩
     unfold find at h3 ⊢
     rw[List.find?_cons,show (c.number == n)=false by simpa using e]
     exact h3
theorem XZ {d:Doc}{n i:Nat} (h:qe d n=some i):i<d.length:=by
 obtain⟨c,h1,_⟩:=xV h
 exact (List.getElem?_eq_some_iff.mp h1).1
theorem yB {c:Cell}{d:Doc} (nd:(numbers (c::d)).Nodup):¬c.number∈numbers d/\(numbers d).Nodup:=by
 unfold numbers at nd ⊢
 rw[List.map_cons,List.nodup_cons] at nd
 exact nd
theorem Zo:∀ {d:Doc}{a:Nat}{c:Cell},¬a∈numbers d->(d.flatMap fun x=>if x.number=a then [x,c] else [x])=d
 | [],_,_,_=>rfl
 | x::d,a,c,h=>by
  unfold numbers at h
  rw[List.map_cons,List.mem_cons,not_or] at h
  rw[List.flatMap_cons,if_neg (fun e=>h.1 e.symm),Zo h.2]
  rfl
theorem wp:∀ {d:Doc}{a i:Nat}{c:Cell},(numbers d).Nodup->qe d a=some i->(d.flatMap fun x=>if x.number=a then [x,c] else [x])=d.take (i+1)++c::d.drop (i+1)
 | [],_,_,_,_,h=>by simp[qe] at h
 | x::d,a,i,c,nd,h=>by
  obtain⟨n1,n2⟩:=yB nd
  unfold qe at h
  rw[List.flatMap_cons]
  by_cases e:x.number=a
  . rw[if_pos e] at h
    cases h
    rw[if_pos e,Zo (by rw[<-e];exact n1)]
    simp
  . rw[if_neg e] at h
    cases k:qe d a with
    | none=>rw[k] at h;cases h
    | some j =>
     rw[k] at h
     cases h
     rw[if_neg e,wp n2 k]
     simp
theorem Zp {d:Doc}{a i:Nat}{c:Cell} (nd:(numbers d).Nodup) (ha:a≠0) (h:qe d a=some i):putBehind d a c=d.take (i+1)++c::d.drop (i+1):=by
 unfold putBehind
 rw[if_neg ha]
 exact wp nd h
theorem wG {d:Doc}{c:Cell}:putBehind d 0 c=d.take 0++c::d.drop 0:=by
 unfold putBehind
 rw[if_pos rfl]
 rfl
def ins (d:Doc) (i:Nat) (c:Cell):Doc:=d.take i++c::d.drop i
theorem YV (d:Doc) (i:Nat) (c:Cell):(ins d i c).Perm (c::d):=by
 unfold ins
 have h1:(d.take i++c::d.drop i).Perm (c::(d.take i++d.drop i)):=List.perm_middle
 rw[List.take_append_drop] at h1
 exact h1
theorem Vl {d:Doc}{i:Nat}{c:Cell} (D:jB d) (h12:d.length<12) (hn:1<=c.number/\c.number<=99) (hf:¬c.number∈numbers d) (ht:c.text.length<=200/\∀ b,b∈c.text->b<=255):jB (ins d i c):=by
 have p:=YV d i c
 have pm:∀ x,x∈ins d i c->x=c∨x∈d:=fun x hx=>List.mem_cons.mp (p.mem_iff.mp hx)
 refine⟨?_,?_,?_,?_⟩
 . have q:(numbers (ins d i c)).Perm (numbers (c::d)):=p.map _
   rw[q.nodup_iff]
   unfold numbers
   rw[List.map_cons,List.nodup_cons]
   exact⟨hf,D.nd⟩
 . intro x hx
   rcases pm x hx with rfl | hx
   . exact hn
   . exact D.num x hx
 . rw[p.length_eq,List.length_cons]
   omega
 . intro x hx
   rcases pm x hx with rfl | hx
   . exact ht
   . exact D.txt x hx
theorem Uj {d e:Doc} (D:jB d) (h:e.Sublist d):jB e :=
 ⟨(h.map _).nodup D.nd,fun c hc=>D.num c (h.subset hc),Nat.le_trans h.length_le D.len,fun c hc=>D.txt c (h.subset hc)⟩
theorem xA {d:Doc} (D:jB d) (n:Nat):jB (dropped d n):=Uj D List.filter_sublist
theorem wH {d:Doc}{n:Nat}{f:Cell->Cell} (D:jB d) (hf:∀ c,(f c).number=c.number) (ht:∀ c,c∈d->(f c).text.length<=200/\∀ b,b∈(f c).text->b<=255):jB (changed1 d n f):=by
 have hm:∀ c,c∈changed1 d n f->∃ x,x∈d/\(c=x∨c=f x):=by
  intro c hc
  unfold changed1 at hc
  obtain⟨x,hx,e⟩:=List.mem_map.mp hc
  refine⟨x,hx,?_⟩
  split at e
  . exact .inr e.symm
  . exact .inl e.symm
 refine⟨by rw[vk hf];exact D.nd,?_,?_,?_⟩
 . intro c hc
   obtain⟨x,hx,rfl | rfl⟩:=hm c hc
   . exact D.num _ hx
   . rw[hf];exact D.num _ hx
 . unfold changed1
   rw[List.length_map]
   exact D.len
 . intro c hc
   obtain⟨x,hx,rfl | rfl⟩:=hm c hc
   . exact D.txt _ hx
   . exact ht _ hx
theorem uM:∀ {d:Doc}{n:Nat}{f:Cell->Cell},¬n∈numbers d->changed1 d n f=d
 | [],_,_,_=>rfl
 | x::d,n,f,h=>by
  unfold numbers at h
  rw[List.map_cons,List.mem_cons,not_or] at h
  have ih:=uM (d:=d) (f:=f) h.2
  unfold changed1 at ih ⊢
  rw[List.map_cons,if_neg (fun e=>h.1 e.symm),ih]
theorem yC:∀ {d:Doc}{n i:Nat}{f:Cell->Cell}{c:Cell},(numbers d).Nodup->qe d n=some i->d[i]?=some c->changed1 d n f=d.set i (f c)
 | [],_,_,_,_,_,h,_=>by simp[qe] at h
 | x::d,n,i,f,c,nd,h,hc=>by
  obtain⟨n1,n2⟩:=yB nd
  unfold qe at h
  by_cases e:x.number=n
  . rw[if_pos e] at h
    cases h
    have ex:x=c:=by simpa using hc
    subst ex
    have ih:=uM (d:=d) (f:=f) (n:=n) (by rw[<-e];exact n1)
    unfold changed1 at ih ⊢
    rw[List.map_cons,if_pos e,ih]
    rfl
  . rw[if_neg e] at h
    cases k:qe d n with
    | none=>rw[k] at h;cases h
    | some j =>
     rw[k] at h
     cases h
     have ih:=yC (f:=f) (c:=c) n2 k (by simpa using hc)
     unfold changed1 at ih ⊢
     rw[List.map_cons,if_neg e,ih]
     rfl
theorem VS {d:Doc}{n:Nat} (h:¬n∈numbers d):dropped d n=d:=by
 unfold dropped
 rw[List.filter_eq_self]
 intro c hc
 have:c.number≠n:=fun e=>h (by rw[<-e];exact List.mem_map.mpr ⟨c,hc,rfl⟩)
 simpa using this
theorem xB:∀ {d:Doc}{n i:Nat},(numbers d).Nodup->qe d n=some i->dropped d n=d.take i++d.drop (i+1)
 | [],_,_,_,h=>by simp[qe] at h
 | x::d,n,i,nd,h=>by
  obtain⟨n1,n2⟩:=yB nd
  unfold qe at h
  by_cases e:x.number=n
  . rw[if_pos e] at h
    cases h
    have ih:=VS (d:=d) (n:=n) (by rw[<-e];exact n1)
    unfold dropped at ih ⊢
    rw[List.filter_cons,if_neg (by simp[e]),ih]
    rfl
  . rw[if_neg e] at h
    cases k:qe d n with
    | none=>rw[k] at h;cases h
    | some j =>
     rw[k] at h
     cases h
     have ih:=xB n2 k
     unfold dropped at ih ⊢
     rw[List.filter_cons,if_pos (by simp[e]),ih]
     rfl
theorem X_ {d:Doc}{i j:Nat}{c:Cell} (nd:(numbers d).Nodup) (hc:d[i]?=some c) (hj:j<=d.length - 1):ins (d.take i++d.drop (i+1)) j c=d ↔ j=i:=by
 have hi:i<d.length:=(List.getElem?_eq_some_iff.mp hc).1
 have hl:(d.take i++d.drop (i+1)).length=d.length - 1:=by
  rw[List.length_append,List.length_take,List.length_drop]
  omega
 constructor
 . intro e
   have h1:(ins (d.take i++d.drop (i+1)) j c)[j]?=some c:=by
    unfold ins
    rw[List.getElem?_append_right (by rw[List.length_take];omega),List.length_take]
    rw[show j - min j (d.take i++d.drop (i+1)).length=0 by omega]
    rfl
   rw[e] at h1
   have h2:(numbers d)[j]?=(numbers d)[i]?:=by
    unfold numbers
    rw[List.getElem?_map,List.getElem?_map,h1,hc]
   have hj':j<(numbers d).length:=by rw[jg];exact (List.getElem?_eq_some_iff.mp h1).1
   exact (List.getElem?_inj hj' nd).mp h2
 . rintro rfl
   unfold ins
   have ht:(d.take j++d.drop (j+1)).take j=d.take j:=by
    rw[List.take_append_of_le_length (by rw[List.length_take];omega),List.take_take,Nat.min_self]
   have hd:(d.take j++d.drop (j+1)).drop j=d.drop (j+1):=by
    rw[List.drop_append_of_le_length (by rw[List.length_take];omega)]
    rw[List.drop_eq_nil_of_le (by rw[List.length_take];omega)]
    rfl
   rw[ht,hd]
   have:c::d.drop (j+1)=d.drop j:=by
    obtain⟨h1,h2⟩:=List.getElem?_eq_some_iff.mp hc
    rw[<-h2]
    exact (List.drop_eq_getElem_cons h1).symm
   rw[this,List.take_append_drop]
end Tb
end
section
namespace Tb
open Vanbki
theorem Zq:∀ (l:List Nat) (a:Nat),a<=l.foldl max a/\∀ x,x∈l->x<=l.foldl max a
 | [],a=>⟨Nat.le_refl _,by simp⟩
 | y::l,a=>by
  obtain⟨h1,h2⟩:=Zq l (max a y)
  rw[List.foldl_cons]
  refine⟨by omega,fun x hx=>?_⟩
  rcases List.mem_cons.mp hx with rfl | hx
  . omega
  . exact h2 x hx
theorem Zr:∀ (l:List Nat) (a b:Nat),a<=b->(∀ x,x∈l->x<=b)->l.foldl max a<=b
 | [],a,b,h,_=>h
 | y::l,a,b,h,k=>by
  rw[List.foldl_cons]
  exact Zr l _ b (by have:=k y (List.mem_cons_self ..);omega) fun x hx=>k x (List.mem_cons_of_mem _ hx)
theorem vK {l:List Nat}{x:Nat} (h:x∈l):x<=greatest l:=(Zq l 0).2 x h
theorem wI {l:List Nat}{b:Nat} (h:∀ x,x∈l->x<=b):greatest l<=b:=Zr l 0 b (Nat.zero_le _) h
structure qu (s:State):Prop where
 b:jB s.base
 l:jB s.left
 r:jB s.right
 ll:∀ n,n∈numbers s.left->n<s.nextLeft
 lb:∀ n,n∈numbers s.base->n<s.nextLeft
 rr:∀ n,n∈numbers s.right->n<s.nextRight
 rb:∀ n,n∈numbers s.base->n<s.nextRight
 l1:1<=s.nextLeft/\s.nextLeft<=100
 r1:1<=s.nextRight/\s.nextRight<=100
 c1:∀ x,x∈s.choices->x.1∈conflicts s/\1<=x.2/\x.2<=3
 c2:(s.choices.map fun x=>x.1).Nodup
theorem W0:qu start:=⟨Qw,Qw,Qw,by simp[start,numbers],by simp[start,numbers],by simp[start,numbers],by simp[start,numbers],by simp[start],by simp[start],by simp[start],by simp[start]⟩
theorem Qx {d:Doc} (D:jB d) {n:Nat} (h:n∈numbers d):1<=n/\n<=99:=by
 unfold numbers at h
 obtain⟨c,hc,rfl⟩:=List.mem_map.mp h
 exact D.num c hc
theorem YW {d:Doc}{k:Nat} (D:jB d) (h:∀ n,n∈numbers d->n<k) (hk:1<=k/\k<=100):qu { base:=d,left:=d,right:=d,nextLeft:=k,nextRight:=k } :=
 ⟨D,D,D,h,h,h,h,hk,hk,by simp,by simp⟩
theorem VT {s:State}{side:Int}{d:Doc}{k:Nat} (S:qu s) (D:jB d) (h1:∀ n,n∈numbers d->n<k) (h2:∀ n,n∈numbers s.base->n<k) (hk:1<=k/\k<=100):qu (setSide s side d k):=by
 unfold setSide
 split
 . exact⟨S.b,D,S.r,h1,h2,S.rr,S.rb,hk,S.r1,by simp,by simp⟩
 . exact⟨S.b,S.l,D,S.ll,S.lb,h1,h2,S.l1,hk,by simp,by simp⟩
theorem qa {s:State} (S:qu s) (side:Int):jB (sideDoc s side):=by
 unfold sideDoc
 split
 . exact S.l
 . exact S.r
theorem jk {s:State} (S:qu s) (side:Int):(∀ n,n∈numbers (sideDoc s side)->n<sideNext s side)/\(∀ n,n∈numbers s.base->n<sideNext s side)/\1<=sideNext s side/\sideNext s side<=100:=by
 unfold sideDoc sideNext
 split
 . exact⟨S.ll,S.lb,S.l1⟩
 . exact⟨S.rr,S.rb,S.r1⟩
theorem Qy {t:List Int} (hb:bytes t=true) (hl:tooLong t=false):(textOf t).length<=200/\∀ b,b∈textOf t->b<=255:=by
 unfold tooLong LONG at hl
 unfold bytes at hb
 refine⟨?_,?_⟩
 . unfold textOf
   rw[List.length_map]
   simp at hl
   exact hl
 . intro b h
   unfold textOf at h
   obtain⟨c,hc,rfl⟩:=List.mem_map.mp h
   have:=List.all_eq_true.mp hb c hc
   simp at this
   omega
theorem xW {l:List (Bool × Int)} (h:first l=none):∀ x,x∈l->x.1=false:=by
 induction l with
 | nil=>intro x hx;cases hx
 | cons y l ih =>
  obtain⟨c,n⟩:=y
  unfold first at h
  cases c with
  | true=>simp at h
  | false =>
   simp at h
   intro x hx
   rcases List.mem_cons.mp hx with rfl | hx
   . rfl
   . exact ih h x hx
theorem Qz {d:Doc}{n:Int} (h:hasI d n=true):0<=n/\n.toNat∈numbers d:=by
 unfold hasI at h
 simp at h
 exact⟨h.1,has_iff.mp h.2⟩
theorem vL {d:Doc}{n:Nat} (h:n∈numbers d):∃ c,find d n=some c:=by
 cases e:find d n with
 | some c=>exact⟨c,rfl⟩
 | none =>
  exfalso
  obtain⟨c,hc,e2⟩:=List.mem_map.mp h
  exact find_none.mp e c hc e2
theorem JS {d:Doc}{n:Nat} (h:n∈numbers d):∃ i,qe d n=some i:=by
 cases e:qe d n with
 | some i=>exact⟨i,rfl⟩
 | none =>
  obtain⟨c,hc⟩:=vL h
  rw[placeOf_none.mp e] at hc
  cases hc
theorem uN {d:Doc}{a:Nat} (c:Cell) (nd:(numbers d).Nodup) (h:a=0∨a∈numbers d):∃ i,i<=d.length/\putBehind d a c=ins d i c:=by
 by_cases e:a=0
 . subst e
   exact⟨0,Nat.zero_le _,wG⟩
 . obtain⟨i,hi⟩:=JS (h.resolve_left e)
   exact⟨i+1,XZ hi,Zp nd e hi⟩
theorem mem_numbers_ins {d:Doc}{i:Nat}{c:Cell}{n:Nat}:n∈numbers (ins d i c) ↔ n=c.number∨n∈numbers d:=by
 have q:(numbers (ins d i c)).Perm (numbers (c::d)):=(YV d i c).map _
 rw[q.mem_iff]
 unfold numbers
 rw[List.map_cons,List.mem_cons]
theorem YX {d:Doc}{n a:Nat}{c:Cell} (D:jB d) (hf:find d n=some c) (ha:a=0∨(a∈numbers d/\a≠n)):jB (putBehind (dropped d n) a c)/\numbers (putBehind (dropped d n) a c) ⊆ numbers d:=by
 obtain⟨hc,en⟩:=kE hf
 obtain⟨i,_,ei⟩:=uN (d:=dropped d n) (a:=a) c (xA D n).nd (by
  rcases ha with h | ⟨h1,h2⟩
  . exact .inl h
  . right
    rw[ki]
    exact List.mem_filter.mpr ⟨h1,by simpa using h2⟩)
 rw[ei]
 have hlt:(dropped d n).length<d.length:=by
  unfold dropped
  rw[List.length_filter_lt_length_iff_exists]
  exact⟨c,hc,by simp[en]⟩
 refine⟨Vl (xA D n) (by have:=D.len;omega) (D.num c hc) ?_ (D.txt c hc),?_⟩
 . rw[ki]
   intro h
   have:=(List.mem_filter.mp h).2
   simp[en] at this
 . intro m hm
   rcases mem_numbers_ins.mp hm with rfl | h
   . exact List.mem_map.mpr ⟨c,hc,rfl⟩
   . rw[ki] at h
     exact (List.mem_filter.mp h).1
theorem vm {s:State}{side:Int}{own:List (Bool × Int)}{d:Doc}{k:Nat}{an:Int} (S:qu s) (h:first ((noSide side,-8)::own)=none->jB d/\(∀ n,n∈numbers d->n<k)/\(∀ n,n∈numbers s.base->n<k)/\1<=k/\k<=100):qu (edit s side own d k an).1:=by
 unfold edit
 split
 . exact S
 . rename_i e
   obtain⟨h1,h2,h3,h4⟩:=h e
   exact VT S h1 h2 h3 h4
theorem KP {s:State} (S:qu s) (c:Call):qu (sideEdit s c).1:=by
 unfold sideEdit
 split
 ·
  rename_i side a t
  refine vm S fun e=>?_
  have f:=xW e
  simp only[List.mem_cons,forall_eq_or_imp] at f
  obtain⟨_,fa,fb,fl,f12,fk,_⟩:=f
  obtain⟨n1,n2,n3,n4⟩:=jk S side
  have D:=qa S side
  have ha:a.toNat=0∨a.toNat∈numbers (sideDoc s side):=by
   simp only[Bool.not_eq_eq_eq_not,Bool.not_false,Bool.or_eq_true] at fa
   rcases fa with h | h
   . left
     have:a=0:=by simpa using h
     rw[this]
     rfl
   . exact .inr (Qz h).2
  obtain⟨i,_,ei⟩:=uN (Cell.mk (sideNext s side) false (textOf t)) D.nd ha
  have hk:sideNext s side<=99:=by simpa using fk
  rw[ei]
  refine⟨Vl D (by have:=of_decide_eq_false f12;unfold CELLS at this;omega) ⟨n3,hk⟩ (fun h=>Nat.lt_irrefl _ (n1 _ h)) (Qy (by simpa using fb) fl),?_,fun n hn=>Nat.lt_succ_of_lt (n2 n hn),by omega,by omega⟩
  intro n hn
  rcases mem_numbers_ins.mp hn with rfl | h
  . exact Nat.lt_succ_self _
  . exact Nat.lt_succ_of_lt (n1 n h)
 ·
  rename_i side n t
  refine vm S fun e=>?_
  have f:=xW e
  simp only[List.mem_cons,forall_eq_or_imp] at f
  obtain⟨_,_,fb,fl,_⟩:=f
  obtain⟨n1,n2,n3⟩:=jk S side
  have ht:=Qy (by simpa using fb) fl
  refine⟨wH (qa S side) (fun _=>rfl) (fun _ _=>ht),?_,n2,n3⟩
  have q:=vk (d:=sideDoc s side) (n:=n.toNat) (f:=fun c=>{ c with text:=textOf t }) (fun _=>rfl)
  rw[q]
  exact n1
 ·
  rename_i side n a
  refine vm S fun e=>?_
  have f:=xW e
  simp only[List.mem_cons,forall_eq_or_imp] at f
  obtain⟨_,f1,f2,f3,_⟩:=f
  obtain⟨n1,n2,n3⟩:=jk S side
  have D:=qa S side
  have hn:=Qz (by simpa using f1)
  obtain⟨c,hc⟩:=vL hn.2
  simp only[hc]
  have ha:a.toNat=0∨(a.toNat∈numbers (sideDoc s side)/\a.toNat≠n.toNat):=by
   rw[Bool.or_eq_false_iff] at f2
   obtain⟨g1,g2⟩:=f2
   simp only[Bool.not_eq_eq_eq_not,Bool.not_false,Bool.or_eq_true] at g1
   rcases g1 with h | h
   . left
     have:a=0:=by simpa using h
     rw[this]
     rfl
   . have:=Qz h
     refine .inr ⟨this.2,fun q=>?_⟩
     have:a≠n:=by simpa using g2
     omega
  obtain⟨m1,m2⟩:=YX D hc ha
  exact⟨m1,fun m hm=>n1 m (m2 hm),n2,n3⟩
 ·
  rename_i side n
  refine vm S fun e=>?_
  obtain⟨n1,n2,n3⟩:=jk S side
  refine⟨xA (qa S side) _,?_,n2,n3⟩
  intro m hm
  rw[ki] at hm
  exact n1 m (List.mem_filter.mp hm).1
 ·
  rename_i side n m
  refine vm S fun e=>?_
  obtain⟨n1,n2,n3⟩:=jk S side
  refine⟨wH (qa S side) (fun _=>rfl) (fun c hc=>(qa S side).txt c hc),?_,n2,n3⟩
  have q:=vk (d:=sideDoc s side) (n:=n.toNat) (f:=fun c=>{ c with hidden:=m == 1 }) (fun _=>rfl)
  rw[q]
  exact n1
 ·
  rename_i side
  exact vm S fun e=>⟨qa S _,(jk S _).1,(jk S _).2.1,(jk S _).2.2⟩
 ·
  rename_i side
  refine vm S fun e=>⟨S.b,fun n hn=>Nat.lt_succ_of_le (vK hn),fun n hn=>Nat.lt_succ_of_le (vK hn),by omega,?_⟩
  have:=wI (l:=numbers s.base) (b:=99) fun n hn=>(Qx S.b hn).2
  omega
 . exact S
end Tb
end
section
namespace Tb
open Vanbki
def uO (t:Text):Prop:=t.length<=200/\∀ b,b∈t->b<=255
def vn (ls:List Text):Prop:=∀ l,l∈ls->∀ b,b∈l->b<=255
theorem ur:∀ {t:Text},(∀ b,b∈t->b<=255)->vn (linesOf t)
 | [],_=>by
  intro l hl
  unfold linesOf at hl
  simp at hl
  subst hl
  simp
 | c::r,h=>by
  have ih:=ur (t:=r) fun b hb=>h b (List.mem_cons_of_mem _ hb)
  unfold linesOf
  split
  . intro l hl
    rcases List.mem_cons.mp hl with rfl | hl
    . simp
    . exact ih l hl
  . split
    . rename_i l m e
      rw[e] at ih
      intro l' hl
      rcases List.mem_cons.mp hl with rfl | hl
      . intro b hb
        rcases List.mem_cons.mp hb with rfl | hb
        . exact h _ (List.mem_cons_self ..)
        . exact ih l (List.mem_cons_self ..) b hb
      . exact ih l' (List.mem_cons_of_mem _ hl)
    . intro l hl b hb
      simp at hl
      subst hl
      simp at hb
      subst hb
      exact h _ (List.mem_cons_self ..)
theorem QA:∀ {ls:List Text},vn ls->∀ b,b∈unlines ls->b<=255
 | [],_,b,hb=>by simp[unlines] at hb
 | [l],h,b,hb=>h l (List.mem_cons_self ..) b hb
 | l::x::m,h,b,hb=>by
  unfold unlines at hb
  rcases List.mem_append.mp hb with hb | hb
  . exact h l (List.mem_cons_self ..) b hb
  . rcases List.mem_cons.mp hb with rfl | hb
    . decide
    . exact QA (ls:=x::m) (fun l' hl'=>h l' (List.mem_cons_of_mem _ hl')) b hb
theorem vB {a b:List Text} (ha:vn a) (hb:vn b):vn (a++b):=fun l hl=>by
 rcases List.mem_append.mp hl with h | h
 . exact ha l h
 . exact hb l h
theorem xX {a b:List Text} (h:vn b) (s:a ⊆ b):vn a:=fun l hl=>h l (s hl)
theorem YY {b x:List Text} (hx:vn x):vn (changeOf b x).new :=
 xX hx fun _ h=>List.mem_of_mem_drop (List.mem_of_mem_take h)
theorem aao {b:List Text}{f g:Change} (hb:vn b) (hf:vn f.new) (hg:vn g.new):vn (both b f g) :=
 vB (vB (vB (vB (xX hb fun _ h=>List.mem_of_mem_take h) hf) (xX hb fun _ h=>List.mem_of_mem_drop (List.mem_of_mem_take h))) hg) (xX hb fun _ h=>List.mem_of_mem_drop h)
theorem Zs {t u:Text} (h:ifShort t=some u):t=u/\u.length<=200:=by
 unfold ifShort LONG at h
 split at h
 . cases h
   exact⟨rfl,by assumption⟩
 . cases h
theorem KQ {b l r t:Text} (hb:uO b) (hl:uO l) (hr:uO r) (h:mergedText b l r=some t):uO t:=by
 unfold mergedText at h
 have B1:=ur hb.2
 have B2:=YY (b:=linesOf b) (ur hl.2)
 have B3:=YY (b:=linesOf b) (ur hr.2)
 split at h
 . cases h;exact hr
 . split at h
   . cases h;exact hl
   . split at h
     . cases h;exact hl
     . simp only at h
       split at h
       . obtain⟨e,k⟩:=Zs h
         subst e
         exact⟨k,QA (aao B1 B2 B3)⟩
       . split at h
         . obtain⟨e,k⟩:=Zs h
           subst e
           exact⟨k,QA (aao B1 B3 B2)⟩
         . cases h
theorem vM:∀ (a b:List Text),inCommon a b<=a.length/\inCommon a b<=b.length
 | [],_=>by simp[inCommon]
 | _::_,[]=>by simp[inCommon]
 | x::r,y::s=>by
  have:=vM r s
  unfold inCommon
  split
  . simp only[List.length_cons]
    omega
  . simp
theorem ut (b x:List Text):(changeOf b x).p<=(changeOf b x).q/\(changeOf b x).q<=b.length:=by
 have:=vM b x
 unfold changeOf
 simp only
 omega
theorem vN {b l r:Text} (h:mergedText b l r=none):mergedText b r l=none:=by
 unfold mergedText at h ⊢
 by_cases e1:l=b
 . rw[if_pos e1] at h;cases h
 by_cases e2:r=b
 . rw[if_neg e1,if_pos e2] at h;cases h
 by_cases e3:l=r
 . rw[if_neg e1,if_neg e2,if_pos e3] at h;cases h
 rw[if_neg e1,if_neg e2,if_neg e3] at h
 rw[if_neg e2,if_neg e1,if_neg (fun e=>e3 e.symm)]
 have q1:=ut (linesOf b) (linesOf l)
 have q2:=ut (linesOf b) (linesOf r)
 simp only at h ⊢
 by_cases k1:(changeOf (linesOf b) (linesOf l)).q<(changeOf (linesOf b) (linesOf r)).p
 . rw[if_pos k1] at h
   rw[if_neg (by omega),if_pos k1]
   exact h
 . rw[if_neg k1] at h
   by_cases k2:(changeOf (linesOf b) (linesOf r)).q<(changeOf (linesOf b) (linesOf l)).p
   . rw[if_pos k2] at h
     rw[if_pos k2]
     exact h
   . rw[if_neg k2,if_neg k1]
theorem xY (b l r:Text):(mergedText b l r).isNone=(mergedText b r l).isNone:=by
 cases e:mergedText b l r with
 | none=>rw[vN e]
 | some t =>
  cases e2:mergedText b r l with
  | none=>rw[vN e2] at e;cases e
  | some u=>rfl
def Zt (k:Nat):Nat:=if k=2 then 3 else if k=3 then 2 else k
def uu (c:Nat):Nat:=if c=1 then 2 else if c=2 then 1 else c
theorem JT (s:State):swapped s={ base:=s.base,left:=s.right,right:=s.left,nextLeft:=s.nextRight,nextRight:=s.nextLeft,choices:=s.choices.map fun x=>((Zt x.1.1,x.1.2),uu x.2) }:=rfl
theorem Uk {a b:Nat} (h:Zt a=Zt b):a=b:=by
 unfold Zt at h
 split at h <;> split at h <;> (try split at h) <;> (try split at h) <;> omega
theorem wJ (s:State):common (swapped s)=common s:=by
 unfold common swapped
 simp only
 congr 1
 funext n
 exact Bool.and_comm _ _
theorem Jh (s:State) (d:Doc):orderIn (swapped s) d=orderIn s d:=by
 unfold orderIn
 rw[wJ]
theorem uE (s:State):(mergedOrder (swapped s)).isNone=(mergedOrder s).isNone:=by
 unfold mergedOrder
 simp only[wJ,Jh]
 show Option.isNone (if orderIn s s.right=common s then some (orderIn s s.left) else if orderIn s s.left=common s then some (orderIn s s.right) else if orderIn s s.right=orderIn s s.left then some (orderIn s s.right) else none)=_
 generalize orderIn s s.left=l
 generalize orderIn s s.right=r
 generalize common s=o
 by_cases e1:l=o
 . by_cases e2:r=o
   . simp[e1,e2]
   . simp[e1,e2]
 . by_cases e2:r=o
   . simp[e1,e2]
   . by_cases e3:l=r
     . subst e3
       simp[e1]
     . have e4:¬r=l:=fun e=>e3 e.symm
       simp[e1,e2,e3,e4]
theorem Z2 (s:State) (c:Cell):conflictAt (swapped s) c=(conflictAt s c).map Zt:=by
 unfold conflictAt
 show (match find s.right c.number,find s.left c.number with
  | some l,some r=>if (mergedText c.text l.text r.text).isNone=true then some 1 else none
  | none,some r=>if sameCell c r=true then none else some 2
  | some l,none=>if sameCell c l=true then none else some 3
  | none,none=>none)=_
 cases find s.left c.number with
 | none =>
  cases find s.right c.number with
  | none=>rfl
  | some r =>
   simp only
   split <;> rfl
 | some l =>
  cases find s.right c.number with
  | none =>
   simp only
   split <;> rfl
  | some r =>
   simp only
   rw[xY c.text r.text l.text]
   split <;> rfl
theorem Zu (s:State):conflicts (swapped s)=(conflicts s).map fun x=>(Zt x.1,x.2):=by
 unfold conflicts
 rw[uE,List.map_append]
 congr 1
 . rw[List.map_filterMap]
   show (s.base.filterMap fun c=>(conflictAt (swapped s) c).map fun k=>(k,c.number))=_
   congr 1
   funext c
   rw[Z2]
   cases conflictAt s c <;> rfl
 . split <;> rfl
theorem VU {s:State} (S:qu s):qu (swapped s):=by
 refine⟨S.b,S.r,S.l,S.rr,S.rb,S.ll,S.lb,S.r1,S.l1,?_,?_⟩
 . intro x hx
   rw[JT] at hx
   obtain⟨y,hy,rfl⟩:=List.mem_map.mp hx
   obtain⟨h1,h2,h3⟩:=S.c1 y hy
   rw[Zu]
   refine⟨List.mem_map.mpr ⟨y.1,h1,rfl⟩,?_⟩
   show 1<=uu y.2/\uu y.2<=3
   unfold uu
   split
   . omega
   . split <;> omega
 . rw[JT]
   show ((s.choices.map fun x=>((Zt x.1.1,x.1.2),uu x.2)).map fun x=>x.1).Nodup
   rw[List.map_map]
   have e:((fun x:(Nat × Nat) × Nat=>x.1) ∘ fun x:(Nat × Nat) × Nat=>((Zt x.1.1,x.1.2),uu x.2))=(fun y:Nat × Nat=>(Zt y.1,y.2)) ∘ fun x:(Nat × Nat) × Nat=>x.1:=rfl
   rw[e,<-List.map_map]
   have:=S.c2
   generalize (s.choices.map fun x=>x.1)=L at this ⊢
   unfold List.Nodup at this ⊢
   rw[List.pairwise_map]
   refine this.imp fun {a b} h q=>h ?_
   have q1:=Uk (Prod.mk.inj q).1
   have q2:=(Prod.mk.inj q).2
   exact Prod.ext q1 q2
end Tb
end
section
namespace Tb
open Vanbki
theorem common_mem {s:State}{n:Nat}:n∈common s ↔ n∈numbers s.base/\n∈numbers s.left/\n∈numbers s.right:=by
 unfold common
 rw[List.mem_filter,Bool.and_eq_true,has_iff,has_iff]
theorem VW {s:State} (S:qu s):(common s).Nodup:=(List.filter_sublist).nodup S.b.nd
theorem orderIn_mem {s:State}{d:Doc}{n:Nat}:n∈orderIn s d ↔ n∈numbers d/\n∈common s:=by
 unfold orderIn
 rw[List.mem_filter,List.contains_iff_mem]
def kJ (s:State):Option (List Nat):=match mergedOrder s with
 | some o=>some o
 | none=>chosen (choiceOf s 4 0) (orderIn s s.left) (orderIn s s.right) (common s)
theorem JU {s:State}{o:List Nat} (h:kJ s=some o):o=orderIn s s.left∨o=orderIn s s.right∨o=common s:=by
 unfold kJ at h
 split at h
 . rename_i o' e
   cases h
   unfold mergedOrder at e
   simp only at e
   split at e
   . cases e;exact .inr (.inl rfl)
   . split at e
     . cases e;exact .inl rfl
     . split at e
       . cases e;exact .inl rfl
       . cases e
 . unfold chosen at h
   split at h
   . cases h;exact .inl rfl
   . cases h;exact .inr (.inl rfl)
   . cases h;exact .inr (.inr rfl)
   . cases h
theorem QY {s:State}{o:List Nat} (S:qu s) (h:kJ s=some o):o.Nodup/\∀ n,n∈o->n∈common s:=by
 rcases JU h with rfl | rfl | rfl
 . exact⟨List.filter_sublist.nodup S.l.nd,fun n hn=>(orderIn_mem.mp hn).2⟩
 . exact⟨List.filter_sublist.nodup S.r.nd,fun n hn=>(orderIn_mem.mp hn).2⟩
 . exact⟨VW S,fun n hn=>hn⟩
abbrev qW (s:State):List (Nat × Item):=behind (looseLeft s) (common s) 0 s.left
abbrev j4 (s:State):List (Nat × Item):=behind (looseRight s) (common s) 0 s.right
theorem Z3 {s:State}{it:List Item} (h:items s=some it):open_ s=0/\∃ o,kJ s=some o/\it=gap (at_ (qW s) 0) (at_ (j4 s) 0)++o.flatMap fun n=>(commonItem s n).toList++gap (at_ (qW s) n) (at_ (j4 s) n):=by
 unfold items at h
 split at h
 . cases h
 . rename_i h0
   refine⟨by omega,?_⟩
   have e:(kJ s).map (fun o=>gap (at_ (qW s) 0) (at_ (j4 s) 0)++o.flatMap fun n=>(commonItem s n).toList++gap (at_ (qW s) n) (at_ (j4 s) n))=some it:=h
   cases k:kJ s with
   | none=>rw[k] at e;cases e
   | some o=>rw[k] at e;cases e;exact⟨o,rfl,rfl⟩
theorem kx {loose:Cell->Option Item}{co:List Nat}:∀ {d:Doc}{a:Nat}{x:Nat × Item},x∈behind loose co a d->∃ c,c∈d/\loose c=some x.2/\¬c.number∈co
 | [],_,_,h=>by simp[behind] at h
 | c::d,a,x,h=>by
  unfold behind at h
  split at h
  . obtain⟨y,h1,h2⟩:=kx h
    exact⟨y,List.mem_cons_of_mem _ h1,h2⟩
  . rename_i hc
    split at h
    . rename_i i e
      rcases List.mem_cons.mp h with rfl | h
      . exact⟨c,List.mem_cons_self ..,e,fun q=>hc (List.contains_iff_mem.mpr q)⟩
      . obtain⟨y,h1,h2⟩:=kx h
        exact⟨y,List.mem_cons_of_mem _ h1,h2⟩
    . obtain⟨y,h1,h2⟩:=kx h
      exact⟨y,List.mem_cons_of_mem _ h1,h2⟩
theorem VX {L:List (Nat × Item)}{a:Nat}{i:Item} (h:i∈at_ L a):(a,i)∈L:=by
 unfold at_ at h
 obtain⟨x,hx,rfl⟩:=List.mem_map.mp h
 obtain⟨h1,h2⟩:=List.mem_filter.mp hx
 have:x.1=a:=by simpa using h2
 rw[<-this]
 exact h1
theorem Zv {s:State}{k m:Nat}{c x y:Cell} (h:keptAs s k m c x=some y):y=x∨y=c:=by
 unfold keptAs at h
 split at h
 . cases h
 . simp only at h
   split at h
   . cases h;exact .inl rfl
   . split at h
     . cases h;exact .inr rfl
     . cases h
theorem yE {s:State}{x:Cell}{i:Item} (h:looseLeft s x=some i):i.onLeft=x.number/\i.onRight=0 /\
 ((i.own=0/\¬x.number∈numbers s.base/\i.text=x.text)∨(i.own=x.number/\¬x.number∈numbers s.right/\∃ c,find s.base x.number=some c/\(i.text=x.text∨i.text=c.text))):=by
 unfold looseLeft at h
 split at h
 . rename_i e
   cases h
   refine⟨rfl,rfl,.inl ⟨rfl,?_,rfl⟩⟩
   rw[<-has_iff]
   unfold has
   rw[e]
   simp
 . rename_i c e
   split at h
   . cases h
   . rename_i hr
     cases k:keptAs s 3 1 c x with
     | none=>rw[k] at h;cases h
     | some y =>
      rw[k] at h
      cases h
      refine⟨rfl,rfl,.inr ⟨rfl,fun q=>hr (has_iff.mpr q),c,e,?_⟩⟩
      rcases Zv k with rfl | rfl
      . exact .inl rfl
      . exact .inr rfl
theorem vY {s:State}{x:Cell}{i:Item} (h:looseRight s x=some i):i.onLeft=0/\i.onRight=x.number /\
 ((i.own=0/\¬x.number∈numbers s.base/\i.text=x.text)∨(i.own=x.number/\¬x.number∈numbers s.left/\∃ c,find s.base x.number=some c/\(i.text=x.text∨i.text=c.text))):=by
 unfold looseRight at h
 split at h
 . rename_i e
   cases h
   refine⟨rfl,rfl,.inl ⟨rfl,?_,rfl⟩⟩
   rw[<-has_iff]
   unfold has
   rw[e]
   simp
 . rename_i c e
   split at h
   . cases h
   . rename_i hr
     cases k:keptAs s 2 2 c x with
     | none=>rw[k] at h;cases h
     | some y =>
      rw[k] at h
      cases h
      refine⟨rfl,rfl,.inr ⟨rfl,fun q=>hr (has_iff.mpr q),c,e,?_⟩⟩
      rcases Zv k with rfl | rfl
      . exact .inl rfl
      . exact .inr rfl
theorem Zw:∀ {l r:List Item}{x:Item × Item},x∈l.zip r->x.1∈l
 | [],_,_,h=>by simp at h
 | _::_,[],_,h=>by simp at h
 | a::l,b::r,x,h=>by
  rw[List.zip_cons_cons] at h
  rcases List.mem_cons.mp h with rfl | h
  . exact List.mem_cons_self ..
  . exact List.mem_cons_of_mem _ (Zw h)
theorem YZ {l r:List Item}{i:Item} (h:i∈gap l r):∃ j,(j∈l∨j∈r)/\i.text=j.text/\i.own=j.own:=by
 unfold gap at h
 split at h
 . obtain⟨x,hx,rfl⟩:=List.mem_map.mp h
   exact⟨x.1,.inl (Zw hx),rfl,rfl⟩
 . exact⟨i,List.mem_append.mp h,rfl,rfl⟩
 . exact⟨i,(List.mem_append.mp h).symm,rfl,rfl⟩
theorem kz {d:Doc} (D:jB d) {n:Nat}{c:Cell} (h:find d n=some c):uO c.text:=D.txt c (kE h).1
theorem vZ {s:State}{n:Nat}{i:Item} (S:qu s) (h:commonItem s n=some i):i.own=n/\i.onLeft=n/\i.onRight=n/\uO i.text:=by
 unfold commonItem at h
 split at h
 . rename_i c l r hc hl hr
   simp only at h
   cases k:mergedText c.text l.text r.text with
   | some t =>
    rw[k] at h
    cases h
    exact⟨rfl,rfl,rfl,KQ (kz S.b hc) (kz S.l hl) (kz S.r hr) k⟩
   | none =>
    rw[k] at h
    simp only at h
    unfold chosen at h
    split at h
    . cases h;exact⟨rfl,rfl,rfl,kz S.l hl⟩
    . cases h;exact⟨rfl,rfl,rfl,kz S.r hr⟩
    . cases h;exact⟨rfl,rfl,rfl,kz S.b hc⟩
    . cases h
 . cases h
theorem Y_ {s:State} (S:qu s) {a:Nat}{i:Item} (h:i∈at_ (qW s) a):uO i.text:=by
 obtain⟨c,hc,hl,_⟩:=kx (VX h)
 obtain⟨_,_,⟨_,_,e⟩ | ⟨_,_,b,hb,e | e⟩⟩:=yE hl
 . rw[e];exact S.l.txt c hc
 . rw[e];exact S.l.txt c hc
 . rw[e];exact kz S.b hb
theorem X0 {s:State} (S:qu s) {a:Nat}{i:Item} (h:i∈at_ (j4 s) a):uO i.text:=by
 obtain⟨c,hc,hl,_⟩:=kx (VX h)
 obtain⟨_,_,⟨_,_,e⟩ | ⟨_,_,b,hb,e | e⟩⟩:=vY hl
 . rw[e];exact S.r.txt c hc
 . rw[e];exact S.r.txt c hc
 . rw[e];exact kz S.b hb
theorem W1 {s:State} (S:qu s) {it:List Item} (h:items s=some it) {i:Item} (hi:i∈it):uO i.text:=by
 obtain⟨_,o,ho,rfl⟩:=Z3 h
 have hg:∀ a,i∈gap (at_ (qW s) a) (at_ (j4 s) a)->uO i.text:=by
  intro a ha
  obtain⟨j,hj,e,_⟩:=YZ ha
  rw[e]
  rcases hj with hj | hj
  . exact Y_ S hj
  . exact X0 S hj
 rcases List.mem_append.mp hi with hi | hi
 . exact hg 0 hi
 . obtain⟨n,hn,hi⟩:=List.mem_flatMap.mp hi
   rcases List.mem_append.mp hi with hi | hi
   . exact (vZ S (Option.mem_toList.mp hi)).2.2.2
   . exact hg n hi
theorem yX {α:Type} (f g:α->Nat):∀ l:List α,(l.map fun a=>f a+g a).sum=(l.map f).sum+(l.map g).sum
 | []=>rfl
 | a::l=>by
  simp only[List.map_cons,List.sum_cons,yX f g l]
  omega
theorem Z4 {α:Type}{f g:α->Nat}:∀ {l:List α},(∀ a,a∈l->f a<=g a)->(l.map f).sum<=(l.map g).sum
 | [],_=>Nat.le_refl _
 | a::l,h=>by
  simp only[List.map_cons,List.sum_cons]
  have:=h a (List.mem_cons_self ..)
  have:=Z4 (l:=l) fun b hb=>h b (List.mem_cons_of_mem _ hb)
  omega
theorem wK {α:Type}:∀ l:List α,(l.map fun _=>0).sum=0
 | []=>rfl
 | _::l=>by simpa using wK l
theorem QB:∀ {l:List Nat} (b k:Nat),l.Nodup->(l.map fun a=>if b=a then k else 0).sum<=k
 | [],_,_,_=>Nat.zero_le _
 | a::l,b,k,nd=>by
  rw[List.nodup_cons] at nd
  simp only[List.map_cons,List.sum_cons]
  split
  . rename_i e
    subst e
    have:(l.map fun a=>if b=a then k else 0)=l.map fun _=>0:=by
     apply List.map_congr_left
     intro a ha
     rw[if_neg (fun e=>nd.1 (by rw[e];exact ha))]
    rw[this]
    have z:=wK l
    omega
  . have:=QB b k nd.2
    omega
def j0 (n:Nat) (l:List Item):Nat:=(l.map fun i=>i.own).count n
theorem vO (n:Nat) (l r:List Item):j0 n (l++r)=j0 n l+j0 n r:=by
 unfold j0
 rw[List.map_append,List.count_append]
theorem kF (n:Nat) (i:Item) (l:List Item):j0 n (i::l)=(if i.own=n then 1 else 0)+j0 n l:=by
 unfold j0
 rw[List.map_cons,List.count_cons]
 simp only[beq_iff_eq]
 omega
theorem X1 (n:Nat):∀ (l r:List Item),j0 n ((l.zip r).map fun x=>{ x.1 with onRight:=x.2.onRight })<=j0 n l
 | [],_=>by simp[j0]
 | _::_,[]=>by simp[j0]
 | a::l,b::r=>by
  rw[List.zip_cons_cons,List.map_cons,kF,kF]
  have:=X1 n l r
  show (if a.own=n then 1 else 0)+_<=_
  omega
theorem X2 (n:Nat) (l r:List Item):j0 n (gap l r)<=j0 n l+j0 n r:=by
 unfold gap
 split
 . have:=X1 n l r
   omega
 . rw[vO]
   omega
 . rw[vO]
   omega
theorem Zx (n:Nat) (f:Nat->List Item):∀ l:List Nat,j0 n (l.flatMap f)=(l.map fun a=>j0 n (f a)).sum
 | []=>rfl
 | a::l=>by
  rw[List.flatMap_cons,vO,Zx n f l,List.map_cons,List.sum_cons]
theorem W2 (n:Nat) {as:List Nat} (nd:as.Nodup):∀ L:List (Nat × Item),(as.map fun a=>j0 n (at_ L a)).sum<=j0 n (L.map fun x=>x.2)
 | []=>by
  have:(as.map fun a=>j0 n (at_ [] a))=as.map fun _=>0:=rfl
  rw[this,wK]
  exact Nat.zero_le _
 | x::L=>by
  have ih:=W2 n nd L
  rw[List.map_cons,kF]
  have e:(as.map fun a=>j0 n (at_ (x::L) a))=as.map fun a=>(if x.1=a then (if x.2.own=n then 1 else 0) else 0)+j0 n (at_ L a):=by
   apply List.map_congr_left
   intro a _
   unfold at_
   rw[List.filter_cons]
   by_cases h:x.1=a
   . rw[if_pos h,if_pos (by simpa using h),List.map_cons,kF]
   . rw[if_neg h,if_neg (by simpa using h)]
     omega
  rw[e,yX]
  have:=QB x.1 (if x.2.own=n then 1 else 0) nd
  omega
theorem yF {loose:Cell->Option Item}{co:List Nat}{n:Nat} (hn:n≠0) (hl:∀ c i,loose c=some i->i.own=0∨i.own=c.number):∀ {d:Doc}{a:Nat},j0 n ((behind loose co a d).map fun x=>x.2)<=(numbers d).count n
 | [],_=>by simp[behind,j0]
 | c::d,a=>by
  have e:(numbers (c::d)).count n=(if c.number=n then 1 else 0)+(numbers d).count n:=by
   unfold numbers
   rw[List.map_cons,List.count_cons]
   simp only[beq_iff_eq]
   omega
  rw[e]
  unfold behind
  split
  . have:=yF (co:=co) hn hl (d:=d) (a:=c.number)
    omega
  . split
    . rename_i i k
      have:=yF (co:=co) hn hl (d:=d) (a:=a)
      rw[List.map_cons,kF]
      rcases hl c i k with h | h
      . rw[show ((a,i):Nat × Item).2.own=0 from h,if_neg (fun q=>hn q.symm)]
        omega
      . rw[show ((a,i):Nat × Item).2.own=c.number from h]
        omega
    . have:=yF (co:=co) hn hl (d:=d) (a:=a)
      omega
theorem Zy {l:List Nat} (nd:l.Nodup) (n:Nat):l.count n<=1:=List.nodup_iff_count.mp nd n
theorem QC {l:List Item}{n:Nat} (h:∀ i,i∈l->i.own≠n):j0 n l=0:=by
 unfold j0
 rw[List.count_eq_zero]
 intro q
 obtain⟨i,hi,e⟩:=List.mem_map.mp q
 exact h i hi e
theorem Z5 {s:State}{n:Nat} (hn:n≠0) {x:Nat × Item} (hx:x∈qW s) (e:x.2.own=n):n∈numbers s.left/\¬n∈numbers s.right/\n∈numbers s.base:=by
 obtain⟨c,hc,hl,_⟩:=kx hx
 obtain⟨_,_,⟨h,_⟩ | ⟨h,h2,b,hb,_⟩⟩:=yE hl
 . exact absurd (e.symm.trans h) hn
 . rw[<-e,h]
   refine⟨List.mem_map.mpr ⟨c,hc,rfl⟩,h2,?_⟩
   rw[<-has_iff]
   unfold has
   rw[hb]
   rfl
theorem JV {s:State}{n:Nat} (hn:n≠0) {x:Nat × Item} (hx:x∈j4 s) (e:x.2.own=n):n∈numbers s.right/\¬n∈numbers s.left/\n∈numbers s.base:=by
 obtain⟨c,hc,hl,_⟩:=kx hx
 obtain⟨_,_,⟨h,_⟩ | ⟨h,h2,b,hb,_⟩⟩:=vY hl
 . exact absurd (e.symm.trans h) hn
 . rw[<-e,h]
   refine⟨List.mem_map.mpr ⟨c,hc,rfl⟩,h2,?_⟩
   rw[<-has_iff]
   unfold has
   rw[hb]
   rfl
theorem W3 {s:State} (S:qu s) {it:List Item} (h:items s=some it) {n:Nat} (hn:n≠0):j0 n it<=1:=by
 obtain⟨_,o,ho,rfl⟩:=Z3 h
 obtain⟨ond,oco⟩:=QY S ho
 have o0:¬0∈o:=fun q=>by
  have:=(Qx S.b (common_mem.mp (oco 0 q)).1).1
  omega
 have nd:(0::o).Nodup:=List.nodup_cons.mpr ⟨o0,ond⟩
 have sL:=W2 n nd (qW s)
 have sR:=W2 n nd (j4 s)
 rw[List.map_cons,List.sum_cons] at sL sR
 have cC:(o.map fun m=>j0 n (commonItem s m).toList).sum<=(o.map fun m=>if n=m then 1 else 0).sum:=by
  apply Z4
  intro m _
  cases k:commonItem s m with
  | none=>simp[j0]
  | some i =>
   show j0 n [i]<=_
   rw[kF,(vZ S k).1]
   show (if m=n then 1 else 0)+0<=_
   by_cases q:m=n
   . rw[if_pos q,if_pos q.symm]
     omega
   . rw[if_neg q]
     omega
 have cO:=QB n 1 ond
 have tot:j0 n (gap (at_ (qW s) 0) (at_ (j4 s) 0)++o.flatMap fun n=>(commonItem s n).toList++gap (at_ (qW s) n) (at_ (j4 s) n))<=(o.map fun m=>j0 n (commonItem s m).toList).sum+j0 n ((qW s).map fun x=>x.2)+j0 n ((j4 s).map fun x=>x.2):=by
  rw[vO,Zx]
  have g0:=X2 n (at_ (qW s) 0) (at_ (j4 s) 0)
  have gs:(o.map fun a=>j0 n ((commonItem s a).toList++gap (at_ (qW s) a) (at_ (j4 s) a))).sum<=(o.map fun a=>j0 n (commonItem s a).toList+(j0 n (at_ (qW s) a)+j0 n (at_ (j4 s) a))).sum:=by
   apply Z4
   intro a _
   rw[vO]
   have:=X2 n (at_ (qW s) a) (at_ (j4 s) a)
   omega
  rw[yX,yX] at gs
  omega
 have aL:j0 n ((qW s).map fun x=>x.2)<=(numbers s.left).count n:=yF (loose:=looseLeft s) (co:=common s) hn (fun c i h=>(yE (s:=s) h).2.2.elim (fun q=>.inl q.1) (fun q=>.inr q.1)) (d:=s.left) (a:=0)
 have aR:j0 n ((j4 s).map fun x=>x.2)<=(numbers s.right).count n:=yF (loose:=looseRight s) (co:=common s) hn (fun c i h=>(vY (s:=s) h).2.2.elim (fun q=>.inl q.1) (fun q=>.inr q.1)) (d:=s.right) (a:=0)
 have bL:=Zy S.l.nd n
 have bR:=Zy S.r.nd n
 by_cases hL:n∈numbers s.left
 . have zR:j0 n ((j4 s).map fun x=>x.2)=0:=QC fun i hi e=>by
    obtain⟨x,hx,rfl⟩:=List.mem_map.mp hi
    exact (JV hn hx e).2.1 hL
   by_cases hR:n∈numbers s.right
   . have zL:j0 n ((qW s).map fun x=>x.2)=0:=QC fun i hi e=>by
      obtain⟨x,hx,rfl⟩:=List.mem_map.mp hi
      exact (Z5 hn hx e).2.1 hR
     omega
   . have zO:(o.map fun m=>if n=m then 1 else 0).sum=0:=by
      have:(o.map fun m=>if n=m then 1 else 0)=o.map fun _=>0:=by
       apply List.map_congr_left
       intro m hm
       rw[if_neg]
       rintro rfl
       exact hR (common_mem.mp (oco _ hm)).2.2
      rw[this,wK]
     omega
 . have zL:j0 n ((qW s).map fun x=>x.2)=0:=QC fun i hi e=>by
    obtain⟨x,hx,rfl⟩:=List.mem_map.mp hi
    exact hL (Z5 hn hx e).1
   have zO:(o.map fun m=>if n=m then 1 else 0).sum=0:=by
    have:(o.map fun m=>if n=m then 1 else 0)=o.map fun _=>0:=by
     apply List.map_congr_left
     intro m hm
     rw[if_neg]
     rintro rfl
     exact hL (common_mem.mp (oco _ hm)).2.1
    rw[this,wK]
   omega
theorem jU:∀ {it:List Item}{k:Nat}{x:Nat × Item},x∈numbered k it->x.2∈it/\((x.2.own≠0/\x.1=x.2.own)∨(x.2.own=0/\k<x.1))
 | [],_,_,h=>by simp[numbered] at h
 | i::it,k,x,h=>by
  unfold numbered at h
  split at h
  . rename_i e
    rcases List.mem_cons.mp h with rfl | h
    . exact⟨List.mem_cons_self ..,.inr ⟨e,Nat.lt_succ_self _⟩⟩
    . obtain⟨h1,h2⟩:=jU h
      refine⟨List.mem_cons_of_mem _ h1,?_⟩
      rcases h2 with h2 | ⟨h2,h3⟩
      . exact .inl h2
      . exact .inr ⟨h2,by omega⟩
  . rename_i e
    rcases List.mem_cons.mp h with rfl | h
    . exact⟨List.mem_cons_self ..,.inl ⟨e,rfl⟩⟩
    . obtain⟨h1,h2⟩:=jU h
      exact⟨List.mem_cons_of_mem _ h1,h2⟩
theorem yG:∀ {it:List Item}{k:Nat},(∀ n,n≠0->j0 n it<=1)->(∀ i,i∈it->i.own<=k)->((numbered k it).map fun x=>x.1).Nodup
 | [],_,_,_=>by simp[numbered]
 | i::it,k,h1,h2=>by
  have h1':∀ n,n≠0->j0 n it<=1:=fun n hn=>by
   have:=h1 n hn
   rw[kF] at this
   omega
  have h2':∀ j,j∈it->j.own<=k:=fun j hj=>h2 j (List.mem_cons_of_mem _ hj)
  unfold numbered
  split
  . rw[List.map_cons,List.nodup_cons]
    refine⟨fun q=>?_,yG h1' fun j hj=>Nat.le_succ_of_le (h2' j hj)⟩
    obtain⟨x,hx,e⟩:=List.mem_map.mp q
    obtain⟨m,⟨_,h⟩ | ⟨_,h⟩⟩:=jU hx
    . have:=h2' _ m
      omega
    . omega
  . rename_i hi
    rw[List.map_cons,List.nodup_cons]
    refine⟨fun q=>?_,yG h1' h2'⟩
    obtain⟨x,hx,e⟩:=List.mem_map.mp q
    obtain⟨m,⟨h0,h⟩ | ⟨_,h⟩⟩:=jU hx
    . have:=h1 i.own hi
      rw[kF,if_pos rfl] at this
      have c:0<j0 i.own it:=by
       unfold j0
       rw[List.count_pos_iff]
       exact List.mem_map.mpr ⟨x.2,m,by omega⟩
      omega
    . have:=h2 i (List.mem_cons_self ..)
      have e':x.1=i.own:=e
      omega
theorem VY {s:State} (S:qu s) {it:List Item} (h:items s=some it) {i:Item} (hi:i∈it):i.own<=top s:=by
 have key:∀ n,n∈numbers s.base->n<=top s:=fun n hn=>vK (List.mem_append.mpr (.inl (List.mem_append.mpr (.inl hn))))
 by_cases hn:i.own=0
 . omega
 obtain⟨_,o,ho,rfl⟩:=Z3 h
 have hg:∀ a,i∈gap (at_ (qW s) a) (at_ (j4 s) a)->i.own<=top s:=by
  intro a ha
  obtain⟨j,hj,_,e⟩:=YZ ha
  rcases hj with hj | hj
  . exact key _ (Z5 hn (VX hj) e.symm).2.2
  . exact key _ (JV hn (VX hj) e.symm).2.2
 rcases List.mem_append.mp hi with hi | hi
 . exact hg 0 hi
 . obtain⟨n,hn,hi⟩:=List.mem_flatMap.mp hi
   rcases List.mem_append.mp hi with hi | hi
   . rw[(vZ S (Option.mem_toList.mp hi)).1]
     exact key n (common_mem.mp ((QY S ho).2 n hn)).1
   . exact hg n hi
theorem KR (l:List (Nat × Item)):numbers (docOf l)=l.map fun x=>x.1:=by
 unfold numbers docOf
 rw[List.map_map]
 rfl
theorem yf {s:State} (S:qu s) {l:List (Nat × Item)} (h:result s=some l) (ht:tooGreat l=false):jB (docOf l):=by
 unfold result at h
 cases k:items s with
 | none=>rw[k] at h;cases h
 | some it =>
  rw[k] at h
  cases h
  unfold tooGreat at ht
  rw[Bool.or_eq_false_iff] at ht
  obtain⟨t1,t2⟩:=ht
  have t1:=of_decide_eq_false t1
  rw[List.any_eq_false] at t2
  have mm:∀ c,c∈docOf (numbered (top s) it)->∃ x,x∈numbered (top s) it/\c=⟨x.1,x.2.hidden,x.2.text⟩:=fun c hc=>by
   obtain⟨x,hx,e⟩:=List.mem_map.mp hc
   exact⟨x,hx,e.symm⟩
  refine⟨?_,?_,?_,?_⟩
  . rw[KR]
    exact yG (fun n hn=>W3 S k hn) fun i hi=>VY S k hi
  . intro c hc
    obtain⟨x,hx,rfl⟩:=mm c hc
    have:=t2 x hx
    simp at this
    obtain⟨_,⟨h0,e⟩ | ⟨_,e⟩⟩:=jU hx
    . exact⟨by show 1<=x.1;omega,this⟩
    . exact⟨by show 1<=x.1;omega,this⟩
  . unfold docOf
    rw[List.length_map]
    unfold CELLS at t1
    omega
  . intro c hc
    obtain⟨x,hx,rfl⟩:=mm c hc
    exact W1 S k (jU hx).1
theorem wL:∀ (l:List (List Int)) (j:Nat),numbers ((l.zipIdx j).map fun x=>(⟨x.2+1,false,textOf x.1⟩:Cell))=List.range' (j+1) l.length
 | [],_=>rfl
 | t::l,j=>by
  have ih:=wL l (j+1)
  unfold numbers at ih ⊢
  rw[List.zipIdx_cons,List.map_cons,List.map_cons,ih,List.length_cons,List.range'_succ]
theorem Ul {s:State} (S:qu s) (row:List Int):qu (doBase s row).1:=by
 unfold doBase
 split
 . exact S
 . rename_i l e
   split
   . exact S
   . rename_i f
     have f:=xW f
     simp only[List.mem_cons,forall_eq_or_imp] at f
     obtain⟨f1,f2,f3,_⟩:=f
     have f3:=of_decide_eq_false f3
     unfold CELLS at f3
     have f1:l.all bytes=true:=by simpa using f1
     have hn:=wL l 0
     have hlen:(l.zipIdx.map fun x=>(⟨x.2+1,false,textOf x.1⟩:Cell)).length=l.length:=by simp
     simp only
     rw[hlen]
     have hm:∀ n,n∈numbers (l.zipIdx.map fun x=>(⟨x.2+1,false,textOf x.1⟩:Cell))->1<=n/\n<l.length+1:=by
      intro n h
      rw[hn,List.mem_range'_1] at h
      omega
     refine YW ⟨by rw[hn];exact List.nodup_range',?_,by rw[hlen];omega,?_⟩ (fun n h=>(hm n h).2) (by omega)
     . intro c hc
       have:=hm c.number (List.mem_map.mpr ⟨c,hc,rfl⟩)
       omega
     . intro c hc
       obtain⟨x,hx,rfl⟩:=List.mem_map.mp hc
       have hx1:x.1∈l:=by
        obtain⟨t,i⟩:=x
        exact List.fst_mem_of_mem_zipIdx hx
       exact Qy (List.all_eq_true.mp f1 _ hx1) (by
        rw[List.any_eq_false] at f2
        simpa using f2 _ hx1)
theorem X3 {s:State} (S:qu s) (k n c:Int):qu (doChoose s k n c).1:=by
 unfold doChoose
 split
 . exact S
 . rename_i h1
   split
   . exact S
   . rename_i h2
     have h1:((conflicts s).any fun x=>ofNat x.1 == k && ofNat x.2 == n)=true:=by simpa using h1
     have h2:(decide (0<=c) && decide (c<=3))=true:=by simpa using h2
     simp only
     obtain⟨x,hx,e⟩:=List.any_eq_true.mp h1
     simp[ofNat] at e
     simp at h2
     have ex:x=(k.toNat,n.toNat):=Prod.ext (by show x.1=k.toNat;omega) (by show x.2=n.toNat;omega)
     rw[ex] at hx
     unfold chooseIn
     refine⟨S.b,S.l,S.r,S.ll,S.lb,S.rr,S.rb,S.l1,S.r1,?_,?_⟩
     . intro y hy
       show y.1∈conflicts s/\_
       rcases List.mem_append.mp hy with hy | hy
       . exact S.c1 y (List.mem_filter.mp hy).1
       . split at hy
         . cases hy
         . simp at hy
           subst hy
           exact⟨hx,by omega⟩
     . show ((s.choices.filter (fun x=>x.1 != (k.toNat,n.toNat))++(if c.toNat=0 then [] else [((k.toNat,n.toNat),c.toNat)])).map fun x=>x.1).Nodup
       rw[List.map_append,List.nodup_append]
       refine⟨(List.filter_sublist.map _).nodup S.c2,?_,?_⟩
       . split <;> simp
       . intro a ha b hb q
         obtain⟨y,hy,rfl⟩:=List.mem_map.mp ha
         have:=(List.mem_filter.mp hy).2
         split at hb
         . cases hb
         . simp at hb
           subst hb
           simp[q] at this
theorem VZ {s:State} (S:qu s) {d:Doc} (D:jB d):qu (adopted s d):=by
 unfold adopted
 refine YW D (fun n hn=>Nat.lt_succ_of_le (vK (List.mem_append.mpr (.inl (List.mem_append.mpr (.inl hn)))))) ⟨by omega,?_⟩
 have:greatest (numbers d++numbers s.left++numbers s.right)<=99:=wI fun x hx=>by
  rcases List.mem_append.mp hx with hx | hx
  . rcases List.mem_append.mp hx with hx | hx
    . exact (Qx D hx).2
    . exact (Qx S.l hx).2
  . exact (Qx S.r hx).2
 omega
theorem v_ {s:State} (S:qu s) {f:List (Nat × Item)->State × Answer} (h:∀ l,result s=some l->tooGreat l=false->qu (f l).1):qu (withResult s f).1:=by
 unfold withResult
 split
 . exact S
 . rename_i l e
   split
   . exact S
   . rename_i t
     exact h l e (by simpa using t)
theorem uP {s:State} (S:qu s) {side:Int}{f:Doc->State × Answer} (h:qu (f (sideDoc s side)).1):qu (withSide s side f).1:=by
 unfold withSide
 split
 . exact S
 . exact h
theorem xH {s:State} (S:qu s) (c:Call):qu (step s c).1:=by
 unfold step
 split
 . exact Ul S _
 . exact VU S
 . split
   . exact S
   . split <;> exact S
 . exact uP S S
 . refine uP S ?_
   split
   . exact S
   . split <;> exact S
 . exact S
 . exact X3 S _ _ _
 . exact v_ S fun _ _ _=>S
 . exact v_ S fun _ _ _=>S
 . exact v_ S fun l h t=>VZ S (yf S h t)
 . exact KP S _
end Tb
end
section
namespace Tb
open Vanbki
theorem jl {α:Type}{f:α->List Int}{k:Nat}:∀ {l:List α},(∀ x,x∈l->(f x).length<=k)->(l.flatMap f).length<=l.length * k
 | [],_=>by simp
 | x::l,h=>by
  rw[List.flatMap_cons,List.length_append,List.length_cons,Nat.succ_mul]
  have:=h x (List.mem_cons_self ..)
  have:=jl (l:=l) fun y hy=>h y (List.mem_cons_of_mem _ hy)
  omega
theorem jV (t:Text):(tellText t).length=t.length+1:=by simp[tellText,nats]
theorem wM {d:Doc} (D:jB d):(tellDoc d).more.length<=2436:=by
 unfold tellDoc
 have:=jl (f:=fun c:Cell=>ofNat c.number::ofNat (markNat c.hidden)::tellText c.text) (k:=203) (l:=d) fun c hc=>by
  simp only[List.length_cons,jV]
  have:=(D.txt c hc).1
  omega
 have h:=D.len
 simp only
 omega
theorem Vm:∀ t:Text,((linesOf t).flatMap tellText).length=t.length+1
 | []=>rfl
 | c::r=>by
  have ih:=Vm r
  unfold linesOf
  split
  . rw[List.flatMap_cons,List.length_append,ih,jV,List.length_cons,List.length_nil]
    omega
  . split
    . rename_i l m e
      rw[e,List.flatMap_cons,List.length_append,jV] at ih
      rw[List.flatMap_cons,List.length_append,jV,List.length_cons,List.length_cons]
      omega
    . rename_i e
      rw[e] at ih
      simp at ih
theorem abA {f:Text->List Int}{a b:List Text} (h:a.Sublist b):(a.flatMap f).length<=(b.flatMap f).length:=by
 induction h with
 | slnil=>exact Nat.le_refl _
 | cons x _ ih =>
  rw[List.flatMap_cons,List.length_append]
  omega
 | cons_cons x _ ih =>
  rw[List.flatMap_cons,List.flatMap_cons,List.length_append,List.length_append]
  omega
theorem JW {b x:Text} (hx:x.length<=200):(tellChange (changeOf (linesOf b) (linesOf x))).more.length<=203:=by
 unfold tellChange
 simp only[List.length_cons]
 have h:=abA (f:=tellText) (a:=(changeOf (linesOf b) (linesOf x)).new) (b:=linesOf x) ((List.take_sublist _ _).trans (List.drop_sublist _ _))
 rw[Vm] at h
 omega
theorem xC {s:State} (S:qu s):(conflicts s).length<=13:=by
 unfold conflicts
 rw[List.length_append]
 have h1:=List.length_filterMap_le (fun c=>(conflictAt s c).map fun k=>(k,c.number)) s.base
 have h2:=S.b.len
 split
 . simp only[List.length_cons,List.length_nil]
   omega
 . simp only[List.length_nil]
   omega
theorem KS (s:State) (c:Call):(sideEdit s c).2.more=[]:=by
 have h:∀ {side own d k an},(edit s side own d k an).2.more=[]:=by
  intro side own d k an
  unfold edit
  split <;> rfl
 unfold sideEdit
 split <;> first | exact h | rfl
theorem y3 {s:State}{k:Nat}{f:List (Nat × Item)->State × Answer} (h:∀ l,result s=some l->tooGreat l=false->(f l).2.more.length<=k):(withResult s f).2.more.length<=k:=by
 unfold withResult
 split
 . exact Nat.zero_le _
 . rename_i l e
   split
   . exact Nat.zero_le _
   . rename_i t
     exact h l e (by simpa using t)
theorem uQ {s:State}{side:Int}{k:Nat}{f:Doc->State × Answer} (h:(f (sideDoc s side)).2.more.length<=k):(withSide s side f).2.more.length<=k:=by
 unfold withSide
 split
 . exact Nat.zero_le _
 . exact h
theorem Um {s:State} (S:qu s) (c:Call):(step s c).2.more.length<=2436:=by
 unfold step
 split
 . unfold doBase
   split
   . exact Nat.zero_le _
   . split <;> exact Nat.zero_le _
 . exact Nat.zero_le _
 . split
   . exact wM S.b
   . split
     . exact Nat.zero_le _
     . exact wM (qa S _)
 . rename_i side
   refine uQ ?_
   have h1:=jl (f:=fun x:Nat × Nat=>[ofNat x.1,ofNat x.2]) (k:=2) (l:=differences s.base (sideDoc s side)) fun _ _=>Nat.le_refl _
   have h2:(differences s.base (sideDoc s side)).length<=24:=by
    unfold differences
    rw[List.length_append,List.length_map]
    refine Nat.le_trans (Nat.add_le_add (List.length_filterMap_le _ _) (List.length_filter_le _ _)) ?_
    have:=S.b.len
    have:=(qa S side).len
    omega
   simp only[List.length_cons]
   omega
 . rename_i side n
   refine uQ ?_
   split
   . exact Nat.zero_le _
   . split
     . rename_i b x hb hx
       have:=JW (b:=b.text) (kz (qa S side) hx).1
       show (tellChange _).more.length<=_
       omega
     . exact Nat.zero_le _
 . have h1:=jl (f:=fun x:Nat × Nat=>[ofNat x.1,ofNat x.2,ofNat (choiceOf s x.1 x.2)]) (k:=3) (l:=conflicts s) fun _ _=>Nat.le_refl _
   have h2:=xC S
   simp only
   omega
 . unfold doChoose
   split
   . exact Nat.zero_le _
   . split <;> exact Nat.zero_le _
 . exact y3 fun l h t=>wM (yf S h t)
 . refine y3 fun l h t=>?_
   have h1:=jl (f:=fun x:Nat × Item=>[ofNat x.1,ofNat x.2.onLeft,ofNat x.2.onRight]) (k:=3) (l:=l) fun _ _=>Nat.le_refl _
   have h2:=(yf S h t).len
   unfold docOf at h2
   rw[List.length_map] at h2
   simp only
   omega
 . exact y3 fun l h t=>Nat.zero_le _
 . rw[KS]
   exact Nat.zero_le _
end Tb
end
section
namespace Tb
open Vanbki
theorem Zz:∀ (k j:Nat) (row:List Int),row.length<k->row.length<j->textsOf k row=textsOf j row
 | 0,_,_,h,_=>by omega
 | _+1,0,_,_,h=>by omega
 | k+1,j+1,[],_,_=>rfl
 | k+1,j+1,n::r,h1,h2=>by
  simp only[List.length_cons] at h1 h2
  unfold textsOf
  split
  . rfl
  . rw[Zz k j (r.drop n.toNat) (by rw[List.length_drop];omega) (by rw[List.length_drop];omega)]
def jW (row:List Int):Option (List (List Int)):=textsOf (row.length+1) row
theorem X4:jW []=some []:=rfl
theorem V_ (n:Int) (r:List Int):jW (n::r)=if n<0∨(r.length:Int)<n then none else (jW (r.drop n.toNat)).map fun l=>r.take n.toNat::l:=by
 unfold jW
 show (if n<0∨(r.length:Int)<n then none else (textsOf (r.length+1) (r.drop n.toNat)).map fun l=>r.take n.toNat::l)=_
 rw[Zz (r.length+1) ((r.drop n.toNat).length+1) _ (by rw[List.length_drop];omega) (by omega)]
theorem QZ:∀ {a b:List Text}{k m:Nat},m<=a.length->m<=b.length->k<=m->(∀ i,i<k->a[i]?=b[i]?)->(k=m∨a[k]?≠b[k]?)->min (inCommon a b) m=k
 | [],b,k,m,h1,_,hk,_,_=>by
  simp at h1
  subst h1
  omega
 | _::_,[],k,m,_,h2,hk,_,_=>by
  simp at h2
  subst h2
  omega
 | x::r,y::s,k,m,h1,h2,hk,he,hn=>by
  simp only[List.length_cons] at h1 h2
  cases k with
  | zero =>
   rcases hn with hn | hn
   . subst hn
     omega
   . have:¬x=y:=by simpa using hn
     unfold inCommon
     rw[if_neg this]
     omega
  | succ k =>
   have e0:x=y:=by simpa using he 0 (by omega)
   have ih:=QZ (a:=r) (b:=s) (k:=k) (m:=m - 1) (by omega) (by omega) (by omega) (fun i hi=>by simpa using he (i+1) (by omega)) (by
    rcases hn with hn | hn
    . left;omega
    . right;simpa using hn)
   unfold inCommon
   rw[if_pos e0]
   omega
theorem aap (c:List (List Int)):PyVanbki.whole c=c:=by
 unfold PyVanbki.whole
 split <;> rfl
theorem W4 {l:List Int}{cs:List (List (List Int))} (h:PyVanbki.calls l=some cs):PyFlat.put cs=l/\∀ c,c∈cs->PyFlat.okCall PyVanbki.shape c:=by
 unfold PyVanbki.calls at h
 split at h
 . cases h
 . rename_i cs' e
   have e2:cs'.map PyVanbki.whole=cs':=by
    rw[show PyVanbki.whole=id from funext aap,List.map_id]
   rw[e2] at h
   cases h
   have:=PyFlat.put_calls _ _ _ e
   exact⟨this.1.symm,this.2⟩
def wholesT:List Nat:=[0,2,2,3,2,3,1,1,0,1,1,2,0,3,0,0,0]
def rowsT:List Nat:=[1,1,1,0,0,0,0,0,0,0,0,0,0,0,0,0,0]
theorem X5 {p:Int}{n k:Nat} (h:PyVanbki.shape p=some (n,k)):∃ i:Nat,p=(i:Int)/\i<=16/\wholesT[i]?=some n/\rowsT[i]?=some k:=by
 have hp:0<=p/\p<=16:=by
  refine Decidable.byContradiction fun c=>?_
  unfold PyVanbki.shape at h
  rw[if_neg (by omega),if_neg (by omega),if_neg (by omega),if_neg (by omega),if_neg (by omega),if_neg (by omega),if_neg (by omega),if_neg (by omega),if_neg (by omega),if_neg (by omega),if_neg (by omega),if_neg (by omega),if_neg (by omega),if_neg (by omega),if_neg (by omega),if_neg (by omega),if_neg (by omega)] at h
  cases h
 obtain⟨i,e⟩:∃ i:Nat,p=(i:Int):=⟨p.toNat,by omega⟩
 subst e
 have hi:i<=16:=by omega
 refine⟨i,rfl,hi,?_⟩
 match i,hi with
 | 0,_=>cases h;exact⟨rfl,rfl⟩
 | 1,_=>cases h;exact⟨rfl,rfl⟩
 | 2,_=>cases h;exact⟨rfl,rfl⟩
 | 3,_=>cases h;exact⟨rfl,rfl⟩
 | 4,_=>cases h;exact⟨rfl,rfl⟩
 | 5,_=>cases h;exact⟨rfl,rfl⟩
 | 6,_=>cases h;exact⟨rfl,rfl⟩
 | 7,_=>cases h;exact⟨rfl,rfl⟩
 | 8,_=>cases h;exact⟨rfl,rfl⟩
 | 9,_=>cases h;exact⟨rfl,rfl⟩
 | 10,_=>cases h;exact⟨rfl,rfl⟩
 | 11,_=>cases h;exact⟨rfl,rfl⟩
 | 12,_=>cases h;exact⟨rfl,rfl⟩
 | 13,_=>cases h;exact⟨rfl,rfl⟩
 | 14,_=>cases h;exact⟨rfl,rfl⟩
 | 15,_=>cases h;exact⟨rfl,rfl⟩
 | 16,_=>cases h;exact⟨rfl,rfl⟩
 | i+17,hi=>omega
end Tb
end
section
namespace Tb
open Vanbki
def jH (d:Doc) (n:Int):Option Nat:=if 0<=n then qe d n.toNat else none
def vi (d:Doc) (n:Int):Option Cell:=if 0<=n then find d n.toNat else none
def yg (d:Doc) (a:Int):Option Nat:=if a=0 then some 0 else (jH d a).map (·+1)
theorem Q_:∀ {d:Doc}{n i:Nat}{c:Cell},d[i]?=some c->c.number=n->(∀ (j:Nat) (c':Cell),j<i->d[j]?=some c'->c'.number≠n)->qe d n=some i
 | [],_,_,_,h,_,_=>by simp at h
 | x::d,n,0,c,h,e,_=>by
  have:x=c:=by simpa using h
  subst this
  simp[qe,e]
 | x::d,n,i+1,c,h,e,hm=>by
  have h0:x.number≠n:=hm 0 x (Nat.succ_pos _) rfl
  have ih:=Q_ (d:=d) (n:=n) (i:=i) (c:=c) (by simpa using h) e fun j c' hj hc=>hm (j+1) c' (by omega) (by simpa using hc)
  simp[qe,h0,ih]
theorem Y0 {d:Doc}{n:Nat} (h:∀ (j:Nat) (c:Cell),d[j]?=some c->c.number≠n):qe d n=none :=
 placeOf_none.mpr (find_none.mpr fun c hc=>by
  obtain⟨j,hj,e⟩:=List.mem_iff_getElem.mp hc
  exact h j c (by rw[List.getElem?_eq_getElem hj,e]))
theorem W5 {d:Doc}{n:Int}{i:Nat}{c:Cell} (h:d[i]?=some c) (e:(c.number:Int)=n) (hm:∀ (j:Nat) (c':Cell),j<i->d[j]?=some c'->(c'.number:Int)≠n):jH d n=some i:=by
 unfold jH
 rw[if_pos (by omega)]
 exact Q_ h (by omega) fun j c' hj hc z=>hm j c' hj hc (by omega)
theorem X6 {d:Doc}{n:Int} (h:∀ (j:Nat) (c:Cell),d[j]?=some c->(c.number:Int)≠n):jH d n=none:=by
 unfold jH
 by_cases hn:0<=n
 . rw[if_pos hn]
   exact Y0 fun j c hc z=>h j c hc (by omega)
 . rw[if_neg hn]
theorem jm {d:Doc}{n:Int}{i:Nat} (h:jH d n=some i):∃ c,d[i]?=some c/\(c.number:Int)=n/\vi d n=some c/\qe d n.toNat=some i/\0<=n:=by
 unfold jH at h
 by_cases hn:0<=n
 . rw[if_pos hn] at h
   obtain⟨c,h1,h2,h3⟩:=xV h
   exact⟨c,h1,by omega,by unfold vi;rw[if_pos hn];exact h3,h,hn⟩
 . rw[if_neg hn] at h
   cases h
theorem placeI_none {d:Doc}{n:Int}:jH d n=none ↔ vi d n=none:=by
 unfold jH vi
 by_cases hn:0<=n
 . rw[if_pos hn,if_pos hn]
   exact placeOf_none
 . rw[if_neg hn,if_neg hn]
   simp
theorem kC (d:Doc) (n:Int):hasI d n=(jH d n).isSome:=by
 unfold hasI has
 cases e:jH d n with
 | none =>
  have q:=placeI_none.mp e
  unfold vi at q
  by_cases hn:0<=n
  . rw[if_pos hn] at q
    simp[q]
  . simp[hn]
 | some i =>
  obtain⟨c,_,_,h3,_,hn⟩:=jm e
  unfold vi at h3
  rw[if_pos hn] at h3
  simp[h3,hn]
theorem xI {d:Doc}{n:Int}{i:Nat} (h:jH d n=some i):i<d.length:=by
 obtain⟨c,h1,_⟩:=jm h
 exact (List.getElem?_eq_some_iff.mp h1).1
theorem vo (d:Doc) (n:Nat):vi d (n:Int)=find d n:=by
 unfold vi
 rw[if_pos (by omega),Int.toNat_natCast]
theorem J0 {l:List Nat}{m:Nat} (h:m∈l) (hm:∀ z,z∈l->z<=m):greatest l=m:=by
 have h1:=vK h
 have h2:=wI hm
 omega
theorem Y1 {l:List Nat}{m:Int} (h:m∈nats l) (hm:∀ z,z∈nats l->z<=m):m=(greatest l:Int):=by
 obtain⟨k,hk,rfl⟩:=List.mem_map.mp h
 have e:greatest l=k:=J0 hk fun z hz=>by
  have:=hm (ofNat z) (List.mem_map.mpr ⟨z,hz,rfl⟩)
  simp only[ofNat] at this
  omega
 rw[e]
 rfl
def jh (l:List (List Int)):Int:=if l.all bytes=true then (if l.any tooLong=true then -5 else 0) else -4
theorem Z6 (t:Text):linesOf t≠[]:=by
 cases t with
 | nil=>simp[linesOf]
 | cons c r =>
  unfold linesOf
  split
  . simp
  . split <;> simp
theorem KU (t:Text):∃ ls l,linesOf t=ls++[l] :=
 ⟨_,_,(List.dropLast_concat_getLast (Z6 t)).symm⟩
theorem j5 {c:Nat}{r:Text} (h:c≠10):∃ l m,linesOf r=l::m/\linesOf (c::r)=(c::l)::m:=by
 cases e:linesOf r with
 | nil=>exact absurd e (Z6 r)
 | cons l m =>
  refine⟨l,m,rfl,?_⟩
  rw[linesOf,if_neg h,e]
theorem vp (r:Text):linesOf (10::r)=[]::linesOf r:=by rw[linesOf,if_pos rfl]
theorem wN:∀ t:Text,linesOf (t++[10])=linesOf t++[[]]
 | []=>by simp[linesOf]
 | c::r=>by
  have ih:=wN r
  by_cases h:c=10
  . subst h
    rw[List.cons_append,vp,vp,ih,List.cons_append]
  . obtain⟨l,m,e1,e2⟩:=j5 (r:=r) h
    obtain⟨l',m',e3,e4⟩:=j5 (r:=r++[10]) h
    rw[List.cons_append,e4,e2]
    rw[ih,e1,List.cons_append] at e3
    injection e3 with e5 e6
    rw[<-e5,<-e6]
    rfl
theorem yh {c:Nat} (h:c≠10):∀ {t:Text}{ls:List Text}{l:Text},linesOf t=ls++[l]->linesOf (t++[c])=ls++[l++[c]]
 | [],ls,l,e=>by
  rw[linesOf] at e
  cases ls with
  | nil =>
   have:l=[]:=by simpa using e.symm
   subst this
   simp[linesOf,h]
  | cons a r=>simp at e
 | b::r,ls,l,e=>by
  by_cases hb:b=10
  . subst hb
    rw[vp] at e
    cases ls with
    | nil =>
     have:linesOf r=[]:=by
      have:=congrArg List.length e
      simpa using this
     exact absurd this (Z6 r)
    | cons a q =>
     rw[List.cons_append] at e
     injection e with e1 e2
     rw[List.cons_append,vp,yh h e2,<-e1]
     rfl
  . obtain⟨x,m,e1,e2⟩:=j5 (r:=r) hb
    obtain⟨x',m',e3,e4⟩:=j5 (r:=r++[c]) hb
    rw[e2] at e
    rw[List.cons_append,e4]
    cases ls with
    | nil =>
     have e5:(b::x)=l/\m=[]:=by simpa using e
     obtain⟨rfl,rfl⟩:=e5
     have:=yh h (t:=r) (ls:=[]) (l:=x) (by rw[e1];rfl)
     rw[this] at e3
     injection e3 with e6 e7
     rw[<-e6,<-e7]
     rfl
    | cons a q =>
     rw[List.cons_append] at e
     injection e with e5 e6
     have:=yh h (t:=r) (ls:=x::q) (l:=l) (by rw[e1,e6];rfl)
     rw[this] at e3
     rw[List.cons_append] at e3
     injection e3 with e7 e8
     rw[<-e7,<-e8,e5]
     rfl
theorem ZA:∀ (l:Text) (m:List Text),unlines (l::m)=l++m.flatMap fun x=>10::x
 | l,[]=>by simp[unlines]
 | l,a::m=>by
  rw[unlines,ZA a m]
  . simp
  . simp
end Tb
end
section
namespace Tb
open Vanbki
def kK (s:State) (n:Nat):Nat:=if has s.base n=true then n else 0
def yH (s:State) (side:Nat) (x:Cell):Option Cell:=match find s.base x.number with
 | none=>some x
 | some c=>if choiceOf s (if side=2 then 2 else 3) x.number=side then some x else if choiceOf s (if side=2 then 2 else 3) x.number=3 then some c else none
def qv (s:State) (side:Nat) (y:Cell):Item:=⟨kK s y.number,if side=1 then y.number else 0,if side=1 then 0 else y.number,y.hidden,y.text⟩
theorem y4 {s:State} (S:qu s) {k n:Nat} (h:choiceOf s k n≠0):(k,n)∈conflicts s/\choiceOf s k n<=3:=by
 unfold choiceOf at h ⊢
 cases e:s.choices.find? fun x=>x.1 == (k,n) with
 | none=>rw[e] at h;exact absurd rfl h
 | some x =>
  have hx:=List.mem_of_find?_eq_some e
  have hk:=List.find?_some e
  have hk':x.1=(k,n):=by simpa using hk
  have:=S.c1 x hx
  rw[hk'] at this
  exact⟨this.1,this.2.2⟩
theorem Vn {s:State} (S:qu s) (k n:Nat):choiceOf s k n<=3:=by
 by_cases h:choiceOf s k n=0
 . omega
 . exact (y4 S h).2
theorem wO {s:State} (ho:open_ s=0) {k n:Nat} (h:(k,n)∈conflicts s):choiceOf s k n≠0:=by
 intro z
 unfold open_ at ho
 have:(k,n)∈(conflicts s).filter fun x=>choiceOf s x.1 x.2 == 0:=List.mem_filter.mpr ⟨h,by simp[z]⟩
 rw[List.length_eq_zero_iff.mp ho] at this
 cases this
theorem xZ {s:State}{k n:Nat} (h:(k,n)∈conflicts s) (h4:k≠4):∃ c,c∈s.base/\c.number=n/\conflictAt s c=some k:=by
 unfold conflicts at h
 rcases List.mem_append.mp h with h | h
 . obtain⟨c,hc,e⟩:=List.mem_filterMap.mp h
   cases q:conflictAt s c with
   | none=>rw[q] at e;cases e
   | some j =>
    rw[q] at e
    have e':(j,c.number)=(k,n):=by simpa using e
    injection e' with e1 e2
    subst e1
    exact⟨c,hc,e2,q⟩
 . split at h
   . have:(k,n)=(4,0):=by simpa using h
     injection this with e1 _
     exact absurd e1 h4
   . cases h
theorem JX {d:Doc}{n:Nat}{c:Cell} (h:find d n=some c):has d n=true:=by unfold has;rw[h];rfl
theorem Vo {d:Doc}{n:Nat} (h:find d n=none):has d n=false:=by unfold has;rw[h];rfl
theorem JY {s:State} (S:qu s) {x:Cell} (hx:x∈s.left) (hn:¬x.number∈common s):looseLeft s x=(yH s 1 x).map (qv s 1):=by
 unfold looseLeft yH
 cases e:find s.base x.number with
 | none=>simp[qv,kK,Vo e]
 | some c =>
  have hcn:=(kE e).2
  have hcb:=(kE e).1
  have hb:=JX e
  have hl:x.number∈numbers s.left:=List.mem_map.mpr ⟨x,hx,rfl⟩
  have hr:has s.right x.number=false:=by
   refine has_false.mpr fun hr=>hn (common_mem.mpr ⟨?_,hl,hr⟩)
   exact has_iff.mp hb
  have hfl:find s.left x.number=some x:=wF S.l.nd hx
  have hfr:find s.right x.number=none:=by
   unfold has at hr
   simpa using hr
  simp only[hr]
  unfold keptAs
  rw[hcn]
  by_cases hsame:sameCell c x=true
  . have hz:choiceOf s 3 x.number=0:=by
     by_cases hz:choiceOf s 3 x.number=0
     . exact hz
     . exfalso
       obtain⟨hc,_⟩:=y4 S hz
       obtain⟨c',hc',en,ek⟩:=xZ hc (by decide)
       have ec:c'=c:=by
        have h1:=wF S.b.nd hc'
        rw[en,e] at h1
        exact (Option.some.inj h1).symm
       subst ec
       unfold conflictAt at ek
       rw[hcn,hfl,hfr] at ek
       simp only[hsame,if_true] at ek
       cases ek
    simp[hsame,hz]
  . simp only[hsame,if_false]
    have e12:(if (1:Nat)=2 then 2 else 3)=3:=by decide
    simp only[e12]
    by_cases h1:choiceOf s 3 x.number=1
    . simp[h1,qv,kK,hb]
    . by_cases h3:choiceOf s 3 x.number=3
      . simp[h3,qv,kK,hcn,hb]
      . simp[h1,h3]
theorem Ji {s:State} (S:qu s) {x:Cell} (hx:x∈s.right) (hn:¬x.number∈common s):looseRight s x=(yH s 2 x).map (qv s 2):=by
 unfold looseRight yH
 cases e:find s.base x.number with
 | none=>simp[qv,kK,Vo e]
 | some c =>
  have hcn:=(kE e).2
  have hb:=JX e
  have hr:x.number∈numbers s.right:=List.mem_map.mpr ⟨x,hx,rfl⟩
  have hl:has s.left x.number=false:=by
   refine has_false.mpr fun hl=>hn (common_mem.mpr ⟨?_,hl,hr⟩)
   exact has_iff.mp hb
  have hfr:find s.right x.number=some x:=wF S.r.nd hx
  have hfl:find s.left x.number=none:=by
   unfold has at hl
   simpa using hl
  simp only[hl]
  unfold keptAs
  rw[hcn]
  by_cases hsame:sameCell c x=true
  . have hz:choiceOf s 2 x.number=0:=by
     by_cases hz:choiceOf s 2 x.number=0
     . exact hz
     . exfalso
       obtain⟨hc,_⟩:=y4 S hz
       obtain⟨c',hc',en,ek⟩:=xZ hc (by decide)
       have ec:c'=c:=by
        have h1:=wF S.b.nd hc'
        rw[en,e] at h1
        exact (Option.some.inj h1).symm
       subst ec
       unfold conflictAt at ek
       rw[hcn,hfl,hfr] at ek
       simp only[hsame,if_true] at ek
       cases ek
    simp[hsame,hz]
  . simp only[hsame,if_false]
    by_cases h1:choiceOf s 2 x.number=2
    . simp[h1,qv,kK,hb]
    . by_cases h3:choiceOf s 2 x.number=3
      . simp[h3,qv,kK,hcn,hb]
      . simp[h1,h3]
def qf (keep:Cell->Option Cell) (co:List Nat):Nat->Doc->List (Nat × Cell)
 | _,[]=>[]
 | a,x::r=>if co.contains x.number=true then qf keep co x.number r else match keep x with
  | some y=>(a,y)::qf keep co a r
  | none=>qf keep co a r
def x_ (co:List Nat):Nat->Doc->Nat
 | a,[]=>a
 | a,x::r=>if co.contains x.number=true then x_ co x.number r else x_ co a r
def atC (L:List (Nat × Cell)) (a:Nat):List Cell:=(L.filter fun x=>x.1 == a).map fun x=>x.2
theorem kL (keep:Cell->Option Cell) (co:List Nat) (x:Cell):∀ (d:Doc) (a:Nat),qf keep co a (d++[x])=qf keep co a d++(if co.contains x.number=true then [] else match keep x with
 | some y=>[(x_ co a d,y)]
 | none=>[])
 | [],a=>by
  rw[List.nil_append,qf,qf,x_]
  split
  . simp[qf]
  . cases keep x <;> simp[qf]
 | z::r,a=>by
  rw[List.cons_append,qf,qf,x_]
  by_cases h:co.contains z.number=true
  . rw[if_pos h,if_pos h,if_pos h]
    exact kL keep co x r _
  . rw[if_neg h,if_neg h,if_neg h]
    have ih:=kL keep co x r a
    cases keep z with
    | none=>exact ih
    | some y =>
     show (a,y)::qf keep co a (r++[x])=_
     rw[ih]
     rfl
theorem xJ (co:List Nat) (x:Cell):∀ (d:Doc) (a:Nat),x_ co a (d++[x])=if co.contains x.number=true then x.number else x_ co a d
 | [],a=>by
  rw[List.nil_append,x_,x_]
  split <;> rfl
 | z::r,a=>by
  rw[List.cons_append,x_,x_]
  by_cases h:co.contains z.number=true
  . rw[if_pos h,if_pos h]
    exact xJ co x r _
  . rw[if_neg h,if_neg h]
    exact xJ co x r a
theorem JZ {loose:Cell->Option Item}{keep:Cell->Option Cell}{f:Cell->Item}{co:List Nat}:∀ {d:Doc}{a:Nat},(∀ x,x∈d->¬x.number∈co->loose x=(keep x).map f)->behind loose co a d=(qf keep co a d).map fun x=>(x.1,f x.2)
 | [],a,_=>rfl
 | x::r,a,h=>by
  have ih:∀ b,behind loose co b r=(qf keep co b r).map fun x=>(x.1,f x.2):=fun b=>JZ fun y hy=>h y (List.mem_cons_of_mem _ hy)
  rw[behind,qf]
  by_cases hc:co.contains x.number=true
  . rw[if_pos hc,if_pos hc]
    exact ih _
  . rw[if_neg hc,if_neg hc,h x (List.mem_cons_self ..) (by simpa using hc)]
    cases keep x with
    | none=>exact ih a
    | some y =>
     show (a,f y)::behind loose co a r=_
     rw[ih a]
     rfl
theorem acU {L:List (Nat × Cell)}{f:Cell->Item} (a:Nat):at_ (L.map fun x=>(x.1,f x.2)) a=(atC L a).map f:=by
 unfold at_ atC
 rw[List.filter_map,List.map_map,List.map_map]
 rfl
def vq (co:List Nat) (d:Doc):List Nat:=0::(numbers d).filter fun n=>co.contains n
theorem J_ (co:List Nat):∀ (d:Doc) (a:Nat),x_ co a d=a∨x_ co a d∈(numbers d).filter fun n=>co.contains n
 | [],a=>.inl rfl
 | x::r,a=>by
  rw[x_]
  show _∨_∈(x.number::numbers r).filter fun n=>co.contains n
  by_cases h:co.contains x.number=true
  . rw[if_pos h,List.filter_cons_of_pos h]
    rcases J_ co r x.number with e | e
    . exact .inr (by rw[e];exact List.mem_cons_self ..)
    . exact .inr (List.mem_cons_of_mem _ e)
  . rw[if_neg h,List.filter_cons_of_neg h]
    exact J_ co r a
theorem K0 {keep:Cell->Option Cell}{co:List Nat}{n:Nat}:∀ {d:Doc}{a:Nat},n≠a->¬n∈(numbers d).filter (fun m=>co.contains m)->atC (qf keep co a d) n=[]
 | [],a,_,_=>rfl
 | x::r,a,ha,hn=>by
  change ¬n∈(x.number::numbers r).filter (fun m=>co.contains m) at hn
  rw[qf]
  by_cases h:co.contains x.number=true
  . rw[if_pos h]
    rw[List.filter_cons_of_pos h] at hn
    exact K0 (fun e=>hn (by rw[e];exact List.mem_cons_self ..)) fun e=>hn (List.mem_cons_of_mem _ e)
  . rw[if_neg h]
    rw[List.filter_cons_of_neg h] at hn
    have ih:=K0 (keep:=keep) (co:=co) (n:=n) (d:=r) (a:=a) ha hn
    cases keep x with
    | none=>exact ih
    | some y =>
     show atC ((a,y)::qf keep co a r) n=[]
     unfold atC at ih ⊢
     rw[List.filter_cons_of_neg (by simpa using fun e:a=n=>ha e.symm)]
     exact ih
theorem aaq (L:List (Nat × Cell)) (a:Nat) (y:Cell) (n:Nat):atC (L++[(a,y)]) n=atC L n++(if a=n then [y] else []):=by
 unfold atC
 rw[List.filter_append,List.map_append]
 by_cases h:a=n
 . simp[h]
 . simp[h]
structure MC where
 cell:Cell
 l:Nat
 r:Nat
def kM (s:State) (m:MC):Item:=⟨kK s m.cell.number,m.l,m.r,m.cell.hidden,m.cell.text⟩
def jC (s:State) (l r:List Cell):List MC:=match cmpItems (l.map (qv s 1)) (r.map (qv s 2)) with
 | .eq=>(l.zip r).map fun x=>⟨x.1,x.1.number,x.2.number⟩
 | .lt=>(l.map fun c=>(⟨c,c.number,0⟩:MC))++r.map fun c=>(⟨c,0,c.number⟩:MC)
 | .gt=>(r.map fun c=>(⟨c,0,c.number⟩:MC))++l.map fun c=>(⟨c,c.number,0⟩:MC)
theorem X7 (s:State):∀ (l r:List Cell),(((l.map (qv s 1)).zip (r.map (qv s 2))).map fun x=>({ x.1 with onRight:=x.2.onRight }:Item))=((l.zip r).map fun x=>(⟨x.1,x.1.number,x.2.number⟩:MC)).map (kM s)
 | [],_=>rfl
 | _::_,[]=>rfl
 | a::l,b::r=>by
  rw[List.map_cons,List.map_cons,List.zip_cons_cons,List.map_cons,X7 s l r]
  rfl
theorem ZB (s:State) (l r:List Cell):gap (l.map (qv s 1)) (r.map (qv s 2))=(jC s l r).map (kM s):=by
 unfold gap jC
 have e1:(l.map fun c=>(⟨c,c.number,0⟩:MC)).map (kM s)=l.map (qv s 1):=by rw[List.map_map];rfl
 have e2:(r.map fun c=>(⟨c,0,c.number⟩:MC)).map (kM s)=r.map (qv s 2):=by rw[List.map_map];rfl
 cases cmpItems (l.map (qv s 1)) (r.map (qv s 2)) with
 | eq=>exact X7 s l r
 | lt =>
  show _=List.map (kM s) (_++_)
  rw[List.map_append,e1,e2]
 | gt =>
  show _=List.map (kM s) (_++_)
  rw[List.map_append,e1,e2]
def yI (s:State):Nat->List MC->List MC
 | _,[]=>[]
 | k,m::r=>if has s.base m.cell.number=true then m::yI s k r else ⟨⟨k+1,m.cell.hidden,m.cell.text⟩,m.l,m.r⟩::yI s (k+1) r
def ZC (x:Nat × Item):MC:=⟨⟨x.1,x.2.hidden,x.2.text⟩,x.2.onLeft,x.2.onRight⟩
theorem Z7 {s:State} (S:qu s):∀ (ms:List MC) (k:Nat),(numbered k (ms.map (kM s))).map ZC=yI s k ms
 | [],_=>rfl
 | m::r,k=>by
  rw[List.map_cons,numbered,yI]
  by_cases h:has s.base m.cell.number=true
  . have ho:(kM s m).own=m.cell.number:=by simp[kM,kK,h]
    have hpos:m.cell.number≠0:=by
     have:=Qx S.b (has_iff.mp h)
     omega
    rw[if_neg (by rw[ho];exact hpos),if_pos h,List.map_cons,Z7 S r k,ho]
    rfl
  . have ho:(kM s m).own=0:=by simp[kM,kK,h]
    rw[if_pos ho,if_neg h,List.map_cons,Z7 S r (k+1)]
    rfl
theorem Vp (l:List (Nat × Item)):docOf l=(l.map ZC).map fun m=>m.cell:=by
 unfold docOf
 rw[List.map_map]
 rfl
def jP (s:State) (n:Nat) (c l r:Cell):MC:=⟨⟨n,mergedMark c.hidden l.hidden r.hidden,(match mergedText c.text l.text r.text with
 | some t=>t
 | none=>if choiceOf s 1 n=1 then l.text else if choiceOf s 1 n=2 then r.text else c.text)⟩,n,n⟩
theorem KW {s:State} (S:qu s) (ho:open_ s=0) {n:Nat}{c l r:Cell} (hc:find s.base n=some c) (hl:find s.left n=some l) (hr:find s.right n=some r):commonItem s n=some (kM s (jP s n c l r)):=by
 have hb:=JX hc
 unfold commonItem
 rw[hc,hl,hr]
 show Option.map _ _=_
 unfold kM jP
 cases e:mergedText c.text l.text r.text with
 | some t=>simp[kK,hb]
 | none =>
  have hcb:=(kE hc).1
  have hcn:=(kE hc).2
  have hk:(1,n)∈conflicts s:=by
   unfold conflicts
   refine List.mem_append.mpr (.inl (List.mem_filterMap.mpr ⟨c,hcb,?_⟩))
   unfold conflictAt
   rw[hcn,hl,hr]
   simp[e]
  have h0:=wO ho hk
  have h3:=Vn S 1 n
  have h123:choiceOf s 1 n=1∨choiceOf s 1 n=2∨choiceOf s 1 n=3:=by omega
  rcases h123 with h | h | h
  . rw[h];simp[Vanbki.chosen,kK,hb]
  . rw[h];simp[Vanbki.chosen,kK,hb]
  . rw[h];simp[Vanbki.chosen,kK,hb]
def jr (s:State):List Nat:=match mergedOrder s with
 | some o=>o
 | none=>if choiceOf s 4 0=1 then orderIn s s.left else if choiceOf s 4 0=2 then orderIn s s.right else common s
theorem W6 {s:State} (S:qu s) (ho:open_ s=0):kJ s=some (jr s):=by
 unfold kJ jr
 cases e:mergedOrder s with
 | some o=>rfl
 | none =>
  have hk:(4,0)∈conflicts s:=by
   unfold conflicts
   rw[e]
   simp
  have h0:=wO ho hk
  have h3:=Vn S 4 0
  have h123:choiceOf s 4 0=1∨choiceOf s 4 0=2∨choiceOf s 4 0=3:=by omega
  rcases h123 with h | h | h
  . simp[h,Vanbki.chosen]
  . simp[h,Vanbki.chosen]
  . simp[h,Vanbki.chosen]
def qH (s:State) (side:Nat):List (Nat × Cell):=qf (yH s side) (common s) 0 (if side=1 then s.left else s.right)
theorem X8 {s:State} (S:qu s) (n:Nat):at_ (qW s) n=(atC (qH s 1) n).map (qv s 1):=by
 unfold qW qH
 rw[JZ (keep:=yH s 1) (f:=qv s 1) fun x hx hn=>JY S hx hn,acU]
 rfl
theorem X9 {s:State} (S:qu s) (n:Nat):at_ (j4 s) n=(atC (qH s 2) n).map (qv s 2):=by
 unfold j4 qH
 rw[JZ (keep:=yH s 2) (f:=qv s 2) fun x hx hn=>Ji S hx hn,acU]
 rfl
def Uo (s:State) (n:Nat):List MC:=match find s.base n,find s.left n,find s.right n with
 | some c,some l,some r=>[jP s n c l r]
 | _,_,_=>[]
def mcs (s:State):List MC:=jC s (atC (qH s 1) 0) (atC (qH s 2) 0)++(jr s).flatMap fun n=>Uo s n++jC s (atC (qH s 1) n) (atC (qH s 2) n)
theorem abB {s:State} (S:qu s) (ho:open_ s=0):items s=some ((mcs s).map (kM s)):=by
 unfold items
 rw[if_neg (by omega)]
 show Option.map _ (kJ s)=_
 rw[W6 S ho]
 show some (gap (at_ (qW s) 0) (at_ (j4 s) 0)++(jr s).flatMap fun n=>(commonItem s n).toList++gap (at_ (qW s) n) (at_ (j4 s) n))=_
 congr 1
 unfold mcs
 rw[List.map_append,List.map_flatMap]
 congr 1
 . rw[X8 S,X9 S,ZB]
 . congr 1
   funext n
   rw[List.map_append,<-ZB,<-X8 S,<-X9 S]
   congr 1
   unfold Uo
   cases hb:find s.base n with
   | none=>unfold commonItem;rw[hb];rfl
   | some c =>
    cases hl:find s.left n with
    | none=>unfold commonItem;rw[hb,hl];rfl
    | some l =>
     cases hr:find s.right n with
     | none=>unfold commonItem;rw[hb,hl,hr];rfl
     | some r=>rw[KW S ho hb hl hr];rfl
theorem aar {s:State} (S:qu s):(open_ s≠0->result s=none)/\(open_ s=0->∃ l,result s=some l/\l.map ZC=yI s (top s) (mcs s)):=by
 constructor
 . intro h
   unfold result items
   rw[if_pos (by omega)]
   rfl
 . intro h
   unfold result
   rw[abB S h]
   exact⟨_,rfl,Z7 S _ _⟩
end Tb
end
section
namespace Tb
open Vanbki
theorem Y2 (a b:List Text):min (inCommon a b) (min a.length b.length)=inCommon a b:=by
 have:=vM a b
 omega
theorem uR {a b:List Text}{k m:Nat} (hm1:m<=a.length) (hm2:m<=b.length) (hk:k<=m) (he:∀ i,i<k->a[i]?=b[i]?) (hn:k=m∨a[k]?≠b[k]?):min (inCommon a b) m=k:=QZ hm1 hm2 hk he hn
def yJ (b x:List Text):Nat:=min (inCommon b.reverse x.reverse) (min b.length x.length - inCommon b x)
theorem W7 (b x:List Text):(changeOf b x).q=b.length - yJ b x:=rfl
theorem Y3 (b x:List Text):(changeOf b x).new=(x.drop (inCommon b x)).take (x.length - yJ b x - inCommon b x):=rfl
theorem Up (b x:List Text):inCommon b x+yJ b x<=b.length/\inCommon b x+yJ b x<=x.length:=by
 have:=vM b x
 unfold yJ
 omega
theorem ZD (t:Text):(linesOf t).length<=t.length+1:=by
 induction t with
 | nil=>simp[linesOf]
 | cons c r ih =>
  by_cases h:c=10
  . subst h
    rw[vp]
    simp
    omega
  . obtain⟨l,m,e1,e2⟩:=j5 (r:=r) h
    rw[e2]
    rw[e1] at ih
    simp at ih ⊢
    omega
def size (ls:List Text):Nat:=(ls.map fun l=>l.length+1).sum
theorem kG (a b:List Text):size (a++b)=size a+size b:=by simp[size]
theorem ZE {a b:List Text} (h:a.Sublist b):size a<=size b:=by
 induction h with
 | slnil=>simp
 | cons x h ih=>simp[size] at ih ⊢;omega
 | cons_cons x h ih=>simp[size] at ih ⊢;omega
theorem ZF:∀ ls:List Text,(unlines ls).length<=size ls
 | []=>by simp[unlines]
 | [l]=>by simp[unlines,size]
 | l::a::m=>by
  have ih:=ZF (a::m)
  rw[unlines]
  . simp[size] at ih ⊢
    omega
  . simp
theorem yi (t:Text):size (linesOf t)=t.length+1:=by
 induction t with
 | nil=>simp[linesOf,size]
 | cons c r ih =>
  by_cases h:c=10
  . subst h
    rw[vp]
    simp[size] at ih ⊢
    omega
  . obtain⟨l,m,e1,e2⟩:=j5 (r:=r) h
    rw[e2]
    rw[e1] at ih
    simp[size] at ih ⊢
    omega
theorem wP (b x:List Text):size (changeOf b x).new<=size x :=
 ZE ((List.take_sublist ..).trans (List.drop_sublist ..))
theorem Vq (b:List Text) (f g:Change):size (both b f g)<=3 * size b+size f.new+size g.new:=by
 unfold both
 rw[kG,kG,kG,kG]
 have h1:=ZE (List.take_sublist f.p b)
 have h2:=ZE ((List.take_sublist (g.p - f.q) (b.drop f.q)).trans (List.drop_sublist f.q b))
 have h3:=ZE (List.drop_sublist g.q b)
 omega
theorem aas (b:List Text) (f g:Change):(unlines (both b f g)).length<=3 * size b+size f.new+size g.new:=Nat.le_trans (ZF _) (Vq b f g)
theorem Uq {t l:Text} (h:l∈linesOf t):l.length<=t.length:=by
 have h1:=yi t
 have h2:l.length+1<=size (linesOf t):=by
  obtain⟨a,b,e⟩:=List.append_of_mem h
  rw[e,kG]
  simp[size]
  omega
 omega
def kN (s:State) (c:Cell):Nat:=(conflictAt s c).getD 0
theorem yK {s:State}{c:Cell}{k:Nat} (h:conflictAt s c=some k):k≠0/\k<=3:=by
 unfold conflictAt at h
 split at h <;> (try split at h) <;> (try cases h) <;> simp
theorem W8 (s:State) (c:Cell):((conflictAt s c).map fun k=>(k,c.number))=if kN s c=0 then none else some (kN s c,c.number):=by
 unfold kN
 cases e:conflictAt s c with
 | none=>simp
 | some k=>simp[(yK e).1]
theorem K1 (s:State):conflicts s=(s.base.filterMap fun c=>if kN s c=0 then none else some (kN s c,c.number))++(if (mergedOrder s).isNone=true then [(4,0)] else []):=by
 unfold conflicts
 congr 2
 funext c
 exact W8 s c
theorem Jj {s:State} (S:qu s) {x:Nat × Nat} (h:x∈conflicts s):x.1<=4/\x.2<=99:=by
 by_cases h4:x.1=4
 . unfold conflicts at h
   rcases List.mem_append.mp h with h | h
   . obtain⟨c,hc,e⟩:=List.mem_filterMap.mp h
     cases q:conflictAt s c with
     | none=>rw[q] at e;cases e
     | some j =>
      rw[q] at e
      have e':(j,c.number)=x:=by simpa using e
      subst e'
      have:=S.b.num c hc
      have:=yK q
      exact⟨by simp;omega,by simp;omega⟩
   . split at h
     . have:x=(4,0):=by simpa using h
       subst this
       simp
     . cases h
 . obtain⟨c,hc,en,ek⟩:=xZ (k:=x.1) (n:=x.2) h h4
   have:=S.b.num c hc
   have:=yK ek
   omega
end Tb
end
section
namespace TbRaw
open PySem
section
variable {prog:Program}{w:World}{A:Around}{E:Value->Shared->Prop}{s:Shared}
theorem W9 (d:Addr) (hd:(d == sysModules)=false):MeetsIn prog w (Builtin.«dict.items» ⟨[.ref d],[]⟩) (fun _ R s=>s.TypeIs (.ref d) "dict"/\R (.ok (.ret (.ref s.heap.objs.size))) { s with heap:=s.heap.push { cls:=.type "dict_items",data:=.fields #[.ref d] } }) :=
 .of_wp fun A R s ⟨ht,h⟩=>by
  have nd:¬((d == sysModules)=true):=by rw[hd];exact Bool.false_ne_true
  unfold Builtin.«dict.items» Builtin.Dict.noArgs
  refine wpAny_bind (wpAny_bind (wpAny_notOrdered_dict ht (show wpAny _ _ (pure d) _ _ s from wpAny_pure ?_)))
  show wpAny _ _ (Builtin.Dict.showsAll d >>= _) _ _ s
  unfold Builtin.Dict.showsAll
  rw[if_neg nd]
  exact wpAny_bind (wpAny_pure (wpAny_bind (wpAny_newObj_type (wpAny_pure ⟨_,rfl,h⟩))))
theorem Wa {v d:Addr}{od:Obj}{es:Array DictEntry}{ep:Nat}{Q:Value->Shared->Prop} (hv:s.heap.IsItemsView v d) (hod:s.heap.get? d=some od) (hdd:od.data=.dict es ep)
 (hQ:Q (.ref s.heap.objs.size) { s with heap:=s.heap.push { cls:=.type "dict_itemiterator",data:=.fields #[.none,.bool false,.ref d,.int 0 0,.int es.size 0,.int ep 0,.none,.none] } }):wpAny (model prog w) A (pyIter (.ref v)) Q E s:=by
 obtain⟨ov,hov,hcv,hdv⟩:=id hv
 refine wpAny_pyIter_slot hv.typeIs F.slot_dict_items_iter (wpAny_call_entry F.slot_dict_items_iter hv.typeIs F.entry_dict_items_iter ?_ (F.args_dict_items_iter_1 _))
 unfold Builtin.«dict_items.__iter__» Builtin.Dict_items.dictOf Builtin.Dict_items.newIterator
 refine wpAny_bind (wpAny_pure (wpAny_bind (wpAny_bind (wpAny_field hov hdv (x:=.ref d) rfl (wpAny_pure ?_)))))
 refine wpAny_bind (wpAny_bind (wpAny_dictEntries hod hdd (wpAny_bind (wpAny_dictEpoch hod hdd ?_))))
 simp only[show Builtin.Dict_items.ownsTuple "dict_itemiterator"=true by decide,if_true]
 refine wpAny_newObj_type (wpAny_pure ⟨_,rfl,"dict_itemiterator",_,⟨_,Heap.get?_push_size _ rfl,rfl⟩,F.slot_dict_itemiterator_next.lookup,?_⟩) (by
  simp only[sizeOk,Builtin.Dict_items.ownedTupleFields,List.size_toArray,List.length_append,List.length_cons,List.length_nil,sizeLine_eq]
  omega)
 simpa [rawInt,Builtin.Dict_items.ownedTupleFields] using hQ
theorem Wb {it d:Addr}{i n ep:Nat}{od:Obj}{es:Array DictEntry}{en:DictEntry}{ok ov:Value}{Q:Option Value->Shared->Prop} (hit:IsItemIter s.heap it d i n ep ok ov) (hod:s.heap.get? d=some od) (hdd:od.data=.dict es ep)
 (hsz:es.size=n) (hx:es[i]?=some en)
 (hQ:∀ h',IsItemIterOut h' it d (i+1) n ep en.key en.val s.heap.objs.size->h'.get? s.heap.objs.size=some { cls:=.type "tuple",data:=.seq #[en.key,en.val] }->h'.objs.size=s.heap.objs.size+1 ->
  (∀ b o,b≠it->s.heap.get? b=some o->h'.get? b=some o)->Q (some (.ref s.heap.objs.size)) { s with heap:=h' }):wpAny (model prog w) A (pyNext (.ref it)) Q E s:=by
 obtain⟨hp,g,dr,tk,os⟩:=s
 have hT:Shared.TypeIs ⟨hp,g,dr,tk,os⟩ (.ref it) "dict_itemiterator":=⟨_,hit,rfl⟩
 obtain⟨hlt',hen⟩:=Array.getElem?_eq_some_iff.mp hx
 subst hen
 unfold pyNext
 refine wpAny_bind (wpAny_attempt (wpAny_callSpecial?_slot (name:=Str.ofString "__next__") hT F.slot_dict_itemiterator_next (wpAny_call_entry F.slot_dict_itemiterator_next hT F.entry_dict_itemiterator_next ?_ (F.args_dict_itemiterator_next_1 _))))
 refine wpAny_bind (wpAny_pure (wpAny_bind (wpAny_bind ?_)))
 first | refine wpAny_bind (wpAny_typeNameOfWhole_itemiter hT (wpAny_pure (wpAny_bind (wpAny_fieldsOf hit rfl ?_)))) | refine wpAny_bind (wpAny_typeNameOf_itemiter hT (wpAny_pure (wpAny_bind (wpAny_fieldsOf hit rfl ?_))))
 simp only[show Builtin.Dict_items.ownsTuple "dict_itemiterator"=true by decide,if_true]
 show wpAny _ _ (if (Value.ref d == Value.none)=true then _ else _) _ _ _
 rw[if_neg (show ¬((Value.ref d == Value.none)=true) from Bool.false_ne_true)]
 refine wpAny_bind (wpAny_pure (wpAny_bind (wpAny_dictEntries hod hdd ?_)))
 rw[if_neg (by rw[hsz];simp)]
 refine wpAny_bind (wpAny_pure (wpAny_bind (wpAny_dictEpoch hod hdd ?_)))
 rw[if_neg (by simp)]
 refine wpAny_pure ?_
 simp only[show ¬((i:Int)<0) from by omega,if_false,Int.toNat_natCast,Array.getElem?_eq_getElem hlt']
 refine wpAny_bind ?_
 first | refine wpAny_bind (wpAny_typeNameOfWhole_itemiter hT (wpAny_pure (wpAny_bind (wpAny_isOneOf_itemiter hT ?_)))) | refine wpAny_bind (wpAny_typeNameOf_itemiter hT (wpAny_pure (wpAny_bind (wpAny_isOneOf_itemiter hT ?_))))
 show wpAny _ _ (setField (.ref it) 3 (rawInt ((i:Int)+1)) >>= _) _ _ ⟨hp,g,dr,tk,os⟩
 refine wpAny_bind (wpAny_setField_rec hit (by simp) fun h₁ he₁ hs₁=>?_)
 replace hs₁:Heap.SameBut it hp h₁:=hs₁
 have he1:IsItemIter h₁ it d (i+1) n ep ok ov:=by
  unfold IsItemIter
  rw[show ((i+1:Nat):Int)=(i:Int)+1 by omega]
  simpa [rawInt] using he₁
 have hT1:Shared.TypeIs ⟨h₁,g,dr,tk,os⟩ (.ref it) "dict_itemiterator":=⟨_,he1,rfl⟩
 refine wpAny_bind (wpAny_holding (wpAny_bind (wpAny_isOneOf_itemiter hT1 (wpAny_bind (wpAny_isOneOf_itemiter hT1 ?_)))))
 show wpAny _ _ (Builtin.Dict_items.pairFromOwner (.ref it) 6 es[i].key es[i].val) _ _ ⟨h₁,g,dr,tk,os⟩
 unfold Builtin.Dict_items.pairFromOwner
 refine wpAny_bind (wpAny_newTuple ?_)
 have he2:IsItemIter (h₁.push { cls:=.type "tuple",data:=.seq #[es[i].key,es[i].val] }) it d (i+1) n ep ok ov:=Heap.get?_push_of_some _ he1
 generalize hh2:h₁.push { cls:=.type "tuple",data:=.seq #[es[i].key,es[i].val] }=h2 at he2
 have hz1:h₁.objs.size=hp.objs.size:=hs₁.1
 have hil:it<hp.objs.size:=Heap.lt_size hit
 have hne:hp.objs.size≠it:=Nat.ne_of_gt hil
 have ht2:h2.get? hp.objs.size=some { cls:=.type "tuple",data:=.seq #[es[i].key,es[i].val] }:=by
  rw[<-hh2,<-hz1]
  exact Heap.get?_push_size _ rfl
 have hz2:h2.objs.size=hp.objs.size+1:=by rw[<-hh2,Heap.size_push,hz1]
 have hk2:∀ b o,b≠it->hp.get? b=some o->h2.get? b=some o:=fun b o hb e=>by
  rw[<-hh2]
  exact Heap.get?_push_of_some _ (hs₁.extBut b o hb e)
 show wpAny _ _ (Builtin.Dict_items.ownedTupleIsFree (.ref it) >>= _) _ _ ⟨h2,g,dr,tk,os⟩
 rw[hz1]
 clear hh2 he1 he₁ hs₁ hT1 hz1 h₁
 unfold Builtin.Dict_items.ownedTupleIsFree
 refine wpAny_bind (wpAny_bind (wpAny_field he2 rfl (x:=.none) rfl (wpAny_pure ?_)))
 simp only[if_true]
 refine wpAny_bind (wpAny_field he2 rfl (x:=ok) rfl (wpAny_bind (wpAny_field he2 rfl (x:=ov) rfl ?_)))
 refine wpAny_bind (wpAny_setField_rec he2 (by simp) fun h3 he3 hs3=>?_)
 replace hs3:Heap.SameBut it h2 h3:=hs3
 replace he3:IsItemIter h3 it d (i+1) n ep es[i].key ov:=he3
 refine wpAny_bind (wpAny_setField_rec he3 (by simp) fun h4 he4 hs4=>?_)
 replace hs4:Heap.SameBut it h3 h4:=hs4
 replace he4:IsItemIter h4 it d (i+1) n ep es[i].key es[i].val:=he4
 refine wpAny_bind (wpAny_setField_rec he4 (by simp) fun h5 he5 hs5=>?_)
 replace hs5:Heap.SameBut it h4 h5:=hs5
 replace he5:IsItemIterOut h5 it d (i+1) n ep es[i].key es[i].val hp.objs.size:=he5
 refine wpAny_bind (wpAny_setField_rec he5 (by simp) fun h6 he6 hs6=>?_)
 replace hs6:Heap.SameBut it h5 h6:=hs6
 replace he6:IsItemIterOut h6 it d (i+1) n ep es[i].key es[i].val hp.objs.size:=he6
 have up:∀ b o,b≠it->h2.get? b=some o->h6.get? b=some o:=fun b o hb e=>hs6.extBut b o hb (hs5.extBut b o hb (hs4.extBut b o hb (hs3.extBut b o hb e)))
 refine wpAny_bind (wpAny_letGo (wpAny_pure (wpAny_pure ⟨_,rfl,wpAny_pure (hQ h6 he6 (up _ _ hne ht2) ?_ fun b o hb e=>up b o hb (hk2 b o hb e))⟩)))
 show h6.objs.size=hp.objs.size+1
 rw[hs6.1,hs5.1,hs4.1,hs3.1,hz2]
theorem Ur {it d:Addr}{i n ep:Nat}{od:Obj}{es:Array DictEntry}{ok ov:Value}{Q:Option Value->Shared->Prop} (hh:A.handled=none) (hit:IsItemIter s.heap it d i n ep ok ov) (hod:s.heap.get? d=some od) (hdd:od.data=.dict es ep)
 (hsz:es.size=n) (hge:n<=i) (hQ:∀ h',Heap.ExtBut it s.heap h'->Q none { s with heap:=h' }):wpAny (model prog w) A (pyNext (.ref it)) Q E s:=by
 have hT:s.TypeIs (.ref it) "dict_itemiterator":=⟨_,hit,rfl⟩
 have hge':es.size<=i:=by omega
 unfold pyNext
 refine wpAny_bind (wpAny_attempt (wpAny_callSpecial?_slot (name:=Str.ofString "__next__") hT F.slot_dict_itemiterator_next (wpAny_call_entry F.slot_dict_itemiterator_next hT F.entry_dict_itemiterator_next ?_ (F.args_dict_itemiterator_next_1 _))))
 refine wpAny_bind (wpAny_pure (wpAny_bind (wpAny_bind ?_)))
 first | refine wpAny_bind (wpAny_typeNameOfWhole_itemiter hT (wpAny_pure (wpAny_bind (wpAny_fieldsOf hit rfl ?_)))) | refine wpAny_bind (wpAny_typeNameOf_itemiter hT (wpAny_pure (wpAny_bind (wpAny_fieldsOf hit rfl ?_))))
 simp only[show Builtin.Dict_items.ownsTuple "dict_itemiterator"=true by decide,if_true]
 show wpAny _ _ (if (Value.ref d == Value.none)=true then _ else _) _ _ s
 rw[if_neg (show ¬((Value.ref d == Value.none)=true) from Bool.false_ne_true)]
 refine wpAny_bind (wpAny_pure (wpAny_bind (wpAny_dictEntries hod hdd ?_)))
 rw[if_neg (by rw[hsz];simp)]
 refine wpAny_bind (wpAny_pure (wpAny_bind (wpAny_dictEpoch hod hdd ?_)))
 rw[if_neg (by simp)]
 refine wpAny_pure ?_
 simp only[show ¬((i:Int)<0) from by omega,if_false,Int.toNat_natCast,Array.getElem?_eq_none hge']
 refine wpAny_bind ?_
 first | refine wpAny_bind (wpAny_typeNameOfWhole_itemiter hT (wpAny_pure ?_)) | refine wpAny_bind (wpAny_typeNameOf_itemiter hT (wpAny_pure ?_))
 show wpAny _ _ (setField (.ref it) 2 .none >>= _) _ _ s
 refine wpAny_bind (wpAny_setField hit rfl (by simp) ?_)
 show wpAny _ _ (newExc (.type "StopIteration") [] >>= _) _ _ _
 simp only[newExc,newTuple]
 refine wpAny_bind (wpAny_bind (wpAny_newObj_type (wpAny_bind (m:=firstArgMember _ _) (wpAny_of_eq (a:=Value.none) (by first | rfl | (simp only[firstArgMember];rfl)) (wpAny_newObj_type ?_ (by size_fits)))) (by size_fits)))
 simp only[raiseNew]
 refine wpAny_bind (wpAny_handled ?_)
 rw[show A.in1.handled=none from hh]
 refine wpAny_bind (wpAny_pure (wpAny_throw ?_))
 refine wpAny_bind (wpAny_isInstance (T:="StopIteration") (b:=true) ⟨_,Heap.get?_push_size _ rfl,rfl⟩ isSubtype_stop ?_)
 exact wpAny_pure (hQ _ (((Heap.SameBut.update ..).extBut.push _).push _))
end
end TbRaw
end
section
namespace TbRaw
open PySem PySem.SeqAt
open PySem.AutoSeq1 (wpAny_loadPart')
open PySem.MeetsSeq PySem.MeetsSeq3
def LtAt (A:Around) (s:Shared) (y x:Value) (b:Bool):Prop :=
 ∀ (prog:Program) (w:World) (E:Value->Shared->Prop) (Q:Value->Shared->Prop),Q (.bool b) s->wpAny (model prog w) A (richCompare .Lt y x) Q E s
inductive Lex (A:Around) (s:Shared):List Value->List Value->Bool->Prop
 | nn:Lex A s [] [] false
 | nc {w ws}:Lex A s [] (w::ws) true
 | cn {v vs}:Lex A s (v::vs) [] false
 | same {v w vs ws b}:EqAt A s v w true->Lex A s vs ws b->Lex A s (v::vs) (w::ws) b
 | diff {v w vs ws b}:EqAt A s v w false->LtAt A s v w b->Lex A s (v::vs) (w::ws) b
theorem Lex.nils {A:Around}{s:Shared}{vs ws:List Value}{b:Bool} (h:Lex A s vs ws b) (e:vs.length=0∨ws.length=0):b=decide (vs.length<ws.length):=by
 cases h with
 | nn=>rfl
 | nc=>simp
 | cn=>simp
 | same _ _=>simp at e
 | diff _ _=>simp at e
theorem Us (l b:Addr) (items items2:Array Value) (n n2:Nat) (dd dd2:Option Addr) (sl sl2:Array (Option Value)) (r:Bool) (k:Nat) :
 ∀ i:Nat,items.size+items2.size - i=k->i<=items.size->i<=items2.size->Meets (Builtin.«list.__eq__.loop» ⟨[.ref l,.ref b,rawInt i,rawInt 0],[]⟩)
  (fun A R s=>s.heap.get? l=some { cls:=.type "list",dict:=dd,data:=.seq items n,slots:=sl }/\s.heap.get? b=some { cls:=.type "list",dict:=dd2,data:=.seq items2 n2,slots:=sl2 } /\
   Lex A.in1 s (items.toList.drop i) (items2.toList.drop i) r/\R (.ok (.ret (.bool r))) s):=by
 induction k with
 | zero =>
  intro i hk h1 h2 prog w A R s h
  obtain⟨hp,g,d,tk,os⟩:=s;obtain⟨hl,hb,hx,h⟩:=h
  wp_walk using wpAny_loadPart' hl,wpAny_loadPart' hb
  have hi1:items[((i:Nat):Int).toNat]?=none:=by simp;omega
  rw[hi1]
  wp_walk using wpAny_loadPart' hl,wpAny_loadPart' hb
  have e:=hx.nils (.inl (by simp;omega))
  show R (.ok (.ret (.bool (decide (items.size<items2.size))))) _
  have e2:r=decide (items.size<items2.size):=by
   rw[e]
   congr 1
   simp
   omega
  rw[<-e2]
  exact h
 | succ k ih =>
  intro i hk g1 g2 prog w A R s h
  obtain⟨hp,g,d,tk,os⟩:=s;obtain⟨hl,hb,hx,h⟩:=h
  wp_walk using wpAny_loadPart' hl,wpAny_loadPart' hb
  by_cases hlt:i<items.size/\i<items2.size
  . obtain⟨hlt,hlt2⟩:=hlt
    have hi1:items[((i:Nat):Int).toNat]?=some items[i]:=by simp[hlt]
    have hi2:items2[((i:Nat):Int).toNat]?=some items2[i]:=by simp[hlt2]
    have hd1:items.toList.drop i=items[i]::items.toList.drop (i+1):=by simp[List.drop_eq_getElem_cons,hlt]
    have hd2:items2.toList.drop i=items2[i]::items2.toList.drop (i+1):=by simp[List.drop_eq_getElem_cons,hlt2]
    have hc:((i:Int)+1)=((i+1:Nat):Int):=by push_cast;rfl
    rw[hd1,hd2] at hx
    rw[hi1,hi2]
    cases hx with
    | same he hx =>
     refine wpAny_bind (he prog w _ _ ?_)
     wp_walk
     rw[hc]
     exact⟨plainId_quiet plain_eq_loop _,codeAny_builtin entry_eq_loop (by
      rw[Around.under_plainId plain_eq_loop _]
      exact ih (i+1) (by omega) hlt hlt2 prog w A R _ ⟨hl,hb,hx,h⟩)⟩
    | diff he hr =>
     refine wpAny_bind (he prog w _ _ ?_)
     wp_walk using wpAny_loadPart' hl,wpAny_loadPart' hb
     rw[hi1,hi2]
     have hri:=hr prog w
     wp_walk using hri
     exact h
  . have hn:items[((i:Nat):Int).toNat]?=none∨items2[((i:Nat):Int).toNat]?=none:=by
     simp only[Int.toNat_natCast,Array.getElem?_eq_none_iff]
     omega
    have e:=hx.nils (by simp;omega)
    have e2:r=decide (items.size<items2.size):=by
     rw[e]
     congr 1
     simp
     omega
    rw[e2] at h
    rcases hn with hn | hn
    . rw[hn]
      wp_walk using wpAny_loadPart' hl,wpAny_loadPart' hb
      exact h
    . cases q:items[((i:Nat):Int).toNat]? with
      | none =>
       wp_walk using wpAny_loadPart' hl,wpAny_loadPart' hb
       exact h
      | some v =>
       rw[hn]
       wp_walk using wpAny_loadPart' hl,wpAny_loadPart' hb
       exact h
theorem Ut (l b:Addr) (items items2:Array Value) (n n2:Nat) (dd dd2:Option Addr) (sl sl2:Array (Option Value)) (r:Bool) :
 Meets (Builtin.«list.__lt__» ⟨[.ref l,.ref b],[]⟩)
  (fun A R s=>s.heap.get? l=some { cls:=.type "list",dict:=dd,data:=.seq items n,slots:=sl }/\s.heap.get? b=some { cls:=.type "list",dict:=dd2,data:=.seq items2 n2,slots:=sl2 } /\
   Lex A.in1 s items.toList items2.toList r/\R (.ok (.ret (.bool r))) s):=by
 intro prog w A R s h
 obtain⟨hp,g,d,tk,os⟩:=s;obtain⟨hl,hb,hx,h⟩:=h
 have f3:=AutoSeq1.sub_list_list
 wp_walk using wpAny_loadPart' hl,wpAny_loadPart' hb
 exact⟨plainId_quiet plain_eq_loop _,codeAny_builtin entry_eq_loop (by
  rw[Around.under_plainId plain_eq_loop _]
  exact Us l b items items2 n n2 dd dd2 sl sl2 r _ 0 rfl (Nat.zero_le _) (Nat.zero_le _) prog w A R _ ⟨hl,hb,by simpa using hx,h⟩)⟩
theorem Wc (l b:Addr) (items items2:Array Value) (n n2:Nat) (dd dd2:Option Addr) (sl sl2:Array (Option Value)) (r:Bool) :
 Meets (Builtin.«tuple.__lt__» ⟨[.ref l,.ref b],[]⟩)
  (fun A R s=>s.heap.get? l=some { cls:=.type "tuple",dict:=dd,data:=.seq items n,slots:=sl }/\s.heap.get? b=some { cls:=.type "tuple",dict:=dd2,data:=.seq items2 n2,slots:=sl2 } /\
   Lex A.in1 s items.toList items2.toList r/\R (.ok (.ret (.bool r))) s) :=
 .of_wp fun prog w A R s h=>by
  obtain⟨hp,g,d,tk,os⟩:=s;obtain⟨hl,hb,hx0,h⟩:=h
  have f2:=AutoSeq1.sub_tuple_tuple
  wp_walk using wpAny_loadPart' hl,wpAny_loadPart' hb,wpAny_forIn_list _ (fun rest b s'=>b.1=none/\s'=⟨hp,g,d,tk,os⟩/\∃ (vs ws:List Value),rest=vs.zip ws /\
   Lex A.in1 ⟨hp,g,d,tk,os⟩ vs ws r/\vs.length+items2.size=ws.length+items.size) _
  case turn =>
   rintro⟨y,x⟩ rest b s' ⟨hb',rfl,vs,ws,hz,hx,hlen⟩
   cases hx with
   | nn=>rw[List.zip_nil_left] at hz;cases hz
   | nc=>rw[List.zip_nil_left] at hz;cases hz
   | cn=>rw[List.zip_nil_right] at hz;cases hz
   | same he hx =>
    rw[List.zip_cons_cons] at hz
    injection hz with hyx hrest
    injection hyx with hy hx'
    subst hy hx'
    simp only[List.length_cons] at hlen
    refine wpAny_bind (he prog w _ _ ?_)
    wp_walk
    exact⟨rfl,rfl,_,_,hrest,hx,by omega⟩
   | diff he hr =>
    rw[List.zip_cons_cons] at hz
    injection hz with hyx hrest
    injection hyx with hy hx'
    subst hy hx'
    refine wpAny_bind (he prog w _ _ ?_)
    have hri:=hr prog w
    wp_walk using hri
    exact⟨_,rfl,h⟩
  case fin =>
   rintro⟨b1,b2⟩ s' ⟨hb',rfl,vs,ws,hz,hx,hlen⟩
   simp only at hb'
   subst hb'
   have e0:vs.length=0∨ws.length=0:=by
    have q:=congrArg List.length hz
    simp at q
    omega
   have e:=hx.nils e0
   have e2:r=decide (items.size<items2.size):=by
    rw[e]
    congr 1
    simp
    omega
   rw[e2] at h
   wp_walk
   exact⟨_,rfl,by simpa [Builtin.Tuple.tupleCompareSizes] using h⟩
  case h =>
   exact⟨rfl,rfl,items.toList,items2.toList,rfl,hx0,by simp;omega⟩
section
variable {A:Around}{s:Shared}
theorem LtAt.lists {l b:Addr}{items items2:Array Value}{r:Bool} (hl:s.heap.IsList l items) (hb:s.heap.IsList b items2) (hu:A.units<cLine) (hx:Lex A.in1 s items.toList items2.toList r):LtAt A s (.ref l) (.ref b) r:=fun prog w E Q h=>by
 obtain⟨⟨cls,dd,data,sl⟩,ho,hc,n,hd⟩:=id hl
 obtain⟨⟨cls2,dd2,data2,sl2⟩,ho2,hc2,n2,hd2⟩:=id hb
 simp only at hc hd hc2 hd2
 subst hc hd hc2 hd2
 exact richCompare_meets_room (op:=.Lt) ⟨_,ho,rfl⟩ ⟨_,ho2,rfl⟩ F.slot_list_lt F.entry_list_lt (F.args_list_lt_2 _ _) (Ut l b items items2 n n2 dd dd2 sl sl2 r)
  ⟨ho,ho2,hx,show Value.bool r≠Value.notImplemented/\Q (.bool r) s from⟨(fun x=>nomatch x),h⟩⟩ hu
theorem LtAt.tuples {l b:Addr}{items items2:Array Value}{r:Bool} (hl:s.heap.IsTuple l items) (hb:s.heap.IsTuple b items2) (hu:A.units<cLine) (hx:Lex A.in1 s items.toList items2.toList r):LtAt A s (.ref l) (.ref b) r:=fun prog w E Q h=>by
 obtain⟨⟨cls,dd,data,sl⟩,ho,hc,n,hd⟩:=id hl
 obtain⟨⟨cls2,dd2,data2,sl2⟩,ho2,hc2,n2,hd2⟩:=id hb
 simp only at hc hd hc2 hd2
 subst hc hd hc2 hd2
 exact richCompare_meets_room (op:=.Lt) ⟨_,ho,rfl⟩ ⟨_,ho2,rfl⟩ F.slot_tuple_lt F.entry_tuple_lt (F.args_tuple_lt_2 _ _) (Wc l b items items2 n n2 dd dd2 sl sl2 r)
  ⟨ho,ho2,hx,show Value.bool r≠Value.notImplemented/\Q (.bool r) s from⟨(fun x=>nomatch x),h⟩⟩ hu
end
mutual
def ltv:PyData->PyData->Bool
 | .int i,.int j=>decide (i<j)
 | .list xs,.list ys=>ke xs ys
 | .tuple xs,.tuple ys=>ke xs ys
 | _,_=>false
def ke:List PyData->List PyData->Bool
 | [],[]=>false
 | [],_::_=>true
 | _::_,[]=>false
 | x::xs,y::ys=>if PyData.eqv x y=true then ke xs ys else ltv x y
end
mutual
def yL:PyData->PyData->Bool
 | .int _,.int _=>true
 | .list xs,.list ys=>kD xs ys
 | .tuple xs,.tuple ys=>kD xs ys
 | _,_=>false
def kD:List PyData->List PyData->Bool
 | x::xs,y::ys=>yL x y && kD xs ys
 | _,_=>true
end
mutual
theorem K2:∀ (da db:PyData) (A:Around) (s:Shared) (a b:Value) (as bs:List Addr),Reads s.heap a da as->Reads s.heap b db bs->da.canLay0=true->db.canLay0=true->yL da db=true ->
 A.units+min da.depth db.depth<cLine->LtAt A s a b (ltv da db)
 | .int x,db,A,s,_,_,_,_,ra,rb,_,_,hc,hu=>by
  cases ra with
  | int _ t =>
   cases rb with
   | int j u =>
    rw[ltv]
    exact fun prog w E Q h=>(PyProof.Rows.lt_int h:wpAny (model prog w) A (compareOp .Lt (.int x t) (.int j u)) Q E s)
   | none=>simp[yL] at hc
   | bool _=>simp[yL] at hc
   | str _ _=>simp[yL] at hc
   | list _ _ _ _=>simp[yL] at hc
   | tuple _ _ _ _=>simp[yL] at hc
   | dict _ _ _ _ _=>simp[yL] at hc
 | .list xs,db,A,s,_,_,_,_,ra,rb,ha,hb,hc,hu=>by
  cases ra with
  | @list l o vs n _ as₁ h1 h2 h3 h4 =>
   cases rb <;> first | (simp[yL] at hc;done) | skip
   rename_i k1 k2 k3 k4
   rw[ltv]
   rw[yL] at hc
   exact LtAt.lists ⟨_,h1,h2,_,h3⟩ ⟨_,k1,k2,_,k3⟩ (room_here hu) (QD _ _ A.in1 s _ _ _ _ h4 k4 ha hb hc (room_in hu))
 | .tuple xs,db,A,s,_,_,_,_,ra,rb,ha,hb,hc,hu=>by
  cases ra with
  | @tuple l o vs n _ as₁ h1 h2 h3 h4 =>
   cases rb <;> first | (simp[yL] at hc;done) | skip
   rename_i k1 k2 k3 k4
   rw[ltv]
   rw[yL] at hc
   exact LtAt.tuples ⟨_,h1,h2,_,h3⟩ ⟨_,k1,k2,_,k3⟩ (room_here hu) (QD _ _ A.in1 s _ _ _ _ h4 k4 ha hb hc (room_in hu))
 | .none,db,A,s,_,_,_,_,_,_,_,_,hc,_=>by simp[yL] at hc
 | .bool _,db,A,s,_,_,_,_,_,_,_,_,hc,_=>by simp[yL] at hc
 | .str _,db,A,s,_,_,_,_,_,_,_,_,hc,_=>by simp[yL] at hc
 | .dict _,db,A,s,_,_,_,_,_,_,_,_,hc,_=>by simp[yL] at hc
theorem QD:∀ (xs ys:List PyData) (A:Around) (s:Shared) (vs ws:List Value) (as bs:List Addr),ReadsAll s.heap vs xs as->ReadsAll s.heap ws ys bs->PyData.canLayAll0 xs=true->PyData.canLayAll0 ys=true->kD xs ys=true ->
 A.units+min (PyData.depthAll xs) (PyData.depthAll ys)<cLine->Lex A s vs ws (ke xs ys)
 | [],[],_,_,_,_,_,_,ra,rb,_,_,_,_=>by cases ra;cases rb;exact .nn
 | [],_::_,_,_,_,_,_,_,ra,rb,_,_,_,_=>by cases ra;cases rb;exact .nc
 | _::_,[],_,_,_,_,_,_,ra,rb,_,_,_,_=>by cases ra;cases rb;exact .cn
 | x::xs,y::ys,A,s,_,_,_,_,ra,rb,ha,hb,hc,hu=>by
  have ha':x.canLay0=true/\PyData.canLayAll0 xs=true:=by simpa [PyData.canLayAll0] using ha
  have hb':y.canLay0=true/\PyData.canLayAll0 ys=true:=by simpa [PyData.canLayAll0] using hb
  have hc':yL x y=true/\kD xs ys=true:=by simpa [kD] using hc
  cases ra with
  | cons r rs =>
   cases rb with
   | cons r' rs' =>
    have he:=eqAt_reads x y A s _ _ _ _ r r' ha'.1 hb'.1 (room_head hu)
    rw[ke]
    cases e:PyData.eqv x y with
    | true =>
     rw[e] at he
     rw[if_pos rfl]
     exact .same he (QD xs ys A s _ _ _ _ rs rs' ha'.2 hb'.2 hc'.2 (room_tail hu))
    | false =>
     rw[e] at he
     rw[if_neg Bool.false_ne_true]
     exact .diff he (K2 x y A s _ _ _ _ r r' ha'.1 hb'.1 hc'.1 (room_head hu))
end
end TbRaw
end
section
namespace TbRaw
open PySem
theorem aat:typeLookup (.type "list_reverseiterator") "__len__"=pure none:=by rw[typeLookup_type,builtinLookup_eq_fast];kernel_rfl
theorem abC:typeLookup (.type "list_reverseiterator") "__length_hint__"=pure (some (.builtin "list_reverseiterator.__length_hint__")):=by rw[typeLookup_type,builtinLookup_eq_fast];kernel_rfl
theorem aau:splitId "list_reverseiterator.__length_hint__"=some ("list_reverseiterator","__length_hint__"):=by decide +kernel
section
variable {prog:Program}{w:World}{A:Around}{E:Value->Shared->Prop}{s:Shared}
theorem Wd {R:Result->Shared->Prop}{l I:Addr}{items:Array Value} (hh:A.handled=none) (hne:l≠I) (hit:s.heap.IsRevIter I l ((items.size:Int) - 1)) (hl:s.heap.IsList l items) (hn:items.size<=sizeLine) (S:Addr) (hSI:S≠I) (hSl:S≠l) (c₀:Nat)
 (hS:s.heap.get? S=some { cls:=.type "list",data:=.seq #[] c₀ })
 (hR:∀ h' tk acc' c',(∀ b o,b≠S->b≠I->s.heap.get? b=some o->h'.get? b=some o)->h'.get? S=some { cls:=.type "list",dict:=none,data:=.seq acc' c',slots:=#[] } ->
  ItemsOf (fun i v=>items[items.size - 1 - i]?=some v) acc' items.size->R (.ok (.ret .none)) { s with heap:=h',toks:=tk }) :
 wpAny (model prog w) A.in1 (Builtin.List.listExtendWith (.ref S) (.ref I) .none)
  (fun fin s'=>match fin with | .done f=>R (.ok f) s' | .again c'=>c'.quiet=true/\codeAny (model prog w) A c' R s') (fun e s'=>R (.error e) s') s:=by
 have hT:s.TypeIs (.ref I) "list_reverseiterator":=hit.typeIs
 have hSf:S ∉ [I,l]:=fun hm=>by
  rcases List.mem_cons.mp hm with e | hm
  . exact hSI e
  . exact hSl (List.mem_singleton.mp hm)
 have W:=(Walks.listRev (prog:=prog) (w:=w) (A:=A.in1) hh I l hne items).toS
 have h1:Builtin.List.listSameRef (.ref S) (.ref I)=false:=by simp[Builtin.List.listSameRef,hSI]
 unfold Builtin.List.listExtendWith
 refine wpAny_bind (wpAny_typeOf hT ?_)
 rw[if_neg (by rw[h1];decide)]
 refine wpAny_bind (wpAny_pyIter_revIter hit ?_)
 refine wpAny_bind (wpAny_holding ?_)
 unfold Builtin.List.listLengthHint
 refine wpAny_bind (wpAny_specialOf hT aat ?_)
 show wpAny _ A.in1 (specialOf (Value.ref I) (Str.ofString "__length_hint__") >>= _) _ _ _
 refine wpAny_bind (wpAny_specialOf hT abC ?_)
 generalize hid:("list_reverseiterator.__length_hint__":String)=id0
 wp_delta
 rw[show splitId id0=some ("list_reverseiterator","__length_hint__") from by subst hid;exact aau]
 subst hid
 refine wpAny_bind (wpAny_isInstance (b:=true) hT (by rw[isSubtype_type];kernel_rfl) ?_)
 refine wpAny_pure ?_
 rw[if_neg (by decide)]
 refine wpAny_pure ⟨plainId_quiet F.plain_extend_loop _,codeAny_extend_loopS W hn S hSf .none items.size 0 _ #[] c₀ rfl (Nat.zero_le _) ⟨Nat.zero_le _,by simpa using hit,hl⟩ hS (ItemsOf.nil _) fun s' acc' c' hm hS' hacc=>?_⟩
 rw[Moved.eq_with hm]
 refine hR s'.heap s'.toks acc' c' (fun b o hb hI e=>hm.heap b o (fun hmem=>?_) e) hS' hacc
 rcases List.mem_cons.mp hmem with e' | hmem
 . exact hb e'
 . exact hI (List.mem_singleton.mp hmem)
theorem aav {R:Result->Shared->Prop}{l I:Addr}{items:Array Value} (hh:A.handled=none) (hne:l≠I) (hit:s.heap.IsRevIter I l ((items.size:Int) - 1)) (hl:s.heap.IsList l items) (hn:items.size<=sizeLine) (S:Addr) (hSI:S≠I) (hSl:S≠l)
 (hS:s.heap.get? S=some { cls:=.type "list",data:=.seq #[] })
 (hR:∀ h' tk acc' c',(∀ b o,b≠S->b≠I->s.heap.get? b=some o->h'.get? b=some o)->h'.get? S=some { cls:=.type "list",dict:=none,data:=.seq acc' c',slots:=#[] } ->
  ItemsOf (fun i v=>items[items.size - 1 - i]?=some v) acc' items.size->R (.ok (.ret .none)) { s with heap:=h',toks:=tk }) :
 wpAny (model prog w) A.in1 (Builtin.«list.__init__» ⟨[.ref S,.ref I],[]⟩)
  (fun fin s'=>match fin with | .done f=>R (.ok f) s' | .again c'=>c'.quiet=true/\codeAny (model prog w) A c' R s') (fun e s'=>R (.error e) s') s:=by
 show wpAny _ _ (do let old <-Builtin.List.listItems (.ref S);Builtin.List.listUpdate (.ref S) (fun _=>#[]);letGo old.toList.reverse;Builtin.List.listExtendWith (.ref S) (.ref I) .none) _ _ s
 unfold Builtin.List.listItems
 refine wpAny_bind (wpAny_bind (wpAny_seqItems hS rfl (wpAny_pure ?_)))
 show wpAny _ _ (updateSeq S (fun _=>#[]) >>= fun _=>letGo (#[]:Array Value).toList.reverse >>= fun _=>Builtin.List.listExtendWith (.ref S) (.ref I) .none) _ _ s
 refine wpAny_bind (wpAny_updateSeq hS rfl ?_)
 have hS2:=Heap.get?_update_self (Obj.mapSeq (fun _=>(#[]:Array Value))) hS rfl
 have oth:∀ b o,b≠S->s.heap.get? b=some o->(s.heap.update S (Obj.mapSeq (fun _=>(#[]:Array Value)))).get? b=some o:=fun b o hb e=>(Heap.get?_update_other _ _ (Ne.symm hb)).trans e
 refine wpAny_bind (wpAny_letGo ?_)
 refine Wd hh hne (hit.at fun o e=>oth I o (Ne.symm hSI) e) (hl.at fun o e=>oth l o (Ne.symm hSl) e) hn S hSI hSl _ hS2 fun h' tk acc' c' hk hS' hacc=>?_
 exact hR h' tk acc' c' (fun b o hb hI e=>hk b o hb hI (oth b o hb e)) hS' hacc
theorem aaw {Q:Value->Shared->Prop}{l I:Addr}{items:Array Value} (hh:A.handled=none) (hne:l≠I) (hit:s.heap.IsRevIter I l ((items.size:Int) - 1)) (hl:s.heap.IsList l items) (hn:items.size<=sizeLine)
 (hQ:∀ h' tk acc' c',(∀ b o,b≠I->s.heap.get? b=some o->h'.get? b=some o) ->
  h'.get? s.heap.objs.size=some { cls:=.type "list",dict:=none,data:=.seq acc' c',slots:=#[] }->ItemsOf (fun i v=>items[items.size - 1 - i]?=some v) acc' items.size->Q (.ref s.heap.objs.size) { s with heap:=h',toks:=tk }) :
 wpAny (model prog w) A (call (.type "list") [.ref I]) Q E s:=by
 refine callType_codes (Q₁:=fun obj s₁=>obj=.ref s.heap.objs.size/\s₁={ s with heap:=s.heap.push { cls:=.type "list",data:=.seq #[] } }) F.called_list (F.typeCall_list_1 _) F.entry_list_init (code_list_new _ ⟨rfl,rfl⟩) fun obj s₁ h₁=>?_
 obtain⟨rfl,rfl⟩:=h₁
 have hS:(s.heap.push { cls:=.type "list",data:=.seq #[] }).get? s.heap.objs.size=some { cls:=.type "list",data:=.seq #[] }:=Heap.get?_push_size _ rfl
 have hI:I<s.heap.objs.size:=by obtain⟨o,e,_⟩:=hit;exact Heap.lt_size e
 have hlt:l<s.heap.objs.size:=by obtain⟨o,e,_⟩:=hl;exact Heap.lt_size e
 refine⟨⟨_,hS,rfl⟩,F.args_list_init_2 _ _,aav (A:=A.in1) hh hne (hit.at fun o e=>Heap.get?_push_of_some _ e) (hl.at fun o e=>Heap.get?_push_of_some _ e) hn _ (Nat.ne_of_gt hI) (Nat.ne_of_gt hlt) hS fun h' tk acc' c' hk hS' hacc=>?_⟩
 exact⟨rfl,hQ h' tk acc' c' (fun b o hb e=>hk b o (Nat.ne_of_lt (Heap.lt_size e)) hb (Heap.get?_push_of_some _ e)) hS' hacc⟩
end
theorem Uu {items acc:Array Value} (h:ItemsOf (fun i v=>items[items.size - 1 - i]?=some v) acc items.size):acc.toList=items.toList.reverse:=by
 obtain⟨h1,h2⟩:=h
 apply List.ext_getElem?
 intro i
 by_cases hi:i<items.size
 . have e:acc[i]?=some (acc[i]'(by omega)):=Array.getElem?_eq_getElem (by omega)
   have e2:=h2 i _ e
   rw[Array.getElem?_toList,e,<-e2,List.getElem?_reverse (by simpa using hi),Array.getElem?_toList]
   simp
 . rw[List.getElem?_eq_none (by simp;omega),List.getElem?_eq_none (by simp;omega)]
end TbRaw
end
section
namespace Tb
open PySem
def kO (l:List Int):PyData:=.list (l.map PyData.int)
def Xa (t:Vanbki.Text):PyData:=kO (Vanbki.nats t)
def Xb (t:Vanbki.Text) (m o:Nat):PyData:=.tuple [Xa t,.int (m:Int),.int (o:Int)]
def kH (i:Vanbki.Item):PyData:=Xb i.text (Vanbki.markNat i.hidden) i.own
theorem wQ:∀ (a b:List Int),PyData.eqvAll (a.map PyData.int) (b.map PyData.int)=decide (a=b)
 | [],[]=>by simp[PyData.eqvAll]
 | [],_::_=>by simp[PyData.eqvAll]
 | _::_,[]=>by simp[PyData.eqvAll]
 | x::a,y::b=>by
  rw[List.map_cons,List.map_cons,PyData.eqvAll,wQ a b,PyData.eqv]
  by_cases h:x=y
  . subst h
    by_cases h2:a=b <;> simp[h2]
  . simp[h]
theorem vP (a b:List Int):PyData.eqv (kO a) (kO b)=decide (a=b):=by
 unfold kO
 rw[PyData.eqv]
 exact wQ a b
theorem kP {a b:List Nat} (h:Vanbki.nats a=Vanbki.nats b):a=b:=by
 unfold Vanbki.nats at h
 exact List.map_inj_right (fun x y e=>by simp only[Vanbki.ofNat] at e;omega) |>.mp h
theorem WR {a b:List Nat}:Vanbki.nats a=Vanbki.nats b ↔ a=b:=⟨kP,fun h=>by rw[h]⟩
theorem wR:∀ l:List Int,PyData.canLayAll0 (l.map PyData.int)=true
 | []=>by simp[PyData.canLayAll0]
 | x::l=>by rw[List.map_cons,PyData.canLayAll0,wR l];simp[PyData.canLay0]
theorem Z8:∀ l:List Int,PyData.depthAll (l.map PyData.int)=0
 | []=>by simp[PyData.depthAll]
 | x::l=>by rw[List.map_cons,PyData.depthAll,Z8 l];simp[PyData.depth]
theorem qh (l:List Int):SeqAt.shaped (kO l)=true:=by
 unfold SeqAt.shaped kO
 rw[PyData.canLay0,wR,PyData.depth,Z8]
 rfl
theorem We (t:Vanbki.Text) (m o:Nat):PyData.canLay0 (Xb t m o)=true/\PyData.depth (Xb t m o)=2:=by
 constructor
 . simp[Xb,Xa,kO,PyData.canLay0,PyData.canLayAll0,wR]
 . simp[Xb,Xa,kO,PyData.depth,PyData.depthAll,Z8]
theorem ZG:∀ l:List Vanbki.Item,PyData.canLayAll0 (l.map kH)=true/\PyData.depthAll (l.map kH)<=2
 | []=>by simp[PyData.canLayAll0,PyData.depthAll]
 | x::l=>by
  obtain⟨h1,h2⟩:=ZG l
  obtain⟨h3,h4⟩:=We x.text (Vanbki.markNat x.hidden) x.own
  rw[List.map_cons,PyData.canLayAll0,PyData.depthAll,h1,show PyData.canLay0 (kH x)=true from h3,show PyData.depth (kH x)=2 from h4]
  exact⟨rfl,by omega⟩
def jI (l:List Vanbki.Item):PyData:=.list (l.map kH)
theorem jX (l:List Vanbki.Item):SeqAt.shaped (jI l)=true:=by
 obtain⟨h1,h2⟩:=ZG l
 unfold SeqAt.shaped jI
 rw[PyData.canLay0,h1,PyData.depth]
 simp
 omega
theorem Xc:∀ (a b:List Int),TbRaw.kD (a.map PyData.int) (b.map PyData.int)=true
 | [],_=>by simp[TbRaw.kD]
 | _::_,[]=>by simp[TbRaw.kD]
 | x::a,y::b=>by rw[List.map_cons,List.map_cons,TbRaw.kD,Xc a b];simp[TbRaw.yL]
theorem aax (x y:Vanbki.Item):TbRaw.yL (kH x) (kH y)=true:=by
 simp[kH,Xb,Xa,kO,TbRaw.yL,TbRaw.kD,Xc]
theorem ZH:∀ (a b:List Vanbki.Item),TbRaw.kD (a.map kH) (b.map kH)=true
 | [],_=>by simp[TbRaw.kD]
 | _::_,[]=>by simp[TbRaw.kD]
 | x::a,y::b=>by rw[List.map_cons,List.map_cons,TbRaw.kD,ZH a b,aax];rfl
theorem Vr (a b:List Vanbki.Item):TbRaw.yL (jI a) (jI b)=true:=by
 unfold jI
 rw[TbRaw.yL]
 exact ZH a b
theorem WS:∀ (a b:Vanbki.Text),(PyData.eqvAll ((Vanbki.nats a).map PyData.int) ((Vanbki.nats b).map PyData.int)=(Vanbki.cmpText a b == .eq))/\(TbRaw.ke ((Vanbki.nats a).map PyData.int) ((Vanbki.nats b).map PyData.int)=(Vanbki.cmpText a b == .lt))
 | [],[]=>by simp[Vanbki.nats,PyData.eqvAll,TbRaw.ke,Vanbki.cmpText]
 | [],_::_=>by simp[Vanbki.nats,PyData.eqvAll,TbRaw.ke,Vanbki.cmpText]
 | _::_,[]=>by simp[Vanbki.nats,PyData.eqvAll,TbRaw.ke,Vanbki.cmpText]
 | x::a,y::b=>by
  obtain⟨h1,h2⟩:=WS a b
  unfold Vanbki.nats at h1 h2 ⊢
  rw[List.map_cons,List.map_cons,List.map_cons,List.map_cons,PyData.eqvAll,TbRaw.ke,h1,h2,Vanbki.cmpText,PyData.eqv,TbRaw.ltv]
  unfold Vanbki.ofNat
  by_cases hlt:x<y
  . have e1:((x:Int) == (y:Int))=false:=by simp;omega
    have e2:decide ((x:Int)<(y:Int))=true:=by simp;omega
    rw[if_pos hlt,e1,e2]
    simp
  . by_cases hgt:y<x
    . have e1:((x:Int) == (y:Int))=false:=by simp;omega
      have e2:decide ((x:Int)<(y:Int))=false:=by simp;omega
      rw[if_neg hlt,if_pos hgt,e1,e2]
      simp
    . have e:x=y:=by omega
      subst e
      rw[if_neg hlt,if_neg hlt]
      simp
theorem aay (x y:Nat):(((x:Int) == (y:Int))=(Vanbki.cmpNat x y == .eq))/\(decide ((x:Int)<(y:Int))=(Vanbki.cmpNat x y == .lt)):=by
 unfold Vanbki.cmpNat
 by_cases hlt:x<y
 . have e1:((x:Int) == (y:Int))=false:=by simp;omega
   have e2:decide ((x:Int)<(y:Int))=true:=by simp;omega
   rw[if_pos hlt,e1,e2]
   simp
 . by_cases hgt:y<x
   . have e1:((x:Int) == (y:Int))=false:=by simp;omega
     have e2:decide ((x:Int)<(y:Int))=false:=by simp;omega
     rw[if_neg hlt,if_pos hgt,e1,e2]
     simp
   . have e:x=y:=by omega
     subst e
     rw[if_neg hlt,if_neg hlt]
     simp
theorem abD (x y:Vanbki.Item):(PyData.eqv (kH x) (kH y)=(Vanbki.cmpItem x y == .eq))/\(TbRaw.ltv (kH x) (kH y)=(Vanbki.cmpItem x y == .lt)):=by
 obtain⟨t1,t2⟩:=WS x.text y.text
 obtain⟨m1,m2⟩:=aay (Vanbki.markNat x.hidden) (Vanbki.markNat y.hidden)
 obtain⟨o1,o2⟩:=aay x.own y.own
 unfold kH Xb Xa kO Vanbki.cmpItem
 simp only[PyData.eqv,PyData.eqvAll,TbRaw.ltv,TbRaw.ke,t1,t2,m1,m2,o1,o2]
 cases Vanbki.cmpText x.text y.text <;> cases Vanbki.cmpNat (Vanbki.markNat x.hidden) (Vanbki.markNat y.hidden) <;> cases Vanbki.cmpNat x.own y.own <;> decide
theorem K3:∀ (a b:List Vanbki.Item),(PyData.eqvAll (a.map kH) (b.map kH)=(Vanbki.cmpItems a b == .eq))/\(TbRaw.ke (a.map kH) (b.map kH)=(Vanbki.cmpItems a b == .lt))
 | [],[]=>by simp[PyData.eqvAll,TbRaw.ke,Vanbki.cmpItems]
 | [],_::_=>by simp[PyData.eqvAll,TbRaw.ke,Vanbki.cmpItems]
 | _::_,[]=>by simp[PyData.eqvAll,TbRaw.ke,Vanbki.cmpItems]
 | x::a,y::b=>by
  obtain⟨h1,h2⟩:=K3 a b
  obtain⟨i1,i2⟩:=abD x y
  rw[List.map_cons,List.map_cons,PyData.eqvAll,TbRaw.ke,h1,h2,i1,i2,Vanbki.cmpItems]
  cases Vanbki.cmpItem x y <;> simp
theorem Uv (a b:List Vanbki.Item):PyData.eqv (jI a) (jI b)=(Vanbki.cmpItems a b == .eq):=by
 unfold jI
 rw[PyData.eqv]
 exact (K3 a b).1
theorem Vs (a b:List Vanbki.Item):TbRaw.ltv (jI a) (jI b)=(Vanbki.cmpItems a b == .lt):=by
 unfold jI
 rw[TbRaw.ltv]
 exact (K3 a b).2
end Tb
end
section
namespace L2
open PySem PySem.Spec PyProof.Rows
abbrev Key:=Sum Int Str
def Vt:Key->Value->Bool
 | .inl k,v=>Value.isInt k v
 | .inr x,v=>Value.isStrOf x v
def adk (w:World):Key->Int
 | .inl k=>hashInt k
 | .inr x=>hashStr w x
theorem j7:∀ {k:Key}{v:Value},Vt k v=true->(∃ i t,k=Sum.inl i/\v=Value.int i t)∨(∃ x t,k=Sum.inr x/\v=Value.str x t)
 | .inl i,v,h=>by
  obtain⟨t,e⟩:=Value.isInt_shape (k:=i) (v:=v) h
  exact .inl ⟨i,t,rfl,e⟩
 | .inr x,v,h=>by
  obtain⟨t,e⟩:=Value.isStrOf_shape (x:=x) (v:=v) h
  exact .inr ⟨x,t,rfl,e⟩
theorem Uw (i:Int) (t:Tok):Vt (.inl i) (.int i t)=true:=by simp[Vt,Value.isInt]
theorem Ux (x:Str) (t:Tok):Vt (.inr x) (.str x t)=true:=by simp[Vt,Value.isStrOf]
theorem acg (a b:Int):decide ((Sum.inl a:Key)=Sum.inl b)=(a == b):=by
 by_cases e:a=b
 . subst e;simp
 . have h:¬(Sum.inl a:Key)=Sum.inl b:=fun q=>e (Sum.inl.inj q)
   rw[decide_eq_false h]
   exact (beq_eq_false_iff_ne.mpr e).symm
theorem ach (a b:Str):decide ((Sum.inr a:Key)=Sum.inr b)=decide (a=b):=by
 by_cases e:a=b
 . subst e;simp
 . have h:¬(Sum.inr a:Key)=Sum.inr b:=fun q=>e (Sum.inr.inj q)
   rw[decide_eq_false h,decide_eq_false e]
theorem aci (a:Int) (b:Str):decide ((Sum.inl a:Key)=Sum.inr b)=false:=decide_eq_false (fun q=>nomatch q)
theorem acj (a:Str) (b:Int):decide ((Sum.inr a:Key)=Sum.inl b)=false:=decide_eq_false (fun q=>nomatch q)
def j8 (prog:Program) (w:World):PySem.KeyKind prog w Key where
 is:=Vt
 hash:=adk w
 inj:=fun v a b ha hb=>by
  rcases j7 ha with ⟨i,t,rfl,rfl⟩ | ⟨x,t,rfl,rfl⟩
  . rcases j7 hb with ⟨j,u,rfl,e⟩ | ⟨y,u,rfl,e⟩
    . injection e with e1 _;rw[e1]
    . exact nomatch e
  . rcases j7 hb with ⟨j,u,rfl,e⟩ | ⟨y,u,rfl,e⟩
    . exact nomatch e
    . injection e with e1 _;rw[e1]
 byValue:=fun k v h=>by
  rcases j7 h with ⟨i,t,rfl,rfl⟩ | ⟨x,t,rfl,rfl⟩ <;> rfl
 pyHash:=fun hv h=>by
  rcases j7 hv with ⟨i,t,rfl,rfl⟩ | ⟨x,t,rfl,rfl⟩
  . exact wpAny_pyHash_int h
  . exact wpAny_pyHash_str h
 eqBool:=fun hu hv h=>by
  rcases j7 hu with ⟨i,t,rfl,rfl⟩ | ⟨x,t,rfl,rfl⟩
  . rcases j7 hv with ⟨j,u,rfl,rfl⟩ | ⟨y,u,rfl,rfl⟩
    . rw[acg] at h;exact wpAny_eqBool_int h
    . rw[aci] at h;exact SeqAt.EqAt.int_str i t y u _ _ _ _ h
  . rcases j7 hv with ⟨j,u,rfl,rfl⟩ | ⟨y,u,rfl,rfl⟩
    . rw[acj] at h;exact SeqAt.EqAt.str_int x t j u _ _ _ _ h
    . rw[ach] at h;exact wpAny_eqBool_str h
 «strs»:=fun k x t v h=>by
  rcases j7 h with ⟨i,u,rfl,e⟩ | ⟨y,u,rfl,e⟩
  . exact nomatch e
  . injection e with e1 _
    subst e1
    cases v <;> rfl
theorem Xf (prog:Program) (w:World) (i:Int) (t:Tok):(j8 prog w).is (.inl i) (.int i t)=true:=Uw i t
theorem Xg (prog:Program) (w:World) (x:Str) (t:Tok):(j8 prog w).is (.inr x) (.str x t)=true:=Ux x t
end L2
namespace L2
open PySem PySem.Spec PyProof.Rows
inductive V where
 | non | bl (b:Bool) | int (i:Int) | str (x:Str) | byt (b:Array UInt8) | flt (b:UInt64) | ref (a:Addr) | ty (n:String)
 deriving DecidableEq
def RelV:V->Value->Prop
 | .non,u=>u=Value.none
 | .bl b,u=>u=Value.bool b
 | .int i,u=>∃ t,u=Value.int i t
 | .str x,u=>∃ t,u=Value.str x t
 | .byt b,u=>∃ t,u=Value.bytes b t
 | .flt b,u=>∃ t,u=Value.float b t
 | .ref a,u=>u=Value.ref a
 | .ty n,u=>u=Value.type n
abbrev Vals:List V->List Value->Prop:=Paired RelV
theorem Vals.length {xs:List V}{us:List Value} (r:Vals xs us):xs.length=us.length:=Paired.length r
theorem Vals.get:∀ {xs:List V}{us:List Value}{i:Nat}{x:V},Vals xs us->xs[i]?=some x->∃ u,us[i]?=some u/\RelV x u
 | _,_,_,_,.nil,e=>by simp at e
 | _,_,0,_,.cons r _,e=>by simp at e;subst e;exact⟨_,rfl,r⟩
 | _,_,i+1,x,.cons _ t,e=>by
  obtain⟨u,h1,h2⟩:=Vals.get (i:=i) (x:=x) t (by simpa using e)
  exact⟨u,by simpa using h1,h2⟩
theorem Vals.set {x:V}{u:Value} (r:RelV x u):∀ {xs:List V}{us:List Value} (i:Nat),Vals xs us->Vals (xs.set i x) (us.set i u)
 | _,_,_,.nil=>.nil
 | _,_,0,.cons _ t=>.cons r t
 | _,_,i+1,.cons q t=>.cons q (Vals.set r i t)
theorem Vals.append:∀ {xs ys:List V}{us ws:List Value},Vals xs us->Vals ys ws->Vals (xs++ys) (us++ws)
 | _,_,_,_,.nil,s=>s
 | _,_,_,_,.cons r t,s=>.cons r (Vals.append t s)
theorem Vals.take:∀ {xs:List V}{us:List Value} (n:Nat),Vals xs us->Vals (xs.take n) (us.take n)
 | _,_,0,_=>.nil
 | _,_,_+1,.nil=>.nil
 | _,_,n+1,.cons r t=>.cons r (Vals.take n t)
theorem Vals.drop:∀ {xs:List V}{us:List Value} (n:Nat),Vals xs us->Vals (xs.drop n) (us.drop n)
 | _,_,0,r=>r
 | _,_,_+1,.nil=>.nil
 | _,_,n+1,.cons _ t=>Vals.drop n t
def RelO:Option V->Option Value->Prop
 | some v,some u=>RelV v u
 | none,none=>True
 | _,_=>False
def KV {κ:Type}:List (κ × V)->List (κ × Value)->Prop:=Paired fun (p:κ × V) (q:κ × Value)=>p.1=q.1/\RelV p.2 q.2
def kV:Key->V
 | .inl i=>.int i
 | .inr x=>.str x
inductive HO where
 | lst (xs:List V)
 | tup (xs:List V)
 | dK (kvs:List (Key × V)) | dT (kvs:List (List Key × V))
 | set (S:Int->Bool) (n:Nat)
 | ins (C dx:Addr) (fs:List (Str × V))
 | own (x:Addr)
 | xd (fs:List (Str × V))
 | met (f x:Addr)
 | rng (lo hi:Int)
 | frz (o:Obj) (u:HO)
 | tbl (ps:Array Value)
 | ext (φ:Heap->Prop)
abbrev Hp:=Addr->Option HO
def upd (H:Hp) (a:Addr) (o:HO):Hp:=fun b=>if b=a then some o else H b
theorem zf {H:Hp}{a:Addr}{o:HO}:upd H a o a=some o:=by unfold upd;rw[if_pos rfl]
theorem zh {H:Hp}{a b:Addr}{o:HO} (h:b≠a):upd H a o b=H b:=by unfold upd;rw[if_neg h]
theorem kj {H:Hp}{a:Addr}{o u:HO}:upd (upd H a o) a u=upd H a u:=by
 funext b;unfold upd;split <;> rfl
theorem aaz {H:Hp}{a b:Addr}{o u:HO} (h:H a=some o) (h':H b=some u) (d:o≠u):a≠b:=by
 intro e;subst e;rw[h] at h';exact d (Option.some.inj h')
theorem zg {H:Hp}{a b:Addr}{o:HO} (h:H a=some o) (h':H b=none):a≠b:=by
 intro e;subst e;rw[h] at h';cases h'
section
variable (P:Program) (w:World)
def ObjOk (H:Hp) (h:Heap) (a:Addr):HO->Prop
 | .lst xs=>xs.length<=sizeLine/\∃ (its:List Value) (n:Nat),Vals xs its/\h.get? a=some { cls:=.type "list",data:=.seq its.toArray n }
 | .tup xs=>xs.length<=sizeLine/\∃ its:List Value,Vals xs its/\IsTup h a its.toArray
 | .dK kvs=>kvs.length<=sizeLine/\(a == sysModules)=false/\∃ vs,KV kvs vs/\h.DictOf (j8 P w) a vs
 | .dT kvs=>kvs.length<=sizeLine/\(a == sysModules)=false/\∃ xs:List (List Key × Addr × Value),
  Paired (fun (p:List Key × V) (q:List Key × Addr × Value)=>p.1=q.1/\H q.2.1=some (.tup (p.1.map kV))/\RelV p.2 q.2.2) kvs xs /\
  ∃ o es ep,h.get? a=some o/\o.ExactDict/\o.data=.dict es ep/\es.toList=xs.map (entryOfKey (tupleKind (j8 P w)))/\(xs.map (·.1)).Nodup
 | .set S n=>h.SetOf (intKind P w) a S n
 | .ins C dx fs=>H dx=some (.own a)/\fs.length<=1000/\dx≠a/\h.get? a=some (PySem.W.instObj C dx) /\
  ∃ mA,h.Ns1 dx mA/\(∀ f,RelO (fs.lookup f) (mA f))/\PySem.Within mA (fs.map (·.1))
 | .own _=>∃ o,h.get? a=some o
 | .xd fs=>∃ mA,h.Ns1 a mA/\∀ f,RelO (fs.lookup f) (mA f)
 | .rng lo hi=>∃ t u v,h.get? a=some { cls:=.type "range",data:=.fields #[.int lo t,.int hi u,.int 1 v] }
 | .frz o u=>h.get? a=some o/\ObjOk H h a u
 | .tbl ps=>h.get? a=some { cls:=.none,data:=.fields ps }
 | .met f x=>h.get? a=some (PySem.W.methodObj (.ref f) (.ref x))
 | .ext φ=>φ h/\(∃ o,h.get? a=some o)/\∀ h1 h2:Heap,φ h1->(∀ o,h1.get? a=some o->h2.get? a=some o)->φ h2
def HOk (H:Hp) (h:Heap):Prop:=∀ a o,H a=some o->ObjOk P w H h a o
end
section
variable {P:Program}{w:World}{H H':Hp}{h h':Heap}{a:Addr}{o:HO}
theorem ObjOk.lt (x:ObjOk P w H h a o):a<h.objs.size:=by
 cases o with
 | lst xs=>obtain⟨_,_,_,_,e⟩:=x;exact Heap.lt_size e
 | tup xs=>obtain⟨_,_,_,p⟩:=x;exact p.lt
 | dK kvs=>obtain⟨_,_,_,_,o,_,_,e,_⟩:=x;exact Heap.lt_size e
 | dT kvs=>obtain⟨_,_,_,_,o,_,_,e,_⟩:=x;exact Heap.lt_size e
 | set S n=>obtain⟨o,_,_,_,e,_⟩:=x;exact Heap.lt_size e
 | ins C dx fs=>obtain⟨_,_,_,e,_⟩:=x;exact Heap.lt_size e
 | own y=>obtain⟨_,e⟩:=x;exact Heap.lt_size e
 | xd fs=>obtain⟨_,⟨_,_,_,e,_⟩,_⟩:=x;exact Heap.lt_size e
 | rng lo hi=>obtain⟨_,_,_,e⟩:=x;exact Heap.lt_size e
 | frz ob u=>obtain⟨e,_⟩:=x;exact Heap.lt_size e
 | tbl ps=>exact Heap.lt_size (show h.get? a=some _ from x)
 | met f y=>exact Heap.lt_size (show h.get? a=some _ from x)
 | ext φ=>obtain⟨_,⟨_,e⟩,_⟩:=x;exact Heap.lt_size e
theorem Paired.mapP {α β:Type}{F G:α->β->Prop}:∀ {l₁:List α}{l₂:List β},Paired F l₁ l₂->(∀ a b,F a b->G a b)->Paired G l₁ l₂
 | _,_,.nil,_=>.nil
 | _,_,.cons r t,f=>.cons (f _ _ r) (Paired.mapP t f)
theorem ObjOk.stay (x:ObjOk P w H h a o) (k:∀ b u,(b=a∨H b=some (.own a))->h.get? b=some u->h'.get? b=some u)
 (ho:∀ b,H b=some (.own a)->H' b=some (.own a)) (ht:∀ b xs,H b=some (.tup xs)->H' b=some (.tup xs)):ObjOk P w H' h' a o:=by
 induction o with
 | lst xs=>obtain⟨z,its,n,r,e⟩:=x;exact⟨z,its,n,r,k _ _ (.inl rfl) e⟩
 | tup xs=>obtain⟨z,its,r,ob,e,c⟩:=x;exact⟨z,its,r,ob,k _ _ (.inl rfl) e,c⟩
 | dK kvs=>obtain⟨z,y,vs,r,ob,es,ep,e,c⟩:=x;exact⟨z,y,vs,r,ob,es,ep,k _ _ (.inl rfl) e,c⟩
 | dT kvs =>
  obtain⟨z,y,xs,r,ob,es,ep,e,c⟩:=x
  exact⟨z,y,xs,Paired.mapP r fun p q z=>⟨z.1,ht _ _ z.2.1,z.2.2⟩,ob,es,ep,k _ _ (.inl rfl) e,c⟩
 | set S n=>obtain⟨ob,es,ep,t,e,c⟩:=x;exact⟨ob,es,ep,t,k _ _ (.inl rfl) e,c⟩
 | ins C dx fs =>
  obtain⟨d,z,ne,e,mA,⟨od,es,ep,e2,c⟩,r⟩:=x
  exact⟨ho _ d,z,ne,k _ _ (.inl rfl) e,mA,⟨od,es,ep,k _ _ (.inr d) e2,c⟩,r⟩
 | own y=>obtain⟨ob,e⟩:=x;exact⟨ob,k _ _ (.inl rfl) e⟩
 | xd fs=>obtain⟨mA,⟨od,es,ep,e,c⟩,r⟩:=x;exact⟨mA,⟨od,es,ep,k _ _ (.inl rfl) e,c⟩,r⟩
 | rng lo hi=>obtain⟨t,u,v,e⟩:=x;exact⟨t,u,v,k _ _ (.inl rfl) e⟩
 | frz ob u ih=>obtain⟨e,q⟩:=x;exact⟨k _ _ (.inl rfl) e,ih q⟩
 | tbl ps =>
  have e:h.get? a=some { cls:=.none,data:=.fields ps }:=x
  show h'.get? a=some { cls:=.none,data:=.fields ps }
  exact k a _ (.inl rfl) e
 | met f y =>
  have e:h.get? a=some (PySem.W.methodObj (.ref f) (.ref y)):=x
  show h'.get? a=some (PySem.W.methodObj (.ref f) (.ref y))
  exact k a _ (.inl rfl) e
 | ext φ=>obtain⟨p,⟨o,e⟩,st⟩:=x;exact⟨st _ _ p fun o q=>k _ _ (.inl rfl) q,⟨o,k _ _ (.inl rfl) e⟩,st⟩
theorem HOk.lt (x:HOk P w H h) (e:H a=some o):a<h.objs.size:=(x a o e).lt
theorem HOk.fresh (x:HOk P w H h) (e:h.objs.size<=a):H a=none:=by
 cases q:H a with
 | none=>rfl
 | some u=>exact absurd (Nat.lt_of_lt_of_le (x.lt q) e) (Nat.lt_irrefl _)
theorem HOk.kept (x:HOk P w H h) (k:∀ b u,h.get? b=some u->h'.get? b=some u):HOk P w H h':=fun a o e =>
 (x a o e).stay (fun b u _ q=>k b u q) (fun _ q=>q) fun _ _ q=>q
theorem HOk.laid (x:HOk P w H h) (k:∀ b u,h.get? b=some u->h'.get? b=some u) (hp:h.objs.size<=a) (new:ObjOk P w (upd H a o) h' a o):HOk P w (upd H a o) h':=fun b u e=>by
 have hn:=x.fresh hp
 by_cases hb:b=a
 . subst hb;rw[zf] at e;cases e;exact new
 . rw[zh hb] at e
   exact (x b u e).stay (fun c v _ q=>k c v q) (fun c q=>by rw[zh (zg q hn)];exact q) fun c xs q=>by rw[zh (zg q hn)];exact q
end
def Rd (H:Hp) (a:Addr) (u:HO):Prop:=H a=some u∨∃ o,H a=some (.frz o u)
theorem Rd.ok {P:Program}{w:World}{H:Hp}{h:Heap}{a:Addr}{u:HO} (r:Rd H a u) (x:HOk P w H h):ObjOk P w H h a u:=by
 rcases r with r | ⟨o,r⟩
 . exact x a u r
 . obtain⟨_,q⟩:=x a _ r
   exact q
def Mut:Option HO->Prop
 | some (.lst _)=>True
 | some (.dK _)=>True
 | some (.dT _)=>True
 | some (.set _ _)=>True
 | some (.ins _ _ _)=>True
 | some (.ext _)=>True
 | _=>False
section
variable {P:Program}{w:World}{H:Hp}{h h':Heap}{x e:Addr}{o':HO}
theorem HOk.write (ok:HOk P w H h) (mu:Mut (H x)) (he:e=x∨H e=some (.own x)) (k:∀ b u,b≠e->h.get? b=some u->h'.get? b=some u) (heo:∃ u,h'.get? e=some u)
 (new:ObjOk P w (upd H x o') h' x o'):HOk P w (upd H x o') h':=fun b u q=>by
 have nown:∀ c y,H c=some (.own y)->c≠x:=fun c y r z=>by subst z;rw[r] at mu;exact mu
 have ntup:∀ c xs,H c=some (.tup xs)->c≠x:=fun c xs r z=>by subst z;rw[r] at mu;exact mu
 by_cases hb:b=x
 . subst hb;rw[zf] at q;cases q;exact new
 . rw[zh hb] at q
   by_cases hbe:b=e
   . have q':H b=some (.own x):=by
      rcases he with z | z
      . exact absurd (hbe.trans z) hb
      . rw[hbe];exact z
     rw[q] at q';cases q'
     obtain⟨v,hv⟩:=heo
     exact⟨v,by rw[hbe];exact hv⟩
   . refine (ok b u q).stay (fun c v hc r=>k c v ?_ r) (fun c r=>by rw[zh (nown c b r)];exact r) fun c xs r=>by rw[zh (ntup c xs r)];exact r
     rcases hc with rfl | hc
     . exact hbe
     . rintro rfl
       rcases he with z | z
       . exact nown c b hc z
       . rw[hc] at z;cases z;exact hb rfl
end
structure Un (fs ex:List Addr) (H H':Hp) (h h':Heap):Prop where
 keep:∀ b o,h.get? b=some o->H b=none->b ∉ fs->b ∉ ex->h'.get? b=some o
 slot:∀ b o,h.get? b=some o->H b=none->b∈fs->b ∉ ex->∃ sl,h'.get? b=some { o with slots:=sl }
 free:∀ b o,h.get? b=some o->H b=none->b ∉ ex->H' b=none
 there:∀ b o,h.get? b=some o->b ∉ ex->∃ o',h'.get? b=some o'
 tups:∀ b xs,H b=some (.tup xs)->H' b=some (.tup xs)
 frzs:∀ b o u,H b=some (.frz o u)->H' b=some (.frz o u)
 tbls:∀ b ps,H b=some (.tbl ps)->∃ more,H' b=some (.tbl (ps++more))
section
variable {fs fs' ex ex':List Addr}{H H1 H2:Hp}{h h1 h2 h':Heap}{a x e:Addr}{o:HO}
theorem Un.any (u:Un fs ex H H1 h h1) {b:Addr}{ob:Obj} (q:h.get? b=some ob) (n:H b=none) (hx:b ∉ ex):∃ sl,h1.get? b=some { ob with slots:=sl }:=by
 by_cases hb:b∈fs
 . exact u.slot b ob q n hb hx
 . exact⟨ob.slots,u.keep b ob q n hb hx⟩
theorem Un.kept (k:∀ b u,h.get? b=some u->h'.get? b=some u):Un fs ex H H h h' :=
 ⟨fun b ob q _ _ _=>k b ob q,fun b ob q _ _ _=>⟨ob.slots,k b ob q⟩,fun _ _ _ n _=>n,fun b ob q _=>⟨ob,k b ob q⟩,fun _ _ q=>q,fun _ _ _ q=>q,fun _ ps q=>⟨#[],by rw[q];simp⟩⟩
theorem Un.refl:Un fs ex H H h h:=Un.kept fun _ _ q=>q
theorem Un.laid (k:∀ b u,h.get? b=some u->h'.get? b=some u) (hp:h.objs.size<=a) (hn:H a=none):Un fs ex H (upd H a o) h h' where
 keep:=fun b u q _ _ _=>k b u q
 slot:=fun b u q _ _ _=>⟨u.slots,k b u q⟩
 free:=fun b u q n _=>by rw[zh (Nat.ne_of_lt (Nat.lt_of_lt_of_le (Heap.lt_size q) hp))];exact n
 there:=fun b u q _=>⟨u,k b u q⟩
 tups:=fun b xs q=>by rw[zh (zg q hn)];exact q
 frzs:=fun b u xs q=>by rw[zh (zg q hn)];exact q
 tbls:=fun b ps q=>⟨#[],by rw[zh (zg q hn),q];simp⟩
theorem Un.write (mu:Mut (H x)) (he:e=x∨H e=some (.own x)) (k:∀ b u,b≠e->h.get? b=some u->h'.get? b=some u) (heo:∃ u,h'.get? e=some u):Un fs ex H (upd H x o) h h':=by
 have hx:∀ b,H b=none->b≠x:=fun b n z=>by subst z;rw[n] at mu;exact mu
 have hb:∀ b,H b=none->b≠e:=fun b n z=>by
  subst z
  rcases he with r | r
  . exact hx b n r
  . rw[n] at r;cases r
 have hm:∀ b u,H b=some u->¬Mut (some u)->b≠x:=fun b u q nm z=>by subst z;rw[q] at mu;exact nm mu
 refine⟨fun b u q n _ _=>k b u (hb b n) q,fun b u q n _ _=>⟨u.slots,k b u (hb b n) q⟩,fun b u q n _=>by rw[zh (hx b n)];exact n,fun b u q _=>?_,
  fun b xs q=>by rw[zh (hm b _ q fun z=>z)];exact q,fun b u xs q=>by rw[zh (hm b _ q fun z=>z)];exact q,fun b ps q=>⟨#[],by rw[zh (hm b _ q fun z=>z),q];simp⟩⟩
 by_cases hbe:b=e
 . subst hbe;exact heo
 . exact⟨u,k b u hbe q⟩
end
def trk (h:Heap) (H:Hp):List Addr:=(List.range h.objs.size).filter fun a=>(H a).isSome
def Y4 (h:Heap) (H:Hp):Heap:=PySem.W.hideAll h (trk h H)
theorem Uy (h:Heap) (H:Hp):(Y4 h H).objs.size=h.objs.size:=PySem.W.hideAll_size _ _
theorem aaA {h:Heap}{H:Hp}{b:Addr}{o:Obj} (e:h.get? b=some o) (n:H b=none):(Y4 h H).get? b=some o :=
 PySem.W.hideAll_get _ e fun hm=>by
  have q:(H b).isSome=true:=(List.mem_filter.mp hm).2
  rw[n] at q;simp at q
theorem abE {h:Heap}{H:Hp}{b:Addr}{o:Obj} (e:(Y4 h H).get? b=some o):h.get? b=some o/\H b=none:=by
 have e':h.get? b=some o:=PySem.W.of_hideAll (trk h H) e
 refine⟨e',?_⟩
 cases q:H b with
 | none=>rfl
 | some x =>
  have hm:b∈trk h H:=List.mem_filter.mpr ⟨List.mem_range.mpr (Heap.lt_size e'),by simp[q]⟩
  have z:(Y4 h H).get? b=none:=PySem.W.hideAll_none (trk h H) hm
  rw[z] at e;cases e
end L2
namespace L2
open PySem PySem.Spec PyProof.Rows
structure Mod (K:PySem.W.Frag) (mg:Str->Option Value) (base:Heap):Prop where
 kin:K.In base
 glob:base.Ns mainGlobals mg
 blt:∃ mb,base.Ns builtinsNs mb/\∀ x:Str,x≠"__name__"->mb x=bootBuiltins x
 nolimit:base.NoLimit
structure Cx where
 prog:Program
 w:World
 K:PySem.W.Frag
 mg:Str->Option Value
 base:Heap
 A:Around
 N:List Str
 s_0:Shared
 H_0:Hp
 env:Env
 outer:List Env
 stack:List Env
 ex:List Addr
 fn:Str->Bool
 calm:Bool
 pn:List (Addr × Obj)
 xe:Value->Shared->Prop
def frs (l:List Env):List Addr:=l.filterMap (·.frame)
abbrev Cx.fs (X:Cx):List Addr:=frs X.outer
def Vis (sc:Scope) (x:Str):Prop:=sc.names.lookup x=some .local∨sc.names.lookup x=some .cell∨sc.names.lookup x=some .free
def Loc (sc:Scope) (x:Str):Prop:=sc.names.lookup x=some .local∨sc.names.lookup x=some .cell
def adl (env:Env) (h:Heap) (m:Str->Option Value) (x:Str) (u:Value):Prop :=
 (env.kindOf x=some .local/\m x=some u)∨((env.kindOf x=some .cell∨env.kindOf x=some .free)/\∃ c,env.cells.lookup x=some c/\h.IsCell c (some u))
structure Cx.Ok (X:Cx):Prop where
 mod:Mod X.K X.mg X.base
 kind:X.env.scope.kind=.function
 glob:X.env.globals=mainGlobals
 blt:X.env.builtins=builtinsNs
 above:X.s_0.heap.objs.size<=X.env.locals
 inj:∀ x y c,X.env.cells.lookup x=some c->X.env.cells.lookup y=some c->x=y
 has:∀ x,(X.env.kindOf x=some .cell∨X.env.kindOf x=some .free)->∃ c,X.env.cells.lookup x=some c
 cab:∀ x c,X.fn x=true->X.env.cells.lookup x=some c->X.s_0.heap.objs.size<=c
 hd:X.calm=true->X.A.handled=none
 frames:X.A.frames=some X.stack
 stk:X.stack=X.outer∨(X.stack=X.env::X.outer/\X.env.frame=some X.env.locals)
 exf:∀ b∈X.ex,b≠X.env.locals/\∀ x c,X.env.cells.lookup x=some c->c≠b
 bs:∀ b o,X.base.get? b=some o->X.s_0.heap.get? b=some o/\X.H_0 b=none
 bsz:X.base.objs.size<=X.s_0.heap.objs.size
 noex:∀ b o,X.base.get? b=some o->b ∉ X.ex
 exfs:∀ b∈X.ex,b ∉ X.fs
 funs:X.s_0.heap.FunFrames X.base X.outer
 frf:∀ b∈X.fs,X.H_0 b=none
structure Inv (X:Cx) (pins:List (Addr × Obj)) (σ:List (Option V)) (H:Hp) (s:Shared):Prop where
 ok:X.Ok
 os:s.os=X.s_0.os
 bare:AllBare s.gens
 base:Un X.fs X.ex X.H_0 H X.s_0.heap s.heap
 loc:∃ m,s.heap.Ns X.env.locals m/\∀ (i:Nat) (x:Str) (v:V),X.N[i]?=some x->σ[i]?=some (some v)->Vis X.env.scope x->∃ u,RelV v u/\adl X.env s.heap m x u
 cell:∀ x c,X.env.cells.lookup x=some c->∃ v,s.heap.IsCell c v
 free:H X.env.locals=none
 freeC:∀ x c,X.env.cells.lookup x=some c->H c=none
 pin:∀ p∈X.pn++pins,s.heap.get? p.1=some p.2/\H p.1=none/\p.1≠X.env.locals/\p.1 ∉ X.fs/\∀ v,p.2.data≠.cell v
 hok:HOk X.prog X.w H s.heap
 len:σ.length=X.N.length
section
variable {X:Cx}{pins:List (Addr × Obj)}{σ:List (Option V)}{H H':Hp}{s:Shared}{h':Heap}
theorem Cx.Ok.nofr (ok:X.Ok) {b:Addr}{o:Obj} (e:X.base.get? b=some o):b ∉ X.fs:=fun hb=>by
 have:=(ok.funs.mem hb).1
 rw[e] at this;cases this
theorem Inv.bs (I:Inv X pins σ H s):∀ b o,X.base.get? b=some o->s.heap.get? b=some o/\H b=none:=fun b o e =>
 ⟨I.base.keep b o (I.ok.bs b o e).1 (I.ok.bs b o e).2 (I.ok.nofr e) (I.ok.noex b o e),I.base.free b o (I.ok.bs b o e).1 (I.ok.bs b o e).2 (I.ok.noex b o e)⟩
theorem Inv.bk (I:Inv X pins σ H s):∀ b o,X.base.get? b=some o->s.heap.get? b=some o:=fun b o e=>(I.bs b o e).1
theorem Inv.mod (I:Inv X pins σ H s):Mod X.K X.mg X.base:=I.ok.mod
theorem Inv.kIn (I:Inv X pins σ H s):X.K.In s.heap:=I.ok.mod.kin.keeps I.bk
theorem Inv.fr (I:Inv X pins σ H s):∃ m,Fr X.base X.env.locals s.heap m :=
 let ⟨m,hn,_⟩:=I.loc
 ⟨m,hn,I.bk,Nat.le_trans I.ok.bsz I.ok.above⟩
theorem Inv.lt (I:Inv X pins σ H s):X.env.locals<s.heap.objs.size:=let ⟨_,hn,_⟩:=I.loc;hn.lt
theorem Inv.sz (I:Inv X pins σ H s):X.s_0.heap.objs.size<=s.heap.objs.size:=Nat.le_trans I.ok.above (Nat.le_of_lt I.lt)
theorem Inv.nofs (I:Inv X pins σ H s) {a:Addr} (h:s.heap.objs.size<=a):a ∉ X.fs:=fun hb=>by
 obtain⟨_,o,ho,_⟩:=I.ok.funs.mem hb
 exact absurd (Nat.lt_of_lt_of_le (Heap.lt_size ho) (Nat.le_trans I.sz h)) (Nat.lt_irrefl _)
theorem Inv.cne (I:Inv X pins σ H s):∀ x c,X.env.cells.lookup x=some c->c≠X.env.locals:=fun x c e z=>by
 obtain⟨v,o,ho,hd⟩:=I.cell x c e
 obtain⟨m,⟨o',es,ep,ho',hd',_⟩,_⟩:=I.loc
 rw[z,ho'] at ho;cases ho;rw[hd'] at hd;cases hd
theorem Inv.funs (I:Inv X pins σ H s):s.heap.FunFrames X.base X.outer:=by
 have all:∀ (l:List Env),(∀ b∈frs l,b∈X.fs)->X.s_0.heap.FunFrames X.base l->s.heap.FunFrames X.base l:=by
  intro l
  induction l with
  | nil=>intro _ _;trivial
  | cons env r ih =>
   intro hs hl
   obtain⟨hk,⟨L,o,hf,hn,ho,hd⟩,hr⟩:=hl
   have hL:L∈X.fs:=hs L (by unfold frs;rw[List.filterMap_cons,hf];exact List.mem_cons_self)
   obtain⟨sl,e⟩:=I.base.slot L o ho (I.ok.frf L hL) hL fun z=>I.ok.exfs L z hL
   exact⟨hk,⟨L,_,hf,hn,e,hd⟩,ih (fun b hb=>hs b (by unfold frs;rw[List.filterMap_cons,hf];exact List.mem_cons_of_mem _ hb)) hr⟩
 exact all X.outer (fun _ hb=>hb) I.ok.funs
theorem Inv.stack (I:Inv X pins σ H s):s.heap.FunFrames X.base X.stack:=by
 rcases I.ok.stk with e | ⟨e,hf⟩
 . rw[e];exact I.funs
 . rw[e]
   obtain⟨m,hn,_⟩:=I.loc
   refine .cons (by rw[I.ok.kind];decide) hf hn ?_ I.funs
   exact Heap.get?_none_of_le (Nat.le_trans I.ok.bsz I.ok.above)
theorem Inv.stkSub (I:Inv X pins σ H s):∀ b∈frs X.stack,b∈X.env.locals::X.fs:=fun b hb=>by
 rcases I.ok.stk with e | ⟨e,hf⟩
 . rw[e] at hb;exact List.mem_cons_of_mem _ hb
 . rw[e] at hb
   unfold frs at hb
   rw[List.filterMap_cons,hf] at hb
   exact hb
theorem Inv.stkFree (I:Inv X pins σ H s):∀ b∈frs X.stack,H b=none:=fun b hb=>by
 rcases List.mem_cons.mp (I.stkSub b hb) with e | hb
 . rw[e];exact I.free
 . obtain⟨_,o,ho,_⟩:=I.ok.funs.mem hb
   exact I.base.free b o ho (I.ok.frf b hb) fun z=>I.ok.exfs b z hb
theorem Inv.step {g':Array GenState}{t':Nat}{d':Drawn}{ch:List Addr} (I:Inv X pins σ H s)
 (hch:∀ b∈ch,(b∈X.ex∨X.s_0.heap.objs.size<=b)/\b≠X.env.locals/\(∀ x c,X.env.cells.lookup x=some c->c≠b)/\∀ p∈X.pn++pins,p.1≠b)
 (keep:∀ b o,b≠X.env.locals->b ∉ X.fs->b ∉ ch->s.heap.get? b=some o->H b=none->h'.get? b=some o)
 (slot:∀ b o,b≠X.env.locals->b∈X.fs->b ∉ ch->s.heap.get? b=some o->H b=none->∃ sl,h'.get? b=some { o with slots:=sl }) (free:∀ b o,b ∉ ch->s.heap.get? b=some o->H b=none->H' b=none)
 (there:∀ b o,b ∉ ch->s.heap.get? b=some o->∃ o',h'.get? b=some o')
 (tups:∀ b xs,H b=some (.tup xs)->H' b=some (.tup xs)) (frzs:∀ b o u,H b=some (.frz o u)->H' b=some (.frz o u)) (tbls:∀ b ps,H b=some (.tbl ps)->∃ more,H' b=some (.tbl (ps++more)))
 (ns:∀ m,s.heap.Ns X.env.locals m->h'.Ns X.env.locals m) (hok:HOk X.prog X.w H' h') (hg:AllBare g') :
 Inv X pins σ H' { s with heap:=h',gens:=g',drawn:=d',toks:=t' }:=by
 have neL:∀ b o,X.s_0.heap.get? b=some o->b≠X.env.locals:=fun b o e=>Nat.ne_of_lt (Nat.lt_of_lt_of_le (Heap.lt_size e) I.ok.above)
 have neC:∀ b o,X.s_0.heap.get? b=some o->b ∉ X.ex->b ∉ ch:=fun b o e hx hb=>by
  rcases (hch b hb).1 with z | z
  . exact hx z
  . exact absurd (Nat.lt_of_lt_of_le (Heap.lt_size e) z) (Nat.lt_irrefl _)
 have cellK:∀ x c,X.env.cells.lookup x=some c->∀ v,s.heap.IsCell c v->h'.IsCell c v:=fun x c e v ⟨o,ho,hd⟩=>by
  have nch:c ∉ ch:=fun z=>(hch c z).2.2.1 x c e rfl
  by_cases hc:c∈X.fs
  . obtain⟨sl,q⟩:=slot c o (I.cne x c e) hc nch ho (I.freeC x c e)
    exact⟨_,q,hd⟩
  . exact⟨o,keep c o (I.cne x c e) hc nch ho (I.freeC x c e),hd⟩
 refine⟨I.ok,I.os,hg,⟨fun b o e n hb hx=>?_,fun b o e n hb hx=>?_,fun b o e n hx=>?_,fun b o e hx=>?_,fun b xs e=>tups b xs (I.base.tups b xs e),fun b o xs e=>frzs b o xs (I.base.frzs b o xs e),fun b ps e=>?_⟩,?_,fun x c e=>?_,?_,fun x c e=>?_,fun p hp=>?_,hok,I.len⟩
 . exact keep b o (neL b o e) hb (neC b o e hx) (I.base.keep b o e n hb hx) (I.base.free b o e n hx)
 . obtain⟨sl,e1⟩:=I.base.slot b o e n hb hx
   obtain⟨sl',e2⟩:=slot b _ (neL b o e) hb (neC b o e hx) e1 (I.base.free b o e n hx)
   exact⟨sl',e2⟩
 . obtain⟨o',e1⟩:=I.base.there b o e hx
   exact free b o' (neC b o e hx) e1 (I.base.free b o e n hx)
 . obtain⟨o',e1⟩:=I.base.there b o e hx
   exact there b o' (neC b o e hx) e1
 . obtain⟨m1,e1⟩:=I.base.tbls b ps e
   obtain⟨m2,e2⟩:=tbls b _ e1
   exact⟨m1++m2,by rw[e2,Array.append_assoc]⟩
 . obtain⟨m,hn,hl⟩:=I.loc
   refine⟨m,ns m hn,fun i x v e1 e2 e3=>?_⟩
   obtain⟨u,r,l⟩:=hl i x v e1 e2 e3
   refine⟨u,r,?_⟩
   rcases l with l | ⟨k,c,e,z⟩
   . exact .inl l
   . exact .inr ⟨k,c,e,cellK x c e _ z⟩
 . obtain⟨v,z⟩:=I.cell x c e
   exact⟨v,cellK x c e v z⟩
 . obtain⟨m,⟨o,_,_,ho,_⟩,_⟩:=I.loc
   exact free _ o (fun z=>(hch _ z).2.1 rfl) ho I.free
 . obtain⟨v,o,ho,hd⟩:=I.cell x c e
   exact free c o (fun z=>(hch c z).2.2.1 x c e rfl) ho (I.freeC x c e)
 . obtain⟨e,n,ne,nf,d⟩:=I.pin p hp
   have nch:p.1 ∉ ch:=fun z=>(hch p.1 z).2.2.2 p hp rfl
   exact⟨keep p.1 p.2 ne nf nch e n,free p.1 p.2 nch e n,ne,nf,d⟩
theorem Inv.un {t':Nat} (I:Inv X pins σ H s) (u:Un X.fs [] H H' s.heap h') (hok:HOk X.prog X.w H' h'):Inv X pins σ H' { s with heap:=h',toks:=t' }:=by
 obtain⟨m,⟨o,es,ep,ho,r⟩,_⟩:=id I.loc
 obtain⟨sl,hL⟩:=u.any ho I.free (by simp)
 exact I.step (g':=s.gens) (d':=s.drawn) (ch:=[]) (fun _ z=>nomatch z) (fun b o _ hb _ e n=>u.keep b o e n hb (by simp)) (fun b o _ hb _ e n=>u.slot b o e n hb (by simp)) (fun b o _ e n=>u.free b o e n (by simp)) (fun b o _ e=>u.there b o e (by simp)) u.tups u.frzs u.tbls (fun m' hm=>by
  obtain⟨o',es',ep',ho',r'⟩:=hm
  rw[ho] at ho';cases ho'
  exact⟨_,es',ep',hL,r'⟩) hok I.bare
theorem Inv.call {g':Array GenState}{t':Nat}{d':Drawn}{ch:List Addr} (I:Inv X pins σ H s) (u:Un (frs X.stack) ch H H' s.heap h') (hok:HOk X.prog X.w H' h') (hg:AllBare g')
 (hch:∀ b∈ch,(b∈X.ex∨X.s_0.heap.objs.size<=b)/\b≠X.env.locals/\(∀ x c,X.env.cells.lookup x=some c->c≠b)/\∀ p∈X.pn++pins,p.1≠b) :
 Inv X pins σ H' { s with heap:=h',gens:=g',drawn:=d',toks:=t' }:=by
 obtain⟨m,⟨o,es,ep,ho,r⟩,_⟩:=id I.loc
 obtain⟨sl,hL⟩:=u.any ho I.free fun z=>(hch _ z).2.1 rfl
 exact I.step (ch:=ch) hch (fun b o hL hb hc e n=>u.keep b o e n (fun z=>(List.mem_cons.mp (I.stkSub b z)).elim hL hb) hc) (fun b o _ _ hc e n=>u.any e n hc) (fun b o hc e n=>u.free b o e n hc) (fun b o hc e=>u.there b o e hc) u.tups u.frzs u.tbls (fun m' hm=>by
  obtain⟨o',es',ep',ho',r'⟩:=hm
  rw[ho] at ho';cases ho'
  exact⟨_,es',ep',hL,r'⟩) hok hg
theorem Inv.turned {t':Nat}{it:Addr} (I:Inv X pins σ H s) (k:∀ b o,b≠it->s.heap.get? b=some o->h'.get? b=some o) (hn:H it=none) (hL:it≠X.env.locals)
 (h1:it∈X.ex∨X.s_0.heap.objs.size<=it) (h2:∀ x c,X.env.cells.lookup x=some c->c≠it) (h3:∀ p∈X.pn++pins,p.1≠it):Inv X pins σ H { s with heap:=h',toks:=t' }:=by
 have nit:∀ b u,H b=some u->b≠it:=fun b u e z=>by rw[z,hn] at e;cases e
 refine I.step (g':=s.gens) (d':=s.drawn) (ch:=[it]) (fun b hb=>?_) (fun b o _ _ hc e _=>k b o (fun z=>hc (by simp[z])) e) (fun b o _ _ hc e _=>⟨o.slots,k b o (fun z=>hc (by simp[z])) e⟩) (fun _ _ _ _ n=>n)
  (fun b o hc e=>⟨o,k b o (fun z=>hc (by simp[z])) e⟩) (fun _ _ e=>e) (fun _ _ _ e=>e) (fun b ps e=>⟨#[],by rw[e];simp⟩) (fun m hm=>?_) (fun b u e=>?_) I.bare
 . have e:b=it:=by simpa using hb
   subst e
   exact⟨h1,hL,h2,h3⟩
 . obtain⟨o,es,ep,ho,r⟩:=hm
   exact⟨o,es,ep,k _ o (Ne.symm hL) ho,r⟩
 . refine (I.hok b u e).stay (fun c v hc q=>k c v ?_ q) (fun _ q=>q) fun _ _ q=>q
   rcases hc with z | z
   . rw[z];exact nit b u e
   . exact nit c _ z
theorem Inv.tok (I:Inv X pins σ H s) (t:Nat):Inv X pins σ H { s with toks:=t }:=I.un (h':=s.heap) (t':=t) Un.refl I.hok
theorem Inv.kept {t':Nat} (I:Inv X pins σ H s) (k:∀ b u,s.heap.get? b=some u->h'.get? b=some u):Inv X pins σ H { s with heap:=h',toks:=t' }:=I.un (Un.kept k) (I.hok.kept k)
theorem Inv.laid {a:Addr}{o:HO}{t':Nat} (I:Inv X pins σ H s) (k:∀ b u,s.heap.get? b=some u->h'.get? b=some u) (hp:s.heap.objs.size<=a) (new:ObjOk X.prog X.w (upd H a o) h' a o) :
 Inv X pins σ (upd H a o) { s with heap:=h',toks:=t' }:=I.un (Un.laid k hp (I.hok.fresh hp)) (I.hok.laid k hp new)
theorem Inv.write {x e:Addr}{o:HO}{t':Nat} (I:Inv X pins σ H s) (mu:Mut (H x)) (he:e=x∨H e=some (.own x)) (k:∀ b u,b≠e->s.heap.get? b=some u->h'.get? b=some u) (heo:∃ u,h'.get? e=some u)
 (new:ObjOk X.prog X.w (upd H x o) h' x o):Inv X pins σ (upd H x o) { s with heap:=h',toks:=t' }:=I.un (Un.write mu he k heo) (I.hok.write mu he k heo new)
theorem Inv.weak {σ':List (Option V)} (I:Inv X pins σ H s) (hl:σ'.length=σ.length) (w:∀ (i:Nat) v,σ'[i]?=some (some v)->σ[i]?=some (some v)):Inv X pins σ' H s :=
 ⟨I.ok,I.os,I.bare,I.base,let ⟨m,hn,hl'⟩:=I.loc;⟨m,hn,fun i x v e1 e2 e3=>hl' i x v e1 (w i v e2) e3⟩,I.cell,I.free,I.freeC,I.pin,I.hok,hl.trans I.len⟩
theorem Inv.pins_of {pins':List (Addr × Obj)} (I:Inv X pins σ H s) (h:∀ p∈pins',s.heap.get? p.1=some p.2/\H p.1=none/\p.1≠X.env.locals/\p.1 ∉ X.fs/\∀ v,p.2.data≠.cell v):Inv X pins' σ H s :=
 ⟨I.ok,I.os,I.bare,I.base,I.loc,I.cell,I.free,I.freeC,fun p hp=>(List.mem_append.mp hp).elim (fun z=>I.pin p (List.mem_append_left _ z)) (h p),I.hok,I.len⟩
theorem K4 {N:List Str} (hN:N.Nodup) {i j:Nat}{x:Str} (a:N[i]?=some x) (b:N[j]?=some x):i=j:=by
 obtain⟨h1,e1⟩:=List.getElem?_eq_some_iff.mp a
 obtain⟨h2,e2⟩:=List.getElem?_eq_some_iff.mp b
 exact (List.getElem_inj hN).mp (e1.trans e2.symm)
theorem Vu {M:Model}{A:Around}{E:Value->Shared->Prop}{i:Nat}{x:Str}{v:V}{u:Value}{Q:Unit->Shared->Prop} (I:Inv X pins σ H s) (hN:X.N.Nodup) (hi:X.N[i]?=some x) (hx:Loc X.env.scope x) (r:RelV v u)
 (h:∀ s',Inv X pins (σ.set i (some v)) H s'->(∃ a,Heap.SameBut a s.heap s'.heap/\(a=X.env.locals∨X.env.cells.lookup x=some a))->Q () s') (hf:X.fn x=true∨X.env.scope.names.lookup x=some .local:=by first | exact .inl rfl | exact .inr rfl | assumption):wpAny M A (storeName X.env x u) Q E s:=by
 obtain⟨m,hn,hl⟩:=id I.loc
 have hcls:(X.env.scope.kind == .class || (X.env.scope.kind == .module && X.env.locals != X.env.globals))=false:=by rw[I.ok.kind];rfl
 have hiσ:i<σ.length:=by rw[I.len];exact (List.getElem?_eq_some_iff.mp hi).1
 have cne:=I.cne
 have tracked:∀ {a:Addr}{h':Heap},(∃ o,s.heap.get? a=some o/\H a=none)->Heap.SameBut a s.heap h'->HOk X.prog X.w H h':=fun {a h'} ha hs b ob e=>by
  obtain⟨_,_,hfree⟩:=ha
  refine (I.hok b ob e).stay (fun c w' hc q=>(hs.2 c ?_).trans q) (fun _ q=>q) fun _ _ q=>q
  rintro rfl
  rcases hc with rfl | hc
  . rw[hfree] at e;cases e
  . rw[hfree] at hc;cases hc
 rcases hx with hk | hk
 . refine wpAny_storeName_local hk hn (fun h' hn' hs=>?_) hcls
   obtain⟨oL,_,_,hoL,_⟩:=id hn
   refine h _ ⟨I.ok,I.os,I.bare,⟨fun b o e n hb hx=>?_,fun b o e n hb hx=>?_,I.base.free,fun b o e hx=>?_,I.base.tups,I.base.frzs,I.base.tbls⟩,⟨_,hn',fun j y v' e1 e2 e3=>?_⟩,fun y c e=>?_,I.free,I.freeC,fun p hp=>?_,tracked ⟨oL,hoL,I.free⟩ hs,by simpa using I.len⟩ ⟨_,hs,.inl rfl⟩
   . exact (hs.2 b (Nat.ne_of_lt (Nat.lt_of_lt_of_le (Heap.lt_size e) I.ok.above))).trans (I.base.keep b o e n hb hx)
   . obtain⟨sl,e1⟩:=I.base.slot b o e n hb hx
     exact⟨sl,(hs.2 b (Nat.ne_of_lt (Nat.lt_of_lt_of_le (Heap.lt_size e) I.ok.above))).trans e1⟩
   . obtain⟨o',e1⟩:=I.base.there b o e hx
     exact⟨o',(hs.2 b (Nat.ne_of_lt (Nat.lt_of_lt_of_le (Heap.lt_size e) I.ok.above))).trans e1⟩
   . by_cases hj:j=i
     . subst hj
       rw[hi] at e1;cases e1
       rw[List.getElem?_set_self hiσ] at e2
       cases e2
       exact⟨u,r,.inl ⟨hk,by simp⟩⟩
     . rw[List.getElem?_set_ne (Ne.symm hj)] at e2
       obtain⟨u',r',q⟩:=hl j y v' e1 e2 e3
       refine⟨u',r',?_⟩
       rcases q with ⟨k,e⟩ | ⟨k,c,e,z⟩
       . refine .inl ⟨k,?_⟩
         have:y≠x:=fun e=>hj (K4 hN e1 (e▸hi))
         simp[this,e]
       . exact .inr ⟨k,c,e,z.sameBut hs (cne y c e)⟩
   . obtain⟨w',z⟩:=I.cell y c e
     exact⟨w',z.sameBut hs (cne y c e)⟩
   . obtain⟨e,n,ne,nf,d⟩:=I.pin p hp
     exact⟨(hs.2 p.1 ne).trans e,n,ne,nf,d⟩
 . have hfn:X.fn x=true:=by
    rcases hf with z | z
    . exact z
    . rw[z] at hk;cases hk
   obtain⟨c,hc⟩:=I.ok.has x (.inl hk)
   obtain⟨w',z⟩:=I.cell x c hc
   refine wpAny_storeName_cell I.ok.kind hk hc z (fun h' hc' hs=>?_)
   obtain⟨oc,hoc,hocd⟩:=id z
   refine h { s with heap:=h' } ⟨I.ok,I.os,I.bare,⟨fun b o e n hb hx=>?_,fun b o e n hb hx=>?_,I.base.free,fun b o e hx=>?_,I.base.tups,I.base.frzs,I.base.tbls⟩,⟨m,hn.sameBut hs (Ne.symm (cne x c hc)),fun j y v' e1 e2 e3=>?_⟩,fun y c' e=>?_,I.free,I.freeC,fun p hp=>?_,tracked ⟨oc,hoc,I.freeC x c hc⟩ hs,by simpa using I.len⟩ ⟨c,hs,.inr hc⟩
   . exact (hs.2 b (Nat.ne_of_lt (Nat.lt_of_lt_of_le (Heap.lt_size e) (I.ok.cab x c hfn hc)))).trans (I.base.keep b o e n hb hx)
   . obtain⟨sl,e1⟩:=I.base.slot b o e n hb hx
     exact⟨sl,(hs.2 b (Nat.ne_of_lt (Nat.lt_of_lt_of_le (Heap.lt_size e) (I.ok.cab x c hfn hc)))).trans e1⟩
   . obtain⟨o',e1⟩:=I.base.there b o e hx
     exact⟨o',(hs.2 b (Nat.ne_of_lt (Nat.lt_of_lt_of_le (Heap.lt_size e) (I.ok.cab x c hfn hc)))).trans e1⟩
   . by_cases hj:j=i
     . subst hj
       rw[hi] at e1;cases e1
       rw[List.getElem?_set_self hiσ] at e2
       cases e2
       exact⟨u,r,.inr ⟨.inl hk,c,hc,hc'⟩⟩
     . rw[List.getElem?_set_ne (Ne.symm hj)] at e2
       obtain⟨u',r',q⟩:=hl j y v' e1 e2 e3
       refine⟨u',r',?_⟩
       rcases q with q | ⟨k,c',e,z'⟩
       . exact .inl q
       . refine .inr ⟨k,c',e,z'.sameBut hs ?_⟩
         rintro rfl
         exact hj (K4 hN e1 (I.ok.inj _ _ _ e hc▸hi))
   . by_cases hcc:c'=c
     . subst hcc;exact⟨_,hc'⟩
     . obtain⟨w2,z2⟩:=I.cell y c' e
       exact⟨w2,z2.sameBut hs hcc⟩
   . obtain⟨e,n,ne,nf,d⟩:=I.pin p hp
     refine⟨(hs.2 p.1 ?_).trans e,n,ne,nf,d⟩
     intro q
     rw[q,hoc] at e
     have q':oc=p.2:=Option.some.inj e
     exact d w' (by rw[<-q'];exact hocd)
theorem K5 {M:Model}{A:Around}{E:Value->Shared->Prop}{i:Nat}{x:Str}{v:V}{u:Value}{Q:Unit->Shared->Prop} (I:Inv X pins σ H s) (hN:X.N.Nodup) (hi:X.N[i]?=some x) (hx:Loc X.env.scope x) (r:RelV v u)
 (h:∀ s',Inv X pins (σ.set i (some v)) H s'->Q () s') (hf:X.fn x=true∨X.env.scope.names.lookup x=some .local:=by first | exact .inl rfl | exact .inr rfl | assumption):wpAny M A (storeName X.env x u) Q E s :=
 Vu I hN hi hx r (fun s' I' _=>h s' I') hf
theorem Inv.call' {s':Shared}{ch:List Addr} (I:Inv X pins σ H s) (ho:s'.os=s.os) (u:Un (frs X.stack) ch H H' s.heap s'.heap) (hok:HOk X.prog X.w H' s'.heap) (hg:AllBare s'.gens)
 (hch:∀ b∈ch,(b∈X.ex∨X.s_0.heap.objs.size<=b)/\b≠X.env.locals/\(∀ x c,X.env.cells.lookup x=some c->c≠b)/\∀ p∈X.pn++pins,p.1≠b):Inv X pins σ H' s':=by
 obtain⟨h',g',d',t',o'⟩:=s'
 have e:o'=s.os:=ho
 subst e
 exact I.call (g':=g') (t':=t') (d':=d') u hok hg hch
end
abbrev XK:=Value->Option Addr->Hp->Prop
abbrev St:=List (Option V)
abbrev VK:=V->Hp->Prop
abbrev TE:=St->Hp->VK->Prop
abbrev TT:=St->Hp->(Bool->Hp->Prop)->Prop
abbrev TA:=St->Hp->(List V->Hp->Prop)->Prop
structure Y5 where
 nx:St->Hp->Prop
 rt:VK
 bk:St->Hp->Prop:=fun _ _=>False
 ct:St->Hp->Prop:=fun _ _=>False
abbrev TS:=Y5->St->Hp->Prop
def EP (X:Cx) (pins:List (Addr × Obj)) (σ:St) (Q:VK) (u:Value) (s':Shared):Prop:=∃ v H',Inv X pins σ H' s'/\RelV v u/\Q v H'
def TP (X:Cx) (pins:List (Addr × Obj)) (σ:St) (Q:Bool->Hp->Prop) (b:Bool) (s':Shared):Prop:=∃ H',Inv X pins σ H' s'/\Q b H'
def AP (X:Cx) (pins:List (Addr × Obj)) (σ:St) (Q:List V->Hp->Prop) (us:List Value) (s':Shared):Prop:=∃ vs H',Inv X pins σ H' s'/\Vals vs us/\Q vs H'
def SP (X:Cx) (pins:List (Addr × Obj)) (D:Y5) (f:Flow) (s':Shared):Prop :=
 match f with
 | .next=>∃ σ' H',Inv X pins σ' H' s'/\D.nx σ' H'
 | .brk=>∃ σ' H',Inv X pins σ' H' s'/\D.bk σ' H'
 | .cont=>∃ σ' H',Inv X pins σ' H' s'/\D.ct σ' H'
 | .ret u=>∃ v σ' H',Inv X pins σ' H' s'/\RelV v u/\D.rt v H'
def PE (X:Cx) (e:Expr) (t:TE):Prop :=
 ∀ (pins:List (Addr × Obj)) (s:Shared) (σ:St) (H:Hp) (Q:VK),Inv X pins σ H s->t σ H Q->wpAny (model X.prog X.w) X.A (eval e X.env) (EP X pins σ Q) X.xe s
def PT (X:Cx) (e:Expr) (t:TT):Prop :=
 ∀ (pins:List (Addr × Obj)) (s:Shared) (σ:St) (H:Hp) (Q:Bool->Hp->Prop),Inv X pins σ H s->t σ H Q->wpAny (model X.prog X.w) X.A (isTrue e X.env (eval e X.env)) (TP X pins σ Q) X.xe s
def PW (X:Cx) (e:Expr) (t:TT):Prop :=
 ∀ (whole:Sem Value) (pins:List (Addr × Obj)) (s:Shared) (σ:St) (H:Hp) (Q:Bool->Hp->Prop),Inv X pins σ H s->t σ H Q->wpAny (model X.prog X.w) X.A (isTrue e X.env whole) (TP X pins σ Q) X.xe s
theorem PW.pt {X:Cx}{e:Expr}{t:TT} (h:PW X e t):PT X e t:=h _
def PA (X:Cx) (es:List Expr) (t:TA):Prop :=
 ∀ (pos:Pos) (pins:List (Addr × Obj)) (s:Shared) (σ:St) (H:Hp) (Q:List V->Hp->Prop),Inv X pins σ H s->t σ H Q->wpAny (model X.prog X.w) X.A (spliced (backTo pos (starEach es X.env))) (AP X pins σ Q) X.xe s
def PS (X:Cx) (st:Stmt) (t:TS):Prop :=
 ∀ (pins:List (Addr × Obj)) (s:Shared) (σ:St) (H:Hp) (D:Y5),Inv X pins σ H s->t D σ H->wpAny (model X.prog X.w) X.A (exec st X.env) (SP X pins D) X.xe s
def PSs (X:Cx) (st:List Stmt) (t:TS):Prop :=
 ∀ (pins:List (Addr × Obj)) (s:Shared) (σ:St) (H:Hp) (D:Y5),Inv X pins σ H s->t D σ H->wpAny (model X.prog X.w) X.A (execs st X.env) (SP X pins D) X.xe s
theorem thn {α:Type}{t:Sem α}{Q Q':α->Shared->Prop}{M:Model}{A:Around}{E:Value->Shared->Prop}{s:Shared} (h:wpAny M A t Q E s) (hQ:∀ a s,Q a s->Q' a s):wpAny M A t Q' E s:=wpAny_mono h hQ fun _ _ x=>x
end L2
namespace L2
open PySem PySem.Spec PyProof.Rows
section
variable {X:Cx}
theorem bin {a b:Expr}{ta tb:TE} (ha:PE X a ta) (hb:PE X b tb) {pins:List (Addr × Obj)}{s:Shared}{σ:St}{H:Hp}{R:V->V->Hp->Prop} (I:Inv X pins σ H s) (h:ta σ H fun x H1=>tb σ H1 fun y H2=>R x y H2)
 {α:Type}{Q:α->Shared->Prop}{f:Value->Value->Sem α}
 (hf:∀ v u s2 x y H2,Inv X pins σ H2 s2->RelV x v->RelV y u->R x y H2->wpAny (model X.prog X.w) X.A (f v u) Q X.xe s2) :
 wpAny (model X.prog X.w) X.A (eval a X.env) (fun v s₁=>wpAny (model X.prog X.w) X.A (eval b X.env) (fun u s₂=>wpAny (model X.prog X.w) X.A (f v u) Q X.xe s₂) X.xe s₁) X.xe s:=by
 refine thn (ha pins s σ H _ I h) fun v s1 ⟨x,H1,I1,r1,q1⟩=>?_
 refine thn (hb pins s1 σ H1 _ I1 q1) fun u s2 ⟨y,H2,I2,r2,q2⟩=>?_
 exact hf v u s2 x y H2 I2 r1 r2 q2
def qC (i:Nat):TE:=fun σ H Q=>∃ v,σ[i]?=some (some v)/\Q v H
def tC (v:V):TE:=fun _ H Q=>Q v H
theorem ack {i:Nat}{x:Str}{pos:Pos} (hN:X.N[i]?=some x) (hv:Vis X.env.scope x) (hd:(x == ("__debug__":Str))=false:=by decide) (hcd:(x == ("__classdict__":Str))=false:=by decide):PE X (.Name x pos) (qC i):=by
 intro pins s σ H Q I h
 obtain⟨v,e,h⟩:=h
 obtain⟨m,hn,hl⟩:=I.loc
 obtain⟨u,r,l⟩:=hl i x v hN e hv
 have fin:EP X pins σ Q u s:=⟨v,H,I,r,h⟩
 rcases l with ⟨hk,hm⟩ | ⟨hk,c,hc,hcell⟩
 . exact wpAny_Name (wpAny_loadName_local I.ok.kind hk hn hm fin) hd
 . rcases hk with hk | hk
   . exact wpAny_Name (wpAny_loadName_cell I.ok.kind hk hc hcell fin) hd
   . exact wpAny_Name (wpAny_loadName_free I.ok.kind hk hc hcell fin hcd) hd
theorem zH {i j pos}:PE X (.Constant (.int i) j pos) (tC (.int i)):=fun _ _ _ H _ I h=>wpAny_Constant_int ⟨.int i,H,I.tok _,⟨_,rfl⟩,h⟩
theorem wS {j pos}:PE X (.Constant .none j pos) (tC .non):=fun _ _ _ H _ I h=>Constant_none ⟨.non,H,I,rfl,h⟩
def Gl (X:Cx) (x:Str):Prop:=X.env.kindOf x=some .globalImplicit
theorem JL {E:Value->Shared->Prop}{pins:List (Addr × Obj)}{s:Shared}{σ:St}{H:Hp}{x:Str}{u:Value}{pos:Pos}{Q:Value->Shared->Prop} (I:Inv X pins σ H s) (hg:Gl X x) (hm:X.mg x=some u) (h:Q u s)
 (hd:(x == ("__debug__":Str))=false:=by decide):wpAny (model X.prog X.w) X.A (eval (.Name x pos) X.env) Q E s :=
 Calls.Name_function_global I.ok.kind hg (Calls.loadGlobal_global (by rw[I.ok.glob];exact I.mod.glob.keeps I.bk) hm h) hd
theorem wT {E:Value->Shared->Prop}{pins:List (Addr × Obj)}{s:Shared}{σ:St}{H:Hp}{x:Str}{u:Value}{pos:Pos}{Q:Value->Shared->Prop} (I:Inv X pins σ H s) (hg:Gl X x) (hm:X.mg x=none) (hv:bootBuiltins x=some u) (h:Q u s)
 (hn:x≠"__name__":=by decide) (hd:(x == ("__debug__":Str))=false:=by decide):wpAny (model X.prog X.w) X.A (eval (.Name x pos) X.env) Q E s:=by
 obtain⟨mb,h1,h2⟩:=I.mod.blt
 exact Calls.Name_function_global I.ok.kind hg (Calls.loadGlobal_builtin (by rw[I.ok.glob];exact I.mod.glob.keeps I.bk) hm (by rw[I.ok.blt];exact h1.keeps I.bk) ((h2 x hn).trans hv) h) hd
theorem ZI {x:Str}{v:V}{u:Value}{pos:Pos} (hg:Gl X x) (hm:X.mg x=some u) (r:RelV v u) (hd:(x == ("__debug__":Str))=false:=by decide):PE X (.Name x pos) (tC v) :=
 fun _ _ _ H _ I h=>JL I hg hm ⟨v,H,I,r,h⟩ hd
variable {a b:Expr}{ta tb:TE}{pos:Pos}
def PC (X:Cx) (op:CmpOp) (a b:Expr) (t:TE):Prop :=
 ∀ (pins:List (Addr × Obj)) (s:Shared) (σ:St) (H:Hp) (Q:VK),Inv X pins σ H s->t σ H Q ->
  wpAny (model X.prog X.w) X.A (eval a X.env) (fun v s₁=>wpAny (model X.prog X.w) X.A (eval b X.env) (fun u s₂=>wpAny (model X.prog X.w) X.A (compareOp op v u) (EP X pins σ Q) X.xe s₂) X.xe s₁) X.xe s
theorem aaB (b:Expr) {op:CmpOp} (h:op≠.In) (h2:op≠.NotIn):behindInMarks op b=false:=by
 have e1:(op == CmpOp.In)=false:=by cases op <;> first | rfl | exact absurd rfl h
 have e2:(op == CmpOp.NotIn)=false:=by cases op <;> first | rfl | exact absurd rfl h2
 cases b <;> simp[behindInMarks,e1,e2]
def adm (ta:TE):TE:=fun σ H Q=>ta σ H fun x H1=>Q (.bl (decide (x=.non))) H1
def acV (ta:TE):TE:=fun σ H Q=>ta σ H fun x H1=>Q (.bl (!decide (x=.non))) H1
theorem RelV.none_iff {x:V}{v:Value} (r:RelV x v):(v == Value.none)=decide (x=.non):=by
 cases x with
 | non=>cases r;rfl
 | bl _=>cases r;rfl
 | int _=>obtain⟨t,rfl⟩:=r;rfl
 | str _=>obtain⟨t,rfl⟩:=r;rfl
 | byt _=>obtain⟨t,rfl⟩:=r;rfl
 | flt _=>obtain⟨t,rfl⟩:=r;rfl
 | ref _=>cases r;rfl
 | ty _=>cases r;rfl
theorem jJ {j pos'} (ha:PE X a ta):PC X .Is a (.Constant .none j pos') (adm ta):=by
 intro pins s σ H Q I h
 refine thn (ha pins s σ H _ I h) fun v s1 ⟨x,H1,I1,r1,q1⟩=>?_
 exact Constant_none (is_none_gen ⟨.bl _,H1,I1,by rw[r1.none_iff];rfl,q1⟩)
theorem WT {j pos'} (ha:PE X a ta):PC X .IsNot a (.Constant .none j pos') (acV ta):=by
 intro pins s σ H Q I h
 refine thn (ha pins s σ H _ I h) fun v s1 ⟨x,H1,I1,r1,q1⟩=>?_
 exact Constant_none (isnot_none_gen ⟨.bl _,H1,I1,by rw[r1.none_iff];rfl,q1⟩)
def tB (t:TE):TT:=fun σ H Q=>t σ H fun x H1=>∃ c,x=.bl c/\Q c H1
theorem qJ {op:CmpOp}{t:TE} (h:PC X op a b t) (h1:behindInMarks op b=false:=by first | exact aaB _ (by decide) (by decide) | rfl):PT X (.Compare a [op] [b] pos) (tB t):=by
 intro pins s σ H Q I hw
 refine wpAny_isTrue_Compare1 (thn (h pins s σ H _ I hw) fun v s1 h1=>thn h1 fun u s2 h2=>thn h2 fun c s3 ⟨x,H1,I1,r1,q1⟩=>?_) h1
 obtain⟨d,rfl,q⟩:=q1
 cases r1
 exact wpAny_truthy_bool ⟨H1,I1,q⟩
theorem QE {e:Expr}{t:TE} (h:PE X e t) (he:∀ whole,isTrue e X.env whole=(do let v <-whole;standAt e.pos;holding [v] (truthy v)):=by intro _;rfl):PT X e (tB t):=by
 intro pins s σ H Q I hw
 refine isTrue_plain (thn (h pins s σ H _ I hw) fun v s1 ⟨x,H1,I1,r1,q1⟩=>?_) (he _)
 obtain⟨d,rfl,q⟩:=q1
 cases r1
 exact wpAny_truthy_bool ⟨H1,I1,q⟩
variable {tA tB':TT}{rest:List Expr}
def adn (t u:TT):TT:=fun σ H Q=>t σ H fun c H1=>if c=true then u σ H1 Q else Q false H1
def tOr (t u:TT):TT:=fun σ H Q=>t σ H fun c H1=>if c=true then Q true H1 else u σ H1 Q
def ado (t:TT):TT:=fun σ H Q=>t σ H fun c H1=>Q (!c) H1
theorem JM (ha:PT X a tA):PW X (.BoolOp .And [a] pos) tA:=by
 intro wh pins s σ H Q I h
 refine isTrue_and (thn (ha pins s σ H Q I h) fun c s1 e=>?_)
 cases c with
 | true=>exact isTrue_and_nil e
 | false=>exact e
theorem Wf (ha:PT X a tA):PW X (.BoolOp .Or [a] pos) tA:=by
 intro wh pins s σ H Q I h
 refine isTrue_or (thn (ha pins s σ H Q I h) fun c s1 e=>?_)
 cases c with
 | false=>exact isTrue_or_nil e
 | true=>exact e
theorem Y6 (ha:PT X a tA) (hb:PW X (.BoolOp .And (b::rest) pos) tB'):PW X (.BoolOp .And (a::b::rest) pos) (adn tA tB'):=by
 intro wh pins s σ H Q I h
 refine isTrue_and (thn (ha pins s σ H _ I h) fun c s1 ⟨H1,I1,q1⟩=>?_)
 cases c with
 | true=>exact hb wh pins s1 σ H1 Q I1 q1
 | false=>exact⟨H1,I1,q1⟩
theorem aaC (ha:PT X a tA) (hb:PW X (.BoolOp .Or (b::rest) pos) tB'):PW X (.BoolOp .Or (a::b::rest) pos) (tOr tA tB'):=by
 intro wh pins s σ H Q I h
 refine isTrue_or (thn (ha pins s σ H _ I h) fun c s1 ⟨H1,I1,q1⟩=>?_)
 cases c with
 | true=>exact⟨H1,I1,q1⟩
 | false=>exact hb wh pins s1 σ H1 Q I1 q1
theorem acl (ha:PT X a tA):PT X (.UnaryOp .Not a pos) (ado tA):=by
 intro pins s σ H Q I h
 exact isTrue_not (ha pins s σ H (fun c H1=>Q (!c) H1) I h)
def acW (ta tb:TE):TE:=fun σ H Q=>ta σ H fun x H1=>∃ c,x=.bl c/\if c=true then tb σ H1 Q else Q (.bl false) H1
def adp (ta tb:TE):TE:=fun σ H Q=>ta σ H fun x H1=>∃ c,x=.bl c/\if c=true then Q (.bl true) H1 else tb σ H1 Q
theorem aaD {op}{t:TE} (h:PE X a t):PE X (.BoolOp op [a] pos) t:=fun pins s σ H Q I hw=>BoolOp_one (h pins s σ H Q I hw)
theorem acm (ha:PE X a ta) (hb:PE X (.BoolOp .And (b::rest) pos) tb):PE X (.BoolOp .And (a::b::rest) pos) (acW ta tb):=by
 intro pins s σ H Q I h
 refine BoolOp_and (thn (ha pins s σ H _ I h) fun v s1 ⟨x,H1,I1,r1,q1⟩=>?_)
 obtain⟨c,rfl,q1⟩:=q1
 cases r1
 refine wpAny_truthy_bool ?_
 cases c with
 | true=>exact hb pins s1 σ H1 Q I1 q1
 | false=>exact⟨.bl false,H1,I1,rfl,q1⟩
theorem acX (ha:PE X a ta) (hb:PE X (.BoolOp .Or (b::rest) pos) tb):PE X (.BoolOp .Or (a::b::rest) pos) (adp ta tb):=by
 intro pins s σ H Q I h
 refine BoolOp_or (thn (ha pins s σ H _ I h) fun v s1 ⟨x,H1,I1,r1,q1⟩=>?_)
 obtain⟨c,rfl,q1⟩:=q1
 cases r1
 refine wpAny_truthy_bool ?_
 cases c with
 | false=>exact hb pins s1 σ H1 Q I1 q1
 | true=>exact⟨.bl true,H1,I1,rfl,q1⟩
def tIf (t:TT) (ta tb:TE):TE:=fun σ H Q=>t σ H fun c H1=>if c=true then ta σ H1 Q else tb σ H1 Q
theorem jQ {c:Expr} (hc:PT X c tA) (ha:PE X a ta) (hb:PE X b tb):PE X (.IfExp c a b pos) (tIf tA ta tb):=by
 intro pins s σ H Q I h
 refine wpAny_IfExp (thn (hc pins s σ H _ I h) fun d s1 ⟨H1,I1,q1⟩=>?_)
 cases d with
 | true=>exact ha pins s1 σ H1 Q I1 q1
 | false=>exact hb pins s1 σ H1 Q I1 q1
end
end L2
namespace L2
open PySem PySem.Spec PyProof.Rows
def SqL (K:PySem.W.Frag) (H:Hp) (a:Addr) (xs:List V):Prop :=
 Rd H a (.lst xs) ∨
  ∃ (o:Obj) (its:Array Value) (n:Nat),K.lookup a=some o/\o.cls=.type "list"/\o.dict=none/\o.data=.seq its n/\its.size<=sizeLine/\Vals xs its.toList
def SqT (K:PySem.W.Frag) (H:Hp) (a:Addr) (xs:List V):Prop :=
 Rd H a (.tup xs) ∨
  ∃ (o:Obj) (its:Array Value) (n:Nat),K.lookup a=some o/\o.cls=.type "tuple"/\o.data=.seq its n/\its.size<=sizeLine/\Vals xs its.toList
def adq:Value->Option V
 | .none=>some .non
 | .bool b=>some (.bl b)
 | .int i _=>some (.int i)
 | .str x _=>some (.str x)
 | .bytes b _=>some (.byt b)
 | .float b _=>some (.flt b)
 | .ref a=>some (.ref a)
 | .type n=>some (.ty n)
 | _=>none
theorem RelV.abs {x:V}{u:Value} (r:RelV x u):adq u=some x:=by
 cases x with
 | non=>cases r;rfl
 | bl _=>cases r;rfl
 | int _=>obtain⟨t,rfl⟩:=r;rfl
 | str _=>obtain⟨t,rfl⟩:=r;rfl
 | byt _=>obtain⟨t,rfl⟩:=r;rfl
 | flt _=>obtain⟨t,rfl⟩:=r;rfl
 | ref _=>cases r;rfl
 | ty _=>cases r;rfl
theorem RelV.inj {x y:V}{u:Value} (r:RelV x u) (q:RelV y u):x=y:=Option.some.inj (r.abs.symm.trans q.abs)
theorem Vals.inj:∀ {xs ys:List V}{us:List Value},Vals xs us->Vals ys us->xs=ys
 | _,_,_,.nil,.nil=>rfl
 | _,_,_,.cons r t,.cons r' t'=>by rw[r.inj r',Vals.inj t t']
section
variable {X:Cx}{pins:List (Addr × Obj)}{σ:St}{H:Hp}{s:Shared}{a:Addr}{xs ys:List V}
theorem SqL.of {K:PySem.W.Frag} (h:H a=some (.lst xs)):SqL K H a xs:=.inl (.inl h)
theorem SqT.of {K:PySem.W.Frag} (h:H a=some (.tup xs)):SqT K H a xs:=.inl (.inl h)
theorem Inv.list (I:Inv X pins σ H s) (h:SqL X.K H a xs):∃ its:List Value,Vals xs its/\PlainL s.heap a its.toArray/\xs.length<=sizeLine:=by
 rcases h with h | ⟨o,its,n,hk,hc,hd,hs,hz,r⟩
 . obtain⟨z,its,n,r,e⟩:=h.ok I.hok
   exact⟨its,r,⟨_,n,e,rfl,rfl,rfl⟩,z⟩
 . refine⟨its.toList,r,⟨o,n,I.kIn a o hk,hc,hd,by simpa using hs⟩,?_⟩
   have e:=r.length
   simp only[Array.length_toList] at e
   omega
theorem Inv.tuple (I:Inv X pins σ H s) (h:SqT X.K H a xs):∃ its:List Value,Vals xs its/\IsTup s.heap a its.toArray/\xs.length<=sizeLine:=by
 rcases h with h | ⟨o,its,n,hk,hc,hs,hz,r⟩
 . obtain⟨z,its,r,p⟩:=h.ok I.hok
   exact⟨its,r,p,z⟩
 . refine⟨its.toList,r,⟨o,I.kIn a o hk,hc,n,by simpa using hs⟩,?_⟩
   have e:=r.length
   simp only[Array.length_toList] at e
   omega
theorem Inv.list_inj (I:Inv X pins σ H s) (h:SqL X.K H a xs) (h':SqL X.K H a ys):xs=ys:=by
 obtain⟨its,r,⟨o,n,e,_,_,d⟩,_⟩:=I.list h
 obtain⟨its',r',⟨o',n',e',_,_,d'⟩,_⟩:=I.list h'
 rw[e] at e';cases e'
 rw[d] at d'
 injection d' with d1 _
 have:its=its':=by simpa using congrArg Array.toList d1
 subst this
 exact r.inj r'
end
abbrev Cx.wish (X:Cx) (E:Value->Shared->Prop):Cx:={ X with xe:=E }
abbrev Cx.nox (X:Cx):Cx:=X.wish fun _ _=>False
theorem Cx.Ok.wish {X:Cx} (ok:X.Ok) (E:Value->Shared->Prop):(X.wish E).Ok :=
 ⟨ok.mod,ok.kind,ok.glob,ok.blt,ok.above,ok.inj,ok.has,ok.cab,ok.hd,ok.frames,ok.stk,ok.exf,ok.bs,ok.bsz,ok.noex,ok.exfs,ok.funs,ok.frf⟩
theorem Cx.Ok.unwish {X:Cx}{E:Value->Shared->Prop} (ok:(X.wish E).Ok):X.Ok :=
 ⟨ok.mod,ok.kind,ok.glob,ok.blt,ok.above,ok.inj,ok.has,ok.cab,ok.hd,ok.frames,ok.stk,ok.exf,ok.bs,ok.bsz,ok.noex,ok.exfs,ok.funs,ok.frf⟩
section
variable {X:Cx}{pins:List (Addr × Obj)}{σ:St}{H:Hp}{s:Shared}{E:Value->Shared->Prop}
theorem Inv.wish (I:Inv X pins σ H s) (E:Value->Shared->Prop):Inv (X.wish E) pins σ H s:=⟨I.ok.wish E,I.os,I.bare,I.base,I.loc,I.cell,I.free,I.freeC,I.pin,I.hok,I.len⟩
theorem Inv.unwish (I:Inv (X.wish E) pins σ H s):Inv X pins σ H s:=⟨I.ok.unwish,I.os,I.bare,I.base,I.loc,I.cell,I.free,I.freeC,I.pin,I.hok,I.len⟩
theorem SP.unwish {D:Y5}{f:Flow}{s':Shared} (h:SP (X.wish E) pins D f s'):SP X pins D f s':=by
 cases f with
 | next=>obtain⟨σ',H',I,q⟩:=h;exact⟨σ',H',I.unwish,q⟩
 | brk=>obtain⟨σ',H',I,q⟩:=h;exact⟨σ',H',I.unwish,q⟩
 | cont=>obtain⟨σ',H',I,q⟩:=h;exact⟨σ',H',I.unwish,q⟩
 | ret u=>obtain⟨v,σ',H',I,r,q⟩:=h;exact⟨v,σ',H',I.unwish,r,q⟩
theorem PSs.nox {st:List Stmt}{t:TS} (h:PSs X.nox st t):PSs X st t:=fun pins s σ H D I hw =>
 wpAny_mono (h pins s σ H D (I.wish _) hw) (fun _ _ q=>q.unwish) fun _ _ z=>False.elim z
end
section
variable {X:Cx}{st:Stmt}{rest:List Stmt}{t u:TS}{e:Expr}{te:TE}{pos:Pos}
def aaE:TS:=fun D σ H=>D.nx σ H
def KY (t u:TS):TS:=fun D σ H=>t { D with nx:=u D } σ H
theorem zw:PSs X [] aaE:=fun _ _ σ H _ I h=>wpAny_execs_nil ⟨σ,H,I,h⟩
theorem ze (h1:PS X st t) (h2:PSs X rest u):PSs X (st::rest) (KY t u):=by
 intro pins s σ H D I h
 refine wpAny_execs_cons (thn (h1 pins s σ H { D with nx:=u D } I h) fun f s1 q=>?_)
 cases f with
 | next =>
  obtain⟨σ',H',I',q⟩:=q
  exact h2 pins s1 σ' H' D I' q
 | ret v=>exact q
 | brk=>exact q
 | cont=>exact q
theorem zj (h1:PS X st t):PSs X [st] t:=by
 intro pins s σ H D I h
 refine wpAny_execs_cons (thn (h1 pins s σ H D I h) fun f s1 q=>?_)
 cases f with
 | next=>exact wpAny_execs_nil q
 | ret v=>exact q
 | brk=>exact q
 | cont=>exact q
theorem Inv.quiet {pins:List (Addr × Obj)}{σ:St}{H:Hp}{s:Shared} (I:Inv X pins σ H s):interactive X.env=false:=by simp[interactive,I.ok.kind]
def WU (te:TE):TS:=fun D σ H=>te σ H fun _ H1=>D.nx σ H1
theorem qA (he:PE X e te) (hs:swapsWith e none pos.line X.env=pure false:=by rfl):PS X (.Expr e pos) (WU te):=by
 intro pins s σ H D I h
 exact wpAny_Expr_any (thn (he pins s σ H _ I h) fun v s1 ⟨x,H1,I1,r1,q1⟩=>⟨σ,H1,I1,q1⟩) I.quiet hs
def Y7 (te:TE):TS:=fun D σ H=>te σ H D.rt
theorem zo (he:PE X e te):PS X (.Return (some e) pos) (Y7 te):=by
 intro pins s σ H D I h
 exact wpAny_Return_some (thn (he pins s σ H _ I h) fun v s1 ⟨x,H1,I1,r1,q1⟩=>⟨x,σ,H1,I1,r1,q1⟩)
def acn (c:TT) (t u:TS):TS:=fun D σ H=>c σ H fun b H1=>if b=true then t D σ H1 else u D σ H1
theorem zI {c:Expr}{a b:List Stmt}{tc:TT} (hc:PT X c tc) (ha:PSs X a t) (hb:PSs X b u):PS X (.If c a b pos) (acn tc t u):=by
 intro pins s σ H D I h
 refine wpAny_If (thn (hc pins s σ H _ I h) fun d s1 ⟨H1,I1,q1⟩=>?_)
 cases d with
 | true=>exact ha pins s1 σ H1 D I1 q1
 | false=>exact hb pins s1 σ H1 D I1 q1
end
abbrev TG:=V->St->Hp->(St->Hp->Prop)->Prop
abbrev TGs:=List V->St->Hp->(St->Hp->Prop)->Prop
def PG (X:Cx) (target:Expr) (t:TG):Prop :=
 ∀ (pins:List (Addr × Obj)) (s:Shared) (σ:St) (H:Hp) (v:V) (u:Value) (Q:St->Hp->Prop),Inv X pins σ H s->RelV v u->t v σ H Q ->
  wpAny (model X.prog X.w) X.A (assign target X.env u) (fun _ s'=>∃ σ' H',Inv X pins σ' H' s'/\Q σ' H') X.xe s
def PGs (X:Cx) (ts:List Expr) (t:TGs):Prop :=
 ∀ (pins:List (Addr × Obj)) (s:Shared) (σ:St) (H:Hp) (vs:List V) (us:List Value) (Q:St->Hp->Prop),Inv X pins σ H s->Vals vs us->t vs σ H Q ->
  wpAny (model X.prog X.w) X.A (assignInOrder ((assignEach ts X.env).map (·.2)) us) (fun _ s'=>∃ σ' H',Inv X pins σ' H' s'/\Q σ' H') X.xe s
abbrev aco:=V->V->V->Hp->(Hp->Prop)->Prop
def acY (X:Cx) (t:aco):Prop :=
 ∀ (pins:List (Addr × Obj)) (s:Shared) (σ:St) (H:Hp) (o i v:V) (ov iv u:Value) (Q:Hp->Prop),Inv X pins σ H s->RelV o ov->RelV i iv->RelV v u->t o i v H Q ->
  wpAny (model X.prog X.w) X.A (setItem ov iv u) (fun _ s'=>∃ H',Inv X pins σ H' s'/\Q H') X.xe s
abbrev TIp:=V->V->Hp->VK->Prop
def PIp (X:Cx) (op:Operator) (t:TIp):Prop :=
 ∀ (pins:List (Addr × Obj)) (s:Shared) (σ:St) (H:Hp) (x y:V) (v u:Value) (Q:VK),Inv X pins σ H s->RelV x v->RelV y u->t x y H Q ->
  wpAny (model X.prog X.w) X.A (inplaceOp op v u) (EP X pins σ Q) X.xe s
section
variable {X:Cx}{pos:Pos}
def wq (i:Nat):TG:=fun v σ H Q=>Q (σ.set i (some v)) H
theorem zS {i:Nat}{x:Str} (hN:X.N.Nodup) (hi:X.N[i]?=some x) (hx:Loc X.env.scope x) (hf:X.fn x=true∨X.env.scope.names.lookup x=some .local:=by first | exact .inl rfl | exact .inr rfl | assumption):PG X (.Name x pos) (wq i):=by
 intro pins s σ H v u Q I r h
 exact wpAny_assign_Name (K5 I hN hi hx r (fun s' I'=>⟨_,H,I',h⟩) hf)
def adr:TGs:=fun vs σ H Q=>vs=[]/\Q σ H
def acZ (t:TG) (u:TGs):TGs:=fun vs σ H Q=>∃ v r,vs=v::r/\t v σ H fun σ' H'=>u r σ' H' Q
theorem ZJ:PGs X [] adr:=by
 intro pins s σ H vs us Q I r h
 obtain⟨e,h⟩:=h
 subst e
 cases r
 exact assignInOrder_nil ⟨σ,H,I,h⟩
theorem kf {e:Expr}{es:List Expr}{t:TG}{u:TGs} (h1:PG X e t) (h2:PGs X es u)
 (hs:(assignEach (e::es) X.env).map (·.2)=assign e X.env::(assignEach es X.env).map (·.2):=by rfl):PGs X (e::es) (acZ t u):=by
 intro pins s σ H vs us Q I r h
 obtain⟨v,vr,e1,h⟩:=h
 subst e1
 cases r with
 | cons r rr =>
  rw[hs]
  refine assignInOrder_cons (thn (h1 pins s σ H _ _ _ I r h) fun _ s1 ⟨σ1,H1,I1,q1⟩=>?_)
  exact h2 pins s1 σ1 H1 _ _ Q I1 rr q1
def ac0 (K:PySem.W.Frag) (n:Nat) (t:TGs):TG:=fun v σ H Q=>∃ a xs,v=.ref a/\SqT K H a xs/\xs.length=n/\t xs σ H Q
theorem Y8 {es:List Expr}{k:Nat}{t:TGs}{n:Nat} (hc:X.calm=true) (h:PGs X es t)
 (hn:(assignEach es X.env).length=n:=by rfl) (hst:(assignEach es X.env).findIdx? (·.1)=none:=by rfl):PG X (.Tuple es k pos) (ac0 X.K n t):=by
 intro pins s σ H v u Q I r hw
 obtain⟨a,xs,e1,hq,hl,hw⟩:=hw
 subst e1
 cases r
 obtain⟨its,rv,ht,hz⟩:=I.tuple hq
 refine assign_Tuple_tuple (I.ok.hd hc) ht (by simp[hn,<-hl,rv.length]) hst fun h' hx=>?_
 have I1:Inv X pins σ H { s with heap:=h' }:=I.kept (t':=s.toks) fun b o e=>hx b o (Nat.ne_of_lt (Heap.lt_size e)) e
 exact h pins _ σ H xs _ Q I1 (by simpa using rv) hw
def ads (to ti:TE) (t:aco):TG:=fun v σ H Q=>to σ H fun o H1=>ti σ H1 fun i H2=>t o i v H2 fun H3=>Q σ H3
theorem aaF {o i:Expr}{to ti:TE}{t:aco} (ho:PE X o to) (hi:PE X i ti) (hs:acY X t)
 (ha:∀ v,assign (.Subscript o i pos) X.env v=(do
  let ov <-holding [v] (eval o X.env)
  let iv <-holding [v,ov] (eval i X.env)
  standAt pos
  holding [v,ov,iv] (setItem ov iv v)
  release [v,ov,iv] []):=by intro _;rfl):PG X (.Subscript o i pos) (ads to ti t):=by
 intro pins s σ H v u Q I r h
 rw[ha]
 refine wpAny_bind (wpAny_holding (thn (ho pins s σ H _ I h) fun ov s1 ⟨x,H1,I1,r1,q1⟩=>?_))
 refine wpAny_bind (wpAny_holding (thn (hi pins s1 σ H1 _ I1 q1) fun iv s2 ⟨y,H2,I2,r2,q2⟩=>?_))
 refine wpAny_bind (wpAny_standAt (wpAny_bind (wpAny_holding (thn (hs pins s2 σ H2 x y v ov iv u _ I2 r1 r2 r q2) fun _ s3 ⟨H3,I3,q3⟩=>?_))))
 exact wpAny_release ⟨σ,H3,I3,q3⟩
def Y9 (te:TE) (g:TG):TS:=fun D σ H=>te σ H fun x H1=>g x σ H1 D.nx
theorem aaG {tg e:Expr}{te:TE}{g:TG} (he:PE X e te) (hg:PG X tg g) (hs:swapsWithSole [tg] e pos.line X.env=pure false:=by rfl) (hw:swappedStores [tg] e X.env=pure none:=by rfl)
 (h1:(assignEach [tg] X.env).map (·.2)=[assign tg X.env]:=by rfl):PS X (.Assign [tg] e pos) (Y9 te g):=by
 intro pins s σ H D I h
 refine wpAny_Assign_stores (thn (he pins s σ H _ I h) fun v s1 ⟨x,H1,I1,r1,q1⟩=>?_) hs hw
 rw[h1]
 exact thn (hg pins s1 σ H1 x v _ I1 r1 q1) fun _ s2 q=>q
theorem zu {i:Nat}{x:Str}{e:Expr}{te:TE}{pos':Pos} (hN:X.N.Nodup) (hi:X.N[i]?=some x) (hx:Loc X.env.scope x) (he:PE X e te) (hs:swapsWith e (some (.Name x pos')) pos.line X.env=pure false:=by rfl) (hf:X.fn x=true∨X.env.scope.names.lookup x=some .local:=by first | exact .inl rfl | exact .inr rfl | assumption) :
 PS X (.Assign [.Name x pos'] e pos) (Y9 te (wq i)):=by
 intro pins s σ H D I h
 refine wpAny_Assign_Name (thn (he pins s σ H _ I h) fun v s1 ⟨y,H1,I1,r1,q1⟩=>?_) hs
 exact K5 I1 hN hi hx r1 (fun s2 I2=>⟨_,H1,I2,q1⟩) hf
def adt (i:Nat) (te:TE) (ti:TIp):TS:=fun D σ H=>∃ x,σ[i]?=some (some x)/\te σ H fun y H1=>ti x y H1 fun z H2=>D.nx (σ.set i (some z)) H2
theorem aaH {i:Nat}{x:Str}{e:Expr}{te:TE}{op:Operator}{ti:TIp}{pos':Pos} (hN:X.N.Nodup) (hi:X.N[i]?=some x) (hx:Loc X.env.scope x) (he:PE X e te) (ho:PIp X op ti) (hf:X.fn x=true∨X.env.scope.names.lookup x=some .local:=by first | exact .inl rfl | exact .inr rfl | assumption) :
 PS X (.AugAssign (.Name x pos') op e pos) (adt i te ti):=by
 intro pins s σ H D I h
 obtain⟨v,e1,h⟩:=h
 obtain⟨m,hn,hl⟩:=I.loc
 have vis:Vis X.env.scope x:=by rcases hx with k | k;exact .inl k;exact .inr (.inl k)
 obtain⟨u,r,l⟩:=hl i x v hi e1 vis
 refine wpAny_AugAssign_Name ?_
 have go:wpAny (model X.prog X.w) X.A (eval e X.env) (fun w s₂=>wpAny (model X.prog X.w) X.A (inplaceOp op u w) (fun r s₃=>wpAny (model X.prog X.w) X.A (storeName X.env x r) (fun _=>SP X pins D .next) X.xe s₃) X.xe s₂) X.xe s:=by
  refine thn (he pins s σ H _ I h) fun w s1 ⟨y,H1,I1,r1,q1⟩=>?_
  refine thn (ho pins s1 σ H1 v y u w _ I1 r r1 q1) fun z s2 ⟨zv,H2,I2,r2,q2⟩=>?_
  exact K5 I2 hN hi hx r2 (fun s3 I3=>⟨_,H2,I3,q2⟩) hf
 rcases l with ⟨hk,hm⟩ | ⟨hk,c,hc,hcell⟩
 . exact wpAny_loadName_local I.ok.kind hk hn hm go
 . rcases hk with hk | hk
   . exact wpAny_loadName_cell I.ok.kind hk hc hcell go
   . rcases hx with k | k
     . have:X.env.scope.names.lookup x=some .free:=hk
       rw[k] at this;cases this
     . have:X.env.scope.names.lookup x=some .free:=hk
       rw[k] at this;cases this
def ipI (f:Int->Int->Int):TIp:=fun x y H Q=>∃ i j,x=.int i/\y=.int j/\Q (.int (f i j)) H
theorem aaI:PIp X .Add (ipI fun i j=>i+j):=by
 intro pins s σ H x y v u Q I r1 r2 h
 obtain⟨i,j,e1,e2,q⟩:=h
 subst e1;subst e2
 obtain⟨t,rfl⟩:=r1
 obtain⟨t',rfl⟩:=r2
 exact iadd_int ⟨.int _,H,I.tok _,⟨_,rfl⟩,q⟩
end
section
variable {X:Cx}{pos:Pos}
def acp (c:TT) (tb:TS):TS:=fun D σ H=>∃ W:Nat->St->Hp->Prop,(∃ m,W m σ H)/\∀ m σ H,W m σ H ->
 c σ H fun b H1=>if b=true then ∃ N:St->Hp->Prop,(∀ σ' H',N σ' H'->∃ m',m'<m/\W m' σ' H')/\tb { D with nx:=N,ct:=N,bk:=D.nx } σ H1 else D.nx σ H1
theorem K6 {c:Expr}{body:List Stmt}{tc:TT}{tb:TS} (hp:PassesOwn (model X.prog X.w) X.A X.env X.xe) (hc:PT X c tc) (hb:PSs X body tb):PS X (.While c body [] pos) (acp tc tb):=by
 intro pins s σ H D I h
 obtain⟨W,⟨m0,w0⟩,turn⟩:=h
 refine wpAny_While (codeAny_whileLoop (fun n s'=>∃ σ' H',Inv X pins σ' H' s'/\W n σ' H') ?_ m0 ⟨σ,H,I,w0⟩)
 rintro n s1 ⟨σ1,H1,I1,w1⟩
 refine wpAny_passesOwn hp (thn (hc pins s1 σ1 H1 _ I1 (turn n σ1 H1 w1)) fun b s2 ⟨H2,I2,q2⟩=>?_)
 cases b with
 | true =>
  obtain⟨N,hN,q2⟩:=q2
  rw[if_pos rfl]
  refine wpAny_passesOwn hp (thn (hb pins s2 σ1 H2 _ I2 q2) fun f s3 q3=>?_)
  cases f with
  | next =>
   obtain⟨σ3,H3,I3,n3⟩:=q3
   obtain⟨m',hm,w3⟩:=hN σ3 H3 n3
   exact⟨m',hm,σ3,H3,I3,w3⟩
  | cont =>
   obtain⟨σ3,H3,I3,n3⟩:=q3
   obtain⟨m',hm,w3⟩:=hN σ3 H3 n3
   exact⟨m',hm,σ3,H3,I3,w3⟩
  | brk=>exact q3
  | ret v=>exact q3
 | false =>
  rw[if_neg Bool.false_ne_true]
  exact wpAny_execs_nil ⟨σ1,H2,I2,q2⟩
end
structure It where
 go:Nat->Hp->Prop
 yld:Nat->Hp->V->Hp->Prop
 stop:Nat->Hp->Prop
def Jk (X:Cx) (pins:List (Addr × Obj)) (H:Hp) (b:Addr):Prop :=
 H b=none/\b≠X.env.locals/\b ∉ X.fs/\(b∈X.ex∨X.s_0.heap.objs.size<=b)/\(∀ x c,X.env.cells.lookup x=some c->c≠b)/\∀ p∈X.pn++pins,p.1≠b
theorem Inv.fpOk {X:Cx}{pins:List (Addr × Obj)}{σ:St}{H H':Hp}{s:Shared}{b:Addr} (I:Inv X pins σ H s) (hb:s.heap.objs.size<=b) (hn:H' b=none):Jk X pins H' b:=by
 refine⟨hn,Nat.ne_of_gt (Nat.lt_of_lt_of_le I.lt hb),I.nofs hb,.inr (Nat.le_trans I.sz hb),fun x c e z=>?_,fun p hp z=>?_⟩
 . obtain⟨v,q⟩:=I.cell x c e
   exact absurd (Nat.lt_of_lt_of_le q.lt (by rw[z];exact hb)) (Nat.lt_irrefl _)
 . exact absurd (Nat.lt_of_lt_of_le (Heap.lt_size (I.pin p hp).1) (by rw[z];exact hb)) (Nat.lt_irrefl _)
structure Wg (P:Program) (w:World) (K:PySem.W.Frag) (tg:Expr) (J:It) (fp:List Addr) (it:Addr) (tn:Nat->Heap->Prop):Prop where
 mem:it∈fp
 obj:∀ i h,tn i h->∀ b∈fp,∃ o,h.get? b=some o/\∀ v,o.data≠.cell v
 keep:∀ i h h',tn i h->(∀ b∈fp,∀ o,h.get? b=some o->h'.get? b=some o)->tn i h'
 item:∀ (X:Cx),X.prog=P->X.w=w->X.K=K->X.calm=true->∀ (i:Nat) (pins:List (Addr × Obj)) (s:Shared) (σ:St) (H:Hp) (E:Value->Shared->Prop),Inv X pins σ H s->(∀ b∈fp,Jk X pins H b)->tn i s.heap->J.go i H ->
  wpAny (model P w) X.A (pyNext (.ref it)) (fun r s1=>∃ u,r=some u /\
   wpAny (model P w) X.A (letOwnedTupleGo tg (.ref it) u) (fun _ s2=>∃ x H',Inv X pins σ H' s2/\RelV x u/\J.yld i H x H'/\tn (i+1) s2.heap/\∀ b∈fp,H' b=none) E s1) E s
 done:∀ (X:Cx),X.prog=P->X.w=w->X.K=K->X.calm=true->∀ (i:Nat) (pins:List (Addr × Obj)) (s:Shared) (σ:St) (H:Hp) (E:Value->Shared->Prop),Inv X pins σ H s->(∀ b∈fp,Jk X pins H b)->tn i s.heap->J.stop i H ->
  wpAny (model P w) X.A (pyNext (.ref it)) (fun r s1=>r=none/\Inv X pins σ H s1) E s
 self:∀ (A:Around) (i:Nat) (s:Shared) (Q:Value->Shared->Prop) (E:Value->Shared->Prop),tn i s.heap->Q (.ref it) s->wpAny (model P w) A (pyIter (.ref it)) Q E s
abbrev TI:=St->Hp->(It->Hp->Prop)->Prop
def PIE (X:Cx) (pins:List (Addr × Obj)) (σ:St) (tg:Expr) (R:It->Hp->Prop) (itv:Value) (s2:Shared):Prop :=
 ∃ (it:Addr) (fp:List Addr) (tn:Nat->Heap->Prop) (J:It) (H':Hp),itv=.ref it/\Inv X pins σ H' s2/\Wg X.prog X.w X.K tg J fp it tn/\tn 0 s2.heap/\(∀ b∈fp,Jk X pins H' b)/\R J H'
def PI (X:Cx) (tg iter:Expr) (wi:TI):Prop :=
 ∀ (pins:List (Addr × Obj)) (s:Shared) (σ:St) (H:Hp) (R:It->Hp->Prop),Inv X pins σ H s->wi σ H R ->
  wpAny (model X.prog X.w) X.A (eval iter X.env) (fun v s1=>wpAny (model X.prog X.w) X.A (pyIter v) (PIE X pins σ tg R) X.xe s1) X.xe s
theorem ac1 {M:Model}{A:Around}{E:Value->Shared->Prop}{s:Shared}{tg:Expr}{it:Addr}{u:Value}{o:Obj}{n:String}{vs:Array Value}{Q:Unit->Shared->Prop} (ho:s.heap.get? it=some o) (hc:o.cls=.type n) (hd:o.data=.fields vs)
 (hn:["enumerate","zip","dict_itemiterator","dict_reverseitemiterator","odict_iterator","itertools.zip_longest","itertools.pairwise"].contains n=false) (hQ:Q () s):wpAny M A (letOwnedTupleGo tg (.ref it) u) Q E s:=by
 unfold letOwnedTupleGo
 cases tg <;> first
  | exact wpAny_pure hQ
  | (cases u <;> first
      | exact wpAny_pure hQ
      | (refine wpAny_bind (wpAny_load ho ?_)
         rw[hc,hd]
         show wpAny M A (if (["enumerate","zip","dict_itemiterator","dict_reverseitemiterator","odict_iterator","itertools.zip_longest","itertools.pairwise"].contains n && vs[0]? == some (rawInt _))=true then _ else _) Q E s
         rw[if_neg (by intro h;rw[hn,Bool.false_and] at h;cases h)]
         exact wpAny_pure hQ))
def Itl (K:PySem.W.Frag) (a:Addr):It :=
 ⟨fun i H=>∃ xs x,SqL K H a xs/\xs[i]?=some x,fun i H x H'=>H'=H/\∀ xs,SqL K H a xs->xs[i]?=some x,fun i H=>∃ xs,SqL K H a xs/\xs.length<=i⟩
theorem Uz {P:Program}{w:World}{K:PySem.W.Frag}{tg:Expr} (a it:Addr):Wg P w K tg (Itl K a) [it] it (fun i h=>h.IsListIter it a i) where
 mem:=by simp
 obj:=fun i h st b hb=>by
  have e:b=it:=by simpa using hb
  subst e
  obtain⟨o,e,c,d⟩:=st
  exact⟨o,e,fun v z=>by rw[d] at z;cases z⟩
 keep:=fun i h h' st k=>st.at fun o e=>k it (by simp) o e
 item:=by
  intro X hP hw hK hc i pins s σ H E I hf st hg
  subst hP hw hK
  obtain⟨xs,x,hq,hx⟩:=hg
  obtain⟨its,rv,p,hz⟩:=I.list hq
  obtain⟨u,hu,ru⟩:=rv.get hx
  obtain⟨f0,f1,f2,f3,f4,f5⟩:=hf it (by simp)
  refine wpAny_pyNext_list_item st p.isList (x:=u) (by simpa using hu) fun h' st' sb=>?_
  have I1:Inv X pins σ H { s with heap:=h' }:=I.turned (t':=s.toks) (fun b o hb e=>(sb.2 b hb).trans e) f0 f1 f3 f4 f5
  obtain⟨o,e,c,d⟩:=id st'
  exact⟨u,rfl,ac1 (s:={ s with heap:=h' }) e c d (by decide) ⟨x,H,I1,ru,⟨rfl,fun ys hy=>by rw[I.list_inj hy hq];exact hx⟩,st',fun b hb=>(hf b hb).1⟩⟩
 done:=by
  intro X hP hw hK hc i pins s σ H E I hf st hg
  subst hP hw hK
  obtain⟨xs,hq,hx⟩:=hg
  obtain⟨its,rv,p,hz⟩:=I.list hq
  obtain⟨f0,f1,f2,f3,f4,f5⟩:=hf it (by simp)
  have hl:=rv.length
  exact wpAny_pyNext_list_end (I.ok.hd hc) st p.isList (by simp;omega) fun h' eb=>⟨rfl,I.turned (t':=s.toks) (fun b o hb e=>eb b o hb e) f0 f1 f3 f4 f5⟩
 self:=fun _ _ _ _ _ st h=>wpAny_pyIter_listiter st h
end L2
namespace L2
open PySem PySem.Spec PyProof.Rows
section
variable {X:Cx}{tg:Expr}
def aaJ (K:PySem.W.Frag) (tl:TE):TI:=fun σ H R=>tl σ H fun x H1=>∃ a,x=.ref a/\(∃ xs,SqL K H1 a xs)/\R (Itl K a) H1
theorem qi {l:Expr}{tl:TE} (hl:PE X l tl):PI X tg l (aaJ X.K tl):=by
 intro pins s σ H R I h
 refine thn (hl pins s σ H _ I h) fun v s1 ⟨x,H1,I1,r1,q1⟩=>?_
 obtain⟨a,e,⟨xs,hq⟩,q⟩:=q1
 subst e
 cases r1
 obtain⟨its,rv,p,hz⟩:=I1.list hq
 refine wpAny_pyIter_list p.isList ?_
 refine⟨s1.heap.objs.size,[s1.heap.objs.size],_,_,H1,rfl,I1.kept (t':=s1.toks) fun b o e=>Heap.get?_push_of_some _ e,Uz a _,⟨_,Heap.get?_push_size _ rfl,rfl,rfl⟩,fun b hb=>?_,q⟩
 have e:b=s1.heap.objs.size:=by simpa using hb
 subst e
 exact I1.fpOk (Nat.le_refl _) (I1.hok.fresh (Nat.le_refl _))
def adu (wi:TI) (g:TG) (tb:TS):TS:=fun D σ H=>wi σ H fun J H1=>∃ W:Nat->Nat->St->Hp->Prop,(∃ m,W 0 m σ H1)/\∀ i m σ H,W i m σ H ->
 (J.stop i H/\D.nx σ H)∨(J.go i H/\∃ N:St->Hp->Prop,(∀ σ' H',N σ' H'->∃ m',m'<m/\W (i+1) m' σ' H')/\∀ x H',J.yld i H x H'->g x σ H' fun σ2 H2=>tb { D with nx:=N,ct:=N,bk:=D.nx } σ2 H2)
def K7 (fp:List Addr) (h:Heap):List (Addr × Obj):=fp.filterMap fun b=>(h.get? b).map fun o=>(b,o)
theorem Z9 {fp:List Addr}{h:Heap}{b:Addr}{o:Obj} (hb:b∈fp) (e:h.get? b=some o):(b,o)∈K7 fp h:=List.mem_filterMap.mpr ⟨b,hb,by rw[e];rfl⟩
theorem UA {fp:List Addr}{h:Heap}{p:Addr × Obj} (hp:p∈K7 fp h):p.1∈fp/\h.get? p.1=some p.2:=by
 obtain⟨b,hb,e⟩:=List.mem_filterMap.mp hp
 cases q:h.get? b with
 | none=>rw[q] at e;cases e
 | some o =>
  rw[q] at e
  have e':(b,o)=p:=Option.some.inj e
  subst e'
  exact⟨hb,q⟩
theorem Inv.pinned {pins:List (Addr × Obj)}{σ:St}{H:Hp}{s:Shared}{fp:List Addr} (I:Inv X pins σ H s) (hf:∀ b∈fp,Jk X pins H b) (ho:∀ b∈fp,∃ o,s.heap.get? b=some o/\∀ v,o.data≠.cell v):Inv X (pins++K7 fp s.heap) σ H s :=
 I.pins_of fun p hp=>(List.mem_append.mp hp).elim (fun z=>I.pin p (List.mem_append_right _ z)) fun z=>by
  obtain⟨hb,e⟩:=UA z
  obtain⟨f0,f1,f2,_⟩:=hf p.1 hb
  obtain⟨o,e',d⟩:=ho p.1 hb
  rw[e] at e';cases e'
  exact⟨e,f0,f1,f2,d⟩
theorem Inv.unpinned {pins pl:List (Addr × Obj)}{σ:St}{H:Hp}{s:Shared} (I:Inv X (pins++pl) σ H s):Inv X pins σ H s:=I.pins_of fun p hp=>I.pin p (List.mem_append_right _ (List.mem_append_left _ hp))
theorem kQ {iter:Expr}{body:List Stmt}{wi:TI}{g:TG}{tb:TS}{pos:Pos} (hp:PassesOwn (model X.prog X.w) X.A X.env X.xe) (hc:X.calm=true) (hi:PI X tg iter wi) (hg:PG X tg g) (hb:PSs X body tb)
 (hs:∀ x,foldedSetIterable iter X.env x=pure x:=by intro _;rfl):PS X (.For tg iter body [] pos) (adu wi g tb):=by
 intro pins s σ H D I h
 refine wpAny_For (thn (hi pins s σ H _ I h) fun v s1 h1=>thn h1 fun itv s2 h2=>?_) hs
 obtain⟨it,fp,tn,J,H2,e,I2,T,st2,f2,W,⟨m0,w0⟩,turn⟩:=h2
 subst e
 have stat:∀ {H':Hp},(∀ b∈fp,H' b=none)->∀ b∈fp,Jk X pins H' b:=fun hn b hb=>⟨hn b hb,(f2 b hb).2⟩
 refine codeAny_forLoop_any (fun n s'=>∃ i σ' H',Inv X pins σ' H' s'/\tn i s'.heap/\(∀ b∈fp,H' b=none)/\W i n σ' H') ?_ m0 ⟨0,σ,H2,I2,st2,fun b hb=>(f2 b hb).1,w0⟩
 rintro n s3 ⟨i,σ3,H3,I3,st3,fr3,w3⟩
 rcases turn i n σ3 H3 w3 with ⟨stop,qn⟩ | ⟨go,N,hN,step⟩
 . refine wpAny_passesOwn hp (thn (T.done X rfl rfl rfl hc i pins s3 σ3 H3 X.xe I3 (stat fr3) st3 stop) fun r s4 ⟨hr,I4⟩=>?_)
   subst hr
   exact wpAny_execs_nil ⟨σ3,H3,I4,qn⟩
 . refine wpAny_passesOwn hp (thn (T.item X rfl rfl rfl hc i pins s3 σ3 H3 X.xe I3 (stat fr3) st3 go) fun r s4 ⟨u,hr,h4⟩=>?_)
   subst hr
   refine wpAny_passesOwn hp (thn h4 fun _ s5 ⟨x,H5,I5,r5,y5,st5,fr5⟩=>?_)
   have I5':=I5.pinned (stat fr5) (T.obj _ _ st5)
   refine wpAny_passesOwn hp (thn (hg _ s5 σ3 H5 x u _ I5' r5 (step x H5 y5)) fun _ s6 ⟨σ6,H6,I6,q6⟩=>?_)
   refine wpAny_passesOwn hp (thn (hb _ s6 σ6 H6 _ I6 q6) fun f s7 q7=>?_)
   have again:∀ {σ7:St}{H7:Hp},Inv X (pins++K7 fp s5.heap) σ7 H7 s7->N σ7 H7->∃ m,m<n/\∃ i σ' H',Inv X pins σ' H' s7/\tn i s7.heap/\(∀ b∈fp,H' b=none)/\W i m σ' H':=fun {σ7 H7} I7 n7=>by
    obtain⟨m',hm,w7⟩:=hN σ7 H7 n7
    refine⟨m',hm,i+1,σ7,H7,I7.unpinned,T.keep _ _ _ st5 fun b hb o e=>(I7.pin (b,o) (List.mem_append_right _ (List.mem_append_right _ (Z9 hb e)))).1,fun b hb=>?_,w7⟩
    obtain⟨o,e,d⟩:=T.obj _ _ st5 b hb
    exact (I7.pin (b,o) (List.mem_append_right _ (List.mem_append_right _ (Z9 hb e)))).2.1
   cases f with
   | next=>obtain⟨σ7,H7,I7,n7⟩:=q7;exact again I7 n7
   | cont=>obtain⟨σ7,H7,I7,n7⟩:=q7;exact again I7 n7
   | brk=>obtain⟨σ7,H7,I7,q7⟩:=q7;exact⟨σ7,H7,I7.unpinned,q7⟩
   | ret v=>obtain⟨x7,σ7,H7,I7,r7,q7⟩:=q7;exact⟨x7,σ7,H7,I7.unpinned,r7,q7⟩
end
theorem jD {K:PySem.W.Frag}{a:Addr}{xs:List V}{g:TG}{tb:TS}{D:Y5}{σ:St}{H:Hp} (Pv:Nat->St->Hp->Prop) (h0:Pv 0 σ H) (hl:∀ i σ H,i<=xs.length->Pv i σ H->SqL K H a xs)
 (hs:∀ i x σ H,xs[i]?=some x->Pv i σ H->g x σ H fun σ2 H2=>tb { D with nx:=Pv (i+1),ct:=Pv (i+1),bk:=D.nx } σ2 H2) (hd:∀ σ H,Pv xs.length σ H->D.nx σ H) :
 ∃ W:Nat->Nat->St->Hp->Prop,(∃ m,W 0 m σ H)/\∀ i m σ H,W i m σ H ->
  ((Itl K a).stop i H/\D.nx σ H)∨((Itl K a).go i H/\∃ N:St->Hp->Prop,(∀ σ' H',N σ' H'->∃ m',m'<m/\W (i+1) m' σ' H')/\∀ x H',(Itl K a).yld i H x H'->g x σ H' fun σ2 H2=>tb { D with nx:=N,ct:=N,bk:=D.nx } σ2 H2):=by
 refine⟨fun i m σ H=>m=xs.length - i/\i<=xs.length/\Pv i σ H,⟨xs.length,by simp,Nat.zero_le _,h0⟩,?_⟩
 rintro i m σ H ⟨rfl,hi,p⟩
 have q:=hl i σ H hi p
 by_cases hlt:i<xs.length
 . refine .inr ⟨⟨xs,xs[i],q,by simp[hlt]⟩,Pv (i+1),fun σ' H' p'=>⟨xs.length - (i+1),by omega,rfl,hlt,p'⟩,fun x H' y=>?_⟩
   obtain⟨e,y⟩:=y
   subst e
   exact hs i x σ _ (y xs q) p
 . have e:i=xs.length:=by omega
   subst e
   exact .inl ⟨⟨xs,q,Nat.le_refl _⟩,hd σ H p⟩
end L2
namespace L2
open PySem PySem.Spec PyProof.Rows
abbrev R2:=V->V->Hp->VK->Prop
def OpR (X:Cx) (f:Value->Value->Sem Value) (r:R2):Prop :=
 ∀ (pins:List (Addr × Obj)) (s:Shared) (σ:St) (H:Hp) (x y:V) (v u:Value) (Q:VK),Inv X pins σ H s->RelV x v->RelV y u->r x y H Q ->
  wpAny (model X.prog X.w) X.A (f v u) (EP X pins σ Q) X.xe s
def UnR (X:Cx) (f:Value->Sem Value) (r:V->Hp->VK->Prop):Prop :=
 ∀ (pins:List (Addr × Obj)) (s:Shared) (σ:St) (H:Hp) (x:V) (v:Value) (Q:VK),Inv X pins σ H s->RelV x v->r x H Q ->
  wpAny (model X.prog X.w) X.A (f v) (EP X pins σ Q) X.xe s
def ZK (X:Cx) (f:Value) (r:List V->Hp->VK->Prop):Prop :=
 ∀ (pins:List (Addr × Obj)) (s:Shared) (σ:St) (H:Hp) (xs:List V) (us:List Value) (Q:VK),Inv X pins σ H s->Vals xs us->r xs H Q ->
  wpAny (model X.prog X.w) X.A (call f us) (EP X pins σ Q) X.xe s
def tOp (r:R2) (ta tb:TE):TE:=fun σ H Q=>ta σ H fun x H1=>tb σ H1 fun y H2=>r x y H2 Q
def tUn (r:V->Hp->VK->Prop) (ta:TE):TE:=fun σ H Q=>ta σ H fun x H1=>r x H1 Q
def rI (C:Int->Int->Prop) (g:Int->Int->V):R2:=fun x y H Q=>∃ i j,x=.int i/\y=.int j/\C i j/\Q (g i j) H
def rI0 (g:Int->Int->V):R2:=fun x y H Q=>∃ i j,x=.int i/\y=.int j/\Q (g i j) H
def rU (g:Int->V):V->Hp->VK->Prop:=fun x H Q=>∃ i,x=.int i/\Q (g i) H
section
variable {X:Cx}{a b c:Expr}{ta tb tc:TE}{pos:Pos}
theorem acq (ha:PE X a ta) (hb:PE X b tb) {pins:List (Addr × Obj)}{s:Shared}{σ:St}{H:Hp}{R:V->V->Hp->Prop} (I:Inv X pins σ H s)
 (h:ta σ H fun x H1=>tb σ H1 fun y H2=>R x y H2) {Q:Value->Shared->Prop}{f:Value->Value->Sem Value}
 (hf:∀ v u s2 x y H2,Inv X pins σ H2 s2->RelV x v->RelV y u->R x y H2->wpAny (model X.prog X.w) X.A (f v u) Q X.xe s2) :
 wpAny (model X.prog X.w) X.A (eval a X.env) (fun v s₁=>wpAny (model X.prog X.w) X.A (eval b X.env) (fun u s₂=>wpAny (model X.prog X.w) X.A (f v u) Q X.xe s₂) X.xe s₁) X.xe s:=by
 refine thn (ha pins s σ H _ I h) fun v s1 ⟨x,H1,I1,r1,q1⟩=>?_
 refine thn (hb pins s1 σ H1 _ I1 q1) fun u s2 ⟨y,H2,I2,r2,q2⟩=>?_
 exact hf v u s2 x y H2 I2 r1 r2 q2
theorem jK {op:Operator}{r:R2} (ho:OpR X (binaryOp op) r) (ha:PE X a ta) (hb:PE X b tb):PE X (.BinOp a op b pos) (tOp r ta tb):=by
 intro pins s σ H Q I h
 exact wpAny_BinOp (acq ha hb I h fun v u s2 x y H2 I2 rx ry q=>ho pins s2 σ H2 x y v u Q I2 rx ry q)
theorem ac2 {op:UnaryOp}{r:V->Hp->VK->Prop} (ho:UnR X (unaryOp op) r) (ha:PE X a ta):PE X (.UnaryOp op a pos) (tUn r ta):=by
 intro pins s σ H Q I h
 exact UnaryOp_ (thn (ha pins s σ H _ I h) fun v s1 ⟨x,H1,I1,r1,q1⟩=>ho pins s1 σ H1 x v Q I1 r1 q1)
theorem opI {f:Value->Value->Sem Value}{C:Int->Int->Prop}{g:Int->Int->Int}
 (rule:∀ (i j:Int) (t u:Tok) (s:Shared) (Q:Value->Shared->Prop) (E:Value->Shared->Prop),C i j->Q (.int (g i j) s.toks) { s with toks:=s.toks+1 }->wpAny (model X.prog X.w) X.A (f (.int i t) (.int j u)) Q E s) :
 OpR X f (rI C fun i j=>.int (g i j)):=by
 intro pins s σ H x y v u Q I rx ry h
 obtain⟨i,j,rfl,rfl,hc,q⟩:=h
 obtain⟨t,rfl⟩:=rx
 obtain⟨t',rfl⟩:=ry
 exact rule i j t t' s _ _ hc ⟨.int (g i j),H,I.tok _,⟨_,rfl⟩,q⟩
theorem ac3 {f:Value->Value->Sem Value}{g:Int->Int->Int}
 (rule:∀ (i j:Int) (t u:Tok) (s:Shared) (Q:Value->Shared->Prop) (E:Value->Shared->Prop),Q (.int (g i j) s.toks) { s with toks:=s.toks+1 }->wpAny (model X.prog X.w) X.A (f (.int i t) (.int j u)) Q E s) :
 OpR X f (rI0 fun i j=>.int (g i j)):=by
 intro pins s σ H x y v u Q I rx ry h
 obtain⟨i,j,rfl,rfl,q⟩:=h
 obtain⟨t,rfl⟩:=rx
 obtain⟨t',rfl⟩:=ry
 exact rule i j t t' s _ _ ⟨.int (g i j),H,I.tok _,⟨_,rfl⟩,q⟩
theorem abF {f:Value->Value->Sem Value}{g:Int->Int->Bool}
 (rule:∀ (i j:Int) (t u:Tok) (s:Shared) (Q:Value->Shared->Prop) (E:Value->Shared->Prop),Q (.bool (g i j)) s->wpAny (model X.prog X.w) X.A (f (.int i t) (.int j u)) Q E s) :
 OpR X f (rI0 fun i j=>.bl (g i j)):=by
 intro pins s σ H x y v u Q I rx ry h
 obtain⟨i,j,rfl,rfl,q⟩:=h
 obtain⟨t,rfl⟩:=rx
 obtain⟨t',rfl⟩:=ry
 exact rule i j t t' s _ _ ⟨.bl (g i j),H,I,rfl,q⟩
def ac4 (i j:Int):Prop:=0<j/\j<1073741824
theorem w4:OpR X (binaryOp .Add) (rI0 fun i j=>.int (i+j)):=ac3 fun _ _ _ _ _ _ _ q=>add_int q
theorem Wh:OpR X (binaryOp .Sub) (rI0 fun i j=>.int (i - j)):=ac3 fun _ _ _ _ _ _ _ q=>sub_int q
theorem abG:OpR X (binaryOp .FloorDiv) (rI ac4 fun i j=>.int (i / j)):=opI fun i j _ _ _ _ _ hc q=>by
 have h1:(0:Int)<j:=hc.1
 have h2:j<1073741824:=hc.2
 exact floordiv_int (by omega) (by rw[Int.fdiv_eq_ediv_of_nonneg i (by omega)];exact q) (.inl (PyProof.noPylong_small (by omega)))
theorem unI {f:Value->Sem Value}{g:Int->Int}
 (rule:∀ (i:Int) (t:Tok) (s:Shared) (Q:Value->Shared->Prop) (E:Value->Shared->Prop),Q (.int (g i) s.toks) { s with toks:=s.toks+1 }->wpAny (model X.prog X.w) X.A (f (.int i t)) Q E s) :
 UnR X f (rU fun i=>.int (g i)):=by
 intro pins s σ H x v Q I rx h
 obtain⟨i,rfl,q⟩:=h
 obtain⟨t,rfl⟩:=rx
 exact rule i t s _ _ ⟨.int (g i),H,I.tok _,⟨_,rfl⟩,q⟩
theorem acr:UnR X (unaryOp .USub) (rU fun i=>.int (-i)):=unI fun _ _ _ _ _ q=>neg_int q
end
def ac5:V->V->Bool
 | .non,.non=>true | .non,.int _=>true | .int _,.non=>true | .non,.bl _=>true | .bl _,.non=>true | .non,.str _=>true | .str _,.non=>true
 | .int _,.int _=>true | .bl _,.bl _=>true | .str _,.str _=>true | .byt _,.byt _=>true
 | .int _,.str _=>true | .str _,.int _=>true | .bl _,.str _=>true | .str _,.bl _=>true
 | _,_=>false
def rEq:R2:=fun x y H Q=>ac5 x y=true/\Q (.bl (decide (x=y))) H
def rNe:R2:=fun x y H Q=>ac5 x y=true/\Q (.bl (!decide (x=y))) H
theorem WV {i j:Int}:decide (V.int i=V.int j)=(i == j):=by
 rw[Bool.eq_iff_iff]
 simp
theorem aaK {i j:Bool}:decide (V.bl i=V.bl j)=(i == j):=by
 rw[Bool.eq_iff_iff]
 simp
theorem WW {i j:Str}:decide (V.str i=V.str j)=(i == j):=by
 rw[Bool.eq_iff_iff]
 simp
theorem WX {i j:Array UInt8}:decide (V.byt i=V.byt j)=(i.toList == j.toList):=by
 rw[Bool.eq_iff_iff]
 cases i
 cases j
 simp
section
variable {X:Cx}{a b c:Expr}{ta tb tc:TE}{pos:Pos}
theorem qB {pins:List (Addr × Obj)}{σ:St}{H:Hp}{s:Shared}{Q:VK}{k k':Bool} (I:Inv X pins σ H s) (q:Q (.bl k) H) (e:k=k'):EP X pins σ Q (.bool k') s:=by
 subst e
 exact⟨.bl k,H,I,rfl,q⟩
theorem qT:OpR X (compareOp .Eq) rEq:=by
 intro pins s σ H x y v u Q I rx ry h
 obtain⟨hs,q⟩:=h
 cases x with
 | non =>
  cases rx
  cases y with
  | non=>cases ry;exact PySem.EqNone.eq_none_none (qB I q (by simp))
  | bl j=>cases ry;exact PySem.EqNone.eq_none_bool (qB I q (by simp))
  | int j=>obtain⟨t',rfl⟩:=ry;exact PySem.EqNone.eq_none_int (qB I q (by simp))
  | str j=>obtain⟨t',rfl⟩:=ry;exact PySem.EqNone.eq_none_str (qB I q (by simp))
  | _=>exact absurd (show false=true from hs) Bool.false_ne_true
 | bl i =>
  cases rx
  cases y with
  | non=>cases ry;exact PySem.EqNone.eq_bool_none (qB I q (by simp))
  | bl j=>cases ry;exact eq_bool (qB I q aaK)
  | str j=>obtain⟨t',rfl⟩:=ry;exact PySem.EqMixed.eq_bool_str (qB I q (by simp))
  | _=>exact absurd (show false=true from hs) Bool.false_ne_true
 | int i =>
  obtain⟨t,rfl⟩:=rx
  cases y with
  | non=>cases ry;exact PySem.EqNone.eq_int_none (qB I q (by simp))
  | int j=>obtain⟨t',rfl⟩:=ry;exact eq_int (qB I q WV)
  | str j=>obtain⟨t',rfl⟩:=ry;exact PySem.EqMixed.eq_int_str (qB I q (by simp))
  | _=>exact absurd (show false=true from hs) Bool.false_ne_true
 | str i =>
  obtain⟨t,rfl⟩:=rx
  cases y with
  | non=>cases ry;exact PySem.EqNone.eq_str_none (qB I q (by simp))
  | bl j=>cases ry;exact PySem.EqMixed.eq_str_bool (qB I q (by simp))
  | int j=>obtain⟨t',rfl⟩:=ry;exact PySem.EqMixed.eq_str_int (qB I q (by simp))
  | str j=>obtain⟨t',rfl⟩:=ry;exact eq_str (qB I q WW)
  | _=>exact absurd (show false=true from hs) Bool.false_ne_true
 | byt i =>
  obtain⟨t,rfl⟩:=rx
  cases y with
  | byt j=>obtain⟨t',rfl⟩:=ry;exact PySem.W.eq_bytes (qB I q WX)
  | _=>exact absurd (show false=true from hs) Bool.false_ne_true
 | _=>cases y <;> exact absurd (show false=true from hs) Bool.false_ne_true
theorem yM:OpR X (compareOp .NotEq) rNe:=by
 intro pins s σ H x y v u Q I rx ry h
 obtain⟨hs,q⟩:=h
 cases x with
 | non =>
  cases rx
  cases y with
  | non=>cases ry;exact PySem.EqNone.ne_none_none (qB I q (by simp))
  | bl j=>cases ry;exact PySem.EqNone.ne_none_bool (qB I q (by simp))
  | int j=>obtain⟨t',rfl⟩:=ry;exact PySem.EqNone.ne_none_int (qB I q (by simp))
  | str j=>obtain⟨t',rfl⟩:=ry;exact PySem.EqNone.ne_none_str (qB I q (by simp))
  | _=>exact absurd (show false=true from hs) Bool.false_ne_true
 | bl i =>
  cases rx
  cases y with
  | non=>cases ry;exact PySem.EqNone.ne_bool_none (qB I q (by simp))
  | bl j=>cases ry;exact ne_bool (qB I q (congrArg not aaK))
  | str j=>obtain⟨t',rfl⟩:=ry;exact PySem.EqMixed.ne_bool_str (qB I q (by simp))
  | _=>exact absurd (show false=true from hs) Bool.false_ne_true
 | int i =>
  obtain⟨t,rfl⟩:=rx
  cases y with
  | non=>cases ry;exact PySem.EqNone.ne_int_none (qB I q (by simp))
  | int j=>obtain⟨t',rfl⟩:=ry;exact ne_int (qB I q (congrArg not WV))
  | str j=>obtain⟨t',rfl⟩:=ry;exact PySem.EqMixed.ne_int_str (qB I q (by simp))
  | _=>exact absurd (show false=true from hs) Bool.false_ne_true
 | str i =>
  obtain⟨t,rfl⟩:=rx
  cases y with
  | non=>cases ry;exact PySem.EqNone.ne_str_none (qB I q (by simp))
  | bl j=>cases ry;exact PySem.EqMixed.ne_str_bool (qB I q (by simp))
  | int j=>obtain⟨t',rfl⟩:=ry;exact PySem.EqMixed.ne_str_int (qB I q (by simp))
  | str j=>obtain⟨t',rfl⟩:=ry;exact ne_str (qB I q (congrArg not WW))
  | _=>exact absurd (show false=true from hs) Bool.false_ne_true
 | byt i =>
  obtain⟨t,rfl⟩:=rx
  cases y with
  | byt j=>obtain⟨t',rfl⟩:=ry;exact PySem.W.ne_bytes (qB I q (congrArg not WX))
  | _=>exact absurd (show false=true from hs) Bool.false_ne_true
 | _=>cases y <;> exact absurd (show false=true from hs) Bool.false_ne_true
theorem K8:OpR X (compareOp .Lt) (rI0 fun i j=>.bl (decide (i<j))):=abF fun _ _ _ _ _ _ _ q=>lt_int q
theorem Xh:OpR X (compareOp .LtE) (rI0 fun i j=>.bl (decide (i<=j))):=abF fun _ _ _ _ _ _ _ q=>le_int q
theorem J1:OpR X (compareOp .Gt) (rI0 fun i j=>.bl (decide (j<i))):=abF fun _ _ _ _ _ _ _ q=>gt_int q
theorem ab_:OpR X (compareOp .GtE) (rI0 fun i j=>.bl (decide (j<=i))):=abF fun _ _ _ _ _ _ _ q=>ge_int q
theorem zF (b:Expr) {op:CmpOp} (h:op≠.In:=by decide) (h2:op≠.NotIn:=by decide):behindInMarks op b=false:=by
 have e1:(op == CmpOp.In)=false:=by cases op <;> first | rfl | exact absurd rfl h
 have e2:(op == CmpOp.NotIn)=false:=by cases op <;> first | rfl | exact absurd rfl h2
 cases b <;> simp[behindInMarks,e1,e2]
theorem uv {op:CmpOp}{r:R2} (ho:OpR X (compareOp op) r) (ha:PE X a ta) (hb:PE X b tb) (hm:behindInMarks op b=false):PE X (.Compare a [op] [b] pos) (tOp r ta tb):=by
 intro pins s σ H Q I h
 exact wpAny_Compare1 (acq ha hb I h fun v u s2 x y H2 I2 rx ry q=>ho pins s2 σ H2 x y v u Q I2 rx ry q) hm
def WY (t:TE):TT:=fun σ H Q=>t σ H fun x H'=>∃ k,x=.bl k/\Q k H'
theorem zz {op:CmpOp}{r:R2} (ho:OpR X (compareOp op) r) (ha:PE X a ta) (hb:PE X b tb) (hm:behindInMarks op b=false):PT X (.Compare a [op] [b] pos) (WY (tOp r ta tb)):=by
 intro pins s σ H Q I h
 refine wpAny_isTrue_Compare1 (thn (ha pins s σ H _ I h) fun v s1 ⟨x,H1,I1,r1,q1⟩=>thn (hb pins s1 σ H1 _ I1 q1) fun u s2 ⟨y,H2,I2,r2,q2⟩ =>
  thn (ho pins s2 σ H2 x y v u _ I2 r1 r2 q2) fun c s3 ⟨z,H3,I3,r3,k,e,q3⟩=>?_) hm
 subst e
 cases r3
 exact wpAny_truthy_bool ⟨H3,I3,q3⟩
def acs (r r':R2) (ta tb tc:TE):TE:=fun σ H Q=>ta σ H fun x H1=>tb σ H1 fun y H2=>r x y H2 fun z H3=>∃ k,z=.bl k /\
 (if k=true then tc σ H3 fun w' H4=>r' y w' H4 Q else Q (.bl false) H3)
theorem aaL {op op':CmpOp}{r r':R2} (ho:OpR X (compareOp op) r) (ho':OpR X (compareOp op') r') (ha:PE X a ta) (hb:PE X b tb) (hc:PE X c tc)
 (hm:lastMarks [op,op'] [b,c]=false:=by with_unfolding_all rfl):PE X (.Compare a [op,op'] [b,c] pos) (acs r r' ta tb tc):=by
 intro pins s σ H Q I h
 refine Compare_chain (thn (ha pins s σ H _ I h) fun v s1 ⟨x,H1,I1,r1,q1⟩=>chain_link (thn (hb pins s1 σ H1 _ I1 q1) fun u s2 ⟨y,H2,I2,r2,q2⟩ =>
  thn (ho pins s2 σ H2 x y v u _ I2 r1 r2 q2) fun d s3 ⟨z,H3,I3,r3,k,e,q3⟩=>?_)) hm
 subst e
 cases r3
 refine wpAny_truthy_bool ?_
 cases k with
 | false=>exact ite_ff ⟨.bl false,H3,I3,rfl,q3⟩
 | true=>exact ite_tt (chain_last (thn (hc pins s3 σ H3 _ I3 q3) fun w' s4 ⟨z',H4,I4,r4,q4⟩=>ho' pins s4 σ H4 y z' u w' Q I4 r2 r4 q4))
theorem Ya:(sizeLine:Nat)<2 ^ 63:=by rw[sizeLine_eq];decide
theorem aca {x:V}{us:List Value} (r:Vals [x] us):∃ u,us=[u]/\RelV x u:=by
 cases r with
 | cons r1 r2=>cases r2;exact⟨_,rfl,r1⟩
theorem ac6 {x y:V}{us:List Value} (r:Vals [x,y] us):∃ u w',us=[u,w']/\RelV x u/\RelV y w':=by
 cases r with
 | cons r1 r2 =>
  cases r2 with
  | cons r3 r4=>cases r4;exact⟨_,_,rfl,r1,r3⟩
theorem UB (hc:X.calm=true):ZK X (.builtin "min") (fun xs H Q=>∃ i j,xs=[.int i,.int j]/\Q (.int (if j<i then j else i)) H):=by
 intro pins s σ H xs us Q I r h
 obtain⟨i,j,rfl,q⟩:=h
 obtain⟨u,w',rfl,⟨t,rfl⟩,⟨t',rfl⟩⟩:=ac6 r
 refine min_two_ints (I.ok.hd hc) fun h' tk k=>⟨_,H,I.kept k,?_,q⟩
 by_cases hj:j<i
 . rw[if_pos hj,if_pos hj];exact⟨_,rfl⟩
 . rw[if_neg hj,if_neg hj];exact⟨_,rfl⟩
end
end L2
namespace L2
open PySem PySem.Spec PyProof.Rows
structure ObjM (h:Heap) (x dx C:Addr) (mA:Str->Option Value):Prop where
 obj:h.get? x=some (PySem.W.instObj C dx)
 ns:h.Ns1 dx mA
 ne:dx≠x
theorem UC {h:Heap}{dx:Addr}{mA:Str->Option Value} (n:h.Ns1 dx mA):∃ od,h.get? dx=some od/\∀ name,PySem.W.lookIn name od=some (mA name):=by
 obtain⟨o,es,ep,ho,hd,hk,_,hm⟩:=n
 refine⟨o,ho,fun name=>?_⟩
 have e:=hm name
 unfold nsFind findBy at e
 rw[<-Array.find?_toList] at e
 unfold PySem.W.lookIn
 rw[hd]
 dsimp only
 split
 . rename_i y q
   rw[q] at e
   exact congrArg some e
 . rename_i q
   rw[q] at e
   have a:es.toList.any (·.refKey)=false:=by
    rw[List.any_eq_false]
    intro y hy
    obtain⟨z,t,hkey⟩:=hk y (Array.mem_toList_iff.mp hy)
    simp[DictEntry.refKey,hkey]
   have a':¬es.toList.any (·.refKey)=true:=by rw[a];exact Bool.false_ne_true
   rw[if_neg a']
   exact congrArg some e
theorem ObjM.look {h:Heap}{x dx C:Addr}{mA:Str->Option Value} (I:ObjM h x dx C mA):∃ od,PySem.W.InstAt h x (PySem.W.instObj C dx) C (some od)/\∀ name,PySem.W.lookIn name od=some (mA name) :=
 let ⟨od,ho,hl⟩:=UC I.ns
 ⟨od,⟨I.obj,rfl,rfl,ho⟩,hl⟩
section
variable {prog:Program}{w:World}{A:Around}{E:Value->Shared->Prop}{s:Shared}{K:PySem.W.Frag}{x dx C f:Addr}{mA:Str->Option Value}{name:Str}{v:Value}
theorem abH {expr:Bool}{Q:Value->Shared->Prop} (X:K.In s.heap) (I:ObjM s.heap x dx C mA) (hg:PySem.W.plainGet K C name=true) (hh:PySem.W.hasDictIn K C=true)
 (ha:PySem.W.findIn K (.ref C) name=some none) (hv:mA name=some v) (hv':PySem.W.handedIn v=true) (h:Q v { s with toks:=s.toks+1 }) :
 wpAny (model prog w) A (getAttr (.ref x) name expr) Q E s:=by
 obtain⟨od,J,hl⟩:=I.look
 exact PySem.W.get_value X J (PySem.W.plainGet_of hg).1 (PySem.W.findObj_own hh ha rfl (by rw[hl,hv])) hv' h
theorem abI {ns:List Str}{Q:Unit->Shared->Prop} (X:K.In s.heap) (I:ObjM s.heap x dx C mA)
 (hs:PySem.W.findIn K (.ref C) "__setattr__"=some (some (.builtin "object.__setattr__"))) (hp:PySem.W.plainOver K C=true) (ht:PySem.W.takerIn K C name=some none) (hh:PySem.W.hasDictIn K C=true)
 (hw:PySem.Within mA ns) (hsz:ns.length<=sizeLine)
 (h:∀ h',ObjM h' x dx C (fun y=>if y=name then some v else mA y)->Heap.SameBut dx s.heap h'->Q () { s with heap:=h',toks:=s.toks+2 }) :
 wpAny (model prog w) A (setAttr (.ref x) name v) Q E s:=by
 obtain⟨od,J,hl⟩:=I.look
 refine PySem.W.set_plain X J hs (PySem.W.osa_open (s:={ s with toks:=s.toks+1 }) (r:=none) X J hp ht fun b=>?_)
 obtain⟨cd,hc,hd'⟩:=PySem.W.any_some hh
 have hx:s.heap.get? x=some ⟨.ref C,some dx,.plain,#[]⟩:=I.obj
 refine wpAny_bind (wpAny_pure (wpAny_bind (wpAny_bind (wpAny_loadPart hx (wpAny_bind (PySem.W.Looks.here (s:={ s with toks:=s.toks+1 }) (PySem.W.looks_clsIn X hc) ?_))))))
 rw[hd']
 refine wpAny_pure (a:=some dx) (wpAny_bind (wpAny_pure (wpAny_bind ?_)))
 refine wpAny_nsSet1 (s:={ s with toks:=s.toks+1 }) I.ns fun h' hn2 hs2=>?_
 obtain⟨oD,esD,epD,hoD,hdD,hcD⟩:=hn2.count (PySem.Within.cons name v hw)
 refine wpAny_bind (wpAny_lookBehind hoD (by rw[hdD];exact pastItsLine_dict (Nat.le_trans hcD (by rw[List.length_cons];omega))) ?_)
 exact wpAny_pure (h _ ⟨(hs2.2 _ (Ne.symm I.ne)).trans I.obj,hn2,I.ne⟩ hs2)
theorem aaM {R:Result->Shared->Prop}{vs:List Value}{kw:List (Str × Value)} (X:K.In s.heap) (hm:PySem.W.makesIn K C=true)
 (hi:PySem.W.findIn K (.ref C) "__init__"=some (some (.ref f))) (hf:PySem.W.typeIn K (.ref f)=some (.type "function"))
 (h:codeAny (model prog w) (A.under (.builtin "type.__call__" ⟨.ref C::vs,kw⟩)) (.call (.ref f) ⟨.ref (s.heap.objs.size+1)::vs,kw⟩) (PySem.W.InitBack (s.heap.objs.size+1) R)
  { s with heap:=(s.heap.push PySem.W.emptyDict).push (PySem.W.instObj C s.heap.objs.size) }) :
 codeAny (model prog w) A (.call (.ref C) ⟨vs,kw⟩) R s:=by
 obtain⟨hh,g,d,t,os⟩:=s
 exact PySem.W.make_core (PySem.W.makes_of X hm) (PySem.W.looks_findIn X hi) (fun self=>PySem.W.bind_fn X self hf) (.inl rfl) h
end
def xK (f:Str) (v:V):List (Str × V)->List (Str × V)
 | []=>[(f,v)]
 | (g,x)::r=>if g=f then (g,v)::r else (g,x)::xK f v r
theorem J2 (f g:Str) (v:V):∀ fs:List (Str × V),(xK f v fs).lookup g=if g=f then some v else fs.lookup g
 | []=>by
  show List.lookup g [(f,v)]=_
  by_cases h:g=f
  . have hb:(g == f)=true:=beq_iff_eq.mpr h
    simp only[List.lookup,hb,if_pos h]
  . have hb:(g == f)=false:=beq_eq_false_iff_ne.mpr h
    simp only[List.lookup,hb,if_neg h]
 | (k,x)::r=>by
  have ih:=J2 f g v r
  rw[show xK f v ((k,x)::r)=(if k=f then (k,v)::r else (k,x)::xK f v r) from rfl]
  by_cases hk:k=f
  . rw[if_pos hk]
    by_cases h:g=k
    . have hb:(g == k)=true:=beq_iff_eq.mpr h
      simp only[List.lookup,hb,if_pos (h.trans hk)]
    . have hb:(g == k)=false:=beq_eq_false_iff_ne.mpr h
      simp only[List.lookup,hb,if_neg (fun e:g=f=>h (e.trans hk.symm))]
  . rw[if_neg hk]
    by_cases h:g=k
    . have hb:(g == k)=true:=beq_iff_eq.mpr h
      simp only[List.lookup,hb,if_neg (fun e:g=f=>hk (h.symm.trans e))]
    . have hb:(g == k)=false:=beq_eq_false_iff_ne.mpr h
      simp only[List.lookup,hb]
      exact ih
theorem QF (f:Str) (v:V):∀ fs:List (Str × V),f∈(xK f v fs).map (·.1)/\∀ g,g∈fs.map (·.1)->g∈(xK f v fs).map (·.1)
 | []=>⟨by simp[xK],fun g h=>by simp at h⟩
 | (k,x)::r=>by
  obtain⟨i1,i2⟩:=QF f v r
  rw[show xK f v ((k,x)::r)=(if k=f then (k,v)::r else (k,x)::xK f v r) from rfl]
  by_cases hk:k=f
  . rw[if_pos hk]
    subst hk
    exact⟨by simp,fun g h=>by simpa using h⟩
  . rw[if_neg hk]
    refine⟨?_,fun g h=>?_⟩
    . rw[List.map_cons]
      exact List.mem_cons_of_mem _ i1
    . rw[List.map_cons] at h ⊢
      rcases List.mem_cons.mp h with e | e
      . exact List.mem_cons.mpr (.inl e)
      . exact List.mem_cons_of_mem _ (i2 g e)
theorem J3 (f:Str) (v:V):∀ fs:List (Str × V),(xK f v fs).length<=fs.length+1
 | []=>by simp[xK]
 | (k,x)::r=>by
  have ih:=J3 f v r
  rw[show xK f v ((k,x)::r)=(if k=f then (k,v)::r else (k,x)::xK f v r) from rfl]
  by_cases hk:k=f
  . rw[if_pos hk,List.length_cons,List.length_cons];omega
  . rw[if_neg hk,List.length_cons,List.length_cons];omega
theorem RelO.some_of {v:V}{o:Option Value} (r:RelO (some v) o):∃ u,o=some u/\RelV v u:=by
 cases o with
 | none=>exact (show False from r).elim
 | some u=>exact⟨u,rfl,r⟩
theorem UD {v:V}{u:Value} (r:RelV v u):PySem.W.handedIn u=true:=by
 cases v with
 | non=>cases (show u=Value.none from r);rfl
 | bl b=>cases (show u=Value.bool b from r);rfl
 | int i=>obtain⟨t,e⟩:=(show ∃ t,u=Value.int i t from r);cases e;rfl
 | str x=>obtain⟨t,e⟩:=(show ∃ t,u=Value.str x t from r);cases e;rfl
 | byt b=>obtain⟨t,e⟩:=(show ∃ t,u=Value.bytes b t from r);cases e;rfl
 | flt b=>obtain⟨t,e⟩:=(show ∃ t,u=Value.float b t from r);cases e;rfl
 | ref a=>cases (show u=Value.ref a from r);rfl
 | ty n=>cases (show u=Value.type n from r);rfl
section
variable {P:Program}{w:World}{H H':Hp}{h h':Heap}{a C dx:Addr}{fs fs':List (Str × V)}
theorem WZ (hok:HOk P w H h) (e:H a=some (.ins C dx fs)):∃ mA,ObjM h a dx C mA/\(∀ f,RelO (fs.lookup f) (mA f))/\PySem.Within mA (fs.map (·.1))/\fs.length<=1000/\H dx=some (.own a):=by
 obtain⟨d,z,ne,ob,mA,n,r,q⟩:=(show ObjOk P w H h a (.ins C dx fs) from hok a _ e)
 exact⟨mA,⟨ob,n,ne⟩,r,q,z,d⟩
end
structure Cls (K:PySem.W.Frag) (C:Addr):Prop where
 pg:PySem.W.plainGet K C Str.empty=true
 hd:PySem.W.hasDictIn K C=true
 po:PySem.W.plainOver K C=true
 sa:PySem.W.findIn K (.ref C) "__setattr__"=some (some (.builtin "object.__setattr__"))
theorem Cls.get {K:PySem.W.Frag}{C:Addr} (c:Cls K C) (f:Str):PySem.W.plainGet K C f=true:=c.pg
def NoAttr (K:PySem.W.Frag) (C:Addr) (f:Str):Prop:=PySem.W.findIn K (.ref C) f=some none
theorem NoAttr.taker {K:PySem.W.Frag}{C:Addr}{f:Str} (n:NoAttr K C f):PySem.W.takerIn K C f=some none:=by
 unfold PySem.W.takerIn
 rw[show PySem.W.findIn K (.ref C) f=some none from n]
 rfl
section
variable {X:Cx}{pins:List (Addr × Obj)}{σ:St}{H:Hp}{s:Shared}{a C dx:Addr}{fs:List (Str × V)}{f:Str}{v:V}{A:Around}{E:Value->Shared->Prop}
theorem Wi {b:Bool}{Q:Value->Shared->Prop} (I:Inv X pins σ H s) (e:H a=some (.ins C dx fs)) (c:Cls X.K C) (n:NoAttr X.K C f) (l:fs.lookup f=some v)
 (h:∀ u s',Inv X pins σ H s'->RelV v u->Q u s'):wpAny (model X.prog X.w) A (getAttr (.ref a) f b) Q E s:=by
 obtain⟨mA,O,r,_,_,_⟩:=WZ I.hok e
 obtain⟨u,hu,ru⟩:=RelO.some_of (v:=v) (o:=mA f) (by rw[<-l];exact r f)
 exact abH I.kIn O (c.get f) c.hd n hu (UD ru) (h u _ (I.tok _) ru)
theorem Wj {y:V}{u:Value}{Q:Unit->Shared->Prop} (I:Inv X pins σ H s) (e:H a=some (.ins C dx fs)) (c:Cls X.K C) (n:NoAttr X.K C f) (hl:fs.length<1000) (ry:RelV y u)
 (h:∀ s',Inv X pins σ (upd H a (.ins C dx (xK f y fs))) s'->Q () s'):wpAny (model X.prog X.w) A (setAttr (.ref a) f u) Q E s:=by
 obtain⟨mA,O,r,wi,_,ho⟩:=WZ I.hok e
 have hz:(fs.map (·.1)).length<=sizeLine:=by rw[List.length_map,sizeLine_eq];omega
 refine abI I.kIn O c.sa c.po n.taker c.hd wi hz fun h' O' sb=>h _ ?_
 have hd:∃ o,h'.get? dx=some o:=let ⟨o,_,_,e',_⟩:=O'.ns;⟨o,e'⟩
 refine I.write (x:=a) (e:=dx) (by rw[e];exact True.intro) (.inr ho) (fun b q hb z=>(sb.2 b hb).trans z) hd ?_
 refine⟨by rw[zh O.ne];exact ho,?_,O.ne,O'.obj,_,O'.ns,fun g=>?_,fun g hg=>?_⟩
 . have:=J3 f y fs;omega
 . show RelO ((xK f y fs).lookup g) (if g=f then some u else mA g)
   rw[J2]
   by_cases q:g=f
   . rw[if_pos q,if_pos q];exact ry
   . rw[if_neg q,if_neg q];exact r g
 . by_cases q:g=f
   . rw[q];exact (QF f y fs).1
   . refine (QF f y fs).2 g (wi g fun z=>hg ?_)
     show (if g=f then some u else mA g)=none
     rw[if_neg q];exact z
theorem Inv.made (I:Inv X pins σ H s):Inv X pins σ (upd (upd H s.heap.objs.size (.own (s.heap.objs.size+1))) (s.heap.objs.size+1) (.ins C s.heap.objs.size []))
 { s with heap:=(s.heap.push PySem.W.emptyDict).push (PySem.W.instObj C s.heap.objs.size) }:=by
 have e1:(s.heap.push PySem.W.emptyDict).get? s.heap.objs.size=some PySem.W.emptyDict:=Heap.get?_push_size s.heap rfl
 have e2:((s.heap.push PySem.W.emptyDict).push (PySem.W.instObj C s.heap.objs.size)).get? (s.heap.objs.size+1)=some (PySem.W.instObj C s.heap.objs.size):=by
  have:=Heap.get?_push_size (s.heap.push PySem.W.emptyDict) (o:=PySem.W.instObj C s.heap.objs.size) rfl
  rwa [Heap.size_push] at this
 have e3:(s.heap.push PySem.W.emptyDict).Ns s.heap.objs.size (fun _=>none):=⟨PySem.W.emptyDict,#[],_,e1,rfl,(fun e he=>absurd he (by simp)),fun _=>rfl⟩
 have I1:=I.laid (a:=s.heap.objs.size) (o:=.own (s.heap.objs.size+1)) (h':=s.heap.push PySem.W.emptyDict) (t':=s.toks) (fun b u q=>Heap.get?_push_of_some _ q) (Nat.le_refl _) ⟨_,e1⟩
 refine I1.laid (a:=s.heap.objs.size+1) (o:=.ins C s.heap.objs.size []) (t':=s.toks) (fun b u q=>Heap.get?_push_of_some _ q) (Nat.le_of_eq (Heap.size_push _ _)) ?_
 have ne:s.heap.objs.size≠s.heap.objs.size+1:=Nat.ne_of_lt (Nat.lt_succ_self _)
 refine⟨by rw[zh ne,zf],Nat.zero_le _,ne,e2,fun _=>none,(Heap.Ns1.of_empty e3).at fun o q=>Heap.get?_push_of_some _ q,fun _=>True.intro,fun y hy=>absurd rfl hy⟩
theorem abJ {prog:Program}{w:World}{env:Env}{e:Expr}{f:Str}{pos:Pos}{s:Shared}{Q:Value->Shared->Prop} (hb:attributeBase e f env (eval e env)=eval e env)
 (h:wpAny (model prog w) A (eval e env) (fun o s₁=>wpAny (model prog w) A (getAttr o f true) Q E s₁) E s):wpAny (model prog w) A (eval (.Attribute e f pos) env) Q E s :=
 Attribute_any_ h (by rw[arm_eval_Attribute,hb])
end
def yj (K:PySem.W.Frag) (ta:TE) (f:Str):TE:=fun σ H Q=>ta σ H fun x H1=>∃ a C dx fs v,x=.ref a/\H1 a=some (.ins C dx fs)/\Cls K C/\NoAttr K C f/\fs.lookup f=some v/\Q v H1
def adv (K:PySem.W.Frag) (ta tv:TE) (f:Str):TS:=fun D σ H=>tv σ H fun y H1=>ta σ H1 fun x H2=>∃ a C dx fs,x=.ref a/\H2 a=some (.ins C dx fs)/\Cls K C/\NoAttr K C f/\fs.length<1000 /\
 D.nx σ (upd H2 a (.ins C dx (xK f y fs)))
section
variable {X:Cx}{o e value:Expr}{f:Str}{pos pos' tpos:Pos}{ta tv:TE}
theorem zn (he:PE X e ta) (hb:attributeBase e f X.env (eval e X.env)=eval e X.env):PE X (.Attribute e f pos) (yj X.K ta f):=by
 intro pins s σ H Q I h
 refine abJ hb (thn (he pins s σ H _ I h) fun u s1 ⟨x,H1,I1,rx,a,C,dx,fs,v,ex,ea,c,n,l,q⟩=>?_)
 subst ex
 obtain rfl:u=Value.ref a:=rx
 exact Wi I1 ea c n l fun u' s2 I2 ru=>⟨v,H1,I2,ru,q⟩
theorem qK (ha:PE X o ta) (hv:PE X value tv) (hs:swapsWith value (some (.Attribute o f pos')) pos.line X.env=pure false):PS X (.Assign [.Attribute o f pos'] value pos) (adv X.K ta tv f):=by
 intro pins s σ H D I h
 refine plainObj_wpAny_Assign_Attribute (thn (hv pins s σ H _ I h) fun u s1 ⟨y,H1,I1,ry,q⟩=>thn (ha pins s1 σ H1 _ I1 q) fun ov s2 ⟨x,H2,I2,rx,a,C,dx,fs,ex,ea,c,n,l,q2⟩=>?_) hs
 subst ex
 obtain rfl:ov=Value.ref a:=rx
 exact Wj I2 ea c n l ry fun s3 I3=>⟨σ,_,I3,q2⟩
end
end L2
namespace L2
open PySem PySem.Spec PyProof.Rows
structure Room (k:Nat) (A:Around):Prop where
 hd:A.handled=none
 dp:A.depth+3 * k+5<recursionLimit
 un:A.units+16 * k+200<cLine
theorem Room.mono {j k:Nat}{A:Around} (r:Room k A) (h:j<=k):Room j A:=⟨r.hd,by have:=r.dp;omega,by have:=r.un;omega⟩
theorem Room.deeper {k:Nat}{A:Around} (r:Room (k+1) A) (env:Env):Room k (A.deeper env) :=
 ⟨r.hd,by have:=r.dp;show A.depth+1+3 * k+5<_;omega,by have:=r.un;show A.units+3+16 * k+200<_;omega⟩
theorem Wk {A:Around}{C:Addr}{us:List Value}{kw:List (Str × Value)}:(A.under (.builtin "type.__call__" ⟨.ref C::us,kw⟩)).depth=A.depth+1:=by
 first | rfl | simp[Around.under,Code.weight,Code.isCreation,Code.isGuard,Code.isCaller,Code.frames,Code.isFrame,guardIds]
theorem Wl {A:Around}{C:Addr}{us:List Value}{kw:List (Str × Value)}:(A.under (.builtin "type.__call__" ⟨.ref C::us,kw⟩)).units=A.units+1:=by
 first | rfl | simp[Around.under,Code.cUnits,Code.frames,Code.isFrame]
theorem Room.make {k:Nat}{A:Around} (r:Room (k+1) A) (C:Addr) (us:List Value) (kw:List (Str × Value)):Room k (A.under (.builtin "type.__call__" ⟨.ref C::us,kw⟩)) :=
 ⟨r.hd,by have:=r.dp;rw[Wk];omega,by have:=r.un;rw[Wl];omega⟩
theorem Room.depth {k:Nat}{A:Around} (r:Room k A):A.depth<recursionLimit:=by have:=r.dp;omega
theorem Room.units {k:Nat}{A:Around} (r:Room k A):A.units+64<cLine:=by have:=r.un;omega
def xL:TA:=fun _ H Q=>Q [] H
def qD (ta:TE) (tr:TA):TA:=fun σ H Q=>ta σ H fun x H1=>tr σ H1 fun xs H2=>Q (x::xs) H2
section
variable {X:Cx}{e:Expr}{es:List Expr}{te:TE}{t:TA}{pos:Pos}
theorem zi:PA X [] xL:=fun _ _ _ _ H Q I h=>Calls.spliced_nil ⟨[],H,I,.nil,h⟩
theorem za (ha:PE X e te) (hr:PA X es t) (hs:starEach (e::es) X.env=(false,eval e X.env)::starEach es X.env:=by rfl):PA X (e::es) (qD te t):=by
 intro pos pins s σ H Q I h
 rw[hs]
 show wpAny _ _ (spliced ((false,eval e X.env)::backTo pos (starEach es X.env))) _ _ s
 refine Calls.spliced_cons (thn (ha pins s σ H _ I h) fun u s1 ⟨x,H1,I1,r1,q1⟩=>?_)
 exact thn (hr pos pins s1 σ H1 _ I1 q1) fun us s2 ⟨xs,H2,I2,r2,q2⟩=>⟨x::xs,H2,I2,.cons r1 r2,q2⟩
def ac7 (t:TA):TE:=fun σ H Q=>t σ H fun xs H1=>xs.length<=sizeLine/\∀ p,H1 p=none->Q (.ref p) (upd H1 p (.tup xs))
def ac8 (t:TA):TE:=fun σ H Q=>t σ H fun xs H1=>xs.length<=sizeLine/\∀ p,H1 p=none->Q (.ref p) (upd H1 p (.lst xs))
theorem yN {x1} (h:PA X es t):PE X (.Tuple es x1 pos) (ac7 t):=by
 intro pins s σ H Q I hq
 refine wpAny_Tuple_spliced (thn (h pos pins s σ H _ I hq) fun us s1 ⟨xs,H1,I1,r,z,q⟩=>⟨by rw[<-r.length];exact z,?_⟩)
 have hf:H1 s1.heap.objs.size=none:=I1.hok.fresh (Nat.le_refl _)
 refine⟨.ref s1.heap.objs.size,upd H1 s1.heap.objs.size (.tup xs),I1.laid (t':=s1.toks) (fun b u e=>Heap.get?_push_of_some _ e) (Nat.le_refl _) ?_,rfl,q _ hf⟩
 exact⟨z,us,r,⟨_,Heap.get?_push_size _ rfl,rfl,_,rfl⟩⟩
theorem qb (h:PA X es t):PE X (.List es pos) (ac8 t):=by
 intro pins s σ H Q I hq
 refine wpAny_List_spliced (thn (h pos pins s σ H _ I hq) fun us s1 ⟨xs,H1,I1,r,z,q⟩=>⟨by rw[<-r.length];exact z,?_⟩)
 have hf:H1 s1.heap.objs.size=none:=I1.hok.fresh (Nat.le_refl _)
 refine⟨.ref s1.heap.objs.size,upd H1 s1.heap.objs.size (.lst xs),I1.laid (t':=s1.toks) (fun b u e=>Heap.get?_push_of_some _ e) (Nat.le_refl _) ?_,rfl,q _ hf⟩
 exact⟨z,us,0,r,Heap.get?_push_size _ rfl⟩
end
abbrev Sp:=List V->Hp->VK->XK->Prop
abbrev CXT:=List Env->Hp->Shared->XK->Value->Shared->Prop
structure Env0 (P:Program) (w:World) (K:PySem.W.Frag) (mg:Str->Option Value) (base:Heap) (A:Around) (outer:List Env) (s:Shared) (H:Hp):Prop where
 frames:A.frames=some outer
 mod:Mod K mg base
 bs:∀ b o,base.get? b=some o->s.heap.get? b=some o/\H b=none
 bsz:base.objs.size<=s.heap.objs.size
 funs:s.heap.FunFrames base outer
 frf:∀ b∈frs outer,H b=none
 hok:HOk P w H s.heap
 bare:AllBare s.gens
def CE (outer:List Env) (P:Program) (w:World) (H:Hp) (s:Shared) (Q:VK) (u:Value) (s':Shared):Prop :=
 ∃ v H',s'.os=s.os/\AllBare s'.gens/\Un (frs outer) [] H H' s.heap s'.heap/\HOk P w H' s'.heap/\RelV v u/\Q v H'
def CR (CX:CXT) (outer:List Env) (P:Program) (w:World) (H:Hp) (s:Shared) (Q:VK) (E:XK) (r:Result) (s':Shared):Prop :=
 match r with
 | .ok (.ret u)=>CE outer P w H s Q u s'
 | .ok _=>False
 | .error e=>CX outer H s E e s'
structure z_ (P:Program) (w:World) (K:PySem.W.Frag) (mg:Str->Option Value) (base:Heap) (CX:CXT) (k:Nat) (f:Addr) (fd:FuncData) (ps:List Str) (sp:Sp):Prop where
 len:∀ vs H Q E,sp vs H Q E->vs.length=ps.length
 run:∀ (A:Around) (outer:List Env) (s:Shared) (H:Hp) (args:Args) (us:List Value) (vs:List V) (Q:VK) (E:XK),Room k A->Env0 P w K mg base A outer s H->BindsTo s fd args (ps.zip us)->Vals vs us->sp vs H Q E ->
  codeAny (model P w) A (.call (.ref f) args) (CR CX outer P w H s Q E) s
theorem Env0.make {P:Program}{w:World}{K:PySem.W.Frag}{mg:Str->Option Value}{base:Heap}{A:Around}{outer:List Env}{s:Shared}{H:Hp} (e:Env0 P w K mg base A outer s H) (C:Addr) (us:List Value) (kw:List (Str × Value)) :
 Env0 P w K mg base (A.under (.builtin "type.__call__" ⟨.ref C::us,kw⟩)) outer s H:=⟨by first | exact e.frames | (simpa [Around.under,Code.envs,Code.isFrame,pushEnvs] using e.frames),e.mod,e.bs,e.bsz,e.funs,e.frf,e.hok,e.bare⟩
section
variable {X:Cx}{pins:List (Addr × Obj)}{σ:St}{H:Hp}{s s':Shared}
theorem Inv.env0 (I:Inv X pins σ H s):Env0 X.prog X.w X.K X.mg X.base X.A X.stack s H :=
 ⟨I.ok.frames,I.ok.mod,I.bs,Nat.le_trans I.ok.bsz I.sz,I.stack,I.stkFree,I.hok,I.bare⟩
theorem Inv.after {Q:VK}{u:Value} (I:Inv X pins σ H s) (h:CE X.stack X.prog X.w H s Q u s'):EP X pins σ Q u s':=by
 obtain⟨v,H',os,bare,un,hok,r,q⟩:=h
 obtain⟨hh,g,d,t,os'⟩:=s'
 obtain rfl:os'=s.os:=os
 exact⟨v,H',I.call (h':=hh) (g':=g) (d':=d) (t':=t) (ch:=[]) un hok bare (fun b z=>absurd z (by simp)),r,q⟩
end
def W_ (sp:Sp) (dvs:List V) (E:XK) (t:TA):TE:=fun σ H Q=>t σ H fun vs H1=>sp (vs++dvs) H1 Q E
def wt (C:Addr) (sp:Sp) (dvs:List V) (E:XK) (t:TA):TE:=fun σ H Q=>t σ H fun vs H1=>∀ x dx,H1 x=none->H1 dx=none->dx≠x ->
 sp (.ref x::(vs++dvs)) (upd (upd H1 dx (.own x)) x (.ins C dx [])) (fun v H2=>v=.non/\Q (.ref x) H2) E
def Binds (K:PySem.W.Frag) (fd:FuncData) (ps:List Str) (ds:List Value):Prop :=
 ∀ (s:Shared) (us:List Value),K.In s.heap->(us++ds).length=ps.length->BindsTo s fd ⟨us,[]⟩ (ps.zip (us++ds))
theorem Binds.all {K:PySem.W.Frag}{fd:FuncData}{ps:List Str} (h:∀ us:List Value,us.length=ps.length->bindArgs fd ⟨us,[]⟩=pure (ps.zip us)):Binds K fd ps []:=fun s us _ hl=>by
 rw[List.append_nil] at hl ⊢
 exact .of_eq (h us hl)
def QG (CX:CXT) (X:Cx) (E:XK):Prop:=∀ (pins:List (Addr × Obj)) (σ:St) (H:Hp) (s:Shared) (e:Value) (s':Shared),Inv X pins σ H s->CX X.stack H s E e s'->X.xe e s'
section
variable {X:Cx}{CX:CXT}{k:Nat}{f C:Addr}{fd:FuncData}{ps:List Str}{sp:Sp}{dvs:List V}{ds:List Value}{E:XK}{x m:Str}{p pos apos:Pos}{e o:Expr}{es:List Expr}{ta:TE}{t:TA}
theorem act {pins:List (Addr × Obj)}{σ:St}{H:Hp}{s:Shared}{Q:VK}{us:List Value}{vs:List V} (F:z_ X.prog X.w X.K X.mg X.base CX k f fd ps sp) (hr:Room k X.A) (hb:Binds X.K fd ps ds) (hd:Vals dvs ds) (hx:QG CX X E)
 (I:Inv X pins σ H s) (r:Vals vs us) (h:sp (vs++dvs) H Q E):wpAny (model X.prog X.w) X.A (call (.ref f) us) (EP X pins σ Q) X.xe s:=by
 have r2:Vals (vs++dvs) (us++ds):=r.append hd
 have hl:(us++ds).length=ps.length:=by rw[<-r2.length];exact F.len _ _ _ _ h
 refine wpAny_call (codeAny_mono (F.run X.A X.stack s H ⟨us,[]⟩ (us++ds) (vs++dvs) Q E hr I.env0 (hb s us I.kIn hl) r2 h) fun r s' hq=>?_)
 cases r with
 | error e=>exact hx pins σ H s e s' I hq
 | ok fl =>
  cases fl with
  | ret u=>exact I.after hq
  | next=>exact False.elim hq
  | brk=>exact False.elim hq
  | cont=>exact False.elim hq
theorem abK (F:z_ X.prog X.w X.K X.mg X.base CX k f fd ps sp) (hr:Room k X.A) (hg:Gl X x) (hm:X.mg x=some (.ref f)) (hk:PySem.W.keepIn X.K (.ref f)=true) (hb:Binds X.K fd ps ds) (hd:Vals dvs ds) (hx:QG CX X E)
 (ha:PA X (e::es) t) (hdb:(x == ("__debug__":Str))=false:=by decide) (he:starEach (e::es) X.env=(false,eval e X.env)::starEach es X.env:=by rfl) (hpl:(backTo pos (starEach es X.env)).any (·.1)=false:=by rfl) :
 PE X (.Call (.Name x p) (e::es) [] pos) (W_ sp dvs E t):=by
 intro pins s σ H Q I h
 refine wpAny_Call_Name_kw (JL I hg hm ?_ hdb)
 refine PySem.W.callWith_K (h₀:=X.base) I.ok.mod.kin hk (thn (ha pos pins s σ H _ I h) fun us s1 ⟨vs,H1,I1,r,q⟩=>⟨I1.kIn,?_⟩) he hpl
 exact act F hr hb hd hx I1 r q
structure Mk (K:PySem.W.Frag) (C f:Addr):Prop where
 makes:PySem.W.makesIn K C=true
 init:PySem.W.findIn K (.ref C) "__init__"=some (some (.ref f))
 fn:PySem.W.isFn K (.ref f)=true
 kp:PySem.W.keepIn K (.ref C)=true
theorem Xi {pins:List (Addr × Obj)}{σ:St}{H:Hp}{s:Shared}{Q:VK}{us:List Value}{vs:List V} (M:Mk X.K C f) (F:z_ X.prog X.w X.K X.mg X.base CX k f fd ps sp) (hr:Room (k+1) X.A) (hb:Binds X.K fd ps ds) (hd:Vals dvs ds)
 (hx:QG CX X E) (I:Inv X pins σ H s) (r:Vals vs us)
 (h:∀ x dx,H x=none->H dx=none->dx≠x->sp (.ref x::(vs++dvs)) (upd (upd H dx (.own x)) x (.ins C dx [])) (fun v H2=>v=.non/\Q (.ref x) H2) E) :
 wpAny (model X.prog X.w) X.A (call (.ref C) us) (EP X pins σ Q) X.xe s:=by
 have hq:=h (s.heap.objs.size+1) s.heap.objs.size (I.hok.fresh (Nat.le_succ _)) (I.hok.fresh (Nat.le_refl _)) (Nat.ne_of_lt (Nat.lt_succ_self _))
 have I2:=Inv.made (C:=C) I
 have r2:Vals (V.ref (s.heap.objs.size+1)::(vs++dvs)) (Value.ref (s.heap.objs.size+1)::(us++ds)):=.cons rfl (r.append hd)
 have hl:(Value.ref (s.heap.objs.size+1)::us++ds).length=ps.length:=by
  have e:=r2.length
  rw[F.len _ _ _ _ hq] at e
  exact e.symm
 refine wpAny_call (aaM (f:=f) I.kIn M.makes M.init (beq_iff_eq.mp M.fn) (codeAny_mono (F.run _ X.stack _ _ ⟨Value.ref (s.heap.objs.size+1)::us,[]⟩ (Value.ref (s.heap.objs.size+1)::(us++ds)) _ _ E (hr.make C us [])
  (I2.env0.make C us []) (hb _ (Value.ref (s.heap.objs.size+1)::us) I2.kIn hl) r2 hq) fun r s' hq'=>?_))
 cases r with
 | error e=>exact hx pins σ _ _ e s' I2 hq'
 | ok fl =>
  cases fl with
  | ret u =>
   obtain⟨v,H',I3,rv,ev,q3⟩:=I2.after hq'
   subst ev
   exact⟨rv,⟨V.ref (s.heap.objs.size+1),H',I3,rfl,q3⟩⟩
  | next=>exact False.elim hq'
  | brk=>exact False.elim hq'
  | cont=>exact False.elim hq'
theorem abL (M:Mk X.K C f) (F:z_ X.prog X.w X.K X.mg X.base CX k f fd ps sp) (hr:Room (k+1) X.A) (hg:Gl X x) (hm:X.mg x=some (.ref C)) (hb:Binds X.K fd ps ds) (hd:Vals dvs ds) (hx:QG CX X E)
 (ha:PA X (e::es) t) (hdb:(x == ("__debug__":Str))=false:=by decide) (he:starEach (e::es) X.env=(false,eval e X.env)::starEach es X.env:=by rfl) (hpl:(backTo pos (starEach es X.env)).any (·.1)=false:=by rfl) :
 PE X (.Call (.Name x p) (e::es) [] pos) (wt C sp dvs E t):=by
 intro pins s σ H Q I h
 refine wpAny_Call_Name_kw (JL I hg hm ?_ hdb)
 refine PySem.W.callWith_K (h₀:=X.base) I.ok.mod.kin M.kp (thn (ha pos pins s σ H _ I h) fun us s1 ⟨vs,H1,I1,r,q⟩=>⟨I1.kIn,?_⟩) he hpl
 exact Xi M F hr hb hd hx I1 r q
theorem aaN (M:Mk X.K C f) (F:z_ X.prog X.w X.K X.mg X.base CX k f fd ps sp) (hr:Room (k+1) X.A) (hg:Gl X x) (hm:X.mg x=some (.ref C)) (hb:Binds X.K fd ps ds) (hd:Vals dvs ds) (hx:QG CX X E)
 (hdb:(x == ("__debug__":Str))=false:=by decide):PE X (.Call (.Name x p) [] [] pos) (wt C sp dvs E xL):=by
 intro pins s σ H Q I h
 refine wpAny_Call_Name_kw (JL I hg hm ?_ hdb)
 exact PySem.W.callWith_K0 I.kIn M.kp (Xi (us:=[]) M F hr hb hd hx I .nil h)
end
section
variable {X:Cx}{CX:CXT}{k:Nat}{f C:Addr}{fd:FuncData}{ps ks:List Str}{sp:Sp}{E:XK}{x m:Str}{p pos apos kpos:Pos}{e o:Expr}{es:List Expr}{kws:List Keyword}{te ta:TE}{t tk:TA}{nm:Option Str}
variable {g:List Value->List Value->List Value}{gV:List V->List V->List V}
end
structure zB (N P:List Str) (sc:Scope):Prop where
 kind:sc.kind=.function
 co:sc.isCoroutine=false
 gen:sc.isGenerator=false
 nd:N.Nodup
 pre:N.take P.length=P
 par:∀ x∈P,sc.names.lookup x=some .local∨sc.names.lookup x=some .cell
 nofree:∀ y∈sc.names,y.2≠.free
theorem Vv {kindOf:Str->Option NameKind}{x:Str}:∀ {binds:List (Str × Value)}{m:Str->Option Value},(∀ v,(x,v) ∉ binds)->bindL kindOf binds m x=m x
 | [],_,_=>rfl
 | (n,v)::r,m,h=>by
  unfold bindL
  rw[Vv fun w hw=>h w (List.mem_cons_of_mem _ hw)]
  split
  . have:x≠n:=by rintro rfl;exact h v List.mem_cons_self
    simp[this]
  . rfl
theorem Vw {kindOf:Str->Option NameKind}{x:Str}:∀ {binds:List (Str × Value)}{m:Str->Option Value},(∀ v,(x,v) ∉ binds)->bindC kindOf binds m x=m x
 | [],_,_=>rfl
 | (n,v)::r,m,h=>by
  unfold bindC
  rw[Vw fun w hw=>h w (List.mem_cons_of_mem _ hw)]
  split
  . rfl
  . have:x≠n:=by rintro rfl;exact h v List.mem_cons_self
    simp[this]
theorem Vx {kindOf:Str->Option NameKind}{x:Str}{v:Value}:∀ {P:List Str}{vs:List Value}{i:Nat}{m:Str->Option Value},P.Nodup->P[i]?=some x->vs[i]?=some v->kindOf x=some .local ->
 bindL kindOf (P.zip vs) m x=some v
 | [],_,_,_,_,h,_,_=>by simp at h
 | _::_,[],_,_,_,_,h,_=>by simp at h
 | p::P,w::vs,0,m,nd,h1,h2,hk=>by
  simp at h1 h2;subst h1;subst h2
  show bindL kindOf ((p,w)::P.zip vs) m p=_
  unfold bindL
  rw[Vv fun v hv=>(List.nodup_cons.mp nd).1 (List.of_mem_zip hv).1,if_pos hk]
  simp
 | p::P,w::vs,i+1,m,nd,h1,h2,hk=>by
  show bindL kindOf ((p,w)::P.zip vs) m x=_
  unfold bindL
  exact Vx (i:=i) (List.nodup_cons.mp nd).2 (by simpa using h1) (by simpa using h2) hk
theorem Vy {kindOf:Str->Option NameKind}{x:Str}{v:Value}:∀ {P:List Str}{vs:List Value}{i:Nat}{m:Str->Option Value},P.Nodup->P[i]?=some x->vs[i]?=some v->kindOf x≠some .local ->
 bindC kindOf (P.zip vs) m x=some v
 | [],_,_,_,_,h,_,_=>by simp at h
 | _::_,[],_,_,_,_,h,_=>by simp at h
 | p::P,w::vs,0,m,nd,h1,h2,hk=>by
  simp at h1 h2;subst h1;subst h2
  show bindC kindOf ((p,w)::P.zip vs) m p=_
  unfold bindC
  rw[Vw fun v hv=>(List.nodup_cons.mp nd).1 (List.of_mem_zip hv).1,if_neg hk]
  simp
 | p::P,w::vs,i+1,m,nd,h1,h2,hk=>by
  show bindC kindOf ((p,w)::P.zip vs) m x=_
  unfold bindC
  exact Vy (i:=i) (List.nodup_cons.mp nd).2 (by simpa using h1) (by simpa using h2) hk
def start (N:List Str) (vs:List V):St:=vs.map some++List.replicate (N.length - vs.length) none
def UE (CX:CXT) (P:Program) (w:World) (K:PySem.W.Frag) (mg:Str->Option Value) (base:Heap) (N:List Str) (qual:Str) (scope:Scope) (f:Addr) (cd:Value) (A:Around) (outer:List Env) (s:Shared) (H:Hp) (E:XK):Cx where
 prog:=P
 w:=w
 K:=K
 mg:=mg
 base:=base
 A:=A.deeper (envOfC qual scope s.heap.objs.size f cd)
 N:=N
 s_0:=s
 H_0:=H
 env:=envOfC qual scope s.heap.objs.size f cd
 outer:=outer
 stack:=envOfC qual scope s.heap.objs.size f cd::outer
 ex:=[]
 calm:=true
 fn:=fun _=>true
 pn:=[]
 xe:=fun e s'=>wpAny (model P w) (A.deeper (envOfC qual scope s.heap.objs.size f cd)) (leaving (envOfC qual scope s.heap.objs.size f cd) e) (fun _ s''=>CX outer H s E e s'') (fun e' s''=>CX outer H s E e' s'') s'
theorem Xj {sc:Scope}{n:Nat}{x:Str} (h:sc.names.lookup x=some .cell):∃ c,(cellsFrom n sc.names []).lookup x=some c:=by
 have q:=PySem.W.cellsFrom_some sc.names n [] (.inl h)
 exact Option.isSome_iff_exists.mp q
theorem UF {CX:CXT}{P:Program}{w:World}{K:PySem.W.Frag}{mg:Str->Option Value}{base:Heap}{N ps:List Str}{qual:Str}{scope:Scope}{f:Addr}{cd:Value}{A:Around}{outer:List Env}{s s1:Shared}{H:Hp}{E:XK}{us:List Value}{vs:List V}
 (S:zB N ps scope) (hd:A.handled=none) (e0:Env0 P w K mg base A outer s H) (hl:vs.length=ps.length) (r:Vals vs us)
 (x:InCallC s s.heap.objs.size (bindL (envOfC qual scope s.heap.objs.size f cd).kindOf (ps.zip us) fun _=>none) (cellsFrom (s.heap.objs.size+1) scope.names []) (bindC (envOfC qual scope s.heap.objs.size f cd).kindOf (ps.zip us) fun _=>none) s1) :
 Inv (UE CX P w K mg base N qual scope f cd A outer s H E) [] (start N vs) H s1:=by
 have hpl:ps.length<=N.length:=by have:=congrArg List.length S.pre;rw[List.length_take] at this;omega
 obtain⟨h1,tk,rfl,hk⟩:=x.done
 have noA:∀ b:Addr,b ∉ (UE CX P w K mg base N qual scope f cd A outer s H E).ex:=fun b z=>absurd (show b∈([]:List Addr) from z) (by simp)
 refine⟨⟨e0.mod,S.kind,rfl,rfl,Nat.le_refl _,fun y z c h1 h2=>?_,fun y hy=>?_,fun y c _ h=>?_,fun _=>hd,Around.frames_deeper e0.frames,.inr ⟨rfl,rfl⟩,fun b z=>absurd z (noA b),e0.bs,e0.bsz,fun b _ _=>noA b,fun b z=>absurd z (noA b),e0.funs,e0.frf⟩,
  rfl,e0.bare,Un.kept hk,⟨_,x.toInCall.ns,fun i y v h1 h2 h3=>?_⟩,fun y c h=>⟨_,x.cell y c h⟩,e0.hok.fresh (Nat.le_refl _),fun y c h=>?_,fun p hp=>absurd (show p∈([]:List (Addr × Obj)) from hp) (by simp),e0.hok.kept hk,?_⟩
 . exact name_of_addr x.apart (PySem.mem_of_lookup h1) (PySem.mem_of_lookup h2)
 . have hy:scope.names.lookup y=some .cell∨scope.names.lookup y=some .free:=hy
   rcases hy with hy | hy
   . exact Xj hy
   . exact absurd rfl (S.nofree _ (PySem.mem_of_lookup hy))
 . exact Nat.le_of_lt (x.above y c (PySem.mem_of_lookup h))
 . have hi:i<vs.length:=by
    unfold start at h2
    by_cases hi:i<vs.length
    . exact hi
    . rw[List.getElem?_append_right (by simpa using hi)] at h2
      rw[List.getElem?_replicate] at h2
      split at h2 <;> cases h2
   have ha:vs[i]?=some v:=by
    unfold start at h2
    rw[List.getElem?_append_left (by simpa using hi),List.getElem?_map] at h2
    cases e:vs[i]? with
    | none=>rw[e] at h2;cases h2
    | some a=>rw[e] at h2;cases h2;rfl
   obtain⟨u,hu,rv⟩:=r.get ha
   have hp:ps[i]?=some y:=by
    rw[<-S.pre,List.getElem?_take_of_lt (by omega)];exact h1
   have ndP:ps.Nodup:=by rw[<-S.pre];exact S.nd.sublist (List.take_sublist _ _)
   refine⟨u,rv,?_⟩
   rcases S.par y (List.mem_of_getElem? hp) with k | k
   . exact .inl ⟨k,Vx ndP hp hu k⟩
   . obtain⟨c,e⟩:=Xj (n:=s.heap.objs.size+1) k
     refine .inr ⟨.inl k,c,e,?_⟩
     have q:=x.cell y c e
     rw[Vy ndP hp hu (by show scope.names.lookup y≠_;rw[k];decide)] at q
     exact q
 . exact e0.hok.fresh (Nat.le_of_lt (x.above y c (PySem.mem_of_lookup h)))
 . unfold start
   show _=N.length
   rw[List.length_append,List.length_map,List.length_replicate]
   omega
theorem ac9 {CX:CXT}{P:Program}{w:World}{K:PySem.W.Frag}{mg:Str->Option Value}{base:Heap}{k:Nat}{f:Addr}{name qual:Str}{params:Arguments}{body:List Stmt}{scope:Scope}{dV kV doc pm cdv ct oc:Value}{an od:Option Addr}
 {osl:Array (Option Value)}{N ps:List Str}{sp:Sp} (lk:K.lookup f=some ⟨oc,od,.func (PySem.W.fnOf name qual params body scope dV kV doc pm an cdv ct),osl⟩) (hcd:PySem.W.codeIn K cdv qual=true) (S:zB N ps scope)
 (len:∀ vs H Q E,sp vs H Q E->vs.length=ps.length)
 (hbody:∀ (A:Around) (outer:List Env) (s:Shared) (H:Hp) (vs:List V) (Q:VK) (E:XK),Room k (A.deeper (envOfC qual scope s.heap.objs.size f cdv))->sp vs H Q E ->
  ∃ t,PSs (UE CX P w K mg base N qual scope f cdv A outer s H E) body t/\t { nx:=fun _ H'=>Q .non H',rt:=Q } (start N vs) H) :
 z_ P w K mg base CX (k+1) f (PySem.W.fnOf name qual params body scope dV kV doc pm an cdv ct) ps sp:=by
 refine⟨len,fun A outer s H args us vs Q E hr e0 hb r hsp=>?_⟩
 have hl:=len _ _ _ _ hsp
 have KX:K.In s.heap:=e0.mod.kin.keeps fun b o e=>(e0.bs b o e).1
 have lim:s.heap.NoLimit:=e0.mod.nolimit.keeps fun b o e=>(e0.bs b o e).1
 have hkind:∀ y∈ps.zip us,scope.names.lookup y.1=some .local∨(scope.names.lookup y.1=some .cell/\((cellsFrom (s.heap.objs.size+1) scope.names []).lookup y.1).isSome=true):=fun⟨n,v⟩ hy=>by
  rcases S.par n (List.of_mem_zip hy).1 with q | q
  . exact .inl q
  . exact .inr ⟨q,PySem.W.cellsFrom_some _ _ _ (.inl q)⟩
 refine codeAny_call_function hr.depth (KX _ _ lk) rfl S.co S.gen rfl (PySem.W.codeRec_of KX hcd) (hb _ _ _ _ ?_)
 refine wpAny_newFunctionEnv_cells S.kind hkind fun env he s1 x=>?_
 subst he
 refine⟨lim.keeps x.toInCall.keep,codeAny_func ?_⟩
 obtain⟨t,ht,hq⟩:=hbody A outer s H vs Q E (hr.deeper _) hsp
 have I:Inv (UE CX P w K mg base N qual scope f cdv A outer s H E) [] (start N vs) H s1:=UF S hr.hd e0 hl r x
 refine wpAny_mono (ht [] s1 (start N vs) H _ I hq) (fun fl s' hs=>?_) fun e s' hs=>hs
 have fin:∀ {σ':St}{H':Hp}{v:V}{u:Value},Inv (UE CX P w K mg base N qual scope f cdv A outer s H E) [] σ' H' s'->RelV v u->Q v H'->CE outer P w H s Q u s' :=
  fun {σ' H' v u} J rv q=>⟨v,H',J.os,J.bare,J.base,J.hok,rv,q⟩
 cases fl with
 | ret u =>
  obtain⟨v,σ',H',J,rv,q⟩:=hs
  exact fin J rv q
 | next =>
  obtain⟨σ',H',J,q⟩:=hs
  exact fin (v:=V.non) (u:=Value.none) J rfl q
 | brk =>
  obtain⟨_,_,_,q⟩:=hs
  exact False.elim q
 | cont =>
  obtain⟨_,_,_,q⟩:=hs
  exact False.elim q
end L2
namespace L2
open PySem PySem.Spec PyProof.Rows
section
variable {X:Cx}{x:Str}{p pos:Pos}{e:Expr}{es:List Expr}{t:TA}{id T:String}{r:List V->Hp->VK->Prop}
def tCB (r:List V->Hp->VK->Prop) (t:TA):TE:=fun σ H Q=>t σ H fun vs H1=>r vs H1 Q
theorem zW (hc:ZK X (.builtin id) r) (hg:Gl X x) (hm:X.mg x=none) (hv:bootBuiltins x=some (.builtin id)) (ha:PA X (e::es) t) (hn:x≠"__name__":=by decide) (hdb:(x == ("__debug__":Str))=false:=by decide)
 (he:starEach (e::es) X.env=(false,eval e X.env)::starEach es X.env:=by rfl) (hpl:(backTo pos (starEach es X.env)).any (·.1)=false:=by rfl):PE X (.Call (.Name x p) (e::es) [] pos) (tCB r t):=by
 intro pins s σ H Q I h
 refine wpAny_Call_Name_kw (wT I hg hm hv ?_ hn hdb)
 exact PyProof.Rows.callWith_builtin1 (thn (ha pos pins s σ H _ I h) fun us s1 ⟨vs,H1,I1,r1,q1⟩=>hc pins s1 σ H1 vs us Q I1 r1 q1) he hpl
theorem Vz (hc:ZK X (.type T) r) (hg:Gl X x) (hm:X.mg x=none) (hv:bootBuiltins x=some (.type T)) (ha:PA X (e::es) t) (hn:x≠"__name__":=by decide) (hdb:(x == ("__debug__":Str))=false:=by decide)
 (he:starEach (e::es) X.env=(false,eval e X.env)::starEach es X.env:=by rfl) (hpl:(backTo pos (starEach es X.env)).any (·.1)=false:=by rfl):PE X (.Call (.Name x p) (e::es) [] pos) (tCB r t):=by
 intro pins s σ H Q I h
 refine wpAny_Call_Name_kw (wT I hg hm hv ?_ hn hdb)
 exact PyProof.Rows.callWith_type1 (thn (ha pos pins s σ H _ I h) fun us s1 ⟨vs,H1,I1,r1,q1⟩=>hc pins s1 σ H1 vs us Q I1 r1 q1) he hpl
end
end L2
namespace HT
open PySem PyProof.Rows
section
open PySem.SeqAt
open PySem.AutoSeq1 (wpAny_loadPart')
open PySem.MeetsSeq PySem.MeetsSeq2 PySem.MeetsSeq3
end
section
variable {prog:Program}{w:World}{A:Around}{E:Value->Shared->Prop}{s:Shared}
def sIx (n d:Nat):Option Int->Nat
 | none=>d
 | some v=>if v<0 then (v+(n:Int)).toNat else min v.toNat n
theorem sIx_none (n d:Nat):sIx n d none=d:=rfl
theorem sIx_nat (n d k:Nat):sIx n d (some (k:Int))=min k n:=by
 show (if (k:Int)<0 then ((k:Int)+(n:Int)).toNat else min (k:Int).toNat n)=min k n
 rw[if_neg (by omega),Int.toNat_natCast]
end
end HT
namespace L2
open PySem PySem.Spec PyProof.Rows
abbrev TO:=St->Hp->(Option Int->Hp->Prop)->Prop
def PO (X:Cx) (e:Option Expr) (t:TO):Prop :=
 ∀ (pins:List (Addr × Obj)) (s:Shared) (σ:St) (H:Hp) (Q:Option Int->Hp->Prop),Inv X pins σ H s->t σ H Q ->
  wpAny (model X.prog X.w) X.A (evalPart e X.env) (fun u s'=>∃ o H',Inv X pins σ H' s'/\IsPart u o/\Q o H') X.xe s
def abM:TO:=fun _ H Q=>Q none H
def ac_ (t:TE):TO:=fun σ H Q=>t σ H fun x H1=>∃ i,x=.int i/\Q (some i) H1
section
variable {X:Cx}{e:Expr}{te:TE}{lo hi:Option Expr}{tl th:TO}{pos p2:Pos}
theorem Yb:PO X none abM:=by
 intro pins s σ H Q I h
 rw[evalPart_none]
 exact wpAny_pure ⟨none,H,I,.none,h⟩
theorem jY (h:PE X e te):PO X (some e) (ac_ te):=by
 intro pins s σ H Q I hw
 rw[evalPart_some]
 refine thn (h pins s σ H _ I hw) fun u s1 ⟨x,H1,I1,r1,q1⟩=>?_
 obtain⟨i,rfl,q⟩:=q1
 obtain⟨t,rfl⟩:=r1
 exact⟨some i,H1,I1,.int i t,q⟩
def SlR (X:Cx) (r:V->Option Int->Option Int->Hp->VK->Prop):Prop :=
 ∀ (pins:List (Addr × Obj)) (s:Shared) (σ:St) (H:Hp) (x:V) (v vl vu:Value) (lo hi:Option Int) (sl:Addr) (Q:VK),Inv X pins σ H s->RelV x v->s.heap.IsSliceOf sl vl vu .none->IsPart vl lo->IsPart vu hi->r x lo hi H Q ->
  ∃ T id,typeLookup (.type T) "__getitem__"=pure (some (.builtin id))/\s.TypeIs v T/\wpAny (model X.prog X.w) X.A (getItem v (.ref sl)) (EP X pins σ Q) X.xe s
def tSl (r:V->Option Int->Option Int->Hp->VK->Prop) (te:TE) (tl th:TO):TE:=fun σ H Q=>te σ H fun x H1=>tl σ H1 fun l H2=>th σ H2 fun u H3=>r x l u H3 Q
theorem vQ {r:V->Option Int->Option Int->Hp->VK->Prop} (hr:SlR X r) (he:PE X e te) (hl:PO X lo tl) (hu:PO X hi th):PE X (.Subscript e (.Slice lo hi none p2) pos) (tSl r te tl th):=by
 intro pins s σ H Q I h
 refine Subscript_ (thn (he pins s σ H _ I h) fun v s1 ⟨x,H1,I1,r1,q1⟩=>?_)
 refine wpAny_Slice (thn (hl pins s1 σ H1 _ I1 q1) fun vl s2 ⟨l,H2,I2,pl,q2⟩=>thn (hu pins s2 σ H2 _ I2 q2) fun vu s3 ⟨u,H3,I3,pu,q3⟩=>?_)
 rw[evalPart_none]
 refine wpAny_pure ?_
 have I4:Inv X pins σ H3 { s3 with heap:=s3.heap.push { cls:=.type "slice",data:=.fields #[vl,vu,.none] } }:=I3.kept (t':=s3.toks) fun b ob q=>Heap.get?_push_of_some _ q
 obtain⟨T,id,hT,ht,hg⟩:=hr pins { s3 with heap:=s3.heap.push { cls:=.type "slice",data:=.fields #[vl,vu,.none] } } σ H3 x v vl vu l u s3.heap.objs.size Q I4 r1 (Heap.IsSliceOf.new ..) pl pu q3
 show wpAny (model X.prog X.w) X.A (subscriptTail e (.Slice lo hi none p2) v (.ref s3.heap.objs.size)) (EP X pins σ Q) X.xe { s3 with heap:=s3.heap.push { cls:=.type "slice",data:=.fields #[vl,vu,.none] } }
 exact tail_any (ops:=[.ref s3.heap.objs.size,v]) ht hT hg (by with_unfolding_all rfl)
def uF (xs:List V) (lo hi:Option Int):List V:=(xs.drop (HT.sIx xs.length 0 lo)).take (HT.sIx xs.length xs.length hi - HT.sIx xs.length 0 lo)
theorem Xk (xs:List V) (lo hi:Option Int):(uF xs lo hi).length<=xs.length:=by
 unfold uF
 rw[List.length_take,List.length_drop]
 omega
end
end L2
namespace L2
open PySem PySem.Spec PyProof.Rows
def ixN (n:Nat) (i:Int):Option Nat:=if 0<=i then (if i<n then some i.toNat else none) else if -(n:Int)<=i then some (i+n).toNat else none
def atI {α:Type} (xs:List α) (i:Int):Option α:=(ixN xs.length i).bind fun j=>xs[j]?
theorem Yc {n:Nat}{i:Int}{j:Nat} (h:ixN n i=some j):seqIndex? i n=some j/\j<n/\-(n:Int)<=i/\i<n:=by
 unfold ixN at h
 by_cases h0:0<=i
 . rw[if_pos h0] at h
   by_cases h1:i<n
   . rw[if_pos h1] at h
     have e:i.toNat=j:=Option.some.inj h
     exact⟨by rw[seqIndex_of h0 h1,e],by omega,by omega,h1⟩
   . rw[if_neg h1] at h;cases h
 . rw[if_neg h0] at h
   by_cases h1:-(n:Int)<=i
   . rw[if_pos h1] at h
     have e:(i+n).toNat=j:=Option.some.inj h
     exact⟨by rw[seqIndex_neg (by omega) h1,e],by omega,h1,by omega⟩
   . rw[if_neg h1] at h;cases h
theorem U0 {α:Type}{xs:List α}{i:Int}{v:α} (h:atI xs i=some v):∃ j,seqIndex? i xs.length=some j/\xs[j]?=some v/\j<xs.length/\-(xs.length:Int)<=i/\i<xs.length:=by
 unfold atI at h
 cases e:ixN xs.length i with
 | none=>rw[e] at h;cases h
 | some j =>
  rw[e] at h
  obtain⟨h1,h2,h3,h4⟩:=Yc e
  exact⟨j,h1,h,h2,h3,h4⟩
theorem q5 {α:Type}{xs:List α}{j:Nat}{v:α} (h:xs[j]?=some v):atI xs (j:Int)=some v:=by
 have hj:j<xs.length:=(List.getElem?_eq_some_iff.mp h).1
 have e:ixN xs.length (j:Int)=some j:=by
  unfold ixN
  rw[if_pos (by omega),if_pos (by omega)];simp
 unfold atI;rw[e];exact h
theorem aaO {α:Type} (xs:List α) (v:α):atI (xs++[v]) (-1)=some v:=by
 have hl:(xs++[v]).length=xs.length+1:=by simp
 have e:ixN (xs++[v]).length (-1)=some xs.length:=by
  unfold ixN
  rw[hl,if_neg (by decide),if_pos (by omega)]
  congr 1
  omega
 unfold atI
 rw[e]
 show (xs++[v])[xs.length]?=some v
 simp
def abN (b:Expr):Prop:=∀ o i,subscripted b false o i=operate [o,i] (getItem o i)
def IxR (X:Cx) (r:R2):Prop :=
 ∀ (value slice:Expr) (pins:List (Addr × Obj)) (s:Shared) (σ:St) (H:Hp) (x y:V) (v u:Value) (Q:VK),Inv X pins σ H s->RelV x v->RelV y u->r x y H Q ->
  subscripted slice false v u=operate [v,u] (getItem v u)->wpAny (model X.prog X.w) X.A (subscriptTail value slice v u) (EP X pins σ Q) X.xe s
def MtR (X:Cx) (id:String) (r:V->List V->Hp->VK->Prop):Prop :=
 ∀ (pins:List (Addr × Obj)) (s:Shared) (σ:St) (H:Hp) (x:V) (xs:List V) (v:Value) (us:List Value) (Q:VK),Inv X pins σ H s->RelV x v->Vals xs us->r x xs H Q ->
  wpAny (model X.prog X.w) X.A (call (.builtin id) (v::us)) (EP X pins σ Q) X.xe s
section
variable {X:Cx}{a b:Expr}{ta tb:TE}{pos:Pos}
theorem qy {r:R2} (hr:IxR X r) (ha:PE X a ta) (hb:PE X b tb) (hs:abN b):PE X (.Subscript a b pos) (tOp r ta tb):=by
 intro pins s σ H Q I h
 exact Subscript_ (acq ha hb I h fun v u s2 x y H2 I2 rx ry q=>hr a b pins s2 σ H2 x y v u Q I2 rx ry q (hs _ _))
def adw (K:PySem.W.Frag):R2:=fun x y H Q=>∃ p xs i v,x=.ref p/\y=.int i/\SqL K H p xs/\atI xs i=some v/\Q v H
def adx (K:PySem.W.Frag):R2:=fun x y H Q=>∃ p xs i v,x=.ref p/\y=.int i/\SqT K H p xs/\atI xs i=some v/\Q v H
theorem qj:IxR X (adw X.K):=by
 intro value slice pins s σ H x y v u Q I rx ry h hs
 obtain⟨p,xs,i,z,rfl,rfl,hq,he,q⟩:=h
 cases rx
 obtain⟨t,rfl⟩:=ry
 obtain⟨its,r,pl,hz⟩:=I.list hq
 obtain⟨j,h1,h2,h3,h4,h5⟩:=U0 he
 obtain⟨w,ew,rw'⟩:=r.get h2
 have hl:=r.length
 have hn:=Ya
 have fin:EP X pins σ Q w s:=⟨z,H,I,rw',q⟩
 by_cases h0:0<=i
 . have hj:i.toNat=j:=by
    rw[seqIndex_of h0 h5] at h1
    exact Option.some.inj h1
   exact item_listR pl.isList h0 (by omega) (by rw[hj];simpa using ew) fin hs
 . have hj:(i+(its.toArray.size:Int)).toNat=j:=by
    rw[seqIndex_neg (by omega) h4] at h1
    rw[List.size_toArray,<-hl]
    exact Option.some.inj h1
   exact subscriptTail_builtinR (x:=w) pl.isList.typeIs slot_list_getitem.lookup
    (wpAny_getItem_list_neg (Q:=fun r s'=>r=w/\EP X pins σ Q r s') pl.isList (by omega) (by rw[List.size_toArray] <;> omega) (by omega) (by rw[hj];simpa using ew) ⟨rfl,fin⟩) hs
theorem kR:IxR X (adx X.K):=by
 intro value slice pins s σ H x y v u Q I rx ry h hs
 obtain⟨p,xs,i,z,rfl,rfl,hq,he,q⟩:=h
 cases rx
 obtain⟨t,rfl⟩:=ry
 obtain⟨its,r,pl,hz⟩:=I.tuple hq
 obtain⟨j,h1,h2,h3,h4,h5⟩:=U0 he
 obtain⟨w,ew,rw'⟩:=r.get h2
 have hl:=r.length
 have hn:=Ya
 have fin:EP X pins σ Q w s:=⟨z,H,I,rw',q⟩
 exact subscriptTail_builtinR (x:=w) pl.typeIs slot_tuple_getitem.lookup
  (getItem_tuple (j:=j) (Q:=fun r s'=>r=w/\EP X pins σ Q r s') pl (by omega) (by omega) (by rw[List.size_toArray,<-hl];exact h1) (by simpa using ew) ⟨rfl,fin⟩) hs
theorem Wm (its:List Value) (n j:Nat) (u:Value):Obj.mapSeq (·.setIfInBounds j u) { cls:=.type "list",data:=.seq its.toArray n }={ cls:=.type "list",data:=.seq (its.set j u).toArray n }:=by
 simp[Obj.mapSeq]
theorem Inv.lst {pins:List (Addr × Obj)}{σ:St}{H:Hp}{s:Shared}{p:Addr}{xs:List V} (I:Inv X pins σ H s) (h:H p=some (.lst xs)) :
 ∃ (its:List Value) (n:Nat),Vals xs its/\s.heap.get? p=some { cls:=.type "list",data:=.seq its.toArray n }/\xs.length<=sizeLine:=by
 obtain⟨z,its,n,r,e⟩:=I.hok p _ h
 exact⟨its,n,r,e,z⟩
theorem Inv.lstUpd {pins:List (Addr × Obj)}{σ:St}{H:Hp}{s:Shared}{p:Addr}{xs ys:List V}{its its':List Value}{n n':Nat}{f:Obj->Obj} (I:Inv X pins σ H s) (h:H p=some (.lst xs))
 (ho:s.heap.get? p=some { cls:=.type "list",data:=.seq its.toArray n }) (hf:f { cls:=.type "list",data:=.seq its.toArray n }={ cls:=.type "list",data:=.seq its'.toArray n' }) (r:Vals ys its') (hz:ys.length<=sizeLine) (t:Nat) :
 Inv X pins σ (upd H p (.lst ys)) { s with heap:=s.heap.update p f,toks:=t }:=by
 have e:(s.heap.update p f).get? p=some { cls:=.type "list",data:=.seq its'.toArray n' }:=by
  rw[Heap.get?_update_self f ho (by rw[hf] <;> rfl),hf]
 refine I.write (x:=p) (e:=p) (by rw[h];trivial) (.inl rfl) (fun b u hb q=>(Heap.get?_update_other _ _ (Ne.symm hb)).trans q) ⟨_,e⟩ ?_
 exact⟨hz,its',n',r,e⟩
def ada:V->V->V->Hp->(Hp->Prop)->Prop:=fun o i v H Q=>∃ p xs k j,o=.ref p/\i=.int k/\H p=some (.lst xs)/\ixN xs.length k=some j/\Q (upd H p (.lst (xs.set j v)))
theorem Xl:acY X ada:=by
 intro pins s σ H o i v ov iv u Q I ro ri rv h
 obtain⟨p,xs,k,j,rfl,rfl,hp,hj,q⟩:=h
 cases ro
 obtain⟨t,rfl⟩:=ri
 obtain⟨its,n,r,ho,hz⟩:=I.lst hp
 obtain⟨h1,h2,h3,h4⟩:=Yc hj
 have hl:=r.length
 have hn:=Ya
 have I':Inv X pins σ (upd H p (.lst (xs.set j v))) { s with heap:=s.heap.update p (Obj.mapSeq (·.setIfInBounds j u)) } :=
  I.lstUpd hp ho (Wm its n j u) (r.set rv j) (by rw[List.length_set];exact hz) s.toks
 by_cases h0:0<=k
 . have hk:k.toNat=j:=by
    rw[seqIndex_of h0 h4] at h1
    exact Option.some.inj h1
   exact PySem.W.ki_setAt ho h0 (by omega) (by rw[List.size_toArray,<-hl];exact h4) (by rw[hk];exact⟨_,I',q⟩)
 . have hk:(k+(its.toArray.size:Int)).toNat=j:=by
    rw[seqIndex_neg (by omega) h3] at h1
    rw[List.size_toArray,<-hl]
    exact Option.some.inj h1
   exact PySem.W.ki_setBack ho (by omega) (by rw[List.size_toArray,<-hl];exact h3) (by omega) (by rw[hk];exact⟨_,I',q⟩)
theorem Yd (lo hi:Option Int) (n:Nat):(sliceBounds lo hi none n).1=((HT.sIx n 0 lo:Nat):Int)/\(sliceBounds lo hi none n).2.1=((HT.sIx n n hi:Nat):Int)/\(sliceBounds lo hi none n).2.2=1:=by
 refine⟨?_,?_,rfl⟩
 . cases lo with
   | none=>simp[sliceBounds,HT.sIx]
   | some i =>
    simp only[sliceBounds,HT.sIx,Option.getD_none,show (1:Int) > 0 by decide,if_true]
    by_cases h:i<0
    . simp only[h,if_true] <;> omega
    . simp only[h,if_false] <;> omega
 . cases hi with
   | none=>simp[sliceBounds,HT.sIx]
   | some i =>
    simp only[sliceBounds,HT.sIx,Option.getD_none,show (1:Int) > 0 by decide,if_true]
    by_cases h:i<0
    . simp only[h,if_true] <;> omega
    . simp only[h,if_false] <;> omega
theorem KZ (its:List Value) (lo hi:Option Int):slicePick its.toArray lo hi none=((its.drop (HT.sIx its.length 0 lo)).take (HT.sIx its.length its.length hi - HT.sIx its.length 0 lo)).toArray:=by
 obtain⟨h1,h2,h3⟩:=Yd lo hi its.toArray.size
 unfold slicePick
 rw[h1,h2,h3]
 simp only[sliceRange_one,pick_run,List.size_toArray] <;> rfl
def ady (K:PySem.W.Frag):V->Option Int->Option Int->Hp->VK->Prop:=fun x lo hi H Q=>∃ a xs,x=.ref a/\SqL K H a xs/\∀ p,H p=none->Q (.ref p) (upd H p (.lst (uF xs lo hi)))
theorem yY:SlR X (ady X.K):=by
 intro pins s σ H x v vl vu lo hi sl Q I rx hs pl pu h
 obtain⟨a,xs,rfl,hx,q⟩:=h
 cases rx
 obtain⟨its,r,ht,hz⟩:=I.list hx
 have hlen:=r.length
 refine⟨"list",_,slot_list_getitem.lookup,ht.isList.typeIs,?_⟩
 refine wpAny_getItem_list_slice ht.isList hs pl pu .none (by simp) ?_ (by rw[List.size_toArray] <;> omega)
 rw[KZ,<-hlen]
 refine⟨.ref s.heap.objs.size,_,I.laid (t':=s.toks) (o:=.lst (uF xs lo hi)) (fun b ob q=>Heap.get?_push_of_some _ q) (Nat.le_refl _) ?_,rfl,q _ (I.hok.fresh (Nat.le_refl _))⟩
 exact⟨Nat.le_trans (Xk xs lo hi) hz,_,0,(r.drop (HT.sIx xs.length 0 lo)).take (HT.sIx xs.length xs.length hi - HT.sIx xs.length 0 lo),Heap.get?_push_size _ rfl⟩
def ZL:V->Bool
 | .non=>true
 | .bl _=>true
 | .int _=>true
 | .str _=>true
 | _=>false
def eqV:V->V->Bool
 | .non,.non=>true
 | .bl a,.bl b=>a == b
 | .bl a,.int b=>(if a then 1 else 0) == b
 | .int a,.bl b=>a == (if b then 1 else 0)
 | .int a,.int b=>a == b
 | .str a,.str b=>a == b
 | _,_=>false
theorem acu {A:Around}{s:Shared}{y x:V}{u v:Value} (ry:RelV y u) (rx:RelV x v) (fy:ZL y=true) (fx:ZL x=true):SeqAt.EqAt A s u v (eqV y x):=by
 cases y with
 | non =>
  cases ry
  cases x with
  | non=>cases rx;exact SeqAt.EqAt.same _
  | bl b=>cases rx;exact SeqAt.EqAt.none_bool b
  | int b=>obtain⟨t,rfl⟩:=rx;exact SeqAt.EqAt.none_int b t
  | str b=>obtain⟨t,rfl⟩:=rx;exact SeqAt.EqAt.none_str b t
  | _=>exact absurd (show false=true from fx) Bool.false_ne_true
 | bl a =>
  cases ry
  cases x with
  | non=>cases rx;exact SeqAt.EqAt.bool_none a
  | bl b=>cases rx;exact SeqAt.EqAt.bool_bool a b
  | int b=>obtain⟨t,rfl⟩:=rx;exact SeqAt.EqAt.bool_int a b t
  | str b=>obtain⟨t,rfl⟩:=rx;exact SeqAt.EqAt.bool_str a b t
  | _=>exact absurd (show false=true from fx) Bool.false_ne_true
 | int a =>
  obtain⟨t',rfl⟩:=ry
  cases x with
  | non=>cases rx;exact SeqAt.EqAt.int_none a t'
  | bl b=>cases rx;exact SeqAt.EqAt.int_bool a t' b
  | int b=>obtain⟨t,rfl⟩:=rx;exact SeqAt.EqAt.int_int a t' b t
  | str b=>obtain⟨t,rfl⟩:=rx;exact SeqAt.EqAt.int_str a t' b t
  | _=>exact absurd (show false=true from fx) Bool.false_ne_true
 | str a =>
  obtain⟨t',rfl⟩:=ry
  cases x with
  | non=>cases rx;exact SeqAt.EqAt.str_none a t'
  | bl b=>cases rx;exact SeqAt.EqAt.str_bool a t' b
  | int b=>obtain⟨t,rfl⟩:=rx;exact SeqAt.EqAt.str_int a t' b t
  | str b=>obtain⟨t,rfl⟩:=rx;exact SeqAt.EqAt.str_str a t' b t
  | _=>exact absurd (show false=true from fx) Bool.false_ne_true
 | _=>exact absurd (show false=true from fy) Bool.false_ne_true
def eqU (x:V) (u:Value):Bool:=match u with
 | .none=>eqV .non x
 | .bool b=>eqV (.bl b) x
 | .int i _=>eqV (.int i) x
 | .str z _=>eqV (.str z) x
 | _=>false
theorem aaP {x y:V}{u:Value} (r:RelV y u) (f:ZL y=true):eqU x u=eqV y x:=by
 cases y with
 | non=>cases r;rfl
 | bl b=>cases r;rfl
 | int i=>obtain⟨t,rfl⟩:=r;rfl
 | str z=>obtain⟨t,rfl⟩:=r;rfl
 | _=>exact absurd (show false=true from f) Bool.false_ne_true
theorem ZM {x:V}:∀ {xs:List V}{us:List Value},Vals xs us->xs.all ZL=true->us.any (eqU x)=xs.any fun y=>eqV y x
 | _,_,.nil,_=>rfl
 | y::xs,u::us,.cons r t,f=>by
  rw[List.all_cons,Bool.and_eq_true] at f
  rw[List.any_cons,List.any_cons,aaP r f.1,ZM t f.2]
theorem wU {A:Around}{s:Shared}{x:V}{v:Value} (rx:RelV x v) (fx:ZL x=true):∀ {xs:List V}{us:List Value},Vals xs us->xs.all ZL=true->∀ u∈us,SeqAt.EqAt A s u v (eqU x u)
 | _,_,.nil,_=>fun u hu=>by cases hu
 | y::xs,u::us,.cons r t,f=>fun u' hu=>by
  rw[List.all_cons,Bool.and_eq_true] at f
  rcases List.mem_cons.mp hu with rfl | hu
  . rw[aaP r f.1];exact acu r rx f.1 fx
  . exact wU rx fx t f.2 u' hu
def inV (x:V) (xs:List V):Bool:=xs.any fun y=>eqV y x
def rIn (K:PySem.W.Frag) (neg:Bool):R2:=fun x y H Q=>∃ p xs,y=.ref p/\(SqL K H p xs∨SqT K H p xs)/\ZL x=true/\xs.all ZL=true/\Q (.bl (if neg then !inV x xs else inV x xs)) H
theorem VA:OpR X (compareOp .In) (rIn X.K false):=by
 intro pins s σ H x y v u Q I rx ry h
 obtain⟨p,xs,rfl,hq,fx,fs,q⟩:=h
 cases ry
 rcases hq with hq | hq
 . obtain⟨its,r,pl,hz⟩:=I.list hq
   refine SeqAt.in_listAt (eqU x) pl.isList (fun w hw=>wU rx fx r fs w (by simpa using hw)) ⟨.bl _,H,I,rfl,?_⟩
   rw[show its.toArray.any (eqU x)=its.any (eqU x) by simp,ZM r fs]
   exact q
 . obtain⟨its,r,pl,hz⟩:=I.tuple hq
   refine SeqAt.in_tupleAt (eqU x) pl (fun w hw=>wU rx fx r fs w (by simpa using hw)) ⟨.bl _,H,I,rfl,?_⟩
   rw[show its.toArray.any (eqU x)=its.any (eqU x) by simp,ZM r fs]
   exact q
theorem ZN:OpR X (compareOp .NotIn) (rIn X.K true):=by
 intro pins s σ H x y v u Q I rx ry h
 obtain⟨p,xs,rfl,hq,fx,fs,q⟩:=h
 cases ry
 rcases hq with hq | hq
 . obtain⟨its,r,pl,hz⟩:=I.list hq
   refine SeqAt.notIn_listAt (eqU x) pl.isList (fun w hw=>wU rx fx r fs w (by simpa using hw)) ⟨.bl _,H,I,rfl,?_⟩
   rw[show its.toArray.any (eqU x)=its.any (eqU x) by simp,ZM r fs]
   exact q
 . obtain⟨its,r,pl,hz⟩:=I.tuple hq
   refine SeqAt.notIn_tupleAt (eqU x) pl (fun w hw=>wU rx fx r fs w (by simpa using hw)) ⟨.bl _,H,I,rfl,?_⟩
   rw[show its.toArray.any (eqU x)=its.any (eqU x) by simp,ZM r fs]
   exact q
theorem Ye:ZK X (.builtin "len") (fun xs H Q=>∃ p ys,xs=[.ref p]/\(SqL X.K H p ys∨SqT X.K H p ys)/\Q (.int ys.length) H):=by
 intro pins s σ H xs us Q I r h
 obtain⟨p,ys,rfl,hq,q⟩:=h
 obtain⟨u,rfl,rx⟩:=aca r
 cases rx
 have hn:=Ya
 rcases hq with hq | hq
 . obtain⟨its,r',pl,hz⟩:=I.list hq
   have hlen:=r'.length
   exact Calls.call_len_list pl.isList (by simp only[List.size_toArray] <;> omega) ⟨.int ys.length,H,I.tok _,⟨s.toks+1,by rw[List.size_toArray,hlen]⟩,q⟩
 . obtain⟨its,r',pl,hz⟩:=I.tuple hq
   have hlen:=r'.length
   exact len_tuple pl (by simp only[List.size_toArray] <;> omega) ⟨.int ys.length,H,I.tok _,⟨s.toks+1,by rw[List.size_toArray,hlen]⟩,q⟩
theorem ZO:ZK X (.type "list") (fun xs H Q=>∃ p ys,xs=[.ref p]/\(SqL X.K H p ys∨SqT X.K H p ys)/\∀ l,H l=none->Q (.ref l) (upd H l (.lst ys))):=by
 intro pins s σ H xs us Q I r h
 obtain⟨p,ys,rfl,hq,q⟩:=h
 obtain⟨u,rfl,rx⟩:=aca r
 cases rx
 have fin:∀ (its:List Value),Vals ys its->ys.length<=sizeLine->∀ (h':Heap) (c':Nat),(∀ b o',s.heap.get? b=some o'->h'.get? b=some o') ->
  h'.get? s.heap.objs.size=some { cls:=.type "list",dict:=none,data:=.seq its.toArray c',slots:=#[] }->EP X pins σ Q (.ref s.heap.objs.size) { s with heap:=h' }:=fun its r' hz h' c' kp e =>
  ⟨.ref s.heap.objs.size,_,I.laid (t':=s.toks) kp (Nat.le_refl _) (show ObjOk X.prog X.w _ h' _ (.lst ys) from⟨hz,its,c',r',e⟩),rfl,q _ (I.hok.fresh (Nat.le_refl _))⟩
 rcases hq with hq | hq
 . obtain⟨its,r',pl,hz⟩:=I.list hq
   have hlen:=r'.length
   obtain⟨o,ho,hc,n,hd⟩:=pl.isList
   exact call_list_seq p (.inl rfl) ho hc hd (fun h' c' kp e=>fin its r' hz h' c' kp e) (by simp only[List.size_toArray] <;> omega)
 . obtain⟨its,r',pl,hz⟩:=I.tuple hq
   have hlen:=r'.length
   obtain⟨o,ho,hc,n,hd⟩:=pl
   exact call_list_seq p (.inr rfl) ho hc hd (fun h' c' kp e=>fin its r' hz h' c' kp e) (by simp only[List.size_toArray] <;> omega)
def tyV (K:PySem.W.Frag) (T:String) (x:V) (H:Hp):Prop:=match x with
 | .str _=>T="str"
 | .int _=>T="int"
 | .ref p=>(T="list"/\∃ xs,SqL K H p xs)∨(T="tuple"/\∃ o,K.lookup p=some o/\o.cls=.type "tuple"/\o.dict=none) ∨
  (T="dict"/\((∃ kvs,H p=some (.dK kvs))∨∃ kvs,H p=some (.dT kvs)))∨(T="set"/\∃ S n,H p=some (.set S n))
 | _=>False
theorem acv {pins:List (Addr × Obj)}{σ:St}{H:Hp}{s:Shared}{T:String}{x:V}{v:Value} (I:Inv X pins σ H s) (r:RelV x v) (ty:tyV X.K T x H) :
 s.TypeIs v T/\∀ a,v=.ref a->∃ ob,s.heap.get? a=some ob/\ob.dict=none:=by
 cases x with
 | str z =>
  obtain⟨t,rfl⟩:=r
  cases (show T="str" from ty)
  exact⟨typeIs_str s z t,fun _ e=>nomatch e⟩
 | int i =>
  obtain⟨t,rfl⟩:=r
  cases (show T="int" from ty)
  exact⟨typeIs_int s i t,fun _ e=>nomatch e⟩
 | ref p =>
  cases r
  rcases ty with ⟨rfl,xs,hq⟩ | ⟨rfl,o,hk,hc,hd⟩ | ⟨rfl,hk⟩ | ⟨rfl,S,n,hk⟩
  . obtain⟨its,_,pl,_⟩:=I.list hq
    refine⟨pl.isList.typeIs,fun a e=>?_⟩
    cases e
    obtain⟨o,n,e,c,hd,_⟩:=pl
    exact⟨o,e,hd⟩
  . refine⟨⟨o,I.kIn p o hk,hc⟩,fun a e=>?_⟩
    cases e
    exact⟨o,I.kIn _ o hk,hd⟩
  . have z:∃ o,s.heap.get? p=some o/\o.ExactDict:=by
     rcases hk with ⟨kvs,hk⟩ | ⟨kvs,hk⟩
     . obtain⟨_,_,_,_,o,_,_,e,ex,_⟩:=I.hok p _ hk
       exact⟨o,e,ex⟩
     . obtain⟨_,_,_,_,o,_,_,e,ex,_⟩:=I.hok p _ hk
       exact⟨o,e,ex⟩
    obtain⟨o,e,ex⟩:=z
    refine⟨⟨o,e,ex.1⟩,fun a e2=>?_⟩
    cases e2
    exact⟨o,e,ex.2.1⟩
  . obtain⟨o,_,_,_,e,ex,_⟩:=I.hok p _ hk
    refine⟨⟨o,e,ex.1⟩,fun a e2=>?_⟩
    cases e2
    exact⟨o,e,ex.2.1⟩
 | _=>exact False.elim ty
def tBM (K:PySem.W.Frag) (T:String) (r:V->List V->Hp->VK->Prop) (to:TE) (t:TA):TE:=fun σ H Q=>to σ H fun x H1=>tyV K T x H1/\t σ H1 fun xs H2=>r x xs H2 Q
variable {o e:Expr}{es:List Expr}{to:TE}{t:TA}{name:Str}{apos cpos:Pos}{T id:String}{r:V->List V->Hp->VK->Prop}
theorem jL (pa:PlainAttrs T) (slot:Slot T name id) (hty:typeOf (.builtin id)=pure (.type "method_descriptor")) (hm:MtR X id r) (ho:PE X o to) (ha:PA X (e::es) t)
 (hbase:attributeBase o name X.env (eval o X.env)=eval o X.env:=by rfl)
 (hfew:((backTo cpos (starEach (e::es) X.env)).all (fun x=>!x.1) && (backToKw cpos (keywordEach [] X.env)).all (fun x=>x.1.isSome)
  && decide ((e::es).length+([]:List Keyword).length+(if ([]:List Keyword).isEmpty then 0 else 1)<30))=true:=by rfl)
 (hline:(apos.endLine == cpos.line)=true:=by rfl) (hs:starEach (e::es) X.env=(false,eval e X.env)::starEach es X.env:=by rfl) (hplain:(backTo cpos (starEach es X.env)).any (·.1)=false:=by rfl) :
 PE X (.Call (.Attribute o name apos) (e::es) [] cpos) (tBM X.K T r to t):=by
 intro pins s σ H Q I h
 refine wpAny_Call_method_late hbase hfew hline rfl (thn (ho pins s σ H _ I h) fun v s1 ⟨x,H1,I1,r1,ty,q1⟩=>?_)
 obtain⟨h1,h2⟩:=acv I1 r1 ty
 refine⟨T,id,pa,slot,hty,h1,h2,?_⟩
 have hA:=ha cpos pins s1 σ H1 _ I1 q1
 rw[hs] at hA ⊢
 refine Calls.callWith_builtin (by show (false || (backTo cpos (starEach es X.env)).any (·.1))=false;rw[hplain] <;> rfl) (Calls.evalArgs_plain ?_)
 exact thn hA fun us s2 ⟨vs,H2,I2,r2,q2⟩=>hm pins s2 σ H2 x vs v us Q I2 r1 r2 q2
end
end L2
namespace L2
open PySem PySem.Spec PyProof.Rows
def MtM (X:Cx) (id:String) (r:V->List V->Hp->VK->Prop):Prop :=
 ∀ (pins:List (Addr × Obj)) (s:Shared) (σ:St) (H:Hp) (x:V) (xs:List V) (v:Value) (us:List Value) (Q:VK),Inv X pins σ H s->RelV x v->Vals xs us->r x xs H Q ->
  wpAny (model X.prog X.w) X.A (call (.builtin id) (v::us)) (EP X pins σ Q) X.xe s
theorem Vals.one:∀ {x:V}{us:List Value},Vals [x] us->∃ u,us=[u]/\RelV x u
 | _,_,.cons r .nil=>⟨_,rfl,r⟩
theorem Vals.two:∀ {x y:V}{us:List Value},Vals [x,y] us->∃ u v,us=[u,v]/\RelV x u/\RelV y v
 | _,_,_,.cons r (.cons q .nil)=>⟨_,_,rfl,r,q⟩
theorem Vals.eraseIdx:∀ {xs:List V}{us:List Value} (i:Nat),Vals xs us->Vals (xs.eraseIdx i) (us.eraseIdx i)
 | _,_,_,.nil=>.nil
 | _,_,0,.cons _ t=>t
 | _,_,i+1,.cons r t=>.cons r (Vals.eraseIdx i t)
theorem VB {α:Type}:∀ (l:List α) (i:Nat),(l.eraseIdx i).length<=l.length
 | [],_=>Nat.le_refl _
 | _::_,0=>Nat.le_succ _
 | _::r,i+1=>Nat.succ_le_succ (VB r i)
section
variable {X:Cx}{pins:List (Addr × Obj)}{σ:St}{H:Hp}{s:Shared}{l b:Addr}{xs ys zs:List V}
theorem Inv.lset {its its':List Value}{n:Nat}{f:Array Value->Array Value}{t':Nat} (I:Inv X pins σ H s) (hH:H l=some (.lst xs))
 (e:s.heap.get? l=some { cls:=.type "list",data:=.seq its.toArray n }) (hf:f its.toArray=its'.toArray) (hv:Vals ys its') (hz:ys.length<=sizeLine) :
 Inv X pins σ (upd H l (.lst ys)) { s with heap:=s.heap.update l (Obj.mapSeq f),toks:=t' }:=by
 have q:=PySem.IsL.update e f
 rw[hf] at q
 refine I.write (x:=l) (e:=l) (by rw[hH];exact trivial) (.inl rfl) (fun b' u hb hu=>(Heap.get?_update_other s.heap (Obj.mapSeq f) (Ne.symm hb)).trans hu) ⟨_,q⟩ ?_
 exact⟨hz,its',_,hv,q⟩
theorem Inv.lnew {its:List Value}{t':Nat} (I:Inv X pins σ H s) (hv:Vals ys its) (hz:ys.length<=sizeLine) :
 Inv X pins σ (upd H s.heap.objs.size (.lst ys)) { s with heap:=s.heap.push { cls:=.type "list",data:=.seq its.toArray },toks:=t' } :=
 I.laid (fun _ _ q=>Heap.get?_push_of_some _ q) (Nat.le_refl _) ⟨hz,its,0,hv,Heap.get?_push_size _ rfl⟩
theorem Inv.fresh (I:Inv X pins σ H s):H s.heap.objs.size=none:=I.hok.fresh (Nat.le_refl _)
theorem Inv.lstM (I:Inv X pins σ H s) (hH:H l=some (.lst xs)):xs.length<=sizeLine/\∃ (its:List Value) (n:Nat),Vals xs its/\xs.length=its.length/\s.heap.get? l=some { cls:=.type "list",data:=.seq its.toArray n }:=by
 obtain⟨z,its,n,r,e⟩:=I.hok l _ hH
 exact⟨z,its,n,r,r.length,e⟩
theorem aaQ {n:Nat} (h:n<=sizeLine):Builtin.List.listTooLong n=false:=by
 unfold Builtin.List.listTooLong
 exact decide_eq_false (by omega)
end
section
variable {X:Cx}
def Yf:V->List V->Hp->VK->Prop:=fun x vs H Q=>∃ l xs y,x=.ref l/\vs=[y]/\H l=some (.lst xs)/\xs.length<sizeLine/\Q .non (upd H l (.lst (xs++[y])))
theorem ji:MtM X "list.append" Yf:=by
 intro pins s σ H x vs v us Q I rx rv h
 obtain⟨l,xs,y,rfl,rfl,hH,hz,q⟩:=h
 cases rx
 obtain⟨u,rfl,ru⟩:=rv.one
 obtain⟨z,its,n,r,hl,e⟩:=I.lstM hH
 refine call_meets F.slot_list_append ⟨_,e,rfl⟩ F.entry_list_append (F.args_list_append_2 _ _) (PySem.list_append l its.toArray n u (by rw[List.size_toArray];omega)) ⟨e,?_⟩
 refine⟨.non,_,I.lset (its':=its++[u]) hH e (by simp) (r.append (.cons ru .nil)) ?_,rfl,q⟩
 rw[List.length_append,List.length_singleton]
 omega
def U1:V->List V->Hp->VK->Prop:=fun x vs H Q=>∃ l b xs zs,x=.ref l/\vs=[.ref b]/\H l=some (.lst xs)/\H b=some (.lst zs)/\xs.length+zs.length<=sizeLine/\Q .non (upd H l (.lst (xs++zs)))
theorem jE:MtM X "list.extend" U1:=by
 intro pins s σ H x vs v us Q I rx rv h
 obtain⟨l,b,xs,zs,rfl,rfl,hH,hB,hz,q⟩:=h
 cases rx
 obtain⟨u,rfl,ru⟩:=rv.one
 cases ru
 obtain⟨z,its,n,r,hl,e⟩:=I.lstM hH
 obtain⟨z2,its2,n2,r2,hl2,e2⟩:=I.lstM hB
 have hsz:its.toArray.size+its2.toArray.size<=sizeLine:=by rw[List.size_toArray,List.size_toArray];omega
 have hlong:¬(!its.toArray.isEmpty && Builtin.List.listTooLong (its.toArray.size+its2.toArray.size))=true:=by
  rw[aaQ hsz,Bool.and_false]
  exact Bool.false_ne_true
 refine call_meets F.slot_list_extend ⟨_,e,rfl⟩ F.entry_list_extend (F.args_list_extend_2 _ _)
  (AutoSeq1.list_extend_list_list_0 l its.toArray n b its2.toArray n2 hlong (by rw[List.size_toArray];omega) (by omega)) ⟨e,e2,?_⟩
 refine⟨.non,_,I.lset (its':=its++its2) hH e (by simp) (r.append r2) ?_,rfl,q⟩
 rw[List.length_append]
 omega
def acw:V->List V->Hp->VK->Prop:=fun x vs H Q=>∃ l xs i k y,x=.ref l/\vs=[.int i]/\H l=some (.lst xs)/\-(2 ^ 63)<=i/\i<2 ^ 63/\seqIndex? i xs.length=some k/\xs[k]?=some y/\Q y (upd H l (.lst (xs.eraseIdx k)))
theorem aaR:MtM X "list.pop" acw:=by
 intro pins s σ H x vs v us Q I rx rv h
 obtain⟨l,xs,i,k,y,rfl,rfl,hH,h1,h2,hk,hy,q⟩:=h
 cases rx
 obtain⟨u,rfl,ru⟩:=rv.one
 obtain⟨t,rfl⟩:=ru
 obtain⟨z,its,n,r,hl,e⟩:=I.lstM hH
 obtain⟨w,hw,rw'⟩:=r.get hy
 refine call_meets F.slot_list_pop ⟨_,e,rfl⟩ F.entry_list_pop (F.args_list_pop_2 _ _)
  (MeetsSeq.list_pop_at l its.toArray n i t k w (fitsIndex_both h1 h2) (by rw[List.size_toArray,<-hl];exact hk) (by rw[<-Array.getElem?_toList];exact hw) (by rw[List.size_toArray];omega)) ⟨e,?_⟩
 refine⟨y,_,I.lset (its':=its.eraseIdx k) hH e ?_ (r.eraseIdx k) ?_,rw',q⟩
 . show its.toArray.eraseIdxIfInBounds k=(its.eraseIdx k).toArray
   rw[List.eraseIdxIfInBounds_toArray]
 . have:=VB xs k
   omega
def adb:R2:=fun x y H Q=>∃ l b xs zs,x=.ref l/\y=.ref b/\H l=some (.lst xs)/\H b=some (.lst zs)/\xs.length+zs.length<=sizeLine/\∀ p,H p=none->Q (.ref p) (upd H p (.lst (xs++zs)))
theorem yO:OpR X (binaryOp .Add) adb:=by
 intro pins s σ H x y v u Q I rx ry h
 obtain⟨l,b,xs,zs,rfl,rfl,hH,hB,hz,q⟩:=h
 cases rx
 cases ry
 obtain⟨z,its,n,r,hl,e⟩:=I.lstM hH
 obtain⟨z2,its2,n2,r2,hl2,e2⟩:=I.lstM hB
 refine PySem.P.add_list e e2 ?_ (by rw[List.size_toArray,List.size_toArray];omega)
 have ea:its.toArray++its2.toArray=(its++its2).toArray:=by simp
 rw[ea]
 exact⟨.ref _,_,I.lnew (t':=s.toks) (r.append r2) (by rw[List.length_append];omega),rfl,q _ I.fresh⟩
end
end L2
namespace L2
open PySem PySem.Spec PyProof.Rows
theorem Vals.ints:∀ {ns:List Int}{us:List Value},Vals (ns.map V.int) us->IntsAre us ns
 | [],us,h=>by
  rw[List.map_nil] at h
  cases h
  exact IntsAre.nil
 | n::ns,us,h=>by
  rw[List.map_cons] at h
  cases h with
  | cons r t =>
   obtain⟨k,rfl⟩:=r
   exact IntsAre.cons n k (Vals.ints t)
theorem Vals.bls:∀ {bs:List Bool}{us:List Value},Vals (bs.map V.bl) us->us=bs.map Value.bool
 | [],us,h=>by
  rw[List.map_nil] at h
  cases h
  rfl
 | b::bs,us,h=>by
  rw[List.map_cons] at h
  cases h with
  | cons r t =>
   cases r
   rw[Vals.bls t,List.map_cons]
theorem Vals.ref1 {a:Addr}{us:List Value} (r:Vals [V.ref a] us):us=[Value.ref a]:=by
 cases r with
 | cons r t =>
  cases t
  cases r
  rfl
theorem K9 {prog:Program}{w:World}{A:Around}{E:Value->Shared->Prop}{s:Shared}{l:Addr}{items:Array Value}{Q:Value->Shared->Prop} (hl:s.heap.IsList l items)
 (h:∀ s₂:Shared,s₂={ s with heap:=s.heap.push { cls:=.type "list_iterator",data:=.fields #[.ref l,.int 0 0] } } ->
  (s₂.heap.IsListIter s.heap.objs.size l 0/\s₂.heap.IsList l items)->l≠s.heap.objs.size->Q (.ref s.heap.objs.size) s₂):wpAny (model prog w) A (pyIter (.ref l)) Q E s:=by
 have hlt:l<s.heap.objs.size:=by obtain⟨_,e,_⟩:=hl;exact Heap.lt_size e
 exact wpAny_pyIter_list hl (h _ rfl ⟨⟨_,Heap.get?_push_size _ rfl,rfl,rfl⟩,hl.push _⟩ (Nat.ne_of_lt hlt))
theorem J4 {prog:Program}{w:World}{A:Around}{bs:List Bool}{its:List Value} (e:its=bs.map Value.bool) :
 TruthOf prog w A (fun i v=>its.toArray[i]?=some v) (fun i=>bs.getD i false):=fun i v s Q E hv hq=>by
 have hv':its[i]?=some v:=by simpa using hv
 rw[e,List.getElem?_map] at hv'
 obtain⟨b,hb,rfl⟩:=Option.map_eq_some_iff.mp hv'
 have hg:bs.getD i false=b:=by rw[List.getD_eq_getElem?_getD,hb] <;> rfl
 have hq':Q (bs.getD i false) s:=hq
 rw[hg] at hq'
 exact wpAny_truthy_bool hq'
theorem VC:∀ bs:List Bool,(List.range bs.length).any (fun i=>bs.getD i false)=bs.any id
 | []=>rfl
 | b::bs=>by
  rw[List.length_cons,List.range_succ_eq_map,List.any_cons,List.any_map,List.any_cons,<-VC bs]
  all_goals rfl
theorem VD:∀ bs:List Bool,(List.range bs.length).all (fun i=>bs.getD i false)=bs.all id
 | []=>rfl
 | b::bs=>by
  rw[List.length_cons,List.range_succ_eq_map,List.all_cons,List.all_map,List.all_cons,<-VD bs]
  all_goals rfl
section
variable {X:Cx}
def adz (K:PySem.W.Frag):List V->Hp->VK->Prop:=fun vs H Q=>∃ (a:Addr) (bs:List Bool),vs=[V.ref a]/\SqL K H a (bs.map V.bl)/\Q (.bl (bs.any id)) H
def adA (K:PySem.W.Frag):List V->Hp->VK->Prop:=fun vs H Q=>∃ (a:Addr) (bs:List Bool),vs=[V.ref a]/\SqL K H a (bs.map V.bl)/\Q (.bl (bs.all id)) H
theorem aaS (hc:X.calm=true):ZK X (.builtin "any") (adz X.K):=by
 intro pins s σ H vs us Q I r h
 obtain⟨a,bs,rfl,hs,q⟩:=h
 obtain⟨its,rv,hl,_⟩:=I.list hs
 rw[Vals.ref1 r]
 have hb:=rv.bls
 refine call_any_walk (K9 hl.isList fun s₂ e2 st hne=>?_)
 subst e2
 refine⟨_,_,_,_,_,_,_,rfl,Walks.list (A:=X.A.in1) (I.ok.hd hc) _ a hne its.toArray,st,J4 hb,fun h' tk hk=>?_⟩
 refine⟨.bl _,H,I.kept fun b o eo=>hk b o (fun hmem=>?_) (Heap.get?_push_of_some _ eo),?_,q⟩
 . rcases List.mem_cons.mp hmem with e1 | hmem
   . exact absurd (e1▸Heap.lt_size eo) (Nat.lt_irrefl _)
   . cases hmem
 . show Value.bool _=Value.bool _
   rw[<-VC,hb,List.size_toArray,List.length_map]
theorem aaT (hc:X.calm=true):ZK X (.builtin "all") (adA X.K):=by
 intro pins s σ H vs us Q I r h
 obtain⟨a,bs,rfl,hs,q⟩:=h
 obtain⟨its,rv,hl,_⟩:=I.list hs
 rw[Vals.ref1 r]
 have hb:=rv.bls
 refine call_all_walk (K9 hl.isList fun s₂ e2 st hne=>?_)
 subst e2
 refine⟨_,_,_,_,_,_,_,rfl,Walks.list (A:=X.A.in1) (I.ok.hd hc) _ a hne its.toArray,st,J4 hb,fun h' tk hk=>?_⟩
 refine⟨.bl _,H,I.kept fun b o eo=>hk b o (fun hmem=>?_) (Heap.get?_push_of_some _ eo),?_,q⟩
 . rcases List.mem_cons.mp hmem with e1 | hmem
   . exact absurd (e1▸Heap.lt_size eo) (Nat.lt_irrefl _)
   . cases hmem
 . show Value.bool _=Value.bool _
   rw[<-VD,hb,List.size_toArray,List.length_map]
end
mutual
inductive Dp (K:PySem.W.Frag) (H:Hp):V->PyData->Prop
 | non:Dp K H .non .none
 | bl (b:Bool):Dp K H (.bl b) (.bool b)
 | int (i:Int):Dp K H (.int i) (.int i)
 | str (x:Str):Dp K H (.str x) (.str x)
 | lst {a:Addr}{xs:List V}{ds:List PyData}:SqL K H a xs->uS K H xs ds->Dp K H (.ref a) (.list ds)
 | tup {a:Addr}{xs:List V}{ds:List PyData}:SqT K H a xs->uS K H xs ds->Dp K H (.ref a) (.tuple ds)
inductive uS (K:PySem.W.Frag) (H:Hp):List V->List PyData->Prop
 | nil:uS K H [] []
 | cons {v:V}{vs:List V}{d:PyData}{ds:List PyData}:Dp K H v d->uS K H vs ds->uS K H (v::vs) (d::ds)
end
section
variable {X:Cx}{pins:List (Addr × Obj)}{σ:St}{H:Hp}{s:Shared}
mutual
theorem Dp.reads (I:Inv X pins σ H s):∀ (d:PyData) (v:V) (u:Value),Dp X.K H v d->RelV v u->∃ as,Reads s.heap u d as
 | .none,_,_,h,r=>by
  cases h
  cases r
  exact⟨_,Reads.none⟩
 | .bool b,_,_,h,r=>by
  cases h
  cases r
  exact⟨_,Reads.bool b⟩
 | .int i,_,_,h,r=>by
  cases h
  obtain⟨t,rfl⟩:=r
  exact⟨_,Reads.int i t⟩
 | .str x,_,_,h,r=>by
  cases h
  obtain⟨t,rfl⟩:=r
  exact⟨_,Reads.str x t⟩
 | .list ds,_,_,h,r=>by
  cases h with
  | lst hs ha =>
   cases r
   obtain⟨its,rv,⟨o,n,ho,hc,_,hd⟩,_⟩:=I.list hs
   obtain⟨as,hr⟩:=Dp.readsAll I ds _ its ha rv
   exact⟨_,Reads.list ho hc hd hr⟩
 | .tuple ds,_,_,h,r=>by
  cases h with
  | tup hs ha =>
   cases r
   obtain⟨its,rv,⟨o,ho,hc,n,hd⟩,_⟩:=I.tuple hs
   obtain⟨as,hr⟩:=Dp.readsAll I ds _ its ha rv
   exact⟨_,Reads.tuple ho hc hd hr⟩
 | .dict _,_,_,h,_=>by cases h
theorem Dp.readsAll (I:Inv X pins σ H s):∀ (ds:List PyData) (vs:List V) (us:List Value),uS X.K H vs ds->Vals vs us->∃ as,ReadsAll s.heap us ds as
 | [],_,_,h,r=>by
  cases h
  cases r
  exact⟨_,ReadsAll.nil⟩
 | d::ds,_,_,h,r=>by
  cases h with
  | cons h1 h2 =>
   cases r with
   | cons r1 r2 =>
    obtain⟨as,q1⟩:=Dp.reads I d _ _ h1 r1
    obtain⟨bs,q2⟩:=Dp.readsAll I ds _ _ h2 r2
    exact⟨_,ReadsAll.cons q1 q2⟩
end
end
section
variable {X:Cx}
def adB (K:PySem.W.Frag):R2:=fun x y H Q=>∃ d e,Dp K H x d/\Dp K H y e/\SeqAt.shaped d=true/\SeqAt.shaped e=true/\Q (.bl (PyData.eqv d e)) H
def adC (K:PySem.W.Frag):R2:=fun x y H Q=>∃ d e,Dp K H x d/\Dp K H y e/\SeqAt.shaped d=true/\SeqAt.shaped e=true/\Q (.bl (!PyData.eqv d e)) H
theorem wV (hu:X.A.units+64<cLine):OpR X (compareOp .Eq) (adB X.K):=by
 intro pins s σ H x y v u Q I rx ry h
 obtain⟨d,e,hd,he,sd,se,q⟩:=h
 obtain⟨as,r1⟩:=Dp.reads I d x v hd rx
 obtain⟨bs,r2⟩:=Dp.reads I e y u he ry
 exact SeqAt.compareEq_shaped r1 r2 sd se hu ⟨.bl _,H,I,rfl,q⟩
theorem acx (hu:X.A.units+64<cLine):OpR X (compareOp .NotEq) (adC X.K):=by
 intro pins s σ H x y v u Q I rx ry h
 obtain⟨d,e,hd,he,sd,se,q⟩:=h
 obtain⟨as,r1⟩:=Dp.reads I d x v hd rx
 obtain⟨bs,r2⟩:=Dp.reads I e y u he ry
 exact SeqAt.compareNe_shaped r1 r2 sd se hu ⟨.bl _,H,I,rfl,q⟩
end
end L2
namespace L2
open PySem PySem.Spec PyProof.Rows
abbrev CellAt (h:Heap) (c:Addr) (v:Option Value):Prop:=h.IsCell c v
def adD (scope sc:Scope):Scope :=
 { scope with names:=scope.names.map fun (n,k)=>if (k == .free && sc.kind == .function && sc.names.lookup n == some .cell) then (n,.cell) else (n,k) }
def qM (cells:List (Str × Addr)):List (Str × NameKind)->List (Str × Addr)->List (Str × Addr)
 | [],acc=>acc
 | (n,k)::r,acc=>if k == .free then qM cells r ((n,(cells.lookup n).getD 0)::acc) else qM cells r acc
theorem ZP (env:Env) (f:Str × NameKind->List (Str × Addr)->Sem (ForInStep (List (Str × Addr))))
 (hf:∀ n k c,f (n,k) c=if k == .free then (do let a <-cellOf env n;pure (.yield ((n,a)::c))) else pure (.yield c)) :
 ∀ (names:List (Str × NameKind)) (acc:List (Str × Addr)),(∀ y∈names,y.2=.free->∃ c,env.cells.lookup y.1=some c)->forIn names acc f=pure (qM env.cells names acc)
 | [],acc,_=>by rw[List.forIn_nil];rfl
 | (n,k)::r,acc,h=>by
  rw[List.forIn_cons,hf]
  have ih:=fun acc=>ZP env f hf r acc fun y hy=>h y (List.mem_cons_of_mem _ hy)
  unfold qM
  by_cases hk:(k == NameKind.free)=true
  . rw[if_pos hk,if_pos hk]
    obtain⟨c,hc⟩:=h (n,k) List.mem_cons_self (by simpa using hk)
    have e:cellOf env n=pure c:=by unfold cellOf;rw[hc]
    rw[e]
    have e2:(env.cells.lookup n).getD 0=c:=by rw[hc];rfl
    rw[e2]
    exact ih _
  . rw[if_neg hk,if_neg hk]
    exact ih _
theorem Wn {scope:Scope}{env:Env} (h:∀ y∈scope.names,y.2=.free->∃ c,env.cells.lookup y.1=some c):closureFor scope env=pure (qM env.cells scope.names []):=by
 simp only[closureFor]
 rw[ZP env _ (fun n k c=>rfl) scope.names [] h]
 rfl
theorem Za {α:Type}:∀ {l:List (Str × α)}{n:Str}{c:α},(n,c)∈l->∃ c',l.lookup n=some c'
 | (k,v)::r,n,c,h=>by
  rw[List.lookup_cons]
  cases hb:n == k with
  | true=>exact⟨_,rfl⟩
  | false =>
   rcases List.mem_cons.mp h with e | h
   . cases e;simp at hb
   . exact Za h
theorem yZ {cells:List (Str × Addr)}:∀ {names:List (Str × NameKind)}{acc:List (Str × Addr)}{n:Str}{c:Addr},(n,c)∈qM cells names acc->(n,c)∈acc∨((n,.free)∈names/\c=(cells.lookup n).getD 0)
 | [],_,_,_,h=>.inl h
 | (m,k)::r,acc,n,c,h=>by
  unfold qM at h
  split at h
  . rename_i hk
    have hk:k=.free:=by simpa using hk
    rcases yZ h with h | ⟨h1,h2⟩
    . rcases List.mem_cons.mp h with e | h
      . cases e;exact .inr ⟨hk▸List.mem_cons_self,rfl⟩
      . exact .inl h
    . exact .inr ⟨List.mem_cons_of_mem _ h1,h2⟩
  . rcases yZ h with h | ⟨h1,h2⟩
    . exact .inl h
    . exact .inr ⟨List.mem_cons_of_mem _ h1,h2⟩
theorem wW {cells:List (Str × Addr)}:∀ {names:List (Str × NameKind)}{acc:List (Str × Addr)}{p:Str × Addr},p∈acc->p∈qM cells names acc
 | [],_,_,h=>h
 | (m,k)::r,acc,p,h=>by
  unfold qM
  split
  . exact wW (List.mem_cons_of_mem _ h)
  . exact wW h
theorem wX {cells:List (Str × Addr)}:∀ {names:List (Str × NameKind)}{acc:List (Str × Addr)}{n:Str},(n,.free)∈names->(n,(cells.lookup n).getD 0)∈qM cells names acc
 | (m,k)::r,acc,n,h=>by
  unfold qM
  rcases List.mem_cons.mp h with e | h
  . cases e
    exact wW List.mem_cons_self
  . split
    . exact wX h
    . exact wX h
theorem xM:∀ {names:List (Str × NameKind)}{h:Heap}{acc:List (Str × Addr)}{x:Str}{c:Addr},(x,c)∈cellsFrom h.objs.size names acc ->
 (x,c)∈acc∨((x,.cell)∈names/\h.objs.size<=c/\CellAt (pushCells h names) c none)
 | [],_,_,_,_,h=>.inl h
 | (n,k)::r,h,acc,x,c,hm=>by
  unfold cellsFrom at hm
  unfold pushCells
  split at hm
  . rename_i hk
    rw[if_pos hk]
    have hk:k=.cell:=by simpa using hk
    rw[<-Heap.size_push h { cls:=.type "cell",data:=.cell none }] at hm
    rcases xM hm with hm | ⟨h1,h2,h3⟩
    . rcases List.mem_cons.mp hm with e | hm
      . cases e
        exact .inr ⟨hk▸List.mem_cons_self,Nat.le_refl _,_,pushCells_keeps r _ _ _ (Heap.get?_push_size _ rfl),rfl⟩
      . exact .inl hm
    . rw[Heap.size_push] at h2
      exact .inr ⟨List.mem_cons_of_mem _ h1,Nat.le_of_succ_le h2,h3⟩
  . rename_i hk
    rw[if_neg hk]
    rcases xM hm with hm | ⟨h1,h2,h3⟩
    . exact .inl hm
    . exact .inr ⟨List.mem_cons_of_mem _ h1,h2,h3⟩
theorem uw:∀ {names:List (Str × NameKind)}{n:Nat}{acc:List (Str × Addr)}{p:Str × Addr},p∈acc->p∈cellsFrom n names acc
 | [],_,_,_,h=>h
 | (m,k)::r,n,acc,p,h=>by
  unfold cellsFrom
  split
  . exact uw (List.mem_cons_of_mem _ h)
  . exact uw h
theorem QH:∀ {names:List (Str × NameKind)}{n:Nat}{acc:List (Str × Addr)}{x:Str},(x,.cell)∈names->∃ c,(x,c)∈cellsFrom n names acc
 | (m,k)::r,n,acc,x,h=>by
  unfold cellsFrom
  rcases List.mem_cons.mp h with e | h
  . cases e
    exact⟨n,uw List.mem_cons_self⟩
  . split
    . exact QH h
    . exact QH h
theorem QI:∀ {names:List (Str × NameKind)}{h:Heap}{acc:List (Str × Addr)}{x y:Str}{c:Addr},(∀ p∈acc,p.2<h.objs.size)->(∀ x y c,(x,c)∈acc->(y,c)∈acc->x=y) ->
 (x,c)∈cellsFrom h.objs.size names acc->(y,c)∈cellsFrom h.objs.size names acc->x=y
 | [],_,_,_,_,_,_,hi,h1,h2=>hi _ _ _ h1 h2
 | (n,k)::r,h,acc,x,y,c,hl,hi,h1,h2=>by
  unfold cellsFrom at h1 h2
  split at h1
  . rename_i hk
    rw[if_pos hk] at h2
    rw[<-Heap.size_push h { cls:=.type "cell",data:=.cell none }] at h1 h2
    refine QI (h:=h.push _) (fun p hp=>?_) (fun x y c a b=>?_) h1 h2
    . rw[Heap.size_push]
      rcases List.mem_cons.mp hp with rfl | hp
      . exact Nat.lt_succ_self _
      . exact Nat.lt_succ_of_lt (hl p hp)
    . rcases List.mem_cons.mp a with e | a <;> rcases List.mem_cons.mp b with e' | b
      . cases e;cases e';rfl
      . cases e;exact absurd (hl _ b) (Nat.lt_irrefl _)
      . cases e';exact absurd (hl _ a) (Nat.lt_irrefl _)
      . exact hi _ _ _ a b
  . rename_i hk
    rw[if_neg hk] at h2
    exact QI hl hi h1 h2
theorem Xm {M:Model}{A:Around}{E:Value->Shared->Prop}{s:Shared}{scope:Scope}{globals:Addr}{closure:List (Str × Addr)}{qual:Str}{func:Option Addr}{code:Value}{around:Env}{builtins:Addr}{Q:Env->Shared->Prop}
 (h:Q (newEnv scope s.heap.objs.size globals (cellsFrom (s.heap.objs.size+1) scope.names closure) qual func code (some around) builtins)
  { s with heap:=pushCells (s.heap.push { cls:=.type "dict",data:=.dict #[] }) scope.names }) :
 wpAny M A (newFunctionEnv scope globals closure [] qual func code (some around) builtins) Q E s:=by
 simp only[newFunctionEnv,Option.isSome_some,if_true]
 refine wpAny_bind (wpAny_alloc ?_)
 refine wpAny_bind (wpAny_layCells _ (fun n k c=>rfl) scope.names closure _ _ ?_)
 rw[show ({ s with heap:=s.heap.push { cls:=.type "dict",data:=.dict #[] } }:Shared).heap.objs.size=s.heap.objs.size+1 from Heap.size_push ..]
 rw[List.forIn_nil]
 exact wpAny_bind (wpAny_pure (wpAny_pure h))
theorem wY {sc:Scope}:∀ {names:List (Str × NameKind)}{x:Str}{k:NameKind},
 (names.map fun (n,k)=>if (k == NameKind.free && sc.kind == .function && sc.names.lookup n == some .cell) then (n,NameKind.cell) else (n,k)).lookup x=some k ->
 ∃ k',names.lookup x=some k'/\(k=k'∨(k'=.free/\k=.cell))
 | [],_,_,h=>by simp at h
 | (n,k₀)::r,x,k,h=>by
  have ih:=@wY sc r x k
  have h':List.lookup x ((if (k₀ == NameKind.free && sc.kind == .function && sc.names.lookup n == some .cell)=true then (n,NameKind.cell) else (n,k₀))::(r.map _))=some k:=h
  cases hx:x == n with
  | true =>
   simp only[List.lookup_cons,hx]
   by_cases hc:(k₀ == NameKind.free && sc.kind == .function && sc.names.lookup n == some .cell)=true
   . rw[if_pos hc] at h'
     simp only[List.lookup_cons,hx] at h'
     cases h'
     simp only[Bool.and_eq_true,beq_iff_eq] at hc
     exact⟨k₀,rfl,.inr ⟨hc.1.1,rfl⟩⟩
   . rw[if_neg hc] at h'
     simp only[List.lookup_cons,hx] at h'
     cases h'
     exact⟨_,rfl,.inl rfl⟩
  | false =>
   simp only[List.lookup_cons,hx]
   by_cases hc:(k₀ == NameKind.free && sc.kind == .function && sc.names.lookup n == some .cell)=true
   . rw[if_pos hc] at h'
     simp only[List.lookup_cons,hx] at h'
     exact ih h'
   . rw[if_neg hc] at h'
     simp only[List.lookup_cons,hx] at h'
     exact ih h'
structure Xn (N:List Str) (sc scope:Scope) (own:List (Str × Nat)):Prop where
 kind:scope.kind=.function
 uniq:∀ y∈scope.names,scope.names.lookup y.1=some y.2
 ix:∀ p∈own,N[p.2]?=some p.1
 free:∀ y∈scope.names,y.2=.free->sc.names.lookup y.1=some .cell∨sc.names.lookup y.1=some .free
 own:∀ y∈scope.names,y.2=.local∨y.2=.cell->y.1∈own.map (·.1)∨y.1 ∉ N
def qQ (σ:St):List Nat->St
 | []=>σ
 | v::vs=>(qQ σ vs).set v none
theorem wZ (σ:St):∀ vs:List Nat,(qQ σ vs).length=σ.length
 | []=>rfl
 | v::vs=>by unfold qQ;rw[List.length_set,wZ σ vs]
theorem QJ {σ:St}{i:Nat}{x:V}:∀ {vs:List Nat},(qQ σ vs)[i]?=some (some x)->σ[i]?=some (some x)/\i ∉ vs
 | [],h=>⟨h,by simp⟩
 | v::vs,h=>by
  unfold qQ at h
  by_cases hi:v=i
  . subst hi
    by_cases hv:v<(qQ σ vs).length
    . rw[List.getElem?_set_self hv] at h;cases h
    . rw[List.getElem?_eq_none (by simpa using hv)] at h;cases h
  . rw[List.getElem?_set_ne hi] at h
    obtain⟨h1,h2⟩:=QJ h
    exact⟨h1,by simp only[List.mem_cons,not_or];exact⟨fun e=>hi e.symm,h2⟩⟩
abbrev Cx.blk (X:Cx) (s:Shared) (H:Hp) (scope:Scope) (cenv:Env) (fp:List Addr):Cx:={ X with s_0:=s,H_0:=H,env:=cenv,outer:=X.stack,ex:=fp,fn:=fun x=>scope.names.lookup x == some .cell,pn:=[],xe:=fun _ _=>False }
section
variable {X:Cx}{pins:List (Addr × Obj)}{σ:St}{H:Hp}{s:Shared}
theorem Xo {scope:Scope}{own:List (Str × Nat)}{fp:List Addr} (I:Inv X pins σ H s) (ok:Xn X.N X.env.scope scope own) (hN:X.N.Nodup) (hfp:∀ b∈fp,Jk X pins H b/\b<s.heap.objs.size) :
 Inv (X.blk s H scope (compEnvC scope (cellsFrom (s.heap.objs.size+1) scope.names (qM X.env.cells scope.names [])) s.heap.objs.size X.env) fp) [] (qQ σ (own.map (·.2))) H { s with heap:=pushCells (s.heap.push { cls:=.type "dict",data:=.dict #[] }) scope.names }:=by
 have hfree:∀ y∈scope.names,y.2=.free->∃ c,X.env.cells.lookup y.1=some c:=fun y hy e=>by
  rcases ok.free y hy e with k | k
  . exact I.ok.has _ (.inl k)
  . exact I.ok.has _ (.inr k)
 generalize hcenv:compEnvC scope (cellsFrom (s.heap.objs.size+1) scope.names (qM X.env.cells scope.names [])) s.heap.objs.size X.env=cenv
 have kp:∀ b o,s.heap.get? b=some o->(pushCells (s.heap.push { cls:=.type "dict",data:=.dict #[] }) scope.names).get? b=some o:=fun b o e=>pushCells_keeps _ _ _ _ (Heap.get?_push_of_some _ e)
 have hL:cenv.locals=s.heap.objs.size:=by rw[<-hcenv];rfl
 have hcl:cenv.cells=cellsFrom (s.heap.objs.size+1) scope.names (qM X.env.cells scope.names []):=by rw[<-hcenv];rfl
 have hsc:cenv.scope=adD scope X.env.scope:=by rw[<-hcenv];rfl
 rw[<-Heap.size_push s.heap { cls:=.type "dict",data:=.dict #[] }] at hcl
 have cm:∀ {y c},(y,c)∈qM X.env.cells scope.names []->X.env.cells.lookup y=some c/\c<s.heap.objs.size:=fun {y c} hm=>by
  rcases yZ hm with hm | ⟨h1,rfl⟩
  . cases hm
  . obtain⟨c,hc⟩:=hfree _ h1 rfl
    rw[hc]
    obtain⟨w,z⟩:=I.cell _ _ hc
    exact⟨rfl,z.lt⟩
 have mem:∀ {y c},cenv.cells.lookup y=some c->(X.env.cells.lookup y=some c/\c<s.heap.objs.size)∨(s.heap.objs.size+1<=c/\CellAt (pushCells (s.heap.push { cls:=.type "dict",data:=.dict #[] }) scope.names) c none):=fun {y c} e=>by
  rw[hcl] at e
  rcases xM (PySem.mem_of_lookup e) with hm | ⟨_,h2,h3⟩
  . exact .inl (cm hm)
  . rw[Heap.size_push] at h2;exact .inr ⟨h2,h3⟩
 have look:∀ {y},scope.names.lookup y=some .free->∃ c,cenv.cells.lookup y=some c/\X.env.cells.lookup y=some c:=fun {y} hl=>by
  have hy:(y,NameKind.free)∈scope.names:=PySem.mem_of_lookup hl
  obtain⟨c',e'⟩:=Za (uw (names:=scope.names) (n:=(s.heap.push { cls:=.type "dict",data:=.dict #[] }).objs.size) (wX (cells:=X.env.cells) (acc:=[]) hy))
  rw[<-hcl] at e'
  refine⟨c',e',?_⟩
  rw[hcl] at e'
  rcases xM (PySem.mem_of_lookup e') with hm | ⟨h1,_,_⟩
  . exact (cm hm).1
  . have:=ok.uniq _ h1
    rw[hl] at this;cases this
 have okB:(X.blk s H scope cenv fp).Ok:=by
  refine⟨I.ok.mod,by show cenv.scope.kind=_;rw[hsc];exact ok.kind,by show cenv.globals=_;rw[<-hcenv];exact I.ok.glob,by show cenv.builtins=_;rw[<-hcenv];exact I.ok.blt,by show s.heap.objs.size<=cenv.locals;rw[hL];exact Nat.le_refl _,
   fun y z c e1 e2=>?_,fun y hy=>?_,fun y c z e=>?_,I.ok.hd,I.ok.frames,.inl rfl,fun b hb=>⟨?_,fun y c e z=>?_⟩,I.bs,Nat.le_trans I.ok.bsz I.sz,fun b o e hb=>?_,fun b hb z=>?_,I.stack,I.stkFree⟩
  . have e1:cenv.cells.lookup y=some c:=e1
    have e2:cenv.cells.lookup z=some c:=e2
    rw[hcl] at e1 e2
    refine QI (fun p hp=>?_) (fun y z c a b=>I.ok.inj y z c (cm a).1 (cm b).1) (PySem.mem_of_lookup e1) (PySem.mem_of_lookup e2)
    rw[Heap.size_push]
    exact Nat.lt_succ_of_lt (cm (y:=p.1) (c:=p.2) hp).2
  . show ∃ c,cenv.cells.lookup y=some c
    have key:∀ k,cenv.kindOf y=some k->(k=.cell∨k=.free)->∃ c,cenv.cells.lookup y=some c:=fun k hk hk'=>by
     unfold Env.kindOf at hk
     rw[hsc] at hk
     obtain⟨k',e,r⟩:=wY hk
     have:k'=.cell∨k'=.free:=by
      rcases r with rfl | ⟨rfl,_⟩
      . exact hk'
      . exact .inr rfl
     rcases this with rfl | rfl
     . obtain⟨c,hm⟩:=QH (n:=(s.heap.push { cls:=.type "dict",data:=.dict #[] }).objs.size) (acc:=qM X.env.cells scope.names []) (PySem.mem_of_lookup e)
       obtain⟨c',e'⟩:=Za hm
       exact⟨c',by rw[hcl];exact e'⟩
     . obtain⟨c,h1,_⟩:=look e
       exact⟨c,h1⟩
    rcases hy with hy | hy
    . exact key _ hy (.inl rfl)
    . exact key _ hy (.inr rfl)
  . have z:(scope.names.lookup y == some NameKind.cell)=true:=z
    have z:scope.names.lookup y=some .cell:=by simpa using z
    have e:cenv.cells.lookup y=some c:=e
    rw[hcl] at e
    rcases xM (PySem.mem_of_lookup e) with hm | ⟨_,h2,_⟩
    . rcases yZ hm with hm | ⟨h1,_⟩
      . cases hm
      . have q:=ok.uniq _ h1
        rw[z] at q;cases q
    . rw[Heap.size_push] at h2
      exact Nat.le_of_succ_le h2
  . show b≠cenv.locals
    rw[hL];exact Nat.ne_of_lt (hfp b hb).2
  . have e:cenv.cells.lookup y=some c:=e
    rcases mem e with ⟨h1,_⟩ | ⟨h1,_⟩
    . exact (hfp b hb).1.2.2.2.2.1 y c h1 z
    . have h2:s.heap.objs.size+1<=b:=by rw[<-z];exact h1
      exact absurd (Nat.lt_of_lt_of_le (hfp b hb).2 (Nat.le_of_succ_le h2)) (Nat.lt_irrefl _)
  . rcases (hfp b hb).1.2.2.2.1 with z | z
    . exact I.ok.noex b o e z
    . exact absurd (Nat.lt_of_lt_of_le (Heap.lt_size e) (Nat.le_trans I.ok.bsz z)) (Nat.lt_irrefl _)
  . rcases List.mem_cons.mp (I.stkSub b z) with z | z
    . exact (hfp b hb).1.2.1 z
    . exact (hfp b hb).1.2.2.1 z
 refine⟨okB,rfl,I.bare,Un.kept kp,⟨fun _=>none,?_,fun i y av e1 e2 e3=>?_⟩,fun y c e=>?_,?_,fun y c e=>?_,fun p hp=>?_,I.hok.kept kp,by rw[wZ];exact I.len⟩
 . show Heap.Ns _ cenv.locals _
   rw[hL]
   exact Heap.Ns.keeps (Heap.Ns.new ..) fun b o e=>pushCells_keeps _ _ _ _ e
 . obtain⟨e2,hne⟩:=QJ e2
   have hfr:scope.names.lookup y=some .free/\(cenv.kindOf y=some .cell∨cenv.kindOf y=some .free):=by
    have key:∀ k,cenv.scope.names.lookup y=some k->k=.local∨k=.cell∨k=.free->scope.names.lookup y=some .free/\(cenv.kindOf y=some .cell∨cenv.kindOf y=some .free):=fun k hk hk'=>by
     have hk0:=hk
     rw[hsc] at hk
     obtain⟨k',e,r⟩:=wY hk
     have no:¬(k'=.local∨k'=.cell):=fun hh=>by
      rcases ok.own _ (PySem.mem_of_lookup e) hh with e' | e'
      . obtain⟨p,hp,hpy⟩:=List.mem_map.mp e'
        have e3:=ok.ix p hp
        have:p.1=y:=hpy
        rw[this] at e3
        exact hne (List.mem_map.mpr ⟨p,hp,K4 hN e3 e1⟩)
      . exact e' (List.mem_of_getElem? e1)
     rcases r with rfl | ⟨rfl,rfl⟩
     . rcases hk' with rfl | rfl | rfl
       . exact absurd (.inl rfl) no
       . exact absurd (.inr rfl) no
       . exact⟨e,.inr hk0⟩
     . exact⟨e,.inl hk0⟩
    have e3:Vis cenv.scope y:=e3
    rcases e3 with e3 | e3 | e3
    . exact key _ e3 (.inl rfl)
    . exact key _ e3 (.inr (.inl rfl))
    . exact key _ e3 (.inr (.inr rfl))
   obtain⟨m,hn,hl⟩:=I.loc
   have hvis:Vis X.env.scope y:=(ok.free _ (PySem.mem_of_lookup hfr.1) rfl).elim (fun k=>.inr (.inl k)) (fun k=>.inr (.inr k))
   obtain⟨w,r,q⟩:=hl i y av e1 e2 hvis
   refine⟨w,r,.inr ⟨hfr.2,?_⟩⟩
   obtain⟨c,h1,h2⟩:=look hfr.1
   rcases q with ⟨k,_⟩ | ⟨_,c',e',z⟩
   . have k:X.env.scope.names.lookup y=some .local:=k
     rcases ok.free _ (PySem.mem_of_lookup hfr.1) rfl with k' | k' <;> rw[show X.env.scope.names.lookup y=_ from k'] at k <;> cases k
   . rw[h2] at e';cases e'
     exact⟨c,h1,z.keeps kp⟩
 . have e:cenv.cells.lookup y=some c:=e
   rcases mem e with ⟨h1,_⟩ | ⟨_,z⟩
   . obtain⟨w,z⟩:=I.cell y c h1
     exact⟨w,z.keeps kp⟩
   . exact⟨_,z⟩
 . show H cenv.locals=none
   rw[hL];exact I.hok.fresh (Nat.le_refl _)
 . have e:cenv.cells.lookup y=some c:=e
   rcases mem e with ⟨h1,_⟩ | ⟨h1,_⟩
   . exact I.freeC y c h1
   . exact I.hok.fresh (Nat.le_of_succ_le h1)
 . exact absurd (show p∈([]:List (Addr × Obj))++[] from hp) (by simp)
theorem acy {E:Value->Shared->Prop}{D:Addr}{xs:List V}{y:V}{v:Value}{Q:Value->Shared->Prop} (I:Inv X pins σ H s) (hD:H D=some (.lst xs)) (hz:xs.length<sizeLine) (r:RelV y v)
 (h:∀ s',Inv X pins σ (upd H D (.lst (xs++[y]))) s'->Q .none s'):wpAny (model X.prog X.w) X.A (call (.builtin "list.append") [.ref D,v]) Q E s:=by
 obtain⟨hz',its,n,ri,e⟩:=I.hok D _ hD
 have hl:=ri.length
 refine append_at (hsz:=by rw[List.size_toArray];omega) e fun h' sb ho'=>?_
 refine h { s with heap:=h' } (I.write (t':=s.toks) (by rw[hD];trivial) (.inl rfl) (fun b u hb q=>(sb.2 b hb).trans q) ⟨_,ho'⟩ ⟨by rw[List.length_append];exact hz,its++[v],n+1,ri.append (.cons r .nil),?_⟩)
 rw[ho']
 simp
def PTs (X:Cx) (ifs:List Expr) (t:TT):Prop :=
 ∀ (pins:List (Addr × Obj)) (s:Shared) (σ:St) (H:Hp) (Q:Bool->Hp->Prop),Inv X pins σ H s->t σ H Q ->
  wpAny (model X.prog X.w) X.A (forIn ifs true fun c r=>if r=true then do let ok <-isTrue c X.env (eval c X.env);pure (ForInStep.yield ok) else pure (ForInStep.yield r)) (TP X pins σ Q) X.xe s
def Ka:TT:=fun _ H Q=>Q true H
theorem km:PTs X [] Ka:=fun _ _ _ H _ I h=>wpAny_tests_nil ⟨H,I,h⟩
theorem w6 {c:Expr}{t:TT} (h:PT X c t):PTs X [c] t:=fun pins s σ H Q I hw=>wpAny_tests_one (h pins s σ H Q I hw)
end
theorem UG {α:Type}{t:Sem α}{Q Q':α->Shared->Prop}{M:Model}{A:Around}{E:Value->Shared->Prop}{s:Shared} (h:wpAny M A t Q (fun _ _=>False) s) (hQ:∀ a s,Q a s->Q' a s):wpAny M A t Q' E s:=wpAny_mono h hQ fun _ _ z=>False.elim z
theorem Yg {prog:Program}{w:World}{A:Around}{R:Result->Shared->Prop}{s:Shared}{elt target iter:Expr}{ifs:List Expr}{scope:Scope}{pos:Pos}{it acc:Value}{env:Env} (I:Nat->Shared->Prop)
 (turn:∀ n s,I n s->wpAny (model prog w) A (pyNext it) (fun r s₁=>match r with
  | none=>R (.ok .next) s₁
  | some v=>wpAny (model prog w) A (letOwnedTupleGo target it v) (fun _ s₁'=>wpAny (model prog w) A (assign target env v) (fun _ s₂ =>
   wpAny (model prog w) A (forIn ifs true fun c r=>if r=true then do let ok <-isTrue c env (eval c env);pure (ForInStep.yield ok) else pure (ForInStep.yield r)) (fun ok s₃ =>
    if ok=true then wpAny (model prog w) A (eval elt env) (fun x s₄ =>
     wpAny (model prog w) A (call (.builtin "list.append") [acc,x]) (fun _ s₅=>∃ m,m<n/\I m s₅) (notedBy (model prog w) A env fun e s'=>R (.error e) s') s₄) (notedBy (model prog w) A env fun e s'=>R (.error e) s') s₃
    else ∃ m,m<n/\I m s₃) (notedBy (model prog w) A env fun e s'=>R (.error e) s') s₂) (notedBy (model prog w) A env fun e s'=>R (.error e) s') s₁') (notedBy (model prog w) A env fun e s'=>R (.error e) s') s₁) (notedBy (model prog w) A env fun e s'=>R (.error e) s') s)
 (n:Nat) (h:I n s) :
 codeAny (model prog w) A (.compLoop (.ListComp elt [⟨target,iter,ifs,0⟩] scope pos) 0 it acc env) R s:=by
 refine codeAny_loop rfl I (fun n s hI=>?_) n h
 show wpAny _ A ((compTurn (.ListComp elt [⟨target,iter,ifs,0⟩] scope pos) 0 it acc env).onRaise (fun x=>do noteFrame x env;theTreesLotGoes x)) _ _ s
 refine wpAny_noted ?_
 rw[compTurn_list]
 refine wpAny_bind (wpAny_standAt (wpAny_bind (wpAny_mono (turn n s hI) (fun r s₁ h₁=>?_) fun _ _ h'=>h')))
 cases r with
 | none=>exact wpAny_pure h₁
 | some v =>
  refine wpAny_bind (wpAny_mono h₁ (fun _ s₁' h₁'=>?_) fun _ _ h'=>h')
  refine wpAny_bind (wpAny_mono h₁' (fun _ s₂ h₂=>wpAny_bind (wpAny_mono h₂ (fun ok s₃ h₃=>?_) fun _ _ h'=>h')) fun _ _ h'=>h')
  cases ok with
  | false=>exact wpAny_pure ⟨rfl,h₃⟩
  | true =>
   exact wpAny_bind (wpAny_bind (wpAny_mono h₃ (fun x s₄ h₄=>wpAny_bind (wpAny_mono h₄ (fun _ s₅ h₅=>wpAny_pure (wpAny_pure ⟨rfl,h₅⟩)) fun _ _ h'=>h')) fun _ _ h'=>h'))
section
variable {X:Cx}
def tLc (wi:TI) (g:TG) (tt:TT) (te:TE) (vs:List Nat):TE:=fun σ H Q=>wi σ H fun J H1=>∀ D,H1 D=none->∃ W:Nat->Nat->Hp->Prop,(∃ m,W 0 m (upd H1 D (.lst [])))/\∀ i m H,W i m H ->
 (J.stop i H/\Q (.ref D) H)∨(J.go i H/\∃ Nx:Hp->Prop,(∀ H',Nx H'->∃ m',m'<m/\W (i+1) m' H')/\∀ x H',J.yld i H x H'->g x (qQ σ vs) H' fun σ2 H2=>qQ σ2 vs=qQ σ vs/\tt σ2 H2 fun b H3 =>
  if b=true then te σ2 H3 fun y H4=>∃ acc,H4 D=some (.lst acc)/\acc.length<sizeLine/\Nx (upd H4 D (.lst (acc++[y]))) else Nx H3)
theorem U2 {pins:List (Addr × Obj)}{s:Shared}{σ:St}{H:Hp}{Q:VK}{elt tg iter:Expr}{ifs:List Expr}{scope:Scope}{own:List (Str × Nat)}{pos pos':Pos}{wi:TI}{g:TG}{tt:TT}{te:TE}{use:Option (Value->Sem Unit)}{Qf:Value->Shared->Prop}
 (hc:X.calm=true) (hN:X.N.Nodup) (I:Inv X pins σ H s) (hi:PI X tg iter wi) (ok:Xn X.N X.env.scope scope own)
 (hg:∀ (s:Shared) (H:Hp) (C:Addr) (cl:List (Str × Addr)) (fp:List Addr),PG (X.blk s H scope (compEnvC scope cl C X.env) fp) tg g) (ht:∀ (s:Shared) (H:Hp) (C:Addr) (cl:List (Str × Addr)) (fp:List Addr),PTs (X.blk s H scope (compEnvC scope cl C X.env) fp) ifs tt)
 (he:∀ (s:Shared) (H:Hp) (C:Addr) (cl:List (Str × Addr)) (fp:List Addr),PE (X.blk s H scope (compEnvC scope cl C X.env) fp) elt te) (hs:∀ x,foldedSetIterable iter X.env x=pure x)
 (h:tLc wi g tt te (own.map (·.2)) σ H Q)
 (hRR:∀ D C s' m H',Inv X pins σ H' s'->Q (.ref D) H'->s'.heap.Ns C m->Jk X pins H' C->compPost (model X.prog X.w) X.A X.xe use Qf (.ref D) C (.ok .next) s') :
 wpAny (model X.prog X.w) X.A (comprehension (.ListComp elt [⟨tg,iter,ifs,0⟩] scope pos) scope X.env pos' (newList []) false (eval iter X.env) use) Qf X.xe s:=by
 have hfree:∀ y∈scope.names,y.2=.free->∃ c,X.env.cells.lookup y.1=some c:=fun y hy e=>by
  rcases ok.free y hy e with k | k
  . exact I.ok.has _ (.inl k)
  . exact I.ok.has _ (.inr k)
 refine wpAny_comprehension_free (use:=use) rfl hs (Wn hfree) ok.kind (fun y hy e=>by rw[ok.uniq y hy,e])
  (thn (hi pins s σ H _ I h) fun xv s1 hx=>thn hx fun itv s2 h2=>?_)
 obtain⟨it,fp,tn,J,H2,e,I2,T,st2,f2,q⟩:=h2
 subst e
 refine wpAny_newObj_type (Xm ?_) (by show 0<=sizeLine;decide)
 generalize hD:s2.heap.objs.size=D
 have hDn:H2 D=none:=I2.hok.fresh (Nat.le_of_eq hD)
 obtain⟨W,⟨m0,w0⟩,turn⟩:=q D hDn
 generalize hs3:({ s2 with heap:=s2.heap.push { cls:=.type "list",data:=.seq ([]:List Value).toArray } }:Shared)=s3
 have I3:Inv X pins σ (upd H2 D (.lst [])) s3:=by
  rw[<-hs3]
  refine I2.laid (t':=s2.toks) (fun b o e=>Heap.get?_push_of_some _ e) (Nat.le_of_eq hD) ⟨Nat.zero_le _,[],0,.nil,?_⟩
  rw[<-hD]
  exact Heap.get?_push_size _ rfl
 have h3:s3.heap=s2.heap.push { cls:=.type "list",data:=.seq ([]:List Value).toArray }:=by rw[<-hs3]
 have sz:∀ b∈fp,b<s2.heap.objs.size:=fun b hb=>by
  obtain⟨o,e,_⟩:=T.obj _ _ st2 b hb
  exact Heap.lt_size e
 have f3:∀ b∈fp,Jk X pins (upd H2 D (.lst [])) b/\b<s3.heap.objs.size:=fun b hb=>by
  have hlt:=sz b hb
  refine⟨⟨?_,(f2 b hb).2⟩,by rw[h3,Heap.size_push];exact Nat.lt_succ_of_lt hlt⟩
  rw[zh (by rw[<-hD];exact Nat.ne_of_lt hlt)]
  exact (f2 b hb).1
 have st3:tn 0 s3.heap:=T.keep _ _ _ st2 fun b _ o e=>by rw[h3];exact Heap.get?_push_of_some _ e
 have I4:=Xo I3 ok hN f3
 have pg:=hg s3 (upd H2 D (.lst [])) s3.heap.objs.size (cellsFrom (s3.heap.objs.size+1) scope.names (qM X.env.cells scope.names [])) fp
 have pt:=ht s3 (upd H2 D (.lst [])) s3.heap.objs.size (cellsFrom (s3.heap.objs.size+1) scope.names (qM X.env.cells scope.names [])) fp
 have pe:=he s3 (upd H2 D (.lst [])) s3.heap.objs.size (cellsFrom (s3.heap.objs.size+1) scope.names (qM X.env.cells scope.names [])) fp
 show codeAny _ _ (.compStart (.ListComp elt [⟨tg,iter,ifs,0⟩] scope pos) 0 (.ref it) (.ref D) (compEnvC scope (cellsFrom (s3.heap.objs.size+1) scope.names (qM X.env.cells scope.names [])) s3.heap.objs.size X.env)) (compPost (model X.prog X.w) X.A X.xe use Qf (.ref D) s3.heap.objs.size) { s3 with heap:=pushCells (s3.heap.push { cls:=.type "dict",data:=.dict #[] }) scope.names }
 have nfp:∀ b∈fp,(upd H2 D (.lst [])) b=none:=fun b hb=>(f3 b hb).1.1
 generalize hce:compEnvC scope (cellsFrom (s3.heap.objs.size+1) scope.names (qM X.env.cells scope.names [])) s3.heap.objs.size X.env=ce at I4 pg pt pe ⊢
 have cL:ce.locals=s3.heap.objs.size:=by subst hce;rfl
 generalize hH3:upd H2 D (.lst [])=H3 at I3 I4 pg pt pe w0 nfp f3
 generalize hs4:({ s3 with heap:=pushCells (s3.heap.push { cls:=.type "dict",data:=.dict #[] }) scope.names }:Shared)=s4 at I4 ⊢
 have st4:tn 0 s4.heap:=T.keep _ _ _ st3 fun b _ o e=>by rw[<-hs4];exact pushCells_keeps _ _ _ _ (Heap.get?_push_of_some _ e)
 have stat:∀ {σ':St}{H':Hp}{s':Shared},Inv (X.blk s3 H3 scope ce fp) [] σ' H' s'->(∀ b∈fp,H' b=none)->∀ b∈fp,Jk (X.blk s3 H3 scope ce fp) [] H' b:=fun {σ' H' s'} I' hn b hb =>
  ⟨hn b hb,(I'.ok.exf b hb).1,I'.ok.exfs b hb,.inl hb,fun x c e=>(I'.ok.exf b hb).2 x c e,fun p hp=>absurd (show p∈([]:List (Addr × Obj))++[] from hp) (by simp)⟩
 have loop:codeAny (model X.prog X.w) X.A (.compLoop (.ListComp elt [⟨tg,iter,ifs,0⟩] scope pos) 0 (.ref it) (.ref D) ce) (compPost (model X.prog X.w) X.A X.xe use Qf (.ref D) s3.heap.objs.size) s4:=by
  refine Yg (fun n s'=>∃ i H',Inv (X.blk s3 H3 scope ce fp) [] (qQ σ (own.map (·.2))) H' s'/\tn i s'.heap/\(∀ b∈fp,H' b=none)/\W i n H') ?_ m0 ⟨0,H3,I4,st4,nfp,w0⟩
  rintro n s5 ⟨i,H5,I5,st5,n5,w5⟩
  rcases turn i n H5 w5 with ⟨stop,qq⟩ | ⟨go,Nx,hNx,step⟩
  . have td:=T.done (X.blk s3 H3 scope ce fp) rfl rfl rfl hc i [] s5 _ H5 (fun _ _=>False) I5 (stat I5 n5) st5 stop
    refine UG td fun r s6 ⟨hr,I6⟩=>?_
    subst hr
    have I7:Inv X pins σ H5 s6:=I3.call' (ch:=fp) I6.os I6.base I6.hok I6.bare fun b hb=>⟨(f3 b hb).1.2.2.2.1,(f3 b hb).1.2.1,(f3 b hb).1.2.2.2.2.1,(f3 b hb).1.2.2.2.2.2⟩
    have nC:H5 s3.heap.objs.size=none:=by
     have z:H5 ce.locals=none:=I6.free
     rw[cL] at z
     exact z
    obtain⟨m,hn,_⟩:=I6.loc
    have hn:s6.heap.Ns ce.locals m:=hn
    rw[cL] at hn
    exact hRR D s3.heap.objs.size s6 m H5 I7 qq hn (I3.fpOk (Nat.le_refl _) nC)
  . have ti:=T.item (X.blk s3 H3 scope ce fp) rfl rfl rfl hc i [] s5 _ H5 (fun _ _=>False) I5 (stat I5 n5) st5 go
    refine UG ti fun r s6 ⟨u,hr,h6⟩=>?_
    subst hr
    refine UG h6 fun _ s7 ⟨x,H7,I7,r7,y7,st7,n7⟩=>?_
    have I7':=I7.pinned (stat I7 n7) (T.obj _ _ st7)
    refine UG (pg _ s7 _ H7 x u _ I7' r7 (step x H7 y7)) fun _ s8 ⟨σ8,H8,I8,hw8,q8⟩=>?_
    refine UG (pt _ s8 σ8 H8 _ I8 q8) fun b s9 ⟨H9,I9,q9⟩=>?_
    have fin:∀ {s':Shared}{H':Hp},Inv (X.blk s3 H3 scope ce fp) ([]++K7 fp s7.heap) σ8 H' s'->Nx H'->∃ m,m<n/\∃ i H',Inv (X.blk s3 H3 scope ce fp) [] (qQ σ (own.map (·.2))) H' s'/\tn i s'.heap/\(∀ b∈fp,H' b=none)/\W i m H':=fun {s' H'} I' nx=>by
     obtain⟨m',hm,w'⟩:=hNx H' nx
     have pin':∀ b∈fp,∀ o,s7.heap.get? b=some o->s'.heap.get? b=some o/\H' b=none:=fun b hb o e =>
      let z:=I'.pin (b,o) (List.mem_append_right _ (List.mem_append_right _ (Z9 hb e)))
      ⟨z.1,z.2.1⟩
     have hl:(qQ σ (own.map (·.2))).length=σ8.length:=by rw[<-hw8,wZ]
     refine⟨m',hm,i+1,H',(I'.unpinned (pins:=[])).weak hl (fun j v e=>?_),T.keep _ _ _ st7 fun b hb o e=>(pin' b hb o e).1,fun b hb=>?_,w'⟩
     . rw[<-hw8] at e
       exact (QJ e).1
     . obtain⟨o,e,_⟩:=T.obj _ _ st7 b hb
       exact (pin' b hb o e).2
    cases b with
    | false =>
     simp only[Bool.false_eq_true,if_false] at q9 ⊢
     exact fin I9 q9
    | true =>
     simp only[if_true] at q9 ⊢
     refine UG (pe _ s9 σ8 H9 _ I9 q9) fun z s10 ⟨yv,H10,I10,r10,acc,hD10,hz10,nx⟩=>?_
     exact acy (X:=X.blk s3 H3 scope ce fp) I10 hD10 hz10 r10 fun s11 I11=>fin I11 nx
 exact codeAny_compStart_list loop (T.self X.A 0 _ _ _ st4 loop)
theorem w_ {elt tg iter:Expr}{ifs:List Expr}{scope:Scope}{own:List (Str × Nat)}{pos:Pos}{wi:TI}{g:TG}{tt:TT}{te:TE} (hc:X.calm=true) (hN:X.N.Nodup) (hi:PI X tg iter wi) (ok:Xn X.N X.env.scope scope own)
 (hg:∀ (s:Shared) (H:Hp) (C:Addr) (cl:List (Str × Addr)) (fp:List Addr),PG (X.blk s H scope (compEnvC scope cl C X.env) fp) tg g) (ht:∀ (s:Shared) (H:Hp) (C:Addr) (cl:List (Str × Addr)) (fp:List Addr),PTs (X.blk s H scope (compEnvC scope cl C X.env) fp) ifs tt)
 (he:∀ (s:Shared) (H:Hp) (C:Addr) (cl:List (Str × Addr)) (fp:List Addr),PE (X.blk s H scope (compEnvC scope cl C X.env) fp) elt te) (hs:∀ x,foldedSetIterable iter X.env x=pure x:=by intro _;rfl) :
 PE X (.ListComp elt [⟨tg,iter,ifs,0⟩] scope pos) (tLc wi g tt te (own.map (·.2))):=by
 intro pins s σ H Q I h
 rw[eval_ListComp]
 refine U2 hc hN I hi ok hg ht he hs h fun D C s' m H' I' q hn f=>⟨m,hn,fun h'' sb=>?_⟩
 obtain⟨f0,f1,f2,f3,f4,f5⟩:=f
 exact⟨.ref D,H',I'.turned (t':=s'.toks) (fun b o hb e=>(sb.2 b hb).trans e) f0 f1 f3 f4 f5,rfl,q⟩
theorem vR {i:Nat}{y:Str}{py:Pos}{elt tg iter:Expr}{ifs:List Expr}{scope:Scope}{own:List (Str × Nat)}{pos spos:Pos}{wi:TI}{g:TG}{tt:TT}{te:TE} (hc:X.calm=true) (hN:X.N.Nodup) (hy:X.N[i]?=some y) (hyl:X.env.scope.names.lookup y=some .local)
 (hsw:swapsWith (.ListComp elt [⟨tg,iter,ifs,0⟩] scope pos) (some (.Name y py)) spos.line X.env=pure true) (hi:PI X tg iter wi) (ok:Xn X.N X.env.scope scope own)
 (hg:∀ (s:Shared) (H:Hp) (C:Addr) (cl:List (Str × Addr)) (fp:List Addr),PG (X.blk s H scope (compEnvC scope cl C X.env) fp) tg g) (ht:∀ (s:Shared) (H:Hp) (C:Addr) (cl:List (Str × Addr)) (fp:List Addr),PTs (X.blk s H scope (compEnvC scope cl C X.env) fp) ifs tt)
 (he:∀ (s:Shared) (H:Hp) (C:Addr) (cl:List (Str × Addr)) (fp:List Addr),PE (X.blk s H scope (compEnvC scope cl C X.env) fp) elt te) (hs:∀ x,foldedSetIterable iter X.env x=pure x:=by intro _;rfl) :
 PS X (.Assign [.Name y py] (.ListComp elt [⟨tg,iter,ifs,0⟩] scope pos) spos) (Y9 (tLc wi g tt te (own.map (·.2))) (wq i)):=by
 intro pins s σ H D I h
 rw[exec_Assign_Name_used _ _ _ _ hsw]
 refine wpAny_bind (wpAny_standAt (wpAny_bind ?_))
 show wpAny _ X.A (do let _ <-comprehension (.ListComp elt [⟨tg,iter,ifs,0⟩] scope pos) scope X.env (firstIterPos [⟨tg,iter,ifs,0⟩] pos) (newList []) false (eval iter X.env) (some (assign (.Name y py) X.env))) _ _ s
 have h:tLc wi g tt te (own.map (·.2)) σ H (fun x H1=>wq i x σ H1 D.nx):=h
 refine wpAny_bind (thn (U2 (Qf:=fun _ s'=>SP X pins D .next s') hc hN I hi ok hg ht he hs h fun L C s' m H' I' q hn f=>?_) fun _ s' hq=>wpAny_pure (wpAny_pure hq))
 show wpAny _ _ (assign (.Name y py) X.env (.ref L)) _ _ _
 refine wpAny_assign_Name (Vu (v:=V.ref L) I' hN hy (.inl hyl) rfl (fun s2 I2 ⟨a,sb,ha⟩=>?_) (.inr hyl))
 obtain⟨f0,f1,f2,f3,f4,f5⟩:=f
 have haC:C≠a:=by
  rcases ha with z | z
  . rw[z];exact f1
  . exact fun e=>f4 y a z e.symm
 refine⟨m,hn.sameBut sb haC,fun h3 sb3=>?_⟩
 exact⟨_,H',I2.turned (t':=s2.toks) (fun b o hb e=>(sb3.2 b hb).trans e) f0 f1 f3 f4 f5,q⟩
theorem y_ {elt:Expr}{gs:List Comprehension}{scope:Scope}{pos py:Pos}{y:Str}{l:Nat}{env:Env} (hk:env.scope.kind=.function) (hy:env.scope.names.lookup y=some .local) (hl:(py.line == pos.line)=true)
 (ha:(scope.names.any fun (n,k)=>n == y && (k == .local || k == .cell))=false):swapsWith (.ListComp elt gs scope pos) (some (.Name y py)) l env=pure true:=by
 have ky:env.kindOf y=some .local:=hy
 have hb:env.blockKind=.function:=by unfold Env.blockKind;rw[hk];rfl
 unfold swapsWith
 simp only[hb,ky,ha,Expr.pos,hl]
 rfl
end
theorem U3 {K:PySem.W.Frag}{a:Addr}{xs:List V}{g:TG}{tt:TT}{te:TE}{vs:List Nat}{σ:St}{H1:Hp}{D:Addr}{Qd:Hp->Prop} (Pv:Nat->Hp->Prop) (h0:Pv 0 (upd H1 D (.lst []))) (hl:∀ i H,i<=xs.length->Pv i H->SqL K H a xs)
 (hs:∀ i x H,xs[i]?=some x->Pv i H->g x (qQ σ vs) H fun σ2 H2=>qQ σ2 vs=qQ σ vs/\tt σ2 H2 fun b H3 =>
  if b=true then te σ2 H3 fun y H4=>∃ acc,H4 D=some (.lst acc)/\acc.length<sizeLine/\Pv (i+1) (upd H4 D (.lst (acc++[y]))) else Pv (i+1) H3) (hd:∀ H,Pv xs.length H->Qd H) :
 ∃ W:Nat->Nat->Hp->Prop,(∃ m,W 0 m (upd H1 D (.lst [])))/\∀ i m H,W i m H ->
  ((Itl K a).stop i H/\Qd H)∨((Itl K a).go i H/\∃ Nx:Hp->Prop,(∀ H',Nx H'->∃ m',m'<m/\W (i+1) m' H')/\∀ x H',(Itl K a).yld i H x H'->g x (qQ σ vs) H' fun σ2 H2=>qQ σ2 vs=qQ σ vs/\tt σ2 H2 fun b H3 =>
   if b=true then te σ2 H3 fun y H4=>∃ acc,H4 D=some (.lst acc)/\acc.length<sizeLine/\Nx (upd H4 D (.lst (acc++[y]))) else Nx H3):=by
 refine⟨fun i m H=>m=xs.length - i/\i<=xs.length/\Pv i H,⟨xs.length,by simp,Nat.zero_le _,h0⟩,?_⟩
 rintro i m H ⟨rfl,hi,p⟩
 have q:=hl i H hi p
 by_cases hlt:i<xs.length
 . refine .inr ⟨⟨xs,xs[i],q,by simp[hlt]⟩,Pv (i+1),fun H' p'=>⟨xs.length - (i+1),by omega,rfl,hlt,p'⟩,fun x H' y=>?_⟩
   obtain⟨e,y⟩:=y
   subst e
   exact hs i x _ (y xs q) p
 . have e:i=xs.length:=by omega
   subst e
   exact .inl ⟨⟨xs,q,Nat.le_refl _⟩,hd H p⟩
def adc (N:List Str) (sc scope:Scope) (own:List (Str × Nat)):Bool :=
 (match scope.kind with | .function=>true | _=>false) && (scope.names.all fun y=>decide (scope.names.lookup y.1=some y.2)) && (own.all fun p=>decide (N[p.2]?=some p.1)) &&
  (scope.names.all fun y=>match y.2 with
   | .free=>(match sc.names.lookup y.1 with | some .cell=>true | some .free=>true | _=>false)
   | .local=>decide (y.1∈own.map (·.1)) || decide (y.1 ∉ N)
   | .cell=>decide (y.1∈own.map (·.1)) || decide (y.1 ∉ N)
   | _=>true)
theorem qE {N:List Str}{sc scope:Scope}{own:List (Str × Nat)} (h:adc N sc scope own=true):Xn N sc scope own:=by
 unfold adc at h
 simp only[Bool.and_eq_true,List.all_eq_true,decide_eq_true_eq] at h
 obtain⟨⟨⟨h1,h2⟩,h3⟩,h4⟩:=h
 refine⟨?_,h2,h3,fun y hy e=>?_,fun y hy e=>?_⟩
 . split at h1
   . assumption
   . cases h1
 . have q:=h4 y hy
   simp only[e] at q
   split at q <;> first | exact .inl (by assumption) | exact .inr (by assumption) | cases q
 . have q:=h4 y hy
   rcases e with e | e <;> (simp only[e,Bool.or_eq_true,decide_eq_true_eq] at q;exact q)
end L2
namespace L2
open PySem PySem.Spec PyProof.Rows
end L2
namespace L2
open PySem PySem.Spec PyProof.Rows
section
variable {κ:Type} [DecidableEq κ]
def wC (kvs:List (κ × V)) (k:κ):Option V:=(kvs.find? fun kv=>decide (kv.1=k)).map (·.2)
def yk (kvs:List (κ × V)) (k:κ) (v:V):List (κ × V) :=
 if (kvs.any fun kv=>decide (kv.1=k))=true then kvs.map (fun kv=>if kv.1=k then (kv.1,v) else kv) else kvs++[(k,v)]
theorem yP {p:κ × V}{r:List (κ × V)}{k:κ} (e:p.1=k):wC (p::r) k=some p.2:=by simp[wC,List.find?_cons,e]
theorem vS {p:κ × V}{r:List (κ × V)}{k:κ} (e:¬p.1=k):wC (p::r) k=wC r k:=by simp[wC,List.find?_cons,e]
theorem Xp (k:κ):∀ kvs:List (κ × V),(kvs.any fun kv=>decide (kv.1=k))=(wC kvs k).isSome
 | []=>rfl
 | p::r=>by
  rw[List.any_cons]
  by_cases e:p.1=k
  . simp only[yP e,decide_eq_true e,Bool.true_or,Option.isSome_some]
  . rw[vS e,decide_eq_false e,Bool.false_or];exact Xp k r
theorem u0 (kvs:List (κ × V)) (k:κ) (v:V):(yk kvs k v).length<=kvs.length+1:=by
 unfold yk
 split
 . rw[List.length_map];omega
 . rw[List.length_append,List.length_cons,List.length_nil];omega
theorem RelO.isSome_eq {o:Option V}{u:Option Value} (r:RelO o u):o.isSome=u.isSome:=by
 cases o with
 | none=>cases u with
  | none=>rfl
  | some _=>exact (show False from r).elim
 | some _=>cases u with
  | none=>exact (show False from r).elim
  | some _=>rfl
theorem RelO.getD {o:Option V}{u:Option Value}{d:V}{d':Value} (r:RelO o u) (rd:RelV d d'):RelV (o.getD d) (u.getD d'):=by
 cases o with
 | none=>cases u with
  | none=>exact rd
  | some _=>exact (show False from r).elim
 | some _=>cases u with
  | none=>exact (show False from r).elim
  | some _=>exact r
theorem KV.val {kvs:List (κ × V)}{vs:List (κ × Value)} (r:KV kvs vs) (k:κ):RelO (wC kvs k) (valueAt vs k):=by
 unfold KV at r
 induction r with
 | nil=>exact True.intro
 | @cons p q ps qs h t ih =>
  obtain⟨h1,h2⟩:=h
  by_cases e:p.1=k
  . have e':q.1=k:=h1.symm.trans e
    have b:valueAt (q::qs) k=some q.2:=by simp[valueAt,List.find?_cons,e']
    rw[yP e,b];exact h2
  . have e':¬q.1=k:=fun z=>e (h1.trans z)
    have b:valueAt (q::qs) k=valueAt qs k:=by simp[valueAt,List.find?_cons,e']
    rw[vS e,b];exact ih
theorem KV.any {kvs:List (κ × V)}{vs:List (κ × Value)} (r:KV kvs vs) (k:κ):(kvs.any fun kv=>decide (kv.1=k))=vs.any fun kv=>decide (kv.1=k):=by
 unfold KV at r
 induction r with
 | nil=>rfl
 | cons h t ih=>rw[List.any_cons,List.any_cons,ih,h.1]
theorem KV.repl {kvs:List (κ × V)}{vs:List (κ × Value)} (r:KV kvs vs) (k:κ) {y:V}{u:Value} (ry:RelV y u) :
 KV (kvs.map fun kv=>if kv.1=k then (kv.1,y) else kv) (vs.map fun kv=>if kv.1=k then (kv.1,u) else kv):=by
 unfold KV at r ⊢
 induction r with
 | nil=>exact .nil
 | @cons p q ps qs h t ih =>
  rw[List.map_cons,List.map_cons]
  refine .cons ?_ ih
  obtain⟨h1,h2⟩:=h
  by_cases e:p.1=k
  . rw[if_pos e,if_pos (h1.symm.trans e)];exact⟨h1,ry⟩
  . rw[if_neg e,if_neg (fun z=>e (h1.trans z))];exact⟨h1,h2⟩
theorem KV.put {kvs:List (κ × V)}{vs:List (κ × Value)} (r:KV kvs vs) (k:κ) {y:V}{u:Value} (ry:RelV y u):KV (yk kvs k y) (stored vs k u):=by
 unfold yk stored
 rw[r.any k]
 by_cases e:(vs.any fun kv=>decide (kv.1=k))=true
 . rw[if_pos e,if_pos e];exact r.repl k ry
 . rw[if_neg e,if_neg e];exact Paired.snoc r ⟨rfl,ry⟩
theorem KV.length {kvs:List (κ × V)}{vs:List (κ × Value)} (r:KV kvs vs):kvs.length=vs.length:=Paired.length r
end
theorem VE {P:Program}{w:World}{k:Key}{u:Value} (r:RelV (kV k) u):(j8 P w).is k u=true:=by
 cases k with
 | inl i=>obtain⟨t,e⟩:=(show ∃ t,u=Value.int i t from r);subst e;exact Xf P w i t
 | inr x=>obtain⟨t,e⟩:=(show ∃ t,u=Value.str x t from r);subst e;exact Xg P w x t
theorem VF {P:Program}{w:World}:∀ {ks:List Key}{us:List Value},Vals (ks.map kV) us->ItemsAre (j8 P w) ks us
 | [],_,r=>by rw[List.map_nil] at r;cases r;exact .nil
 | k::ks,_,r=>by
  rw[List.map_cons] at r
  cases r with
  | cons h t=>exact .cons (VE h) (VF t)
abbrev KT (H:Hp):List (List Key × V)->List (List Key × Addr × Value)->Prop:=Paired fun p q=>p.1=q.1/\H q.2.1=some (.tup (p.1.map kV))/\RelV p.2 q.2.2
theorem KT.val {H:Hp}{kvs:List (List Key × V)}{xs:List (List Key × Addr × Value)} (r:KT H kvs xs) (k:List Key):RelO (wC kvs k) ((atKey xs k).map (·.2)):=by
 induction r with
 | nil=>exact True.intro
 | @cons p q ps qs h t ih =>
  obtain⟨h1,_,h2⟩:=h
  by_cases e:p.1=k
  . have e':q.1=k:=h1.symm.trans e
    have b:atKey (q::qs) k=some q.2:=by simp[atKey,List.find?_cons,e']
    rw[yP e,b];exact h2
  . have e':¬q.1=k:=fun z=>e (h1.trans z)
    have b:atKey (q::qs) k=atKey qs k:=by simp[atKey,List.find?_cons,e']
    rw[vS e,b];exact ih
theorem KT.repl {H:Hp}{kvs:List (List Key × V)}{xs:List (List Key × Addr × Value)} (r:KT H kvs xs) (k:List Key) {y:V}{u:Value} (ry:RelV y u) :
 KT H (kvs.map fun kv=>if kv.1=k then (kv.1,y) else kv) (xs.map (putAt k u)):=by
 induction r with
 | nil=>exact .nil
 | @cons p q ps qs h t ih =>
  rw[List.map_cons,List.map_cons]
  refine .cons ?_ ih
  obtain⟨h1,h2,h3⟩:=h
  unfold putAt
  by_cases e:p.1=k
  . rw[if_pos e,if_pos (h1.symm.trans e)];exact⟨h1,h2,ry⟩
  . rw[if_neg e,if_neg (fun z=>e (h1.trans z))];exact⟨h1,h2,h3⟩
theorem KT.put {H:Hp}{kvs:List (List Key × V)}{xs:List (List Key × Addr × Value)} (r:KT H kvs xs) (k:List Key) {b:Addr}{y:V}{u:Value} (hb:H b=some (.tup (k.map kV))) (ry:RelV y u) :
 KT H (yk kvs k y) (storedH xs k b u):=by
 have e:(kvs.any fun kv=>decide (kv.1=k))=(atKey xs k).isSome:=by
  rw[Xp,(r.val k).isSome_eq,Option.isSome_map]
 unfold yk storedH
 rw[e]
 by_cases q:(atKey xs k).isSome=true
 . rw[if_pos q,if_pos q];exact r.repl k ry
 . rw[if_neg q,if_neg q];exact Paired.snoc r ⟨rfl,hb,ry⟩
theorem KT.keeps {H H':Hp}{kvs:List (List Key × V)}{xs:List (List Key × Addr × Value)} (r:KT H kvs xs) (ht:∀ b ys,H b=some (.tup ys)->H' b=some (.tup ys)):KT H' kvs xs :=
 Paired.mapP r fun _ _ z=>⟨z.1,ht _ _ z.2.1,z.2.2⟩
section
variable {P:Program}{w:World}{H:Hp}{h:Heap}{a:Addr}
theorem acb {u:HO} (ok:HOk P w H h) (e:Rd H a u):ObjOk P w H h a u:=e.ok ok
theorem VG {kvs:List (Key × V)} (ok:HOk P w H h) (e:Rd H a (.dK kvs)):kvs.length<=sizeLine/\(a == sysModules)=false/\∃ vs,KV kvs vs/\h.DictOf (j8 P w) a vs :=
 show ObjOk P w H h a (.dK kvs) from acb ok e
theorem acd {kvs:List (Key × V)} (ok:HOk P w H h) (e:H a=some (.dK kvs)):kvs.length<=sizeLine/\(a == sysModules)=false/\∃ vs,KV kvs vs/\h.DictOf (j8 P w) a vs:=VG ok (.inl e)
theorem Kb {ks:List Key} (ok:HOk P w H h) (e:H a=some (.tup (ks.map kV))):(tupleKind (j8 P w)).is h ks a:=by
 obtain⟨_,its,r,o,h1,h2,n,h3⟩:=(show ObjOk P w H h a (.tup (ks.map kV)) from ok a _ e)
 exact⟨o,its.toArray,n,h1,h2,h3,by simpa using VF r⟩
theorem VH {kvs:List (List Key × V)} (ok:HOk P w H h) (e:Rd H a (.dT kvs)):kvs.length<=sizeLine/\(a == sysModules)=false /\
 ∃ xs,KT H kvs xs/\h.DictOfH (tupleKind (j8 P w)) a xs:=by
 obtain⟨z,y,xs,r,o,es,ep,h1,h2,h3,h4,h5⟩:=(show ObjOk P w H h a (.dT kvs) from acb ok e)
 refine⟨z,y,xs,r,o,es,ep,h1,h2,h3,h4,fun x hx=>?_,h5⟩
 have all:∀ {l:List (List Key × V)}{m:List (List Key × Addr × Value)},KT H l m->∀ x∈m,(tupleKind (j8 P w)).is h x.1 x.2.1:=by
  intro l m q
  induction q with
  | nil=>intro x hx;exact nomatch hx
  | @cons p q ps qs hq t ih =>
   intro x hx
   rcases List.mem_cons.mp hx with e | hx
   . subst e
     exact Kb ok (by rw[<-hq.1];exact hq.2.1)
   . exact ih x hx
 exact all r x hx
theorem add {kvs:List (List Key × V)} (ok:HOk P w H h) (e:H a=some (.dT kvs)):kvs.length<=sizeLine/\(a == sysModules)=false /\
 ∃ xs,KT H kvs xs/\h.DictOfH (tupleKind (j8 P w)) a xs:=VH ok (.inl e)
end
def DGet (H:Hp) (a:Addr) (y:V) (r:Option V):Prop :=
 (∃ kvs k,Rd H a (.dK kvs)/\y=kV k/\r=wC kvs k)∨∃ kvs k b,Rd H a (.dT kvs)/\y=.ref b/\H b=some (.tup (k.map kV))/\r=wC kvs k
def DPut (H:Hp) (a:Addr) (y v:V) (H':Hp):Prop :=
 (∃ kvs k,H a=some (.dK kvs)/\y=kV k/\kvs.length<sizeLine/\H'=upd H a (.dK (yk kvs k v))) ∨
 ∃ kvs k b,H a=some (.dT kvs)/\y=.ref b/\H b=some (.tup (k.map kV))/\kvs.length<sizeLine/\H'=upd H a (.dT (yk kvs k v))
theorem DGet.k {H:Hp}{a:Addr}{kvs:List (Key × V)}{k:Key} (e:H a=some (.dK kvs)):DGet H a (kV k) (wC kvs k):=.inl ⟨kvs,k,.inl e,rfl,rfl⟩
theorem DGet.t {H:Hp}{a b:Addr}{kvs:List (List Key × V)}{k:List Key} (e:H a=some (.dT kvs)) (eb:H b=some (.tup (k.map kV))):DGet H a (.ref b) (wC kvs k):=.inr ⟨kvs,k,b,.inl e,rfl,eb,rfl⟩
theorem DPut.k {H:Hp}{a:Addr}{kvs:List (Key × V)}{k:Key}{v:V} (e:H a=some (.dK kvs)) (hl:kvs.length<sizeLine):DPut H a (kV k) v (upd H a (.dK (yk kvs k v))):=.inl ⟨kvs,k,e,rfl,hl,rfl⟩
theorem DPut.t {H:Hp}{a b:Addr}{kvs:List (List Key × V)}{k:List Key}{v:V} (e:H a=some (.dT kvs)) (eb:H b=some (.tup (k.map kV))) (hl:kvs.length<sizeLine) :
 DPut H a (.ref b) v (upd H a (.dT (yk kvs k v))):=.inr ⟨kvs,k,b,e,rfl,eb,hl,rfl⟩
section
variable {X:Cx}{pins:List (Addr × Obj)}{σ:St}{H:Hp}{s:Shared}{a:Addr}{y v:V}{u r:Value}{o:Option V}{A:Around}{E:Value->Shared->Prop}
theorem Inv.big (I:Inv X pins σ H s):sysModules<s.heap.objs.size:=by
 have h:mainGlobals<s.heap.objs.size:=(I.mod.glob.keeps I.bk).lt
 exact Nat.lt_trans (by decide) h
theorem UH {Q:Value->Shared->Prop} (hu:A.units+1<cLine) (I:Inv X pins σ H s) (g:DGet H a y (some v)) (ry:RelV y u) (h:∀ w' s',Inv X pins σ H s'->RelV v w'->Q w' s') :
 wpAny (model X.prog X.w) A (getItem (.ref a) u) Q E s:=by
 rcases g with ⟨kvs,k,e,ey,l⟩ | ⟨kvs,k,b,e,ey,eb,l⟩
 . subst ey
   obtain⟨z,hd,vs,rel,dd⟩:=VG I.hok e
   obtain⟨w',hw,rw'⟩:=RelO.some_of (v:=v) (o:=valueAt vs k) (by rw[l];exact rel.val k)
   exact wpAny_getItem_of (VE ry) dd.mapOf hw (h w' _ (I.tok _) rw')
 . subst ey
   cases (show u=Value.ref b from ry)
   obtain⟨z,hd,xs,rel,dd⟩:=VH I.hok e
   obtain⟨w',hw,rw'⟩:=RelO.some_of (v:=v) (o:=(atKey xs k).map (·.2)) (by rw[l];exact rel.val k)
   obtain⟨p,hp,hp2⟩:=Option.map_eq_some_iff.mp hw
   refine wpAny_getItem_heap (tupleKind_room_in1 hu) (Kb I.hok eb) dd hp ?_
   rw[hp2]
   exact h w' _ (I.tok _) rw'
theorem abO {Q:Value->Shared->Prop} (hu:A.units+1<cLine) (I:Inv X pins σ H s) (g:DGet H a y o) (ry:RelV y u) (h:∀ s',Inv X pins σ H s'->Q (.bool (!o.isSome)) s') :
 wpAny (model X.prog X.w) A (compareOp .NotIn u (.ref a)) Q E s:=by
 rcases g with ⟨kvs,k,e,ey,l⟩ | ⟨kvs,k,b,e,ey,eb,l⟩
 . subst ey
   obtain⟨z,hd,vs,rel,dd⟩:=VG I.hok e
   refine wpAny_notIn_of (VE ry) hd dd.mapOf ?_
   rw[<-(rel.val k).isSome_eq,<-l]
   exact h _ (I.tok _)
 . subst ey
   cases (show u=Value.ref b from ry)
   obtain⟨z,hd,xs,rel,dd⟩:=VH I.hok e
   refine wpAny_notIn_heap (tupleKind_room_in1 hu) (Kb I.hok eb) hd dd ?_
   have q:=(rel.val k).isSome_eq
   rw[Option.isSome_map] at q
   rw[<-q,<-l]
   exact h _ (I.tok _)
theorem Yh {h':Heap}{t':Nat}{ob:HO} (I:Inv X pins σ H s) (mu:Mut (H a)) (hs:Heap.SameBut a s.heap h') (he:∃ q,h'.get? a=some q) (new:ObjOk X.prog X.w (upd H a ob) h' a ob) :
 Inv X pins σ (upd H a ob) { s with heap:=h',toks:=t' } :=
 I.write (x:=a) (e:=a) mu (.inl rfl) (fun b q hb z=>(hs.2 b hb).trans z) he new
theorem aaU {P:Program}{w:World}{H':Hp}{h':Heap}{kvs:List (Key × V)}{vs:List (Key × Value)} (z:kvs.length<=sizeLine) (hd:(a == sysModules)=false) (rel:KV kvs vs) (dd:h'.DictOf (j8 P w) a vs) :
 ObjOk P w H' h' a (.dK kvs):=⟨z,hd,vs,rel,dd⟩
theorem UI {H':Hp}{Q:Unit->Shared->Prop} (hu:A.units+1<cLine) (I:Inv X pins σ H s) (g:DPut H a y v H') (ry:RelV y u) (rv:RelV v r) (h:∀ s',Inv X pins σ H' s'->Q () s') :
 wpAny (model X.prog X.w) A (setItem (.ref a) u r) Q E s:=by
 rcases g with ⟨kvs,k,e,ey,l,eH⟩ | ⟨kvs,k,b,e,ey,eb,l,eH⟩
 . subst ey eH
   obtain⟨z,hd,vs,rel,dd⟩:=acd I.hok e
   have hz:vs.length<=sizeLine:=by rw[<-rel.length];exact z
   have hl:(yk kvs k v).length<=sizeLine:=by have:=u0 kvs k v;omega
   refine wpAny_setItem_pairs (hsz:=hz) (VE ry) dd fun h' dd' hs=>h _ ?_
   have he:∃ q,h'.get? a=some q:=let ⟨q,_,_,hq,_⟩:=dd';⟨q,hq⟩
   exact Yh I (by rw[e];exact True.intro) hs he (aaU hl hd (rel.put k rv) dd')
 . subst ey eH
   cases (show u=Value.ref b from ry)
   obtain⟨z,hd,xs,rel,dd⟩:=add I.hok e
   have hz:xs.length<=sizeLine:=by rw[<-Paired.length rel];exact z
   have hl:(yk kvs k v).length<=sizeLine:=by have:=u0 kvs k v;omega
   refine wpAny_setItem_heap (hsz:=hz) (tupleKind_room_in1 hu) (Kb I.hok eb) dd fun h' dd' hs=>h _ ?_
   obtain⟨q,es,ep,hq,h2,h3,h4,_,h5⟩:=dd'
   refine Yh I (by rw[e];exact True.intro) hs ⟨q,hq⟩ ⟨hl,hd,_,(rel.put k eb rv).keeps fun c ys ec=>?_,q,es,ep,hq,h2,h3,h4,h5⟩
   rw[zh (aaz ec e (fun z=>nomatch z))]
   exact ec
end
def ade (i:Expr):Prop:=∀ ov iv,subscripted i false ov iv=operate [ov,iv] (getItem ov iv)
theorem abP {prog:Program}{w:World}{A:Around}{E:Value->Shared->Prop}{s:Shared}{env:Env}{value slice:Expr}{pos:Pos}{T id:String}{Q:Value->Shared->Prop}
 (hl:typeLookup (.type T) "__getitem__"=pure (some (.builtin id))) (hs:ade slice)
 (h:wpAny (model prog w) A (eval value env) (fun o s₁=>wpAny (model prog w) A (eval slice env) (fun i s₂=>s₂.TypeIs o T/\wpAny (model prog w) A (getItem o i) Q E s₂) E s₁) E s) :
 wpAny (model prog w) A (eval (.Subscript value slice pos) env) Q E s:=by
 refine Subscript_ (wpAny_mono h (fun o s₁ h₁=>wpAny_mono h₁ (fun i s₂ h₂=>?_) fun _ _ x=>x) fun _ _ x=>x)
 obtain⟨hT,h₂⟩:=h₂
 unfold subscriptTail
 refine wpAny_bind ?_
 rw[getitemInPython_of_ne hT.not_modules]
 refine wpAny_bind (wpAny_specialOf hT hl ?_)
 have fin:wpAny (model prog w) A (subscripted slice false o i) (fun r s₃=>wpAny (model prog w) A (letTemporaryGo value o r >>= fun _=>pure r) Q E s₃) E s₂:=by
  rw[hs o i]
  exact wpAny_operating (wpAny_mono h₂ (fun r s₃ h₃=>wpAny_bind (wpAny_letTemporaryGo (wpAny_pure h₃))) fun _ _ x=>x)
 first
  | exact wpAny_pure (wpAny_bind fin)
  | exact wpAny_bind (wpAny_pure (wpAny_bind fin))
  | exact wpAny_bind fin
theorem Xr {X:Cx}{pins:List (Addr × Obj)}{σ:St}{H:Hp}{s:Shared}{a:Addr}{y:V}{o:Option V} (I:Inv X pins σ H s) (g:DGet H a y o):s.TypeIs (.ref a) "dict":=by
 rcases g with ⟨kvs,k,e,_,_⟩ | ⟨kvs,k,b,e,_,_,_⟩
 . obtain⟨_,_,vs,_,dd⟩:=VG I.hok e
   exact dd.typeIs
 . obtain⟨_,_,xs,_,dd⟩:=VH I.hok e
   exact dd.typeIs
def Kc (td ty:TE):TE:=fun σ H Q=>td σ H fun x H1=>ty σ H1 fun y H2=>∃ a v,x=.ref a/\DGet H2 a y (some v)/\Q v H2
def abQ (ty td:TE):TE:=fun σ H Q=>ty σ H fun y H1=>td σ H1 fun x H2=>∃ a o,x=.ref a/\DGet H2 a y o/\Q (.bl (!o.isSome)) H2
def ace (td ty tv:TE):TS:=fun D σ H=>tv σ H fun v H1=>td σ H1 fun x H2=>ty σ H2 fun y H3=>∃ a H4,x=.ref a/\DPut H3 a y v H4/\D.nx σ H4
section
variable {X:Cx}{o i e value:Expr}{pos pos' tpos:Pos}{td ty tv:TE}
theorem qk (hu:X.A.units+1<cLine) (ho:PE X o td) (hi:PE X i ty) (hs:ade i):PE X (.Subscript o i pos) (Kc td ty):=by
 intro pins s σ H Q I h
 refine abP PySem.F.slot_dict_getitem.lookup hs (thn (ho pins s σ H _ I h) fun u s1 ⟨x,H1,I1,rx,q1⟩=>thn (hi pins s1 σ H1 _ I1 q1) fun iv s2 ⟨y,H2,I2,ry,a,v,ex,g,q2⟩=>?_)
 subst ex
 obtain rfl:u=Value.ref a:=rx
 exact⟨Xr I2 g,UH hu I2 g ry fun w' s3 I3 rw'=>⟨v,H2,I3,rw',q2⟩⟩
theorem vt (hu:X.A.units+1<cLine) (hi:PE X i ty) (ho:PE X o td):PC X .NotIn i o (abQ ty td):=by
 intro pins s σ H Q I h
 refine thn (hi pins s σ H _ I h) fun iv s1 ⟨y,H1,I1,ry,q1⟩=>thn (ho pins s1 σ H1 _ I1 q1) fun u s2 ⟨x,H2,I2,rx,a,ov,ex,g,q2⟩=>?_
 subst ex
 obtain rfl:u=Value.ref a:=rx
 exact abO hu I2 g ry fun s3 I3=>⟨.bl (!ov.isSome),H2,I3,rfl,q2⟩
theorem ZQ (hu:X.A.units+1<cLine) (ho:PE X o td) (hi:PE X i ty) (hv:PE X value tv) (hs:swapsWith value (some (.Subscript o i pos')) pos.line X.env=pure false) :
 PS X (.Assign [.Subscript o i pos'] value pos) (ace td ty tv):=by
 intro pins s σ H D I h
 refine wpAny_Assign_Subscript (thn (hv pins s σ H _ I h) fun r s1 ⟨v,H1,I1,rv,q1⟩=>thn (ho pins s1 σ H1 _ I1 q1) fun u s2 ⟨x,H2,I2,rx,q2⟩=>thn (hi pins s2 σ H2 _ I2 q2) fun iv s3 ⟨y,H3,I3,ry,a,H4,ex,g,q3⟩=>?_) hs
 subst ex
 obtain rfl:u=Value.ref a:=rx
 exact UI hu I3 g ry rv fun s4 I4=>⟨σ,H4,I4,q3⟩
end
theorem aaV {P:Program}{w:World}{H:Hp} (h:Heap) (hb:sysModules<h.objs.size):ObjOk P w H (h.push { cls:=.type "dict",data:=.dict #[] }) h.objs.size (.dK []) :=
 ⟨Nat.zero_le _,beq_eq_false_iff_ne.mpr (Ne.symm (Nat.ne_of_lt hb)),[],.nil,Heap.DictOf.new h⟩
theorem aaW {P:Program}{w:World}{H:Hp} (h:Heap) (hb:sysModules<h.objs.size):ObjOk P w H (h.push { cls:=.type "dict",data:=.dict #[] }) h.objs.size (.dT []) :=
 ⟨Nat.zero_le _,beq_eq_false_iff_ne.mpr (Ne.symm (Nat.ne_of_lt hb)),[],.nil,_,#[],0,Heap.get?_push_size _ rfl,⟨rfl,rfl,rfl⟩,rfl,rfl,List.nodup_nil⟩
def acz:TE:=fun _ H Q=>∀ p,H p=none->Q (.ref p) (upd H p (.dT []))
section
variable {X:Cx}{pos:Pos}
theorem u4:PE X (.Dict [] [] pos) acz:=fun pins s σ H Q I h =>
 wpAny_Dict_empty ⟨.ref s.heap.objs.size,_,I.laid (a:=s.heap.objs.size) (o:=.dT []) (t':=s.toks) (fun _ _ q=>Heap.get?_push_of_some _ q) (Nat.le_refl _) (aaW s.heap I.big),rfl,h _ (I.hok.fresh (Nat.le_refl _))⟩
end
def Wo:List (TE × TE)->St->Hp->(List (V × V)->Hp->Prop)->Prop
 | [],_,H,Q=>Q [] H
 | (tk,tv)::r,σ,H,Q=>tk σ H fun x H1=>tv σ H1 fun y H2=>Wo r σ H2 fun ps H3=>Q ((x,y)::ps) H3
abbrev VV:List (V × V)->List (Value × Value)->Prop:=Paired fun p q=>RelV p.1 q.1/\RelV p.2 q.2
def PPs (X:Cx) (pos:Pos) (keys:List (Option Expr)) (values:List Expr) (trs:List (TE × TE)):Prop :=
 ∀ (pins:List (Addr × Obj)) (s:Shared) (σ:St) (H:Hp) (Q:List (V × V)->Hp->Prop),Inv X pins σ H s->Wo trs σ H Q ->
  wpAny (model X.prog X.w) X.A (evalPairs (pairTrees keys values X.env pos)) (fun vs s'=>∃ ps H',Inv X pins σ H' s'/\VV ps vs/\Q ps H') X.xe s
theorem ZR {X:Cx}{pos:Pos}:PPs X pos [] [] []:=fun pins s σ H Q I h=>pairTrees_nil_walk ⟨[],H,I,.nil,h⟩
theorem kS {X:Cx}{pos:Pos}{k v:Expr}{ks:List (Option Expr)}{vs:List Expr}{tk tv:TE}{trs:List (TE × TE)} (hk:PE X k tk) (hv:PE X v tv) (hr:PPs X pos ks vs trs) :
 PPs X pos (some k::ks) (v::vs) ((tk,tv)::trs):=fun pins s σ H Q I h =>
 pairTrees_cons_walk (thn (hk pins s σ H _ I h) fun u s1 ⟨x,H1,I1,rx,q1⟩=>thn (hv pins s1 σ H1 _ I1 q1) fun w2 s2 ⟨y,H2,I2,ry,q2⟩ =>
  thn (hr pins s2 σ H2 _ I2 q2) fun ws s3 ⟨ps,H3,I3,rel,q3⟩=>⟨(x,y)::ps,H3,I3,.cons ⟨rx,ry⟩ rel,q3⟩)
def u5 (kvs more:List (Key × V)):List (Key × V):=more.foldl (fun acc kv=>yk acc kv.1 kv.2) kvs
theorem KV.merge:∀ {more:List (Key × V)}{rs:List (Key × Value)}{kvs:List (Key × V)}{vs:List (Key × Value)},KV more rs->KV kvs vs->KV (u5 kvs more) (merged vs rs):=by
 intro more rs kvs vs r
 unfold KV at r
 induction r generalizing kvs vs with
 | nil=>intro q;exact q
 | @cons p q ps qs h t ih =>
  intro r0
  have e:KV (yk kvs p.1 p.2) (stored vs q.1 q.2):=by
   have:=r0.put p.1 h.2
   rw[<-h.1];exact this
  exact ih e
theorem uT:∀ (more kvs:List (Key × V)),(u5 kvs more).length<=kvs.length+more.length
 | [],kvs=>by show kvs.length<=kvs.length+0;omega
 | p::r,kvs=>by
  have h1:=uT r (yk kvs p.1 p.2)
  have h2:=u0 kvs p.1 p.2
  show (u5 (yk kvs p.1 p.2) r).length<=_
  rw[List.length_cons];omega
theorem Kd {P:Program}{w:World}:∀ {kvs:List (Key × V)}{ws:List (Value × Value)},VV (kvs.map fun kv=>(kV kv.1,kv.2)) ws->∃ rs,Carries (j8 P w) ws rs/\KV kvs rs
 | [],_,r=>by rw[List.map_nil] at r;cases r;exact⟨[],True.intro,.nil⟩
 | p::kvs,_,r=>by
  rw[List.map_cons] at r
  cases r with
  | @cons a b as bs h t =>
   obtain⟨rs,c,q⟩:=Kd (P:=P) (w:=w) t
   obtain⟨b1,b2⟩:=b
   exact⟨(p.1,b2)::rs,⟨VE h.1,rfl,c⟩,.cons ⟨rfl,h.2⟩ q⟩
def adf (trs:List (TE × TE)):TE:=fun σ H Q=>∀ p,H p=none->Wo trs σ (upd H p (.dK [])) fun ps H2=>H2 p=some (.dK [])/\∃ kvs:List (Key × V),ps=kvs.map (fun kv=>(kV kv.1,kv.2))/\kvs.length<=15/\Q (.ref p) (upd H2 p (.dK (u5 [] kvs)))
theorem ZS {X:Cx}{pos:Pos}{keys:List (Option Expr)}{values:List Expr}{trs:List (TE × TE)} (h:PPs X pos keys values trs) (hall:keys.all (·.isSome)=true) (hl:keys.length=values.length) (h0:keys≠[])
 (h15:keys.length<=15):PE X (.Dict keys values pos) (adf trs):=by
 intro pins s σ H Q I q
 have hn:=I.hok.fresh (Nat.le_refl s.heap.objs.size)
 have I1:=I.laid (a:=s.heap.objs.size) (o:=.dK []) (h':=s.heap.push { cls:=.type "dict",data:=.dict #[] }) (t':=s.toks) (fun _ _ q=>Heap.get?_push_of_some _ q) (Nat.le_refl _) (aaV s.heap I.big)
 refine wpAny_Dict_walk (knd:=j8 X.prog X.w) hall hl h0 h15 (thn (h pins _ σ _ _ I1 (q _ hn)) fun ws s2 ⟨ps,H2,I2,rel,e,kvs,ep,lk,q2⟩=>?_)
 subst ep
 obtain⟨rs,c,rk⟩:=Kd (P:=X.prog) (w:=X.w) rel
 obtain⟨z,hd,vs0,r0,dd⟩:=acd I2.hok e
 cases r0
 refine⟨rs,c,dd,fun h' dd' hs=>⟨.ref s.heap.objs.size,_,?_,rfl,q2⟩⟩
 have hz:(u5 [] kvs).length<=sizeLine:=by
  have h1:=uT kvs []
  rw[List.length_nil] at h1
  rw[sizeLine_eq];omega
 have he:∃ q,h'.get? s.heap.objs.size=some q:=let ⟨q,_,_,hq,_⟩:=dd';⟨q,hq⟩
 exact Yh I2 (by rw[e];exact True.intro) hs he (aaU hz hd (rk.merge .nil) dd')
structure M2 (X:Cx) (o:Expr) (m:Str) (apos:Pos) (e f:Expr) (cpos:Pos):Prop where
 base:attributeBase o m X.env (eval o X.env)=eval o X.env
 few:((backTo cpos (starEach [e,f] X.env)).all (fun x=>!x.1) && (backToKw cpos (keywordEach [] X.env)).all (fun x=>x.1.isSome)
  && decide (([e,f]:List Expr).length+([]:List Keyword).length+(if ([]:List Keyword).isEmpty then 0 else 1)<30))=true
 line:(apos.endLine == cpos.line)=true
 trees:backTo cpos (starEach [e,f] X.env)=[(false,eval e X.env),(false,eval f X.env)]
def IsD (H:Hp) (a:Addr):Prop:=(∃ kvs,Rd H a (.dK kvs))∨∃ kvs,Rd H a (.dT kvs)
theorem acA {X:Cx}{pins:List (Addr × Obj)}{σ:St}{H:Hp}{s:Shared}{a:Addr} (I:Inv X pins σ H s) (d:IsD H a) :
 s.TypeIs (.ref a) "dict"/\(∀ b,Value.ref a=.ref b->∃ ob,s.heap.get? b=some ob/\ob.dict=none)/\(a == sysModules)=false:=by
 rcases d with ⟨kvs,e⟩ | ⟨kvs,e⟩
 . obtain⟨_,hd,vs,_,dd⟩:=VG I.hok e
   refine⟨dd.typeIs,fun b q=>?_,hd⟩
   cases q
   obtain⟨ob,_,_,h1,h2,_⟩:=dd
   exact⟨ob,h1,h2.2.1⟩
 . obtain⟨_,hd,xs,_,dd⟩:=VH I.hok e
   refine⟨dd.typeIs,fun b q=>?_,hd⟩
   cases q
   obtain⟨ob,_,_,h1,h2,_⟩:=dd
   exact⟨ob,h1,h2.2.1⟩
section
variable {X:Cx}{pins:List (Addr × Obj)}{σ:St}{H:Hp}{s:Shared}{a:Addr}{y d:V}{u r:Value}{o:Option V}{A:Around}{E:Value->Shared->Prop}
theorem acB {Q:Value->Shared->Prop} (hu:A.units+1<cLine) (I:Inv X pins σ H s) (g:DGet H a y o) (ry:RelV y u) (rd:RelV d r) (h:∀ w' s',Inv X pins σ H s'->RelV (o.getD d) w'->Q w' s') :
 wpAny (model X.prog X.w) A (call (.builtin "dict.get") [.ref a,u,r]) Q E s:=by
 rcases g with ⟨kvs,k,e,ey,l⟩ | ⟨kvs,k,b,e,ey,eb,l⟩
 . subst ey
   obtain⟨z,hd,vs,rel,dd⟩:=VG I.hok e
   refine call_meetsIn PySem.F.slot_dict_get dd.typeIs PySem.F.entry_dict_get (PySem.F.args_dict_get_3 _ _ _) (meets_dict_get_default (j8 X.prog X.w) a (VE ry) hd r) ⟨_,dd.mapOf,h _ _ (I.tok _) ?_⟩
   rw[l]
   exact (rel.val k).getD rd
 . subst ey
   cases (show u=Value.ref b from ry)
   obtain⟨z,hd,xs,rel,dd⟩:=VH I.hok e
   refine call_meetsIn PySem.F.slot_dict_get dd.typeIs PySem.F.entry_dict_get (PySem.F.args_dict_get_3 _ _ _) (meetsH_dict_get_default (tupleKind (j8 X.prog X.w)) a b hd r) ⟨tupleKind_room_in1 hu,k,xs,Kb I.hok eb,dd,h _ _ (I.tok _) ?_⟩
   rw[l]
   exact (rel.val k).getD rd
end
def acC (td ty tx:TE):TE:=fun σ H Q=>td σ H fun x H1=>∃ a,x=.ref a/\IsD H1 a/\ty σ H1 fun y H2=>tx σ H2 fun z H3=>∃ o,DGet H3 a y o/\Q (o.getD z) H3
section
variable {X:Cx}{o e f:Expr}{apos cpos:Pos}{td ty tx:TE}
theorem aaX (hu:X.A.units+1<cLine) (ho:PE X o td) (he:PE X e ty) (hf:PE X f tx) (m:M2 X o "get" apos e f cpos):PE X (.Call (.Attribute o "get" apos) [e,f] [] cpos) (acC td ty tx):=by
 intro pins s σ H Q I h
 refine wpAny_Call_method m.base m.few m.line PySem.F.plainAttrs_dict PySem.F.slot_dict_get PySem.F.type_dict_get (thn (ho pins s σ H _ I h) fun u s1 ⟨x,H1,I1,rx,a,ex,d,q1⟩=>?_)
 subst ex
 obtain rfl:u=Value.ref a:=rx
 obtain⟨t1,t2,_⟩:=acA I1 d
 refine⟨t1,t2,?_⟩
 rw[m.trees]
 refine Calls.callWith_builtin rfl (Calls.evalArgs_plain (Calls.spliced_cons (thn (he pins s1 σ H1 _ I1 q1) fun iv s2 ⟨y,H2,I2,ry,q2⟩ =>
  Calls.spliced_cons (thn (hf pins s2 σ H2 _ I2 q2) fun fv s3 ⟨z,H3,I3,rz,ov,g,q3⟩=>Calls.spliced_nil ?_))))
 exact acB hu I3 g ry rz fun w' s4 I4 rw'=>⟨_,H3,I4,rw',q3⟩
end
end L2
namespace L2
open PySem PySem.Spec PyProof.Rows
end L2
namespace L2
open PySem PySem.Spec PyProof.Rows
theorem Ke:bootBuiltins "reversed"=some (.type "reversed"):=by decide +kernel
section
variable {X:Cx}{pins:List (Addr × Obj)}{σ:St}{H:Hp}{s:Shared}{h':Heap}
theorem Inv.turnedL {t':Nat}{ch:List Addr} (I:Inv X pins σ H s) (k:∀ b o,b ∉ ch->s.heap.get? b=some o->h'.get? b=some o) (hf:∀ b∈ch,Jk X pins H b):Inv X pins σ H { s with heap:=h',toks:=t' }:=by
 have nit:∀ b u,H b=some u->b ∉ ch:=fun b u e z=>by
  have q:=(hf b z).1
  rw[q] at e;cases e
 refine I.step (g':=s.gens) (d':=s.drawn) (ch:=ch) (fun b hb=>⟨(hf b hb).2.2.2.1,(hf b hb).2.1,(hf b hb).2.2.2.2.1,(hf b hb).2.2.2.2.2⟩) (fun b o _ _ hc e _=>k b o hc e) (fun b o _ _ hc e _=>⟨o.slots,k b o hc e⟩)
  (fun _ _ _ _ n=>n) (fun b o hc e=>⟨o,k b o hc e⟩) (fun _ _ e=>e) (fun _ _ _ e=>e) (fun b ps e=>⟨#[],by rw[e];simp⟩) (fun m hm=>?_) (fun b u e=>?_) I.bare
 . obtain⟨o,es,ep,ho,r⟩:=hm
   exact⟨o,es,ep,k _ o (fun z=>(hf _ z).2.1 rfl) ho,r⟩
 . refine (I.hok b u e).stay (fun c v hc q=>k c v ?_ q) (fun _ q=>q) fun _ _ q=>q
   rcases hc with z | z
   . rw[z];exact nit b u e
   . exact nit c _ z
theorem Inv.turnedNew {t':Nat}{ch:List Addr}{T:Addr}{ob:HO} (I:Inv X pins σ H s) (k:∀ b o,b ∉ ch->s.heap.get? b=some o->h'.get? b=some o) (hf:∀ b∈ch,Jk X pins H b) (hT:s.heap.objs.size<=T)
 (new:ObjOk X.prog X.w (upd H T ob) h' T ob):Inv X pins σ (upd H T ob) { s with heap:=h',toks:=t' }:=by
 have hn:H T=none:=I.hok.fresh hT
 have nit:∀ b u,H b=some u->b ∉ ch:=fun b u e z=>by
  have q:=(hf b z).1
  rw[q] at e;cases e
 refine I.step (g':=s.gens) (d':=s.drawn) (ch:=ch) (fun b hb=>⟨(hf b hb).2.2.2.1,(hf b hb).2.1,(hf b hb).2.2.2.2.1,(hf b hb).2.2.2.2.2⟩) (fun b o _ _ hc e _=>k b o hc e) (fun b o _ _ hc e _=>⟨o.slots,k b o hc e⟩)
  (fun b o _ e n=>?_) (fun b o hc e=>⟨o,k b o hc e⟩) (fun b xs e=>?_) (fun b o u e=>?_) (fun b ps e=>⟨#[],?_⟩) (fun m hm=>?_) (fun b u e=>?_) I.bare
 . rw[zh (Nat.ne_of_lt (Nat.lt_of_lt_of_le (Heap.lt_size e) hT))];exact n
 . rw[zh (zg e hn)];exact e
 . rw[zh (zg e hn)];exact e
 . rw[zh (zg e hn),e];simp
 . obtain⟨o,es,ep,ho,r⟩:=hm
   exact⟨o,es,ep,k _ o (fun z=>(hf _ z).2.1 rfl) ho,r⟩
 . by_cases hb:b=T
   . subst hb
     rw[zf] at e
     cases e
     exact new
   . rw[zh hb] at e
     refine (I.hok b u e).stay (fun c v hc q=>k c v ?_ q) (fun c q=>by rw[zh (zg q hn)];exact q) fun c xs q=>by rw[zh (zg q hn)];exact q
     rcases hc with z | z
     . rw[z];exact nit b u e
     . exact nit c _ z
theorem Inv.lock {d:Addr}{u:HO} (I:Inv X pins σ H s) (h:H d=some u) (mu:Mut (some u)):∃ od,Inv X pins σ (upd H d (.frz od u)) s:=by
 have x:=I.hok d u h
 have ex:∃ od,s.heap.get? d=some od:=by
  cases u with
  | lst xs=>obtain⟨_,_,_,_,e⟩:=x;exact⟨_,e⟩
  | dK kvs=>obtain⟨_,_,_,_,o,_,_,e,_⟩:=x;exact⟨o,e⟩
  | dT kvs=>obtain⟨_,_,_,_,o,_,_,e,_⟩:=x;exact⟨o,e⟩
  | set S n=>obtain⟨o,_,_,_,e,_⟩:=x;exact⟨o,e⟩
  | ins C dx fs=>obtain⟨_,_,_,e,_⟩:=x;exact⟨_,e⟩
  | ext φ=>obtain⟨_,⟨_,e⟩,_⟩:=x;exact⟨_,e⟩
  | _=>exact False.elim mu
 obtain⟨od,e⟩:=ex
 have new:ObjOk X.prog X.w (upd H d (.frz od u)) s.heap d (.frz od u):=by
  refine⟨e,x.stay (fun b v _ q=>q) (fun b q=>?_) fun b xs q=>?_⟩
  . rw[zh (fun z=>by rw[z,h] at q;cases q;exact mu)];exact q
  . rw[zh (fun z=>by rw[z,h] at q;cases q;exact mu)];exact q
 exact⟨od,I.write (x:=d) (e:=d) (t':=s.toks) (h':=s.heap) (by rw[h];exact mu) (.inl rfl) (fun b v _ q=>q) ⟨od,e⟩ new⟩
theorem Inv.nofrz {d:Addr}{u:HO} (I:Inv X pins σ H s) (h:H d=some u) (mu:Mut (some u)):∀ o' u',X.H_0 d≠some (.frz o' u'):=fun o' u' e=>by
 have q:=I.base.frzs d o' u' e
 rw[h] at q
 cases q
 exact mu
theorem Inv.unlock {d:Addr}{od:Obj}{u:HO} (I:Inv X pins σ H s) (h:H d=some (.frz od u)) (hn:∀ o' u',X.H_0 d≠some (.frz o' u')):Inv X pins σ (upd H d u) s:=by
 have neH:∀ b o,H b=some o->(∀ o' u',o≠.frz o' u')->b≠d:=fun b o e hne z=>by
  rw[z,h] at e
  cases e
  exact hne _ _ rfl
 have neN:∀ b,H b=none->b≠d:=fun b e z=>by rw[z,h] at e;cases e
 refine⟨I.ok,I.os,I.bare,⟨I.base.keep,I.base.slot,fun b o e n hx=>?_,I.base.there,fun b xs e=>?_,fun b o x e=>?_,fun b ps e=>?_⟩,I.loc,I.cell,?_,fun x c e=>?_,fun p hp=>?_,fun b o e=>?_,I.len⟩
 . rw[zh (neN b (I.base.free b o e n hx))];exact I.base.free b o e n hx
 . have q:=I.base.tups b xs e
   rw[zh (neH b _ q (fun _ _ z=>nomatch z))];exact q
 . have q:=I.base.frzs b o x e
   rw[zh (fun z=>by rw[z] at e;exact hn _ _ e)];exact q
 . obtain⟨m,q⟩:=I.base.tbls b ps e
   exact⟨m,by rw[zh (neH b _ q (fun _ _ z=>nomatch z))];exact q⟩
 . rw[zh (neN _ I.free)];exact I.free
 . rw[zh (neN c (I.freeC x c e))];exact I.freeC x c e
 . obtain⟨e,n,r⟩:=I.pin p hp
   exact⟨e,by rw[zh (neN _ n)];exact n,r⟩
 . by_cases hb:b=d
   . rw[hb,zf] at e
     cases e
     rw[hb]
     obtain⟨_,x⟩:=I.hok d _ h
     exact x.stay (fun c v _ q=>q) (fun c q=>by rw[zh (neH c _ q (fun _ _ z=>nomatch z))];exact q) fun c xs q=>by rw[zh (neH c _ q (fun _ _ z=>nomatch z))];exact q
   . rw[zh hb] at e
     exact (I.hok b o e).stay (fun c v _ q=>q) (fun c q=>by rw[zh (neH c _ q (fun _ _ z=>nomatch z))];exact q) fun c xs q=>by rw[zh (neH c _ q (fun _ _ z=>nomatch z))];exact q
end
def adg (t:TS):TS:=fun D σ H=>∃ d u,H d=some u/\Mut (some u)/\∀ od,t ⟨fun σ' H'=>H' d=some (.frz od u)/\D.nx σ' (upd H' d u),fun v H'=>H' d=some (.frz od u)/\D.rt v (upd H' d u),fun σ' H'=>H' d=some (.frz od u)/\D.bk σ' (upd H' d u),fun σ' H'=>H' d=some (.frz od u)/\D.ct σ' (upd H' d u)⟩ σ (upd H d (.frz od u))
section
variable {X:Cx}
theorem abR {st:Stmt}{t:TS} (h:PS X st t):PS X st (adg t):=by
 intro pins s σ H D I hw
 obtain⟨d,u,hd,mu,hw⟩:=hw
 obtain⟨od,I1⟩:=I.lock hd mu
 refine thn (h pins s σ _ _ I1 (hw od)) fun f s1 q=>?_
 cases f with
 | next=>obtain⟨σ',H',I2,e,q⟩:=q;exact⟨σ',_,I2.unlock e (I.nofrz hd mu),q⟩
 | brk=>obtain⟨σ',H',I2,e,q⟩:=q;exact⟨σ',_,I2.unlock e (I.nofrz hd mu),q⟩
 | cont=>obtain⟨σ',H',I2,e,q⟩:=q;exact⟨σ',_,I2.unlock e (I.nofrz hd mu),q⟩
 | ret v=>obtain⟨x,σ',H',I2,r,e,q⟩:=q;exact⟨x,σ',_,I2.unlock e (I.nofrz hd mu),r,q⟩
theorem acD {tg:Expr}{pins:List (Addr × Obj)}{σ:St}{H:Hp}{s:Shared}{R:It->Hp->Prop}{J:It}{tn:Nat->Heap->Prop}{tk:Nat} (I:Inv X pins σ H s) (o:Obj)
 (T:Wg X.prog X.w X.K tg J [s.heap.objs.size] s.heap.objs.size tn) (st:tn 0 (s.heap.push o)) (q:R J H):PIE X pins σ tg R (.ref s.heap.objs.size) { s with heap:=s.heap.push o,toks:=tk }:=by
 refine⟨s.heap.objs.size,[s.heap.objs.size],tn,J,H,rfl,I.kept fun b ob e=>Heap.get?_push_of_some _ e,T,st,fun b hb=>?_,q⟩
 have e:b=s.heap.objs.size:=by simpa using hb
 subst e
 exact I.fpOk (Nat.le_refl _) (I.hok.fresh (Nat.le_refl _))
end
theorem Kf {α β:Type}{G:α->β->Prop}{l₁:List α}{l₂:List β} (h:Paired G l₁ l₂):∀ {i:Nat}{a:α},l₁[i]?=some a->∃ b,l₂[i]?=some b/\G a b:=by
 induction h with
 | nil=>intro i a e;simp at e
 | @cons a b l₁ l₂ r t ih =>
  intro i a' e
  cases i with
  | zero =>
   simp only[List.getElem?_cons_zero,Option.some.injEq] at e
   subst e
   exact⟨b,rfl,r⟩
  | succ j =>
   simp only[List.getElem?_cons_succ] at e ⊢
   exact ih e
theorem U4 {o:Obj}{es es':Array DictEntry}{ep ep':Nat} (h:o.data=.dict es ep) (h':o.data=.dict es' ep'):es'=es/\ep'=ep:=by
 rw[h] at h'
 cases h'
 exact⟨rfl,rfl⟩
def Ite (K:PySem.W.Frag) (a:Addr):It :=
 ⟨fun i H=>∃ (xs:List V) (x:V),SqL K H a xs/\xs[i]?=some x,fun i H v H'=>∃ T x,v=.ref T/\H T=none/\H'=upd H T (.tup [.int (i:Nat),x])/\∀ xs,SqL K H a xs->xs[i]?=some x,fun i H=>∃ xs:List V,SqL K H a xs/\xs.length<=i⟩
theorem UJ {P:Program}{w:World}{K:PySem.W.Frag}{elts:List Expr}{kk:Nat}{tpos:Pos} (a e it:Addr) :
 Wg P w K (.Tuple elts kk tpos) (Ite K a) [e,it] e (fun i h=>(∃ old,IsEnum h e it ((i:Nat):Int) old)/\h.IsListIter it a i/\e≠it) where
 mem:=by simp
 obj:=fun i h st b hb=>by
  obtain⟨⟨old,he⟩,⟨o,ho,hc,hd⟩,_⟩:=st
  have e':b=e∨b=it:=by simpa using hb
  rcases e' with z | z
  . rw[z];exact⟨_,he,fun v q=>nomatch q⟩
  . rw[z];exact⟨o,ho,fun v q=>by rw[hd] at q;cases q⟩
 keep:=fun i h h' st k=>let ⟨⟨old,he⟩,hi,hne⟩:=st;⟨⟨old,k e (by simp) _ he⟩,hi.at fun o q=>k it (by simp) o q,hne⟩
 item:=by
  intro X hP hw hK hc i pins s σ H E I hf st hg
  subst hP hw hK
  obtain⟨⟨old,he⟩,hit,hne⟩:=st
  obtain⟨xs,x,hq,hx⟩:=hg
  obtain⟨its,rv,p,hz⟩:=I.list hq
  obtain⟨u,hu,ru⟩:=rv.get hx
  have hel:e<s.heap.objs.size:=Heap.lt_size he
  have hil:it<s.heap.objs.size:=by obtain⟨_,q,_⟩:=hit;exact Heap.lt_size q
  refine wpAny_pyNext_enum_item he hit p.isList (x:=u) (by simpa using hu) hne fun h' ho hit' hT hsz hk=>?_
  refine⟨_,rfl,wpAny_letOwnedTupleGo_enum (s:={ s with heap:=h',toks:=s.toks+1 }) ho fun h'' he' sb=>?_⟩
  have hT2:h''.get? s.heap.objs.size=some { cls:=.type "tuple",data:=.seq #[.int i s.toks,u] }:=(sb.2 _ (Nat.ne_of_gt hel)).trans hT
  have new:ObjOk X.prog X.w (upd H s.heap.objs.size (.tup [.int (i:Nat),x])) h'' s.heap.objs.size (.tup [.int (i:Nat),x]) :=
   ⟨by show 2<=sizeLine;decide,[.int i s.toks,u],.cons ⟨_,rfl⟩ (.cons ru .nil),⟨_,hT2,rfl,_,rfl⟩⟩
  have I1:Inv X pins σ (upd H s.heap.objs.size (.tup [.int (i:Nat),x])) { s with heap:=h'',toks:=s.toks+1 } :=
   I.turnedNew (ch:=[e,it]) (fun b ob hb q=>(sb.2 b (fun z=>hb (by simp[z]))).trans (hk b ob (fun z=>hb (by simp[z])) (fun z=>hb (by simp[z])) q)) hf (Nat.le_refl _) new
  refine⟨.ref s.heap.objs.size,_,I1,rfl,⟨_,x,rfl,I.hok.fresh (Nat.le_refl _),rfl,fun ys hy=>by rw[I.list_inj hy hq];exact hx⟩,⟨⟨u,?_⟩,hit'.at fun o q=>(sb.2 it (Ne.symm hne)).trans q,hne⟩,fun b hb=>?_⟩
  . have e1:((i+1:Nat):Int)=(i:Int)+1:=by omega
    rw[e1];exact he'
  . have hb':b<s.heap.objs.size:=by
     have e':b=e∨b=it:=by simpa using hb
     rcases e' with z | z
     . rw[z];exact hel
     . rw[z];exact hil
    rw[zh (Nat.ne_of_lt hb')]
    exact (hf b hb).1
 done:=by
  intro X hP hw hK hc i pins s σ H E I hf st hg
  subst hP hw hK
  obtain⟨⟨old,he⟩,hit,hne⟩:=st
  obtain⟨xs,hq,hx⟩:=hg
  obtain⟨its,rv,p,hz⟩:=I.list hq
  obtain⟨f0,f1,f2,f3,f4,f5⟩:=hf it (by simp)
  have hl:=rv.length
  exact wpAny_pyNext_enum_end (I.ok.hd hc) he hit p.isList (by simp;omega) fun h' eb=>⟨rfl,I.turned (t':=s.toks) (fun b o hb q=>eb b o hb q) f0 f1 f3 f4 f5⟩
 self:=fun A i s Q E st h=>let ⟨⟨_,he⟩,_⟩:=st;wpAny_pyIter_enum he h
def adh (K:PySem.W.Frag) (ta:TA):TI:=fun σ H R=>ta σ H fun vs H1=>∃ a xs,vs=[.ref a]/\SqL K H1 a xs/\R (Ite K a) H1
theorem abS {X:Cx}{e:Expr}{ta:TA}{p pos tpos:Pos}{elts:List Expr}{kk:Nat} (hg:Gl X "enumerate") (hm:X.mg "enumerate"=none) (ha:PA X [e] ta) (hs:starEach [e] X.env=[(false,eval e X.env)]:=by rfl) :
 PI X (.Tuple elts kk tpos) (.Call (.Name "enumerate" p) [e] [] pos) (adh X.K ta):=by
 intro pins s σ H R I h
 refine Call_ (wT I hg hm boot_enumerate (PyProof.Rows.callWith_type1 (thn (ha pos pins s σ H _ I h) fun us s1 ⟨vs,H1,I1,r1,q1⟩=>?_) hs rfl))
 obtain⟨a,xs,ex,hq,q⟩:=q1
 subst ex
 cases r1 with
 | cons r rr =>
  cases rr
  cases r
  obtain⟨its,rv,p',hz⟩:=I1.list hq
  refine call_enumerate_list p'.isList fun h' he hit hsz hk=>wpAny_pyIter_enum he ?_
  have I2:Inv X pins σ H1 { s1 with heap:=h' }:=I1.kept (t':=s1.toks) hk
  refine⟨s1.heap.objs.size+1,[s1.heap.objs.size+1,s1.heap.objs.size],_,_,H1,rfl,I2,UJ a (s1.heap.objs.size+1) s1.heap.objs.size,⟨⟨.none,he⟩,hit,Nat.succ_ne_self _⟩,fun b hb=>?_,q⟩
  have e':b=s1.heap.objs.size+1∨b=s1.heap.objs.size:=by simpa using hb
  have hle:s1.heap.objs.size<=b:=by
   rcases e' with z | z
   . rw[z];exact Nat.le_add_right _ _
   . rw[z];exact Nat.le_refl _
  exact I1.fpOk hle (I1.hok.fresh hle)
theorem UK:bootBuiltins "zip"=some (.type "zip"):=by decide +kernel
def Itz (K:PySem.W.Frag) (a b:Addr):It :=
 ⟨fun i H=>∃ (xs ys:List V) (x y:V),SqL K H a xs/\SqL K H b ys/\xs[i]?=some x/\ys[i]?=some y,
  fun i H v H'=>∃ T x y,v=.ref T/\H T=none/\H'=upd H T (.tup [x,y])/\(∀ xs,SqL K H a xs->xs[i]?=some x)/\∀ ys,SqL K H b ys->ys[i]?=some y,
  fun i H=>∃ xs ys:List V,SqL K H a xs/\SqL K H b ys/\(xs.length<=i∨ys.length<=i)⟩
theorem aaY {P:Program}{w:World}{K:PySem.W.Frag}{elts:List Expr}{kk:Nat}{tpos:Pos}{a b z TI TO i1 i2:Addr} (D:ZipApart z TI TO i1 i2 a b) :
 Wg P w K (.Tuple elts kk tpos) (Itz K a b) [z,TI,TO,i1,i2] z (fun i h=>IsZip h z TI TO .none/\IsPair h TI (.ref i1) (.ref i2)/\(∃ x y,IsPair h TO x y)/\h.IsListIter i1 a i/\h.IsListIter i2 b i) where
 mem:=by simp
 obj:=fun i h st c hc=>by
  obtain⟨hz,hTI,⟨x,y,hTO⟩,⟨o1,e1,_,d1⟩,⟨o2,e2,_,d2⟩⟩:=st
  have e':c=z∨c=TI∨c=TO∨c=i1∨c=i2:=by simpa using hc
  rcases e' with q | q | q | q | q
  . rw[q];exact⟨_,hz,fun v q=>nomatch q⟩
  . rw[q];exact⟨_,hTI,fun v q=>nomatch q⟩
  . rw[q];exact⟨_,hTO,fun v q=>nomatch q⟩
  . rw[q];exact⟨o1,e1,fun v q=>by rw[d1] at q;cases q⟩
  . rw[q];exact⟨o2,e2,fun v q=>by rw[d2] at q;cases q⟩
 keep:=fun i h h' st k=>by
  obtain⟨hz,hTI,⟨x,y,hTO⟩,h1,h2⟩:=st
  exact⟨k z (by simp) _ hz,k TI (by simp) _ hTI,⟨x,y,k TO (by simp) _ hTO⟩,h1.at fun o q=>k i1 (by simp) o q,h2.at fun o q=>k i2 (by simp) o q⟩
 item:=by
  intro X hP hw hK hc i pins s σ H E I hf st hg
  subst hP hw hK
  obtain⟨hz,hTI,⟨x0,y0,hTO⟩,h1,h2⟩:=st
  obtain⟨xs,ys,x,y,hqx,hqy,hx,hy⟩:=hg
  obtain⟨its,rv,p,_⟩:=I.list hqx
  obtain⟨its2,rv2,p2,_⟩:=I.list hqy
  obtain⟨u,hu,ru⟩:=rv.get hx
  obtain⟨u2,hu2,ru2⟩:=rv2.get hy
  have hzl:z<s.heap.objs.size:=Heap.lt_size hz
  refine wpAny_pyNext_zip_item D hz hTI hTO h1 h2 p.isList p2.isList (x:=u) (y:=u2) (by simpa using hu) (by simpa using hu2) fun h' z' TO' h1' h2' hT hsz hk=>?_
  refine⟨_,rfl,wpAny_letOwnedTupleGo_zip (s:={ s with heap:=h' }) z' fun h'' z'' sb=>?_⟩
  have hT2:h''.get? s.heap.objs.size=some { cls:=.type "tuple",data:=.seq #[u,u2] }:=(sb.2 _ (Nat.ne_of_gt hzl)).trans hT
  have new:ObjOk X.prog X.w (upd H s.heap.objs.size (.tup [x,y])) h'' s.heap.objs.size (.tup [x,y]) :=
   ⟨by show 2<=sizeLine;decide,[u,u2],.cons ru (.cons ru2 .nil),⟨_,hT2,rfl,_,rfl⟩⟩
  have I1:Inv X pins σ (upd H s.heap.objs.size (.tup [x,y])) { s with heap:=h'' } :=
   I.turnedNew (t':=s.toks) (ch:=[z,TI,TO,i1,i2]) (fun c o hb q=>(sb.2 c (fun q'=>hb (by simp[q']))).trans (hk c o (fun q'=>hb (by simp[q'])) (fun q'=>hb (by simp[q'])) (fun q'=>hb (by simp[q'])) (fun q'=>hb (by simp[q'])) q)) hf (Nat.le_refl _) new
  refine⟨.ref s.heap.objs.size,_,I1,rfl,⟨_,x,y,rfl,I.hok.fresh (Nat.le_refl _),rfl,fun l hl=>by rw[I.list_inj hl hqx];exact hx,fun l hl=>by rw[I.list_inj hl hqy];exact hy⟩,⟨z'',?_,⟨u,u2,?_⟩,?_,?_⟩,fun c hcm=>?_⟩
  . exact (sb.2 _ D.TIz).trans (hk _ _ D.TIz D.TITO D.TIi1 D.TIi2 hTI)
  . exact (sb.2 _ D.TOz).trans TO'
  . exact h1'.at fun o q=>(sb.2 _ D.i1z).trans q
  . exact h2'.at fun o q=>(sb.2 _ D.i2z).trans q
  . have hlt:c<s.heap.objs.size:=by
     have e':c=z∨c=TI∨c=TO∨c=i1∨c=i2:=by simpa using hcm
     rcases e' with q | q | q | q | q
     . rw[q];exact hzl
     . rw[q];exact Heap.lt_size hTI
     . rw[q];exact Heap.lt_size hTO
     . rw[q];obtain⟨_,e1,_⟩:=h1;exact Heap.lt_size e1
     . rw[q];obtain⟨_,e2,_⟩:=h2;exact Heap.lt_size e2
    rw[zh (Nat.ne_of_lt hlt)]
    exact (hf c hcm).1
 done:=by
  intro X hP hw hK hc i pins s σ H E I hf st hg
  subst hP hw hK
  obtain⟨hz,hTI,⟨x0,y0,hTO⟩,h1,h2⟩:=st
  obtain⟨xs,ys,hqx,hqy,hend⟩:=hg
  obtain⟨its,rv,p,_⟩:=I.list hqx
  obtain⟨its2,rv2,p2,_⟩:=I.list hqy
  have l1:=rv.length
  have l2:=rv2.length
  have he:its.toArray[i]?=none∨its2.toArray[i]?=none:=by
   rcases hend with q | q
   . exact .inl (by simp;omega)
   . exact .inr (by simp;omega)
  exact wpAny_pyNext_zip_end (I.ok.hd hc) D hz hTI hTO h1 h2 p.isList p2.isList he fun h' hk=>⟨rfl,I.turnedL (t':=s.toks) (ch:=[z,TI,TO,i1,i2]) (fun c o hb q =>
   hk c o (fun q'=>hb (by simp[q'])) (fun q'=>hb (by simp[q'])) (fun q'=>hb (by simp[q'])) (fun q'=>hb (by simp[q'])) q) hf⟩
 self:=fun A i s Q E st h=>wpAny_pyIter_zip st.1 h
def adE (K:PySem.W.Frag) (ta:TA):TI:=fun σ H R=>ta σ H fun vs H1=>∃ a b xs ys,vs=[.ref a,.ref b]/\SqL K H1 a xs/\SqL K H1 b ys/\R (Itz K a b) H1
theorem acE {X:Cx}{e e2:Expr}{ta:TA}{p pos tpos:Pos}{elts:List Expr}{kk:Nat} (hg:Gl X "zip") (hm:X.mg "zip"=none) (ha:PA X [e,e2] ta)
 (hs:starEach [e,e2] X.env=(false,eval e X.env)::starEach [e2] X.env:=by rfl) (hpl:(backTo pos (starEach [e2] X.env)).any (·.1)=false:=by rfl) :
 PI X (.Tuple elts kk tpos) (.Call (.Name "zip" p) [e,e2] [] pos) (adE X.K ta):=by
 intro pins s σ H R I h
 refine Call_ (wT I hg hm UK (PyProof.Rows.callWith_type1 (thn (ha pos pins s σ H _ I h) fun us s1 ⟨vs,H1,I1,r1,q1⟩=>?_) hs hpl))
 obtain⟨a,b,xs,ys,ex,hqx,hqy,q⟩:=q1
 subst ex
 cases r1 with
 | cons r rr =>
  cases rr with
  | cons r' rr =>
   cases rr
   cases r
   cases r'
   obtain⟨its,rv,p1,_⟩:=I1.list hqx
   obtain⟨its2,rv2,p2,_⟩:=I1.list hqy
   have la:a<s1.heap.objs.size:=p1.lt
   have lb:b<s1.heap.objs.size:=p2.lt
   refine call_zip_2 p1.isList p2.isList fun h' hz hTI hTO h1 h2 hsz hk=>wpAny_pyIter_zip hz ?_
   have I2:Inv X pins σ H1 { s1 with heap:=h' }:=I1.kept (t':=s1.toks) hk
   refine⟨s1.heap.objs.size+4,[s1.heap.objs.size+4,s1.heap.objs.size+2,s1.heap.objs.size+3,s1.heap.objs.size,s1.heap.objs.size+1],_,_,H1,rfl,I2,aaY (PySem.W.ktu_apart s1.heap.objs.size a b la lb),⟨hz,hTI,⟨_,_,hTO⟩,h1,h2⟩,fun c hcm=>?_,q⟩
   have e':c=s1.heap.objs.size+4∨c=s1.heap.objs.size+2∨c=s1.heap.objs.size+3∨c=s1.heap.objs.size∨c=s1.heap.objs.size+1:=by simpa using hcm
   have hle:s1.heap.objs.size<=c:=by
    rcases e' with z | z | z | z | z
    . rw[z];exact Nat.le_add_right _ _
    . rw[z];exact Nat.le_add_right _ _
    . rw[z];exact Nat.le_add_right _ _
    . rw[z];exact Nat.le_refl _
    . rw[z];exact Nat.le_add_right _ _
   exact I1.fpOk hle (I1.hok.fresh hle)
end L2
section
namespace Bits
open PySem PyProof.Rows
end Bits
end
section
namespace TL
open PySem PySem.Builtin PySem.Builtin.Str PySem.StrLaws
end TL
end
namespace L2
open PySem PySem.Spec PyProof.Rows
end L2
namespace L2
open PySem PySem.Spec PyProof.Rows
end L2
namespace Att
open PySem PySem.W PySem.Calls PyProof.Rows
end Att
namespace L2
open PySem PySem.Spec PyProof.Rows
end L2
namespace L2
open PySem PySem.Spec PyProof.Rows
end L2
namespace L2
open PySem PySem.Spec PyProof.Rows
def ux (s:Stmt) (j:Nat):Stmt:=match s with
 | .ClassDef _ _ _ body _ _ _ _ _ _ _=>body.getD j (.Pass ⟨0,0,0,0⟩)
 | _=>.Pass ⟨0,0,0,0⟩
def w8 (s:Stmt):Arguments:=match s with
 | .FunctionDef _ a _ _ _ _ _ _ _ _=>a
 | _=>{ posonlyargs:=[],args:=[],vararg:=none,kwonlyargs:=[],kw_defaults:=[],kwarg:=none,defaults:=[] }
def x5 (s:Stmt):List Stmt:=match s with
 | .FunctionDef _ _ b _ _ _ _ _ _ _=>b
 | _=>[]
def zt (s:Stmt):Scope:=match s with
 | .FunctionDef _ _ _ _ _ _ sc _ _ _=>sc
 | _=>{ kind:=.function,names:=[],isGenerator:=false,isCoroutine:=false }
abbrev CX0:CXT:=fun _ _ _ _ _ _=>False
abbrev E0:XK:=fun _ _ _=>False
theorem aaZ {X:Cx}:QG CX0 X E0:=fun _ _ _ _ _ _ _ h=>h.elim
structure Fun (K:PySem.W.Frag) (x qual:Str) (st:Stmt) (f:Addr) (fd:FuncData):Prop where
 ex:∃ (oc:Value) (od:Option Addr) (kV doc pm:Value) (an:Option Addr) (cdv ct:Value) (osl:Array (Option Value)),
  fd=PySem.W.fnOf x qual (w8 st) (x5 st) (zt st) .none kV doc pm an cdv ct/\K.lookup f=some ⟨oc,od,.func fd,osl⟩/\PySem.W.codeIn K cdv qual=true
 kp:PySem.W.keepIn K (.ref f)=true
section
variable {P:Program}{w:World}{K:PySem.W.Frag}{mg:Str->Option Value}{base:Heap}
theorem Fun.ok {x qual:Str}{st:Stmt}{f:Addr}{fd:FuncData}{N ps:List Str}{k:Nat}{sp:Sp} (F:Fun K x qual st f fd) (S:zB N ps (zt st)) (len:∀ vs H Q E,sp vs H Q E->vs.length=ps.length)
 (hbody:∀ (cdv:Value) (A:Around) (outer:List Env) (s:Shared) (H:Hp) (vs:List V) (Q:VK) (E:XK),Room k (A.deeper (envOfC qual (zt st) s.heap.objs.size f cdv))->sp vs H Q E ->
  ∃ t,PSs (UE CX0 P w K mg base N qual (zt st) f cdv A outer s H E).nox (x5 st) t/\t { nx:=fun _ H'=>Q .non H',rt:=Q } (start N vs) H):z_ P w K mg base CX0 (k+1) f fd ps sp:=by
 obtain⟨oc,od,kV,doc,pm,an,cdv,ct,osl,rfl,lk,hcd⟩:=F.ex
 refine ac9 lk hcd S len fun A outer s H vs Q E hr hsp=>?_
 obtain⟨t,h,q⟩:=hbody cdv A outer s H vs Q E hr hsp
 exact⟨t,h.nox,q⟩
theorem Fun.binds {x qual:Str}{st:Stmt}{f:Addr}{fd:FuncData}{ps:List Str} (F:Fun K x qual st f fd)
 (h:∀ (kV doc pm:Value) (an:Option Addr) (cdv ct:Value) (us:List Value),us.length=ps.length->bindArgs (PySem.W.fnOf x qual (w8 st) (x5 st) (zt st) .none kV doc pm an cdv ct) ⟨us,[]⟩=pure (ps.zip us)):Binds K fd ps []:=by
 obtain⟨oc,od,kV,doc,pm,an,cdv,ct,osl,rfl,lk,hcd⟩:=F.ex
 exact .all (h kV doc pm an cdv ct)
theorem aa0 {x qual:Str}{st:Stmt}{f:Addr}{oc:Value}{od an:Option Addr}{osl:Array (Option Value)}{kV doc pm cdv ct:Value} (l:K.lookup f=some ⟨oc,od,.func (PySem.W.fnOf x qual (w8 st) (x5 st) (zt st) .none kV doc pm an cdv ct),osl⟩)
 (c:PySem.W.codeIn K cdv qual=true) (k:PySem.W.keepIn K (.ref f)=true):Fun K x qual st f (PySem.W.fnOf x qual (w8 st) (x5 st) (zt st) .none kV doc pm an cdv ct):=⟨⟨oc,od,kV,doc,pm,an,cdv,ct,osl,rfl,l,c⟩,k⟩
end
theorem jR {A:Around}{k:Nat} (hr:Room k A):A.units+1<cLine:=Nat.lt_of_le_of_lt (Nat.add_le_add_left (by decide:1<=64) _) hr.units
section
variable {X:Cx}
theorem pv (i:Nat) {x:Str}{pos:Pos} (hN:X.N[i]?=some x:=by rfl) (hv:Vis X.env.scope x:=by first | exact Or.inl rfl | exact Or.inr (Or.inl rfl) | exact Or.inr (Or.inr rfl)) (hd:(x == ("__debug__":Str))=false:=by decide)
 (hcd:(x == ("__classdict__":Str))=false:=by decide):PE X (.Name x pos) (qC i):=ack hN hv hd hcd
end
theorem zE {A B:Prop} (h:B):if false=true then A else B:=by
 rw[if_neg Bool.false_ne_true]
 exact h
theorem zM {A B:Prop} (h:A):if true=true then A else B:=by
 rw[if_pos rfl]
 exact h
theorem u6 {c A B:Prop} [Decidable c] (h1:c->A) (h2:¬c->B):if c then A else B:=by
 by_cases h:c
 . rw[if_pos h]
   exact h1 h
 . rw[if_neg h]
   exact h2 h
def Same (H H':Hp):Prop:=∀ b o,H b=some o->H' b=some o
theorem Same.refl (H:Hp):Same H H:=fun _ _ h=>h
theorem Same.trans {H H1 H2:Hp} (a:Same H H1) (b:Same H1 H2):Same H H2:=fun c o h=>b c o (a c o h)
theorem Same.free {H H':Hp} (e:Same H H') {l:Addr} (h:H' l=Option.none):H l=Option.none:=by
 cases q:H l with
 | none=>rfl
 | some o =>
  rw[e l o q] at h
  cases h
theorem Same.seq {K:PySem.W.Frag}{H H':Hp}{a:Addr}{xs:List V} (e:Same H H') (h:SqL K H a xs):SqL K H' a xs:=by
 rcases h with (h | ⟨o,h⟩) | h
 . exact .inl (.inl (e _ _ h))
 . exact .inl (.inr ⟨o,e _ _ h⟩)
 . exact .inr h
section
variable {κ:Type} [DecidableEq κ]
theorem Yi:∀ {l:List κ}{k:κ},l.Nodup->¬k∈l->(l++[k]).Nodup
 | [],k,_,_=>by simp
 | a::r,k,h,hk=>by
  obtain⟨h1,h2⟩:=List.nodup_cons.mp h
  show (a::(r++[k])).Nodup
  refine List.nodup_cons.mpr ⟨fun m=>?_,Yi h2 fun m=>hk (List.mem_cons.mpr (Or.inr m))⟩
  rcases List.mem_append.mp m with q | q
  . exact h1 q
  . exact hk (List.mem_cons.mpr (Or.inl (List.mem_singleton.mp q).symm))
end
theorem aa1 {α:Type}{l:List α} (hN:l.Nodup) {i j:Nat}{x:α} (a:l[i]?=some x) (b:l[j]?=some x):i=j:=by
 obtain⟨h1,e1⟩:=List.getElem?_eq_some_iff.mp a
 obtain⟨h2,e2⟩:=List.getElem?_eq_some_iff.mp b
 exact (List.getElem_inj hN).mp (e1.trans e2.symm)
end L2
end
section
section
namespace L2
open PySem PySem.Spec PyProof.Rows
open PySem.W (WData Codec OpenSpec Well WellAll ReadsW ReadsAllW)
mutual
inductive Dw (K:PySem.W.Frag) (H:Hp):V->WData->Prop
 | non:Dw K H .non .none
 | bl (b:Bool):Dw K H (.bl b) (.bool b)
 | int (i:Int):Dw K H (.int i) (.int i)
 | str (x:Str):Dw K H (.str x) (.str x)
 | byt (b:Array UInt8):Dw K H (.byt b) (.bytes b.toList)
 | lst {a:Addr}{xs:List V}{ds:List WData}:SqL K H a xs->wu K H xs ds->Dw K H (.ref a) (.list ds)
 | tup {a:Addr}{xs:List V}{ds:List WData}:SqT K H a xs->wu K H xs ds->Dw K H (.ref a) (.tuple ds)
inductive wu (K:PySem.W.Frag) (H:Hp):List V->List WData->Prop
 | nil:wu K H [] []
 | cons {v:V}{vs:List V}{d:WData}{ds:List WData}:Dw K H v d->wu K H vs ds->wu K H (v::vs) (d::ds)
end
theorem U5 {K:PySem.W.Frag}{H:Hp}:∀ ns:List Int,wu K H (ns.map V.int) (ns.map WData.int)
 | []=>.nil
 | n::r=>.cons (.int n) (U5 r)
theorem U6 {K:PySem.W.Frag}{H:Hp}:∀ (ns:List Int) (xs:List V),wu K H xs (ns.map WData.int)->xs=ns.map V.int
 | [],xs,h=>by
  cases h
  rfl
 | n::r,xs,h=>by
  cases h with
  | cons h1 h2 =>
   cases h1
   rw[U6 r _ h2] <;> rfl
section
variable {P:Program}{w:World}{K:PySem.W.Frag}{H:Hp}{h:Heap}{R:PySem.W.WRecords}{cl:Str->Option Addr}
theorem acF {a:Addr}{xs:List V} (hok:HOk P w H h) (KX:K.In h) (q:SqL K H a xs):∃ (its:List Value) (o:Obj) (n:Nat),Vals xs its/\h.get? a=some o/\o.cls=.type "list"/\o.data=.seq its.toArray n:=by
 rcases q with q | ⟨o,its,n,e,hc,_,hd,_,hv⟩
 . obtain⟨_,its,n,hv,e⟩:=(show ObjOk P w H h a (.lst xs) from q.ok hok)
   exact⟨its,_,n,hv,e,rfl,rfl⟩
 . exact⟨its.toList,o,n,hv,KX _ _ e,hc,by simp[hd]⟩
theorem acG {a:Addr}{xs:List V} (hok:HOk P w H h) (KX:K.In h) (q:SqT K H a xs):∃ (its:List Value) (o:Obj) (n:Nat),Vals xs its/\h.get? a=some o/\o.cls=.type "tuple"/\o.data=.seq its.toArray n:=by
 rcases q with q | ⟨o,its,n,e,hc,hd,_,hv⟩
 . obtain⟨_,its,hv,o,e,hc,n,hd⟩:=(show ObjOk P w H h a (.tup xs) from q.ok hok)
   exact⟨its,o,n,hv,e,hc,hd⟩
 . exact⟨its.toList,o,n,hv,KX _ _ e,hc,by simp[hd]⟩
mutual
theorem Dw.reads (hok:HOk P w H h) (KX:K.In h):∀ (d:WData) (v:V) (u:Value),Dw K H v d->RelV v u->∃ as,ReadsW R cl h u d as
 | .none,_,_,x,r=>by
  cases x
  cases r
  exact⟨_,ReadsW.none⟩
 | .bool b,_,_,x,r=>by
  cases x
  cases r
  exact⟨_,ReadsW.bool b⟩
 | .int i,_,_,x,r=>by
  cases x
  obtain⟨t,rfl⟩:=r
  exact⟨_,ReadsW.int i t⟩
 | .str s,_,_,x,r=>by
  cases x
  obtain⟨t,rfl⟩:=r
  exact⟨_,ReadsW.str s t⟩
 | .bytes b,_,_,x,r=>by
  cases x
  obtain⟨t,rfl⟩:=r
  exact⟨_,ReadsW.bytes _ t⟩
 | .list ds,_,_,x,r=>by
  cases x with
  | lst hs ha =>
   cases r
   obtain⟨its,o,n,rv,ho,hc,hd⟩:=acF hok KX hs
   obtain⟨as,hr⟩:=Dw.readsAll hok KX ds _ its ha rv
   exact⟨_,ReadsW.list ho hc hd hr⟩
 | .tuple ds,_,_,x,r=>by
  cases x with
  | tup hs ha =>
   cases r
   obtain⟨its,o,n,rv,ho,hc,hd⟩:=acG hok KX hs
   obtain⟨as,hr⟩:=Dw.readsAll hok KX ds _ its ha rv
   exact⟨_,ReadsW.tuple ho hc hd hr⟩
 | .float _,_,_,x,_=>by cases x
 | .dict _,_,_,x,_=>by cases x
 | .bytearray _,_,_,x,_=>by cases x
 | .set _,_,_,x,_=>by cases x
 | .frozenset _,_,_,x,_=>by cases x
 | .obj _ _,_,_,x,_=>by cases x
theorem Dw.readsAll (hok:HOk P w H h) (KX:K.In h):∀ (ds:List WData) (vs:List V) (us:List Value),wu K H vs ds->Vals vs us->∃ as,ReadsAllW R cl h us ds as
 | [],_,_,x,r=>by
  cases x
  cases r
  exact⟨_,ReadsAllW.nil⟩
 | d::ds,_,_,x,r=>by
  cases x with
  | cons h1 h2 =>
   cases r with
   | cons r1 r2 =>
    obtain⟨as,q1⟩:=Dw.reads hok KX d _ _ h1 r1
    obtain⟨bs,q2⟩:=Dw.readsAll hok KX ds _ _ h2 r2
    exact⟨_,ReadsAllW.cons q1 q2⟩
end
end
mutual
def plW:WData->Bool
 | .none=>true
 | .bool _=>true
 | .int _=>true
 | .str _=>true
 | .bytes _=>true
 | .list xs=>Jl xs
 | .tuple xs=>Jl xs
 | _=>false
def Jl:List WData->Bool
 | []=>true
 | x::r=>plW x && Jl r
end
theorem Xs {α:Type}{f:α->WData} (h:∀ a,plW (f a)=true):∀ l:List α,Jl (l.map f)=true
 | []=>rfl
 | x::r=>by
  show (plW (f x) && Jl (r.map f))=true
  rw[h x,Xs h r] <;> rfl
theorem u7:∀ (c:Codec) (a:c.denote),plW (c.enc a)=true
 | .unit,_=>rfl
 | .bool,_=>rfl
 | .int _ _,_=>rfl
 | .nat _ _,_=>rfl
 | .u8,_=>rfl
 | .bytes _ _,_=>rfl
 | .text _ _ _ _,_=>rfl
 | .list _ _ c,a=>Xs (fun x=>u7 c x) a
 | .pair c d,a=>by
  show (plW (c.enc a.1) && (plW (d.enc a.2) && true))=true
  rw[u7 c a.1,u7 d a.2] <;> rfl
 | .triple c d e,a=>by
  show (plW (c.enc a.1) && (plW (d.enc a.2.1) && (plW (e.enc a.2.2) && true)))=true
  rw[u7 c a.1,u7 d a.2.1,u7 e a.2.2] <;> rfl
 | .option c,none=>rfl
 | .option c,some x=>u7 c x
theorem VI:∀ (cs:List Codec) (a:Codec.denoteAll cs),Jl (Codec.encAll cs a)=true
 | [],_=>rfl
 | c::cs,a=>by
  show (plW (c.enc a.1) && Jl (Codec.encAll cs a.2))=true
  rw[u7 c a.1,VI cs a.2] <;> rfl
theorem Zb:∀ {xs:List WData}{d:WData},d∈xs->d.weight<=WData.weightAll xs
 | [],d,h=>absurd h (by simp)
 | x::r,d,h=>by
  show d.weight<=x.weight+1+WData.weightAll r
  rcases List.mem_cons.mp h with e | m
  . rw[e]
    omega
  . have z:=Zb m
    omega
def toV:Value->V
 | .none=>.non
 | .bool b=>.bl b
 | .int i _=>.int i
 | .str x _=>.str x
 | .bytes b _=>.byt b
 | .ref a=>.ref a
 | _=>.non
def OkU (A:List Addr):Value->Prop
 | .none=>True
 | .bool _=>True
 | .int _ _=>True
 | .str _ _=>True
 | .bytes _ _=>True
 | .ref a=>a∈A
 | _=>False
theorem OkU.mono {A B:List Addr} (h:∀ a∈A,a∈B):∀ {u:Value},OkU A u->OkU B u:=fun {u} x=>by
 cases u with
 | ref a=>exact h a x
 | none=>trivial
 | bool b=>trivial
 | int i t=>trivial
 | str s t=>trivial
 | bytes b t=>trivial
 | _=>exact False.elim x
theorem aa2 {A:List Addr}{u:Value} (x:OkU A u):RelV (toV u) u:=by
 cases u with
 | ref a=>rfl
 | none=>rfl
 | bool b=>rfl
 | int i t=>exact⟨t,rfl⟩
 | str s t=>exact⟨t,rfl⟩
 | bytes b t=>exact⟨t,rfl⟩
 | _=>exact False.elim x
theorem xN {A:List Addr}:∀ {vs:List Value},(∀ u∈vs,OkU A u)->Vals (vs.map toV) vs
 | [],_=>.nil
 | u::r,h=>.cons (aa2 (h u (List.mem_cons_self ..))) (xN fun x hx=>h x (List.mem_cons_of_mem _ hx))
def ArgOb (h:Heap) (A:List Addr) (a:Addr):Prop:=∃ vs:List Value,vs.length<=sizeLine/\(∀ u∈vs,OkU A u) /\
 (h.get? a=some { cls:=.type "list",data:=.seq vs.toArray }∨h.get? a=some { cls:=.type "tuple",data:=.seq vs.toArray })
theorem ArgOb.mono {h:Heap}{A B:List Addr}{a:Addr} (k:∀ a∈A,a∈B) (x:ArgOb h A a):ArgOb h B a:=by
 obtain⟨vs,h1,h2,h3⟩:=x
 exact⟨vs,h1,fun u hu=>(h2 u hu).mono k,h3⟩
theorem x6 {P:Params}{h:Heap}:∀ {vs:List Value}{ds:List WData},WellAll P h vs ds->vs.length=ds.length
 | _,_,.nil=>rfl
 | _,_,.cons _ b=>by
  show _+1=_+1
  rw[x6 b]
theorem VJ {P:Params}{h:Heap}{v:Value}{ds:List WData} (x:Well P h v (.list ds)):∃ (a:Addr) (vs:List Value),v=.ref a/\h.get? a=some { cls:=.type "list",data:=.seq vs.toArray }/\WellAll P h vs ds:=by
 cases x with
 | list ho hall=>exact⟨_,_,rfl,ho,hall⟩
theorem Kg {P:Params}{h:Heap}{v:Value}{ds:List WData} (x:Well P h v (.tuple ds)):∃ (a:Addr) (vs:List Value),v=.ref a/\h.get? a=some { cls:=.type "tuple",data:=.seq vs.toArray }/\WellAll P h vs ds:=by
 cases x with
 | tuple ho hall=>exact⟨_,_,rfl,ho,hall⟩
theorem VL {P:Params}{h:Heap}{us:List Value}{d:WData}{ds:List WData} (x:WellAll P h us (d::ds)):∃ (v:Value) (vs:List Value),us=v::vs/\Well P h v d/\WellAll P h vs ds:=by
 cases x with
 | cons a b=>exact⟨_,_,rfl,a,b⟩
theorem U7 {n:Nat} (h:n<=1048576):n<=sizeLine:=Nat.le_trans h (by decide)
section
variable {P:Params}{h:Heap}
mutual
theorem aa3:∀ (d:WData) (v:Value),Well P h v d->plW d=true->d.weight<=1048576->∃ A:List Addr,OkU A v/\∀ a∈A,ArgOb h A a
 | .none,_,x,_,_=>by
  cases x
  exact⟨[],trivial,fun a m=>absurd m (by simp)⟩
 | .bool b,_,x,_,_=>by
  cases x
  exact⟨[],trivial,fun a m=>absurd m (by simp)⟩
 | .int i,_,x,_,_=>by
  cases x
  exact⟨[],trivial,fun a m=>absurd m (by simp)⟩
 | .str s,_,x,_,_=>by
  cases x
  exact⟨[],trivial,fun a m=>absurd m (by simp)⟩
 | .bytes b,_,x,_,_=>by
  cases x
  exact⟨[],trivial,fun a m=>absurd m (by simp)⟩
 | .list ds,_,x,p,z=>by
  obtain⟨a,vs,rfl,ho,hall⟩:=VJ x
  have z2:WData.weightAll ds<=1048576:=z
  obtain⟨A,h1,h2⟩:=ZT ds _ hall p fun d hd=>Nat.le_trans (Zb hd) z2
  have k:∀ b∈A,b∈a::A:=fun b hb=>List.mem_cons_of_mem _ hb
  refine⟨a::A,List.mem_cons_self ..,fun b hb=>?_⟩
  rcases List.mem_cons.mp hb with e | m
  . rw[e]
    exact⟨vs,U7 (by rw[x6 hall];exact Nat.le_trans (PySem.W.length_le_weightAllW ds) z2),fun u hu=>(h1 u hu).mono k,.inl ho⟩
  . exact (h2 b m).mono k
 | .tuple ds,_,x,p,z=>by
  obtain⟨a,vs,rfl,ho,hall⟩:=Kg x
  have z2:WData.weightAll ds<=1048576:=z
  obtain⟨A,h1,h2⟩:=ZT ds _ hall p fun d hd=>Nat.le_trans (Zb hd) z2
  have k:∀ b∈A,b∈a::A:=fun b hb=>List.mem_cons_of_mem _ hb
  refine⟨a::A,List.mem_cons_self ..,fun b hb=>?_⟩
  rcases List.mem_cons.mp hb with e | m
  . rw[e]
    exact⟨vs,U7 (by rw[x6 hall];exact Nat.le_trans (PySem.W.length_le_weightAllW ds) z2),fun u hu=>(h1 u hu).mono k,.inr ho⟩
  . exact (h2 b m).mono k
 | .float _,_,_,p,_=>Bool.noConfusion (show false=true from p)
 | .dict _,_,_,p,_=>Bool.noConfusion (show false=true from p)
 | .bytearray _,_,_,p,_=>Bool.noConfusion (show false=true from p)
 | .set _,_,_,p,_=>Bool.noConfusion (show false=true from p)
 | .frozenset _,_,_,p,_=>Bool.noConfusion (show false=true from p)
 | .obj _ _,_,_,p,_=>Bool.noConfusion (show false=true from p)
theorem ZT:∀ (ds:List WData) (vs:List Value),WellAll P h vs ds->Jl ds=true->(∀ d∈ds,d.weight<=1048576)->∃ A:List Addr,(∀ u∈vs,OkU A u)/\∀ a∈A,ArgOb h A a
 | [],_,x,_,_=>by
  cases x
  exact⟨[],fun u m=>absurd m (by simp),fun a m=>absurd m (by simp)⟩
 | d::ds,_,x,p,z=>by
  obtain⟨v,vs,rfl,x1,x2⟩:=VL x
  have q:plW d=true/\Jl ds=true:=Bool.and_eq_true_iff.mp p
  obtain⟨A,a1,a2⟩:=aa3 d v x1 q.1 (z d (List.mem_cons_self ..))
  obtain⟨B,b1,b2⟩:=ZT ds vs x2 q.2 fun e he=>z e (List.mem_cons_of_mem _ he)
  have kA:∀ b∈A,b∈A++B:=fun b hb=>List.mem_append.mpr (.inl hb)
  have kB:∀ b∈B,b∈A++B:=fun b hb=>List.mem_append.mpr (.inr hb)
  refine⟨A++B,fun u hu=>?_,fun b hb=>?_⟩
  . rcases List.mem_cons.mp hu with e | m
    . rw[e]
      exact a1.mono kA
    . exact (b1 u m).mono kB
  . rcases List.mem_append.mp hb with m | m
    . exact (a2 b m).mono kA
    . exact (b2 b m).mono kB
end
end
def abT (o:Obj):Option HO:=match o.data with
 | .seq vs _=>if (o.cls == Value.type "list")=true then some (.frz o (.lst (vs.toList.map toV))) else some (.frz o (.tup (vs.toList.map toV)))
 | _=>none
def w9 (K:PySem.W.Frag) (h:Heap) (A:List Addr):Hp:=fun b=>if b∈A then (if (K.lookup b).isNone=true then (h.get? b).bind abT else none) else none
def Xt (H:Hp):Prop:=∀ b,H b=none∨∃ o u,H b=some (.frz o u)
theorem Xu (vs:List Value):abT { cls:=.type "list",data:=.seq vs.toArray }=some (.frz { cls:=.type "list",data:=.seq vs.toArray } (.lst (vs.map toV))):=by
 show (if (Value.type "list" == Value.type "list")=true then some (HO.frz { cls:=.type "list",data:=.seq vs.toArray } (.lst (vs.toArray.toList.map toV))) else some (HO.frz { cls:=.type "list",data:=.seq vs.toArray } (.tup (vs.toArray.toList.map toV))))=_
 rw[if_pos (beq_self_eq_true _)]
theorem Xv (vs:List Value):abT { cls:=.type "tuple",data:=.seq vs.toArray }=some (.frz { cls:=.type "tuple",data:=.seq vs.toArray } (.tup (vs.map toV))):=by
 show (if (Value.type "tuple" == Value.type "list")=true then some (HO.frz { cls:=.type "tuple",data:=.seq vs.toArray } (.lst (vs.toArray.toList.map toV))) else some (HO.frz { cls:=.type "tuple",data:=.seq vs.toArray } (.tup (vs.toArray.toList.map toV))))=_
 rw[if_neg (by decide)]
section
variable {P:Program}{w:World}{K:PySem.W.Frag}{h:Heap}{A:List Addr}
theorem JN {b:Addr}{o:Obj} (hb:b∈A) (hk:K.lookup b=none) (e:h.get? b=some o):w9 K h A b=abT o:=by
 unfold w9
 rw[if_pos hb,hk,if_pos (show (none:Option Obj).isNone=true from rfl),e] <;> rfl
theorem abU {b:Addr}{u:HO} (q:w9 K h A b=some u):b∈A/\K.lookup b=none:=by
 unfold w9 at q
 by_cases hb:b∈A
 . rw[if_pos hb] at q
   cases hk:K.lookup b with
   | none=>exact⟨hb,rfl⟩
   | some o =>
    rw[hk,if_neg (by simp)] at q
    cases q
 . rw[if_neg hb] at q
   cases q
theorem JO (ar:∀ a∈A,ArgOb h A a) {b:Addr}{u:HO} (q:w9 K h A b=some u):K.lookup b=none/\∃ vs:List Value,vs.length<=sizeLine/\(∀ u∈vs,OkU A u) /\
 ((h.get? b=some { cls:=.type "list",data:=.seq vs.toArray }/\u=.frz { cls:=.type "list",data:=.seq vs.toArray } (.lst (vs.map toV))) ∨
  (h.get? b=some { cls:=.type "tuple",data:=.seq vs.toArray }/\u=.frz { cls:=.type "tuple",data:=.seq vs.toArray } (.tup (vs.map toV)))):=by
 obtain⟨hb,hk⟩:=abU q
 obtain⟨vs,h1,h2,h3⟩:=ar b hb
 refine⟨hk,vs,h1,h2,?_⟩
 rcases h3 with e | e
 . rw[JN hb hk e,Xu] at q
   exact .inl ⟨e,(Option.some.inj q).symm⟩
 . rw[JN hb hk e,Xv] at q
   exact .inr ⟨e,(Option.some.inj q).symm⟩
theorem UL (ar:∀ a∈A,ArgOb h A a):Xt (w9 K h A):=fun b=>by
 cases q:w9 K h A b with
 | none=>exact .inl rfl
 | some u =>
  obtain⟨_,vs,_,_,⟨_,e⟩ | ⟨_,e⟩⟩:=JO ar q
  . exact .inr ⟨_,_,by rw[e]⟩
  . exact .inr ⟨_,_,by rw[e]⟩
theorem abV (ar:∀ a∈A,ArgOb h A a):HOk P w (w9 K h A) h:=fun b u q=>by
 obtain⟨_,vs,h1,h2,⟨e,rfl⟩ | ⟨e,rfl⟩⟩:=JO ar q
 . exact⟨e,by rw[List.length_map];exact h1,vs,_,xN h2,e⟩
 . exact⟨e,by rw[List.length_map];exact h1,vs,xN h2,_,e,rfl,_,rfl⟩
theorem JP {c c':Value}{vs us:List Value} (e:(some { cls:=c,data:=.seq vs.toArray }:Option Obj)=some { cls:=c',data:=.seq us.toArray }):c=c'/\vs=us:=by
 have e1:=Option.some.inj e
 have e2:c=c':=congrArg Obj.cls e1
 have e3:Data.seq vs.toArray=Data.seq us.toArray:=congrArg Obj.data e1
 injection e3 with e4
 refine⟨e2,?_⟩
 have e5:=congrArg Array.toList e4
 simpa using e5
theorem adF (KX:K.In h) (ar:∀ a∈A,ArgOb h A a) {a:Addr}{vs:List Value} (ha:a∈A) (e:h.get? a=some { cls:=.type "list",data:=.seq vs.toArray }):(∀ u∈vs,OkU A u)/\SqL K (w9 K h A) a (vs.map toV):=by
 obtain⟨us,h1,h2,h3⟩:=ar a ha
 have hu:us=vs:=by
  rcases h3 with q | q
  . rw[e] at q
    exact (JP q).2.symm
  . rw[e] at q
    exact absurd (Value.type.inj (JP q).1) (by decide)
 subst hu
 refine⟨h2,?_⟩
 cases hk:K.lookup a with
 | none=>exact .inl (.inr ⟨_,by rw[JN ha hk e,Xu]⟩)
 | some o =>
  have e2:=KX a o hk
  rw[e] at e2
  obtain rfl:=Option.some.inj e2
  exact .inr ⟨_,us.toArray,_,hk,rfl,rfl,rfl,by rw[List.size_toArray];exact h1,by simpa using xN h2⟩
theorem adG (KX:K.In h) (ar:∀ a∈A,ArgOb h A a) {a:Addr}{vs:List Value} (ha:a∈A) (e:h.get? a=some { cls:=.type "tuple",data:=.seq vs.toArray }):(∀ u∈vs,OkU A u)/\SqT K (w9 K h A) a (vs.map toV):=by
 obtain⟨us,h1,h2,h3⟩:=ar a ha
 have hu:us=vs:=by
  rcases h3 with q | q
  . rw[e] at q
    exact absurd (Value.type.inj (JP q).1) (by decide)
  . rw[e] at q
    exact (JP q).2.symm
 subst hu
 refine⟨h2,?_⟩
 cases hk:K.lookup a with
 | none=>exact .inl (.inr ⟨_,by rw[JN ha hk e,Xv]⟩)
 | some o =>
  have e2:=KX a o hk
  rw[e] at e2
  obtain rfl:=Option.some.inj e2
  exact .inr ⟨_,us.toArray,_,hk,rfl,rfl,by rw[List.size_toArray];exact h1,by simpa using xN h2⟩
mutual
theorem acH {Pm:Params} (KX:K.In h) (ar:∀ a∈A,ArgOb h A a):∀ (d:WData) (v:Value),Well Pm h v d->plW d=true->OkU A v->Dw K (w9 K h A) (toV v) d
 | .none,_,x,_,_=>by
  cases x
  exact .non
 | .bool b,_,x,_,_=>by
  cases x
  exact .bl b
 | .int i,_,x,_,_=>by
  cases x
  exact .int i
 | .str s,_,x,_,_=>by
  cases x
  exact .str s
 | .bytes b,_,x,_,_=>by
  cases x
  have z:=Dw.byt (K:=K) (H:=w9 K h A) b.toArray
  exact z
 | .list ds,_,x,p,hu=>by
  obtain⟨a,vs,rfl,ho,hall⟩:=VJ x
  obtain⟨h2,hs⟩:=adF KX ar hu ho
  exact .lst hs (Yj KX ar ds _ hall p h2)
 | .tuple ds,_,x,p,hu=>by
  obtain⟨a,vs,rfl,ho,hall⟩:=Kg x
  obtain⟨h2,hs⟩:=adG KX ar hu ho
  exact .tup hs (Yj KX ar ds _ hall p h2)
 | .float _,_,_,p,_=>Bool.noConfusion (show false=true from p)
 | .dict _,_,_,p,_=>Bool.noConfusion (show false=true from p)
 | .bytearray _,_,_,p,_=>Bool.noConfusion (show false=true from p)
 | .set _,_,_,p,_=>Bool.noConfusion (show false=true from p)
 | .frozenset _,_,_,p,_=>Bool.noConfusion (show false=true from p)
 | .obj _ _,_,_,p,_=>Bool.noConfusion (show false=true from p)
theorem Yj {Pm:Params} (KX:K.In h) (ar:∀ a∈A,ArgOb h A a):∀ (ds:List WData) (vs:List Value),WellAll Pm h vs ds->Jl ds=true->(∀ u∈vs,OkU A u)->wu K (w9 K h A) (vs.map toV) ds
 | [],_,x,_,_=>by
  cases x
  exact .nil
 | d::ds,_,x,p,hu=>by
  obtain⟨v,vs,rfl,x1,x2⟩:=VL x
  have q:plW d=true/\Jl ds=true:=Bool.and_eq_true_iff.mp p
  exact .cons (acH KX ar d v x1 q.1 (hu _ (List.mem_cons_self ..))) (Yj KX ar ds vs x2 q.2 fun u m=>hu u (List.mem_cons_of_mem _ m))
end
end
theorem UM {P:Program}{w:World}{K:PySem.W.Frag}{mg mb:Str->Option Value}{CX:CXT}{k:Nat}{fa:Addr}{fd:FuncData}{ps:List Str}{sp:Sp}{s₁:Shared}{vals:List Value}{ds:List WData}{R:PySem.W.WRecords}{cl:Str->Option Addr}{d0:WData}
 (KX:K.In s₁.heap) (hns:s₁.heap.Ns mainGlobals mg) (hb:s₁.heap.Ns builtinsNs mb) (hbb:∀ x:Str,x≠"__name__"->mb x=bootBuiltins x) (hlim:s₁.heap.NoLimit) (hg:s₁.gens=#[])
 (hwl:WellAll w.params s₁.heap vals ds) (hpl:Jl ds=true) (hwt:∀ d∈ds,d.weight<=1048576) (hr:Room k callerA)
 (F:∀ base:Heap,K.In base->base.Ns mainGlobals mg->z_ P w K mg base CX k fa fd ps sp) (hbind:∀ (s:Shared) (us:List Value),us.length=ps.length->BindsTo s fd ⟨us,[]⟩ (ps.zip us)) (hlen:ds.length=ps.length)
 (hsp:∀ (H:Hp) (xs:List V),Xt H->wu K H xs ds->sp xs H (fun v H'=>Dw K H' v d0) fun _ _ _=>False)
 (hCX:∀ H e s',CX [] H s₁ (fun _ _ _=>False) e s'->False) :
 codeAny (model P w) callerA (.call (.ref fa) ⟨vals,[]⟩) (fun r s'=>∃ u as,r=.ok (.ret u)/\ReadsW R cl s'.heap u d0 as/\OldK s₁.heap s'.heap/\s'.os=s₁.os/\AllBare s'.gens) s₁:=by
 obtain⟨A,ho,ar⟩:=ZT ds vals hwl hpl hwt
 have hO:Xt (w9 K s₁.heap A):=UL ar
 have hok:HOk P w (w9 K s₁.heap A) s₁.heap:=abV ar
 have hS:=Yj KX ar ds vals hwl hpl ho
 have hV:=xN ho
 have hK:∀ b u,w9 K s₁.heap A b=some u->K.lookup b=none:=fun b u q=>(JO ar q).1
 have noA:∀ {b:Addr}{o:Obj}{es:Array DictEntry}{ep:Nat},s₁.heap.get? b=some o->o.data=.dict es ep->w9 K s₁.heap A b=none:=fun {b o es ep} e d=>by
  cases q:w9 K s₁.heap A b with
  | none=>rfl
  | some u =>
   obtain⟨_,vs,_,_,⟨e2,_⟩ | ⟨e2,_⟩⟩:=JO ar q
   . rw[e2] at e
     cases e
     have d':Data.seq vs.toArray _=Data.dict es ep:=d
     cases d'
   . rw[e2] at e
     cases e
     have d':Data.seq vs.toArray _=Data.dict es ep:=d
     cases d'
 generalize w9 K s₁.heap A=H at hO hok hS hK noA
 have base_of:∀ {b:Addr}{o:Obj},s₁.heap.get? b=some o->H b=none->(Y4 s₁.heap H).get? b=some o:=fun e n=>aaA e n
 have nsK:∀ {b:Addr}{m:Str->Option Value},s₁.heap.Ns b m->(Y4 s₁.heap H).Ns b m:=fun {b m} ⟨o,es,ep,e,d,r⟩=>⟨o,es,ep,base_of e (noA e d),d,r⟩
 have nK:∀ b o,K.lookup b=some o->H b=none:=fun b o e=>by
  cases q:H b with
  | none=>rfl
  | some u =>
   rw[hK b u q] at e
   cases e
 have hKb:K.In (Y4 s₁.heap H):=fun b o e=>base_of (KX b o e) (nK b o e)
 have hM:Mod K mg (Y4 s₁.heap H):=⟨hKb,nsK hns,⟨mb,nsK hb,hbb⟩,let ⟨mc,h1,h2⟩:=hlim;⟨mc,nsK h1,h2⟩⟩
 have e0:Env0 P w K mg (Y4 s₁.heap H) callerA [] s₁ H:=⟨rfl,hM,fun b o e=>abE e,Nat.le_of_eq (Uy _ _),trivial,fun b hb=>absurd (show b∈([]:List Addr) from hb) (by simp),hok,.of_eq hg⟩
 have hl:vals.length=ps.length:=by rw[x6 hwl];exact hlen
 refine codeAny_mono ((F _ hKb (nsK hns)).run callerA [] s₁ H ⟨vals,[]⟩ vals (vals.map toV) _ _ hr e0 (hbind s₁ vals hl) hV (hsp H _ hO hS)) fun r s' x=>?_
 cases r with
 | error e=>exact (hCX H e s' x).elim
 | ok fl =>
  cases fl with
  | next=>exact False.elim x
  | brk=>exact False.elim x
  | cont=>exact False.elim x
  | ret u =>
   obtain⟨v,H',os,bare,un,hok',r',q⟩:=x
   have kept:∀ b o,s₁.heap.get? b=some o->s'.heap.get? b=some o:=fun b o e=>by
    cases q2:H b with
    | none=>exact un.keep b o e q2 (by intro z;exact absurd (show b∈([]:List Addr) from z) (by simp)) (by simp)
    | some u2 =>
     rcases hO b with z | ⟨ob,u3,z⟩
     . rw[q2] at z
       cases z
     . have z2:=un.frzs b ob _ z
       obtain⟨e1,_⟩:=hok b _ z
       obtain⟨e2,_⟩:=hok' b _ z2
       rw[e] at e1
       cases e1
       exact e2
   have KX':K.In s'.heap:=fun b o e=>kept b o (KX b o e)
   obtain⟨as,hrd⟩:=Dw.reads (R:=R) (cl:=cl) hok' KX' d0 v u q r'
   exact⟨u,as,rfl,hrd,OldK.of_keep kept,os,bare⟩
theorem Kh {ds:List WData} (h:WData.layableAll ds=true):∀ d∈ds,d.weight<=1048576:=fun d hd =>
 (PySem.W.layableW_iff.mp (List.all_eq_true.mp h d hd)).2.2
theorem Ki:∀ (cs:List Codec) (a:Codec.denoteAll cs),(Codec.encAll cs a).length=cs.length
 | [],_=>rfl
 | c::cs,a=>by
  show (Codec.encAll cs a.2).length+1=cs.length+1
  rw[Ki cs a.2]
theorem UN {r:OpenSpec}{k:Nat}{q:Program}{loose:List Str}{XP:(Str->Option Value)->Heap->Prop}{YP:World->Heap->Prop}{d:DefRec}{K:Params->PySem.W.Frag}{CX:World->CXT}{ps:List Str}{sp:World->Sp}
 (hwell:r.wellSaid=true) (hdf:d.params.defaults=[]) (hlen:r.args.length=ps.length) (hr:Room k callerA)
 (hY:∀ (w:World) (h:Heap),YP w h->(K w.params).In h)
 (F:∀ (w:World) (mg:Str->Option Value) (fa:Addr) (h:Heap),YP w h->(K w.params).In h->h.Ns mainGlobals mg->mg d.name=some (.ref fa) ->
  ∃ fd:FuncData,(∀ (s:Shared) (us:List Value),us.length=ps.length->BindsTo s fd ⟨us,[]⟩ (ps.zip us)) /\
   ∀ base:Heap,(K w.params).In base->base.Ns mainGlobals mg->z_ r.prog w (K w.params) mg base (CX w) k fa fd ps (sp w))
 (hsp:∀ (w:World) (H:Hp) (xs:List V) (a:Codec.denoteAll r.args),Xt H->Codec.withinAll r.args a=true->Codec.app r.args r.asked a=true->wu (K w.params) H xs (Codec.encAll r.args a) ->
  sp w xs H (fun v H'=>Dw (K w.params) H' v (r.ret.enc (Codec.app r.args r.f a))) fun _ _ _=>False)
 (hCX:∀ (w:World) (H:Hp) (s:Shared) (e:Value) (s':Shared),CX w [] H s (fun _ _ _=>False) e s'->False) :
 PySem.W.WalkOS q loose XP YP r d [] (fun f vs=>PySem.call f vs):=by
 intro w s_0 s₁ mg mb G Y fa o pm cd doc dV kV ho hd hcd hD hmg hg args vals as hpre hlay hrd hwl hlo
 obtain⟨a,e1,e2⟩:=PySem.W.os_pre_some hpre
 obtain⟨e3,hwi⟩:=Codec.encAll_of_decAll r.args args a e1
 subst e3
 have KX:=hY w _ Y
 obtain⟨fd,hb,hF⟩:=F w mg fa _ Y KX G.T.g hmg
 refine PySem.W.enter_call (codeAny_mono (UM (R:=[]) (cl:=classAt s_0.heap) (d0:=r.ret.enc (Codec.app r.args r.f a)) KX G.T.g G.T.b G.T.builtins G.T.nolimit hg hwl (VI _ _) (Kh hlay) hr hF hb (by rw[Ki];exact hlen)
  (fun H xs hO hS=>hsp w H xs a hO hwi e2 hS) fun H e s'=>hCX w H s₁ e s') fun r' s' hq=>?_)
 obtain⟨u,as',rfl,h1,h2,h3,h4⟩:=hq
 exact⟨.inl ⟨u,_,as',rfl,fun _=>rfl,h1,(OpenSpec.post_iff hwell hwi _ _).mpr rfl,fun z=>Bool.noConfusion (show false=true from z)⟩,h2,h3,h4⟩
theorem Wp {r:OpenSpec}{k:Nat}{q:Program}{loose:List Str}{XP:(Str->Option Value)->Heap->Prop}{YP:World->Heap->Prop}{d:DefRec}{K:Params->PySem.W.Frag}{CX:CXT}{ps:List Str}{sp:PySem.W.Frag->Sp}
 (hwell:r.wellSaid=true) (hdf:d.params.defaults=[]) (hlen:r.args.length=ps.length) (hr:Room k callerA)
 (hY:∀ (w:World) (h:Heap),YP w h->(K w.params).In h)
 (F:∀ (w:World) (mg:Str->Option Value) (fa:Addr) (h:Heap),YP w h->(K w.params).In h->h.Ns mainGlobals mg->mg d.name=some (.ref fa) ->
  ∃ fd:FuncData,(∀ (s:Shared) (us:List Value),us.length=ps.length->BindsTo s fd ⟨us,[]⟩ (ps.zip us)) /\
   ∀ base:Heap,(K w.params).In base->base.Ns mainGlobals mg->z_ r.prog w (K w.params) mg base CX k fa fd ps (sp (K w.params)))
 (hsp:∀ (K:PySem.W.Frag) (H:Hp) (xs:List V) (a:Codec.denoteAll r.args),Xt H->Codec.withinAll r.args a=true->Codec.app r.args r.asked a=true->wu K H xs (Codec.encAll r.args a) ->
  sp K xs H (fun v H'=>Dw K H' v (r.ret.enc (Codec.app r.args r.f a))) fun _ _ _=>False)
 (hCX:∀ (H:Hp) (s:Shared) (e:Value) (s':Shared),CX [] H s (fun _ _ _=>False) e s'->False) :
 PySem.W.WalkOS q loose XP YP r d [] (fun f vs=>PySem.call f vs) :=
 UN (K:=K) (CX:=fun _=>CX) (sp:=fun w=>sp (K w.params)) hwell hdf hlen hr hY F (fun w H xs a h1 h2 h3 h4=>hsp (K w.params) H xs a h1 h2 h3 h4) fun _ H s e s'=>hCX H s e s'
end L2
end
end
section
namespace L2
open PySem PySem.Spec PyProof.Rows
section
variable {X:Cx}
theorem pgi {x:Str}{n:Int}{pos:Pos} (hm:∃ t,X.mg x=some (Value.int n t)) (hg:Gl X x:=by rfl) (hd:(x == ("__debug__":Str))=false:=by decide):PE X (.Name x pos) (tC (.int n)):=by
 obtain⟨t,hm⟩:=hm
 exact ZI hg hm ⟨t,rfl⟩ hd
end
structure Def (P:Program) (w:World) (K:PySem.W.Frag) (mg:Str->Option Value) (base:Heap) (x:Str) (k:Nat) (ps:List Str) (sp:Sp) (f:Addr) (fd:FuncData):Prop where
 mgf:mg x=some (.ref f)
 kp:PySem.W.keepIn K (.ref f)=true
 bd:Binds K fd ps []
 ok:z_ P w K mg base CX0 k f fd ps sp
structure Cdf (P:Program) (w:World) (K:PySem.W.Frag) (mg:Str->Option Value) (base:Heap) (x:Str) (k:Nat) (ps:List Str) (sp:Sp) (C f:Addr) (fd:FuncData):Prop where
 mgc:mg x=some (.ref C)
 mkc:Mk K C f
 bd:Binds K fd ps []
 ok:z_ P w K mg base CX0 k f fd ps sp
section
variable {X:Cx}{k j:Nat}{f C:Addr}{fd:FuncData}{ps:List Str}{sp:Sp}{x:Str}{p pos:Pos}{e:Expr}{es:List Expr}{t:TA}
theorem zk (D:Def X.prog X.w X.K X.mg X.base x k ps sp f fd) (hr:Room k X.A) (ha:PA X (e::es) t) (hg:Gl X x:=by rfl) (hdb:(x == ("__debug__":Str))=false:=by decide)
 (he:starEach (e::es) X.env=(false,eval e X.env)::starEach es X.env:=by rfl) (hpl:(backTo pos (starEach es X.env)).any (·.1)=false:=by rfl) :
 PE X (.Call (.Name x p) (e::es) [] pos) (W_ sp [] E0 t):=abK D.ok hr hg D.mgf D.kp D.bd .nil aaZ ha hdb he hpl
theorem qw (D:Cdf X.prog X.w X.K X.mg X.base x k ps sp C f fd) (hr:Room (k+1) X.A) (ha:PA X (e::es) t) (hg:Gl X x:=by rfl) (hdb:(x == ("__debug__":Str))=false:=by decide)
 (he:starEach (e::es) X.env=(false,eval e X.env)::starEach es X.env:=by rfl) (hpl:(backTo pos (starEach es X.env)).any (·.1)=false:=by rfl) :
 PE X (.Call (.Name x p) (e::es) [] pos) (wt C sp [] E0 t):=abL D.mkc D.ok hr hg D.mgc D.bd .nil aaZ ha hdb he hpl
theorem UO (D:Cdf X.prog X.w X.K X.mg X.base x k ps sp C f fd) (hr:Room (k+1) X.A) (hg:Gl X x:=by rfl) (hdb:(x == ("__debug__":Str))=false:=by decide) :
 PE X (.Call (.Name x p) [] [] pos) (wt C sp [] E0 xL):=aaN D.mkc D.ok hr hg D.mgc D.bd .nil aaZ hdb
end
section
variable {X:Cx}
def abW:V->List V->Hp->VK->Prop:=fun x vs H Q=>∃ l xs i y,x=.ref l/\vs=[.int ((i:Nat):Int),y]/\H l=some (.lst xs)/\i<=xs.length/\xs.length<sizeLine/\Q .non (upd H l (.lst (xs.take i++y::xs.drop i)))
theorem VM:MtM X "list.insert" abW:=by
 intro pins s σ H x vs v us Q I rx rv h
 obtain⟨l,xs,i,y,rfl,rfl,hH,hi,hz,q⟩:=h
 cases rx
 obtain⟨u1,u,rfl,⟨t1,rfl⟩,ru⟩:=rv.two
 obtain⟨z,its,n,r,hl,e⟩:=I.lstM hH
 have hfit:Builtin.List.listFitsIndex (i:Int)=true:=by
  have:=sizeLine_eq
  unfold Builtin.List.listFitsIndex
  simp
  omega
 have hnf:¬(!Builtin.List.listFitsIndex (i:Int))=true:=by rw[hfit];decide
 have hsz:its.toArray.size<=sizeLine:=by rw[List.size_toArray];omega
 obtain⟨x,hx⟩:∃ x:Int,x=(i:Int):=⟨_,rfl⟩
 rw[<-hx] at hnf ⊢
 have M:=PySem.AutoSeq1.list_insert_list_int_val_1 l its.toArray n x t1 u hnf hsz
 refine call_meets F.slot_list_insert ⟨_,e,rfl⟩ F.entry_list_insert (F.args_list_insert_3 _ _ _) M ⟨e,?_⟩
 subst hx
 refine⟨.non,_,I.lset (its':=its.take i++u::its.drop i) (ys:=xs.take i++y::xs.drop i) hH e ?_ ((r.take i).append (.cons ru (r.drop i))) ?_,rfl,q⟩
 . have hk:(if (i:Int)<0 then ((i:Int)+((its.toArray.size:Nat):Int)).toNat else min (i:Int).toNat its.toArray.size)=i:=by
    rw[if_neg (by omega),List.size_toArray]
    omega
   show (its.toArray.extract 0 _).push u++its.toArray.extract _=_
   simp only[hk]
   apply Array.ext'
   simp[List.take_of_length_le]
 . rw[List.length_append,List.length_cons,List.length_take,List.length_drop]
   omega
end
end L2
end
section
namespace L2
open PySem PySem.Spec PyProof.Rows
section
variable {prog:Program}{w:World}{A:Around}{R:Result->Shared->Prop}{I:Addr}{fp wr:List Addr}{n:Nat}{P:Nat->Value->Prop}{St:Nat->Heap->Prop}
theorem abX (kw:List (Str × Value)) (W:Walks prog w A.in1 I fp wr n P St) (bt:Nat->Nat->Bool) (hcmp:CmpOf prog w A.in1 .Gt P bt) (B:Addr) (hBf:B ∉ fp) :
 ∀ (k j:Nat) (z:Shared) (vb:Value) (c:Nat),n - (j+1)=k->j+1<=n->St (j+1) z.heap->P (argBest bt j) vb ->
  z.heap.get? B=some { cls:=.type "list",dict:=none,data:=.seq #[vb,vb] c,slots:=#[] } ->
  (∀ v h' tk,P (argBest bt (n - 1)) v->(∀ b o,b ∉ wr->b≠B->z.heap.get? b=some o->h'.get? b=some o)->R (.ok (.ret v)) { z with heap:=h',toks:=tk }) ->
  codeAny (model prog w) A (.builtin "max.loop" ⟨[.ref I,.none,.ref B],kw⟩) R z:=by
 have hBw:B ∉ wr:=fun h=>hBf (W.sub _ h)
 have nm:(toString "max"++toString ".loop":String)="max.loop":=by decide
 intro k
 induction k with
 | zero =>
  intro j z vb c hk hj hst hPb hB hR
  have jn:j+1=n:=by omega
  refine codeAny_builtin PySem.F.entry_max_loop ?_
  rw[Around.under_plainId PySem.F.plain_max_loop _]
  show wpAny _ A.in1 (seqItems? (.ref B) >>= _) _ _ z
  refine wpAny_bind (wpAny_seqItems hB rfl ?_)
  show wpAny _ A.in1 (tryCatch (pyNext (.ref I)) _ >>= _) _ _ z
  refine wpAny_bind (wpAny_tryCatch (W.done z _ _ (jn▸hst) fun h' tk kp=>?_))
  have hB':=kp B _ hBw hB
  show wpAny _ A.in1 (updateSeq B (fun _=>#[]) >>= _) _ _ _
  refine wpAny_bind ?_
  refine wpAny_updateSeq hB' rfl (wpAny_bind (wpAny_letGo (wpAny_pure ?_)))
  exact hR vb _ tk (by rw[<-jn];exact hPb) fun b o nb nB e=>(Heap.get?_update_other _ _ (Ne.symm nB)).trans (kp b o nb e)
 | succ k ih =>
  intro j z vb c hk hj hst hPb hB hR
  have jn:j+1<n:=by omega
  refine codeAny_builtin PySem.F.entry_max_loop ?_
  rw[Around.under_plainId PySem.F.plain_max_loop _]
  show wpAny _ A.in1 (seqItems? (.ref B) >>= _) _ _ z
  refine wpAny_bind (wpAny_seqItems hB rfl ?_)
  show wpAny _ A.in1 (tryCatch (pyNext (.ref I)) _ >>= _) _ _ z
  refine wpAny_bind (wpAny_tryCatch (W.item (j+1) z _ _ jn hst fun v h' tk hP st' kp=>?_))
  have hB':=kp B _ hBw hB
  show wpAny _ A.in1 (tryCatch (holding [v,v] (richCompare .Gt v vb >>= _)) _ >>= _) _ _ _
  refine wpAny_bind (wpAny_tryCatch (wpAny_holding (wpAny_bind (hcmp (j+1) (argBest bt j) v vb _ _ _ hP hPb ?_))))
  refine wpAny_bind (wpAny_holding (wpAny_truthy_bool ?_))
  refine wpAny_bind (wpAny_letGo (wpAny_pure ?_))
  cases yb:bt (j+1) (argBest bt j) with
  | true =>
   simp only[if_true]
   refine wpAny_bind ?_
   refine wpAny_updateSeq hB' rfl (wpAny_bind (wpAny_letGo ?_))
   rw[nm]
   refine wpAny_pure ⟨plainId_quiet PySem.F.plain_max_loop _,ih (j+1) _ v _ (by omega) jn (W.frame _ _ _ st' fun b nb o e=>?_) (by simp only[argBest,yb,if_true];exact hP) (Heap.get?_update_self _ hB' rfl) fun v' h2 t2 hP' kp2=>?_⟩
   . exact (Heap.get?_update_other _ _ (fun h:B=b=>hBf (by rw[h];exact nb))).trans e
   . exact hR v' h2 t2 hP' fun b o nb nB e=>kp2 b o nb nB ((Heap.get?_update_other _ _ (Ne.symm nB)).trans (kp b o nb e))
  | false =>
   simp only[Bool.false_eq_true,if_false]
   refine wpAny_bind (wpAny_letGo ?_)
   rw[nm]
   refine wpAny_pure ⟨plainId_quiet PySem.F.plain_max_loop _,ih (j+1) _ vb c (by omega) jn st' (by simp only[argBest,yb,Bool.false_eq_true,if_false];exact hPb) hB' fun v' h2 t2 hP' kp2=>?_⟩
   exact hR v' h2 t2 hP' fun b o nb nB e=>kp2 b o nb nB (kp b o nb e)
theorem Wq (d:Value) (W:Walks prog w A.in1 I fp wr n P St) (bt:Nat->Nat->Bool) (hcmp:CmpOf prog w A.in1 .Gt P bt) (B:Addr) (hBf:B ∉ fp) {z:Shared}{c:Nat} (hst:St 0 z.heap)
 (hB:z.heap.get? B=some { cls:=.type "list",dict:=none,data:=.seq #[] c,slots:=#[] })
 (h0:n=0->∀ h' tk,(∀ b o,b ∉ wr->b≠B->z.heap.get? b=some o->h'.get? b=some o)->R (.ok (.ret d)) { z with heap:=h',toks:=tk })
 (hR:0<n->∀ v h' tk,P (argBest bt (n - 1)) v->(∀ b o,b ∉ wr->b≠B->z.heap.get? b=some o->h'.get? b=some o)->R (.ok (.ret v)) { z with heap:=h',toks:=tk }) :
 codeAny (model prog w) A (.builtin "max.loop" ⟨[.ref I,.none,.ref B],[(Str.ofString "default",d)]⟩) R z:=by
 have hBw:B ∉ wr:=fun h=>hBf (W.sub _ h)
 have nm:(toString "max"++toString ".loop":String)="max.loop":=by decide
 refine codeAny_builtin PySem.F.entry_max_loop ?_
 rw[Around.under_plainId PySem.F.plain_max_loop _]
 show wpAny _ A.in1 (seqItems? (.ref B) >>= _) _ _ z
 refine wpAny_bind (wpAny_seqItems hB rfl ?_)
 show wpAny _ A.in1 (tryCatch (pyNext (.ref I)) _ >>= _) _ _ z
 by_cases hn:0<n
 . refine wpAny_bind (wpAny_tryCatch (W.item 0 z _ _ hn hst fun v h' tk hP st' kp=>?_))
   have hB':=kp B _ hBw hB
   show wpAny _ A.in1 (updateSeq B (fun _=>#[v,v]) >>= _) _ _ _
   refine wpAny_bind ?_
   refine wpAny_updateSeq hB' rfl ?_
   rw[nm]
   refine wpAny_pure ⟨plainId_quiet PySem.F.plain_max_loop _,abX _ W bt hcmp B hBf _ 0 _ v _ rfl hn (W.frame _ _ _ st' fun b nb o e=>?_) hP (Heap.get?_update_self _ hB' rfl) fun v' h2 t2 hP' kp2=>?_⟩
   . exact (Heap.get?_update_other _ _ (fun h:B=b=>hBf (by rw[h];exact nb))).trans e
   . exact hR hn v' h2 t2 hP' fun b o nb nB e=>kp2 b o nb nB ((Heap.get?_update_other _ _ (Ne.symm nB)).trans (kp b o nb e))
 . have n0:n=0:=by omega
   refine wpAny_bind (wpAny_tryCatch (W.done z _ _ (n0.symm▸hst) fun h' tk kp=>?_))
   refine wpAny_bind (wpAny_rule (wpAny_pure ?_))
   exact h0 n0 h' tk fun b o nb _ e=>kp b o nb e
end
theorem UP (a v:Value):argsOk "max" ⟨[a],[(Str.ofString "default",v)]⟩:=by unfold argsOk;kernel_rfl
section
variable {prog:Program}{w:World}{A:Around}{E:Value->Shared->Prop}{s:Shared}{l:Addr}{its:List Value}{ns:List Int}{Q:Value->Shared->Prop}
theorem aa4 {d:Value} (hh:A.handled=none) (hl:s.heap.IsList l its.toArray) (hi:IntsAre its ns)
 (h0:ns=[]->∀ h' tk,(∀ b o,s.heap.get? b=some o->h'.get? b=some o)->Q d { s with heap:=h',toks:=tk })
 (h:∀ h' tk M t',(∀ b o,s.heap.get? b=some o->h'.get? b=some o)->M∈ns->(∀ a,a∈ns->a<=M)->Q (.int M t') { s with heap:=h',toks:=tk }) :
 wpAny (model prog w) A (call (.builtin "max") [.ref l] [(Str.ofString "default",d)]) Q E s:=by
 have nm:(toString "max"++toString ".loop":String)="max.loop":=by decide
 obtain⟨xs,e⟩:=hi.allInts.items
 have hn:numsOf (intItems xs).toList=ns:=by rw[<-e];exact hi.numsOf
 rw[nums_intItems] at hn
 subst hn
 rw[e] at hl
 have hlt:l<s.heap.objs.size:=by obtain⟨_,q,_⟩:=hl;exact Heap.lt_size q
 refine PyProof.Rows.kmk_tree PySem.F.kind_max PySem.F.plain_max PySem.F.entry_max (UP _ _) ?_
 show wpAny _ A.in1 (Builtin.Builtins.bindParams "max" ["key","default"] 0 ⟨[],[(Str.ofString "default",d)]⟩ >>= _) _ _ s
 refine wpAny_bind (wpAny_of_eq (show Builtin.Builtins.bindParams "max" ["key","default"] 0 ⟨[],[(Str.ofString "default",d)]⟩=pure [none,some d] from rfl) ?_)
 refine wpAny_bind (wpAny_pure ?_)
 refine wpAny_bind (K9 hl fun s₂ e2 st hne=>?_)
 subst e2
 refine wpAny_bind (wpAny_newList ?_ (Nat.zero_le _))
 rw[nm]
 have hz:(s.heap.push { cls:=.type "list_iterator",data:=.fields #[.ref l,.int 0 0] }).objs.size=s.heap.objs.size+1:=Heap.size_push ..
 have kept:∀ {h':Heap},(∀ b o,b ∉ [s.heap.objs.size]->b≠(s.heap.push { cls:=.type "list_iterator",data:=.fields #[.ref l,.int 0 0] }).objs.size ->
  ((s.heap.push { cls:=.type "list_iterator",data:=.fields #[.ref l,.int 0 0] }).push { cls:=.type "list",data:=.seq #[] }).get? b=some o->h'.get? b=some o) ->
  ∀ b o,s.heap.get? b=some o->h'.get? b=some o:=fun kp b o eo=>kp b o (fun m=>Nat.ne_of_lt (Heap.lt_size eo) (List.mem_singleton.mp m)) (by
   rw[hz]
   exact Nat.ne_of_lt (Nat.lt_succ_of_lt (Heap.lt_size eo))) (Heap.get?_push_of_some _ (Heap.get?_push_of_some _ eo))
 refine wpAny_pure ⟨plainId_quiet PySem.F.plain_max_loop _,Wq d (Walks.list (A:=A.in1) hh _ l hne (intItems xs)) _ (CmpOf.ints_gt (numAt xs) (fun _ _=>intItems_at)) _ ?_ ⟨st.1.at fun o q=>Heap.get?_push_of_some _ q,st.2.push _⟩ (Heap.get?_push_size _ rfl) (fun n0 h' tk kp=>?_) fun n1 v h' tk hP kp=>?_⟩
 . rw[hz]
   intro m
   rcases List.mem_cons.mp m with m | m
   . exact absurd m (Nat.succ_ne_self _)
   . have m:=List.mem_singleton.mp m
     rw[<-m] at hlt
     exact absurd hlt (Nat.not_lt.mpr (Nat.le_succ _))
 . exact h0 (by
    have:xs.size=0:=by simpa [intItems] using n0
    rw[Array.size_eq_zero_iff.mp this]
    rfl) h' tk (kept kp)
 . have hP':(intItems xs)[argBest (fun i j=>decide (numAt xs i > numAt xs j)) (xs.size - 1)]?=some v:=by simpa [intItems] using hP
   have hsz:0<xs.size:=by simpa [intItems] using n1
   obtain⟨t,rfl⟩:=intItems_at hP'
   obtain⟨h1,h2⟩:=argBest_gt (numAt xs) (xs.size - 1)
   refine h h' tk _ t (kept kp) ?_ fun a ha=>?_
   . rw[numAt_eq]
     exact PySem.getD_mem (by rw[List.length_map,Array.length_toList];omega)
   . obtain⟨j,hj,rfl⟩:=mem_getD ha
     rw[List.length_map,Array.length_toList] at hj
     rw[<-numAt_eq]
     exact h2 j (by omega)
end
section
variable {X:Cx}{e d:Expr}{te td:TE}{p pos kp:Pos}
def adi (K:PySem.W.Frag) (te td:TE):TE:=fun σ H Q=>te σ H fun x H1=>td σ H1 fun y H2=>∃ (a:Addr) (ns:List Int),x=.ref a/\SqL K H2 a (ns.map V.int)/\(ns=[]->Q y H2)/\∀ m,m∈ns->(∀ z,z∈ns->z<=m)->Q (.int m) H2
theorem abY (hm:X.mg "max"=none) (he:PE X e te) (hd:PE X d td) (hc:X.calm=true:=by rfl) (hg:Gl X "max":=by rfl) (hs:starEach [e] X.env=[(false,eval e X.env)]:=by rfl) :
 PE X (.Call (.Name "max" p) [e] [⟨some (Str.ofString "default"),d,kp⟩] pos) (adi X.K te td):=by
 intro pins s σ H Q I h
 refine wpAny_Call_Name_kw (wT I hg hm boot_max ?_)
 have hb:backTo pos (starEach [e] X.env)=(false,eval e X.env)::backTo pos (starEach [] X.env):=by rw[hs];rfl
 refine PyProof.Rows.callWith_kw (env:=X.env) ?_ hb (by rw[hb];rfl)
 rw[hb]
 refine Calls.spliced_cons (thn (he pins s σ H _ I h) fun u s1 ⟨x,H1,I1,r1,q1⟩=>?_)
 refine Calls.spliced_nil ?_
 refine kws_cons (thn (hd pins s1 σ H1 _ I1 q1) fun ud s2 ⟨y,H2,I2,r2,a,ns,ex,hq,q0,q2⟩=>kws_nil ?_)
 subst ex
 cases r1
 obtain⟨its,rv,hl,_⟩:=I2.list hq
 exact aa4 (I2.ok.hd hc) hl.isList rv.ints (fun n0 h' tk hk=>⟨y,H2,I2.kept hk,r2,q0 n0⟩) fun h' tk m t' hk h1 h2=>⟨.int _,H2,I2.kept hk,⟨_,rfl⟩,q2 m h1 h2⟩
end
end L2
end
section
namespace L2
open PySem PySem.Spec PyProof.Rows
theorem Wr (a v:Value):checkTypeCall "enumerate" ⟨[a],[(Str.ofString "start",v)]⟩=pure ():=by kernel_rfl
theorem UQ (a v:Value):checkBuiltinCall "enumerate.__new__" ⟨[.type "enumerate",a],[(Str.ofString "start",v)]⟩=pure ():=by kernel_rfl
theorem Ws (a b v:Value):argsOk "object.__init__" ⟨[a,b],[(Str.ofString "start",v)]⟩:=by unfold argsOk;kernel_rfl
theorem Xw (l:Addr) (items:Array Value) (n:Nat) (dct:Option Addr) (sl:Array (Option Value)) (i:Int) (t:Tok) (hi:Builtin.SmallTypes.fitsIndex i=true) :
 Meets (Builtin.«enumerate.__new__» ⟨[.type "enumerate",.ref l],[(Str.ofString "start",.int i t)]⟩) (fun _ R s=>s.heap.get? l=some { cls:=.type "list",dict:=dct,data:=.seq items n,slots:=sl } /\
  R (.ok (.ret (.ref (s.heap.push { cls:=.type "list_iterator",data:=.fields #[.ref l,.int 0 0] }).objs.size)))
   { s with heap:=(s.heap.push { cls:=.type "list_iterator",data:=.fields #[.ref l,.int 0 0] }).push { cls:=.type "enumerate",data:=.fields #[.none,.bool false,.ref s.heap.objs.size,rawInt i,.none,.none] } }) :=
 .of_wp fun prog w A R s h=>by
  obtain⟨hp,g,d,tk,os⟩:=s
  obtain⟨hl,h⟩:=h
  have hsub:=sub_enumerate
  have hL:Heap.IsList (Shared.heap ⟨hp,g,d,tk,os⟩) l items:=⟨_,hl,rfl,n,rfl⟩
  wp_walk using AutoSeq1.wpAny_loadPart' hl
  refine wpAny_stack_any fun st=>wpAny_pure ?_
  split
  . rename_i c _ _ _ _ _
    cases (c == Value.type "enumerate")
    . wp_walk using AutoSeq1.wpAny_loadPart' hl,wpAny_pyIter_list hL
      exact⟨_,rfl,h⟩
    . wp_walk using AutoSeq1.wpAny_loadPart' hl,wpAny_pyIter_list hL
      exact⟨_,rfl,h⟩
  . wp_walk using AutoSeq1.wpAny_loadPart' hl,wpAny_pyIter_list hL
    exact⟨_,rfl,h⟩
section
variable {prog:Program}{w:World}{A:Around}{E:Value->Shared->Prop}{s:Shared}
theorem Wt {T newId:String}{Bn:Builtin}{args:List Value}{kw:List (Str × Value)}{S:PySem.Spec}{Q:Value->Shared->Prop} (ft:TypeCalled T newId "object.__init__")
 (hct:checkTypeCall T ⟨args,kw⟩=pure ()) (hcn:checkBuiltinCall newId ⟨.type T::args,kw⟩=pure ())
 (hok:∀ obj,argsOk "object.__init__" ⟨obj::args,kw⟩) (entryN:entryFor table newId=some Bn) (g:Meets (Bn ⟨.type T::args,kw⟩) S)
 (gi:∀ obj,Meets (Builtin.«object.__init__» ⟨obj::args,kw⟩) (fun _ R s=>s.TypeIs obj T/\R (.ok (.ret .none)) s))
 (h:S A.in1 (wants (fun obj s₁=>s₁.TypeIs obj T/\Q obj s₁) E) s):wpAny (model prog w) A (call (.type T) args kw) Q E s:=by
 obtain⟨c,tl,hmro⟩:=ft.mro
 have hmade:=ft.made
 have hsub:=ft.sub
 refine wpAny_call (codeAny_of_tree ?_)
 show wpAny _ _ (callAny (.type T) _) _ _ _
 refine wpAny_pure ⟨Code.quiet_builtin _ (by decide +kernel),codeAny_builtin F.entry_type_call ?_⟩
 rw[Around.under_plain (weight_type_call_type T args kw) (units_type_call_type T args kw)]
 have h1:=ft.notType
 have h2:=ft.canCreate
 repeat (any_goals (first | assumption | wp_step))
 refine codeAny_mono (codeAny_call_builtin ft.plain entryN (wpAny_of_eq hcn (g prog w A.in1 _ s h))) fun r s₁ hr=>?_
 cases r with
 | error e=>exact hr
 | ok fl =>
  cases fl with
  | ret obj =>
   obtain⟨hT,hq⟩:=hr
   have hli:=ft.init.lookup
   have hbi:=ft.init.bind obj
   repeat (any_goals (first | assumption | wp_step))
   refine codeAny_mono (codeAny_call_builtin ft.init.plain F.entry_object_init (ft.init.check _ _ _ _ _ _ _ _ hT (hok obj) (gi obj prog w A.in1 (wants (fun r s₂=>r=.none/\Q obj s₂) E) s₁ ⟨hT,rfl,hq⟩))) fun r₂ s₂ hr₂=>?_
   cases r₂ with
   | error e=>exact hr₂
   | ok fl₂ =>
    cases fl₂ with
    | ret r =>
     obtain⟨rfl,hq2⟩:=hr₂
     repeat (any_goals (first | assumption | wp_step))
    | _=>exact hr₂.elim
  | _=>exact hr.elim
theorem Yk (self a v:Value):Meets (Builtin.«object.__init__» ⟨[self,a],[(Str.ofString "start",v)]⟩) (fun _ R s=>s.TypeIs self "enumerate"/\R (.ok (.ret .none)) s):=by
 have hl:=F.called_enumerate.init.lookup
 have hm:=F.called_enumerate.made
 refine Meets.of_wp fun prog w A R s hs=>?_
 obtain⟨hT,hq⟩:=hs
 have hne:(some "enumerate.__new__" != some "object.__new__")=true:=by decide
 repeat (any_goals (first | assumption | wp_step))
 exact⟨_,rfl,hq⟩
theorem Wu {l:Addr}{items:Array Value}{i:Int}{t:Tok}{Q:Value->Shared->Prop} (hi:Builtin.SmallTypes.fitsIndex i=true) (hL:s.heap.IsList l items)
 (h:∀ h',IsEnum h' (s.heap.objs.size+1) s.heap.objs.size i .none->h'.IsListIter s.heap.objs.size l 0->(∀ b o,s.heap.get? b=some o->h'.get? b=some o)->Q (.ref (s.heap.objs.size+1)) { s with heap:=h' }) :
 wpAny (model prog w) A (call (.type "enumerate") [.ref l] [(Str.ofString "start",.int i t)]) Q E s:=by
 obtain⟨⟨c,dct,dt,sl⟩,hl,hc,n,hd⟩:=hL
 replace hc:c=.type "list":=hc
 replace hd:dt=.seq items n:=hd
 subst hc hd
 refine Wt F.called_enumerate (Wr _ _) (UQ _ _) (fun obj=>Ws obj _ _) F.entry_enumerate_new (Xw l items n dct sl i t hi) (fun obj=>Yk obj _ _) ⟨hl,?_⟩
 have hz:(s.heap.push { cls:=.type "list_iterator",data:=.fields #[.ref l,.int 0 0] }).objs.size=s.heap.objs.size+1:=Heap.size_push ..
 show _/\_
 rw[hz]
 have he:IsEnum ((s.heap.push { cls:=.type "list_iterator",data:=.fields #[.ref l,.int 0 0] }).push
  { cls:=.type "enumerate",data:=.fields #[.none,.bool false,.ref s.heap.objs.size,rawInt i,.none,.none] }) (s.heap.objs.size+1) s.heap.objs.size i .none:=by
  have:=Heap.get?_push_size (s.heap.push { cls:=.type "list_iterator",data:=.fields #[.ref l,.int 0 0] })
   (o:={ cls:=.type "enumerate",data:=.fields #[.none,.bool false,.ref s.heap.objs.size,rawInt i,.none,.none] }) rfl
  rw[hz] at this
  exact this
 exact⟨⟨_,he,rfl⟩,h _ he ⟨_,Heap.get?_push_of_some _ (Heap.get?_push_size _ rfl),rfl,rfl⟩ fun b o x=>Heap.get?_push_of_some _ (Heap.get?_push_of_some _ x)⟩
theorem acI {it:Addr}{fp:List Addr}{n:Nat}{P:Nat->Value->Prop}{St:Nat->Heap->Prop} (k:Nat) (D:Draws prog w A it fp n P St):Draws prog w A it fp (n+k) (fun i x=>∃ j,i=j+k/\P j x) (fun i h=>∃ j,i=j+k/\St j h) where
 live:=fun i h ⟨j,_,st⟩=>D.live j h st
 frame:=fun i h h' ⟨j,e,st⟩ kp=>⟨j,e,D.frame j h h' st kp⟩
 item:=fun i s Q E hi ⟨j,e,st⟩ hQ=>D.item j s Q E (by omega) st fun x h' tk hP st' sb=>hQ x h' tk ⟨j,e,hP⟩ ⟨j+1,by omega,st'⟩ sb
 done:=fun s Q E ⟨j,e,st⟩ hE=>by
  obtain rfl:j=n:=by omega
  exact D.done s Q E st hE
end
theorem adH {prog:Program}{w:World}{A:Around}{items:Array Value}{i:Nat} (hh:A.handled=none) (it l:Addr) (hx:items[i]?=none):Draws prog w A it [it,l] i (fun _ _=>True) (fun j h=>j=i/\h.IsListIter it l i/\h.IsList l items) where
 live:=fun _ _ st=>let ⟨o,ho,_⟩:=st.2.1;⟨o,ho⟩
 frame:=fun _ _ _ st hk=>⟨st.1,st.2.1.at fun o e=>hk it (by simp) o e,st.2.2.at fun o e=>hk l (by simp) o e⟩
 item:=fun j s Q E hj st _=>by have:=st.1;omega
 done:=fun s Q E st hE=>wpAny_nextOf_list_end hh st.2.1 st.2.2 hx hE
def aa5 (K:PySem.W.Frag) (a:Addr) (k:Nat):It :=
 ⟨fun i H=>∃ (xs:List V) (x:V),SqL K H a xs/\xs[i]?=some x,fun i H v H'=>∃ T x,v=.ref T/\H T=none/\H'=upd H T (.tup [.int ((i+k:Nat):Int),x])/\∀ xs,SqL K H a xs->xs[i]?=some x,fun i H=>∃ xs:List V,SqL K H a xs/\xs.length<=i⟩
theorem Wv {P:Program}{w:World}{K:PySem.W.Frag}{elts:List Expr}{kk:Nat}{tpos:Pos} (k:Nat) (a e it:Addr) :
 Wg P w K (.Tuple elts kk tpos) (aa5 K a k) [e,it] e (fun i h=>(∃ old,IsEnum h e it ((i+k:Nat):Int) old)/\h.IsListIter it a i/\e≠it/\e≠a/\it≠a) where
 mem:=by simp
 obj:=fun i h st b hb=>by
  obtain⟨⟨old,he⟩,⟨o,ho,hc,hd⟩,_⟩:=st
  have e':b=e∨b=it:=by simpa using hb
  rcases e' with z | z
  . rw[z];exact⟨_,he,fun v q=>nomatch q⟩
  . rw[z];exact⟨o,ho,fun v q=>by rw[hd] at q;cases q⟩
 keep:=fun i h h' st k=>let ⟨⟨old,he⟩,hi,hne⟩:=st;⟨⟨old,k e (by simp) _ he⟩,hi.at fun o q=>k it (by simp) o q,hne⟩
 item:=by
  intro X hP hw hK hc i pins s σ H E I hf st hg
  subst hP hw hK
  obtain⟨⟨old,he⟩,hit,hne,hea,hia⟩:=st
  obtain⟨xs,x,hq,hx⟩:=hg
  obtain⟨its,rv,p,hz⟩:=I.list hq
  obtain⟨u,hu,ru⟩:=rv.get hx
  have hel:e<s.heap.objs.size:=Heap.lt_size he
  have hil:it<s.heap.objs.size:=by obtain⟨_,q,_⟩:=hit;exact Heap.lt_size q
  have hlt:i<its.toArray.size:=by
   rw[List.size_toArray]
   exact (List.getElem?_eq_some_iff.mp hu).1
  refine wpAny_pyNext_enum_itemD (acI k (Draws.list (prog:=X.prog) (w:=X.w) (A:=X.A.in1) (I.ok.hd hc) it a (Ne.symm hia) its.toArray)) he ⟨i,rfl,hit,p.isList⟩ (by omega) hne (by simp[hne,hea]) fun x2 h' tk hP ho hst' hT hsz hk=>?_
  obtain⟨j,ej,hP⟩:=hP
  obtain rfl:j=i:=by omega
  have ex:x2=u:=by
   have hP':its.toArray[j]?=some x2:=hP
   rw[List.getElem?_toArray,hu] at hP'
   exact (Option.some.inj hP').symm
  subst ex
  obtain⟨j',ej',hit',_⟩:=hst'
  obtain rfl:j'=j+1:=by omega
  refine⟨_,rfl,wpAny_letOwnedTupleGo_enum (s:={ s with heap:=h',toks:=tk+1 }) ho fun h'' he' sb=>?_⟩
  have hT2:h''.get? s.heap.objs.size=some { cls:=.type "tuple",data:=.seq #[.int ((j+k:Nat):Int) tk,x2] }:=(sb.2 _ (Nat.ne_of_gt hel)).trans hT
  have new:ObjOk X.prog X.w (upd H s.heap.objs.size (.tup [.int ((j+k:Nat):Int),x])) h'' s.heap.objs.size (.tup [.int ((j+k:Nat):Int),x]) :=
   ⟨by show 2<=sizeLine;decide,[.int ((j+k:Nat):Int) tk,x2],.cons ⟨_,rfl⟩ (.cons ru .nil),⟨_,hT2,rfl,_,rfl⟩⟩
  have I1:Inv X pins σ (upd H s.heap.objs.size (.tup [.int ((j+k:Nat):Int),x])) { s with heap:=h'',toks:=tk+1 } :=
   I.turnedNew (ch:=[e,it]) (fun b ob hb q=>(sb.2 b (fun z=>hb (by simp[z]))).trans (hk b ob (fun z=>hb (by simp[z])) (fun z=>hb (by simp[z])) q)) hf (Nat.le_refl _) new
  refine⟨.ref s.heap.objs.size,_,I1,rfl,⟨_,x,rfl,I.hok.fresh (Nat.le_refl _),rfl,fun ys hy=>by rw[I.list_inj hy hq];exact hx⟩,⟨⟨x2,?_⟩,hit'.at fun o q=>(sb.2 it (Ne.symm hne)).trans q,hne,hea,hia⟩,fun b hb=>?_⟩
  . have e1:((j+1+k:Nat):Int)=((j+k:Nat):Int)+1:=by omega
    rw[e1];exact he'
  . have hb':b<s.heap.objs.size:=by
     have e':b=e∨b=it:=by simpa using hb
     rcases e' with z | z
     . rw[z];exact hel
     . rw[z];exact hil
    rw[zh (Nat.ne_of_lt hb')]
    exact (hf b hb).1
 done:=by
  intro X hP hw hK hc i pins s σ H E I hf st hg
  subst hP hw hK
  obtain⟨⟨old,he⟩,hit,hne,hea,hia⟩:=st
  obtain⟨xs,hq,hx⟩:=hg
  obtain⟨its,rv,p,hz⟩:=I.list hq
  obtain⟨f0,f1,f2,f3,f4,f5⟩:=hf it (by simp)
  have hl:=rv.length
  exact wpAny_pyNext_enum_endD (adH (prog:=X.prog) (w:=X.w) (A:=X.A.in1) (i:=i) (I.ok.hd hc) it a (items:=its.toArray) (by simp;omega)) he ⟨rfl,hit,p.isList⟩ fun h' eb=>⟨rfl,I.turned (t':=s.toks) (fun b o hb q=>eb b o hb q) f0 f1 f3 f4 f5⟩
 self:=fun A i s Q E st h=>let ⟨⟨_,he⟩,_⟩:=st;wpAny_pyIter_enum he h
end L2
end
section
namespace L2
open PySem PySem.Spec PyProof.Rows
def acJ (K:PySem.W.Frag) (te td:TE):TI:=fun σ H R=>te σ H fun x H1=>td σ H1 fun y H2=>∃ (a:Addr) (xs:List V) (k:Nat),x=.ref a/\y=.int (k:Int)/\k<1000/\SqL K H2 a xs/\R (aa5 K a k) H2
section
variable {M:Model}{A:Around}{E:Value->Shared->Prop}{s:Shared}{env:Env}
theorem Ww {pos:Pos}{T:String}{e:Expr}{kws:List Keyword}{Q:Value->Shared->Prop} (he:starEach [e] env=[(false,eval e env)])
 (h:wpAny M A (eval e env) (fun v s₁=>wpAny M A (evalAll ((backToKw pos (keywordEach kws env)).map (·.2)))
  (fun kvs s₂=>wpAny M A (call (.type T) [v] (((backToKw pos (keywordEach kws env)).filterMap (·.1)).zip kvs)) Q E s₂) E s₁) E s)
 (hall:(backToKw pos (keywordEach kws env)).all (·.1.isSome)=true:=by rfl) (hkw:(backToKw pos (keywordEach kws env)).any (·.1.isNone)=false:=by rfl) :
 wpAny M A (callWith pos (.type T) [] (backTo pos (starEach [e] env)) (backToKw pos (keywordEach kws env))) Q E s:=by
 have hb:backTo pos (starEach [e] env)=[(false,eval e env)]:=by rw[he];rfl
 rw[hb]
 have hplain:([(false,eval e env)]:List (Bool × Sem Value)).any (·.1)=false:=rfl
 have h2:wpAny M A (evalArgs (.type T) true [(false,eval e env)] (backToKw pos (keywordEach kws env))) (fun a s₁=>wpAny M A (call (.type T) ([]++a.pos) a.kw) Q E s₁) E s:=by
  refine evalArgs_kwB hall (Calls.spliced_cons ?_)
  exact wpAny_mono h (fun v s1 h1=>Calls.spliced_nil h1) fun _ _ z=>z
 unfold callWith
 refine wpAny_bind (wpAny_holding (wpAny_mono h2 (fun a z h1=>wpAny_bind (wpAny_standAt ?_)) fun _ _ z=>z))
 simp only[hplain,hkw,Bool.or_false]
 refine wpAny_bind (wpAny_pure ?_)
 exact wpAny_bind (wpAny_mono h1 (fun r z hr=>wpAny_bind (wpAny_holding (wpAny_point (wpAny_pure hr)))) fun _ _ z=>z)
end
theorem aa6 {k:Nat} (h:k<1000):Builtin.SmallTypes.fitsIndex (k:Int)=true:=by
 unfold Builtin.SmallTypes.fitsIndex
 simp
 omega
theorem aa7 {X:Cx}{e d:Expr}{te td:TE}{p pos tpos kp:Pos}{elts:List Expr}{kk:Nat} (hm:X.mg "enumerate"=none) (he:PE X e te) (hd:PE X d td) (hg:Gl X "enumerate":=by rfl) (hs:starEach [e] X.env=[(false,eval e X.env)]:=by rfl) :
 PI X (.Tuple elts kk tpos) (.Call (.Name "enumerate" p) [e] [⟨some (Str.ofString "start"),d,kp⟩] pos) (acJ X.K te td):=by
 intro pins s σ H R I h
 refine wpAny_Call_Name_kw (wT I hg hm boot_enumerate ?_)
 refine Ww hs (thn (he pins s σ H _ I h) fun u s1 ⟨x,H1,I1,r1,q1⟩=>?_)
 refine kws_cons (thn (hd pins s1 σ H1 _ I1 q1) fun ud s2 ⟨y,H2,I2,r2,a,xs,k,ex,ey,hk,hq,q⟩=>kws_nil ?_)
 subst ex ey
 cases r1
 obtain⟨t,rfl⟩:=r2
 obtain⟨its,rv,p',hz⟩:=I2.list hq
 have hal:a<s2.heap.objs.size:=by obtain⟨_,z,_⟩:=p'.isList;exact Heap.lt_size z
 refine Wu (aa6 hk) p'.isList fun h' hen hit kpt=>wpAny_pyIter_enum hen ?_
 have I3:Inv X pins σ H2 { s2 with heap:=h' }:=I2.kept (t':=s2.toks) kpt
 refine⟨s2.heap.objs.size+1,[s2.heap.objs.size+1,s2.heap.objs.size],_,_,H2,rfl,I3,Wv k a (s2.heap.objs.size+1) s2.heap.objs.size,⟨⟨.none,by rw[Nat.zero_add];exact hen⟩,hit,Nat.succ_ne_self _,Nat.ne_of_gt (Nat.lt_succ_of_lt hal),Nat.ne_of_gt hal⟩,fun b hb=>?_,q⟩
 have e':b=s2.heap.objs.size+1∨b=s2.heap.objs.size:=by simpa using hb
 have hle:s2.heap.objs.size<=b:=by
  rcases e' with z | z
  . rw[z];exact Nat.le_add_right _ _
  . rw[z];exact Nat.le_refl _
 exact I2.fpOk hle (I2.hok.fresh hle)
end L2
end
section
namespace L2
open PySem PySem.Spec PyProof.Rows
section
variable {X:Cx}
def adI (K:PySem.W.Frag):R2:=fun x y H Q=>∃ d e,Dp K H x d/\Dp K H y e/\SeqAt.shaped d=true/\SeqAt.shaped e=true/\TbRaw.yL d e=true/\Q (.bl (TbRaw.ltv d e)) H
theorem acK (hu:X.A.units+64<cLine):OpR X (compareOp .Lt) (adI X.K):=by
 intro pins s σ H x y v u Q I rx ry h
 obtain⟨d,e,hd,he,sd,se,hc,q⟩:=h
 obtain⟨as,r1⟩:=Dp.reads I d x v hd rx
 obtain⟨bs,r2⟩:=Dp.reads I e y u he ry
 exact TbRaw.K2 d e X.A s v u as bs r1 r2 (SeqAt.canLay_of_shaped sd) (SeqAt.canLay_of_shaped se) hc (SeqAt.room_of_shaped sd hu) X.prog X.w X.xe _ ⟨.bl _,H,I,rfl,q⟩
def adJ (K:PySem.W.Frag) (neg:Bool):R2:=fun x y H Q=>∃ p xs ds d,y=.ref p/\SqL K H p xs/\uS K H xs ds/\Dp K H x d/\SeqAt.shaped d=true/\(∀ e,e∈ds->SeqAt.shaped e=true) /\
 Q (.bl (if neg then !(ds.any fun e=>PyData.eqv e d) else ds.any fun e=>PyData.eqv e d)) H
open Classical in
theorem U8 {X:Cx}{s:Shared}{v:Value}{d:PyData}{bs:List Addr} (rd:Reads s.heap v d bs) (sd:SeqAt.shaped d=true):∀ {ds:List PyData}{us:List Value}{as:List Addr},ReadsAll s.heap us ds as->(∀ e,e∈ds->SeqAt.shaped e=true)->X.A.units+64+1<cLine ->
 (∀ y,y∈us->SeqAt.EqAt X.A.in1 s y v (decide (∃ d' as',Reads s.heap y d' as'/\SeqAt.shaped d'=true/\PyData.eqv d' d=true))) /\
 us.any (fun y=>decide (∃ d' as',Reads s.heap y d' as'/\SeqAt.shaped d'=true/\PyData.eqv d' d=true))=ds.any fun e=>PyData.eqv e d
 | [],_,_,h,_,_=>by
  cases h
  exact⟨fun y hy=>(nomatch hy),rfl⟩
 | e::ds,_,_,h,hs,hu=>by
  cases h with
  | @cons u us _ _ as1 as2 h1 h2 =>
   obtain⟨i1,i2⟩:=U8 (X:=X) rd sd h2 (fun x hx=>hs x (List.mem_cons_of_mem _ hx)) hu
   have se:=hs e (List.mem_cons_self ..)
   have key:decide (∃ d' as',Reads s.heap u d' as'/\SeqAt.shaped d'=true/\PyData.eqv d' d=true)=PyData.eqv e d:=by
    cases q:PyData.eqv e d with
    | true=>exact decide_eq_true ⟨e,as1,h1,se,q⟩
    | false =>
     refine decide_eq_false fun⟨d',as',r',_,q'⟩=>?_
     rw[<-SeqAt.Reads.unique e d' u as1 as' (SeqAt.canLay_of_shaped se) h1 r',q] at q'
     cases q'
   refine⟨fun y hy=>?_,?_⟩
   . rcases List.mem_cons.mp hy with z | z
     . subst z
       rw[key]
       refine SeqAt.eqAt_reads e d X.A.in1 s y v as1 bs h1 rd (SeqAt.canLay_of_shaped se) (SeqAt.canLay_of_shaped sd) (SeqAt.room_of_shaped se ?_)
       show X.A.units+1+64<cLine
       omega
     . exact i1 y z
   . rw[List.any_cons,List.any_cons,key,i2]
theorem UR (hu:X.A.units+64+1<cLine):OpR X (compareOp .NotIn) (adJ X.K true):=by
 intro pins s σ H x y v u Q I rx ry h
 obtain⟨p,xs,ds,d,rfl,hq,ha,hd,sd,se,q⟩:=h
 cases ry
 obtain⟨its,rv,pl,hz⟩:=I.list hq
 obtain⟨as,r1⟩:=Dp.readsAll I ds xs its ha rv
 obtain⟨bs,r2⟩:=Dp.reads I d x v hd rx
 obtain⟨i1,i2⟩:=U8 (X:=X) r2 sd r1 se hu
 refine SeqAt.notIn_listAt _ pl.isList (fun y hy=>i1 y (by simpa using hy)) ⟨.bl _,H,I,?_,q⟩
 show Value.bool _=Value.bool _
 rw[<-i2]
 simp
theorem Room.units1 {k:Nat}{A:Around} (r:Room k A):A.units+64+1<cLine:=by have:=r.un;omega
def aa8 (K:PySem.W.Frag) (te:TE):TE:=fun σ H Q=>te σ H fun x H1=>∃ a xs,x=.ref a/\SqL K H1 a xs/\∀ p,H1 p=none->Q (.ref p) (upd H1 p (.lst xs.reverse))
theorem Yl {xs:List V}{us:List Value} (r:Vals xs us):Vals xs.reverse us.reverse:=by
 induction r with
 | nil=>exact .nil
 | @cons a b l1 l2 h t ih =>
  rw[List.reverse_cons,List.reverse_cons]
  exact ih.append (.cons h .nil)
theorem Kj {e:Expr}{te:TE}{p pos p2 pos2:Pos} (hl:X.mg "list"=none) (hm:X.mg "reversed"=none) (he:PE X e te) (hc:X.calm=true:=by rfl) (hg:Gl X "list":=by rfl) (hg2:Gl X "reversed":=by rfl)
 (hs:starEach [e] X.env=[(false,eval e X.env)]:=by rfl) (hs2:starEach [.Call (.Name "reversed" p2) [e] [] pos2] X.env=[(false,eval (.Call (.Name "reversed" p2) [e] [] pos2) X.env)]:=by rfl) :
 PE X (.Call (.Name "list" p) [.Call (.Name "reversed" p2) [e] [] pos2] [] pos) (aa8 X.K te):=by
 intro pins s σ H Q I h
 refine Call_ (wT I hg hl boot_list (PyProof.Rows.callWith_type1 ?_ hs2 rfl))
 rw[hs2]
 refine Calls.spliced_cons (?_:wpAny _ _ (eval (.Call (.Name "reversed" p2) [e] [] pos2) X.env) _ _ s)
 refine Call_ (wT I hg2 hm Ke (PyProof.Rows.callWith_type1 ?_ hs rfl))
 rw[hs]
 refine Calls.spliced_cons (thn (he pins s σ H _ I h) fun u s1 ⟨x,H1,I1,r1,a,xs,ex,hq,q⟩=>Calls.spliced_nil ?_)
 subst ex
 cases r1
 obtain⟨its,rv,pl,hz⟩:=I1.list hq
 refine call_reversed_list pl.isList (Calls.spliced_nil ?_)
 have hlt:a<s1.heap.objs.size:=pl.lt
 have hlen:=rv.length
 refine TbRaw.aaw (items:=its.toArray) (I1.ok.hd hc) (Nat.ne_of_lt hlt) ⟨_,Heap.get?_push_size _ rfl,rfl,rfl⟩ (pl.isList.at fun o e=>Heap.get?_push_of_some _ e) (by simp only[List.size_toArray];omega) fun h' tk acc' c' hk hS hacc=>?_
 have hsz:(s1.heap.push (revObj a ((its.toArray.size:Int) - 1))).objs.size=s1.heap.objs.size+1:=Heap.size_push ..
 rw[hsz] at hS
 refine⟨.ref (s1.heap.objs.size+1),upd H1 (s1.heap.objs.size+1) (.lst xs.reverse),I1.laid (t':=tk) (fun b ob e=>hk b ob (Nat.ne_of_lt (Heap.lt_size e)) (Heap.get?_push_of_some _ e)) (Nat.le_succ _) ?_,by show Value.ref _=Value.ref _;rw[hsz],q _ (I1.hok.fresh (Nat.le_succ _))⟩
 have ea:=TbRaw.Uu hacc
 refine⟨by rw[List.length_reverse];exact hz,its.reverse,c',Yl rv,?_⟩
 rw[hS]
 congr 3
 apply Array.ext'
 simpa using ea
end
def aa9 (d:Addr) (o:Obj) (kvs:List (List Key × V)):It :=
 ⟨fun i H=>H d=some (.frz o (.dT kvs))/\i<kvs.length,fun i H x H'=>∃ T k v q,kvs[i]?=some (k,v)/\x=.ref T/\H T=none/\H q=some (.tup (k.map kV))/\H'=upd H T (.tup [.ref q,v]),fun i H=>H d=some (.frz o (.dT kvs))/\kvs.length<=i⟩
theorem Inv.frzT2 {X:Cx}{pins:List (Addr × Obj)}{σ:St}{H:Hp}{s:Shared}{d:Addr}{o:Obj}{kvs:List (List Key × V)} (I:Inv X pins σ H s) (h:H d=some (.frz o (.dT kvs))) :
 (d == sysModules)=false/\s.heap.get? d=some o/\o.ExactDict/\∃ (es:Array DictEntry) (ep:Nat),o.data=.dict es ep/\es.size=kvs.length /\
  ∀ (i:Nat) (k:List Key) (v:V),kvs[i]?=some (k,v)->∃ (en:DictEntry) (q:Addr),es[i]?=some en/\en.key=.ref q/\H q=some (.tup (k.map kV))/\RelV v en.val:=by
 obtain⟨hd,z,hs,xs,pr,o',es,ep,ho,hx,hdt,he,_⟩:=I.hok d _ h
 rw[hd] at ho
 cases ho
 refine⟨hs,hd,hx,es,ep,hdt,?_,fun i k v e=>?_⟩
 . have l1:es.size=xs.length:=size_of_entries he
   have l2:kvs.length=xs.length:=Paired.length pr
   omega
 . obtain⟨b,hb,e1,e2,e3⟩:=Kf pr e
   have q:=entry_at he i
   rw[hb] at q
   exact⟨_,b.2.1,q,rfl,e2,e3⟩
theorem Xx {P:Program}{w:World}{K:PySem.W.Frag}{d:Addr}{o:Obj}{es:Array DictEntry}{ep:Nat}{kvs:List (List Key × V)}{elts:List Expr}{kk:Nat}{tpos:Pos} (it:Addr) (hod:o.data=.dict es ep) :
 Wg P w K (.Tuple elts kk tpos) (aa9 d o kvs) [it] it (fun i h=>∃ ok ov,IsItemIter h it d i kvs.length ep ok ov) where
 mem:=by simp
 obj:=fun i h st b hb=>by
  have e:b=it:=by simpa using hb
  subst e
  obtain⟨ok,ov,e⟩:=st
  exact⟨_,e,fun v z=>nomatch z⟩
 keep:=fun i h h' st k=>let ⟨ok,ov,e⟩:=st;⟨ok,ov,k it (by simp) _ e⟩
 item:=by
  intro X hP hw hK hc i pins s σ H E I hf st hg
  subst hP hw hK
  obtain⟨hd,hi⟩:=hg
  obtain⟨hs,hgd,hx,es',ep',hdt,hsz,ent⟩:=I.frzT2 hd
  obtain⟨rfl,rfl⟩:=U4 hod hdt
  obtain⟨⟨k,v⟩,hkv⟩:∃ p,kvs[i]?=some p:=⟨kvs[i],List.getElem?_eq_getElem hi⟩
  obtain⟨en,q,hen,hkey,hq,rv⟩:=ent i k v hkv
  obtain⟨ok,ov,he⟩:=st
  have hlt:it<s.heap.objs.size:=Heap.lt_size he
  refine TbRaw.Wb he hgd hdt hsz hen fun h' ho hT hz hk=>?_
  refine⟨_,rfl,wpAny_letOwnedTupleGo_items (s:={ s with heap:=h' }) ho fun h'' he' sb=>?_⟩
  have hT2:h''.get? s.heap.objs.size=some { cls:=.type "tuple",data:=.seq #[en.key,en.val] }:=(sb.2 _ (Nat.ne_of_gt hlt)).trans hT
  have new:ObjOk X.prog X.w (upd H s.heap.objs.size (.tup [.ref q,v])) h'' s.heap.objs.size (.tup [.ref q,v]) :=
   ⟨by show 2<=sizeLine;decide,[en.key,en.val],.cons hkey (.cons rv .nil),⟨_,hT2,rfl,_,rfl⟩⟩
  have I1:Inv X pins σ (upd H s.heap.objs.size (.tup [.ref q,v])) { s with heap:=h'' } :=
   I.turnedNew (t':=s.toks) (ch:=[it]) (fun b ob hb e=>(sb.2 b (by simpa using hb)).trans (hk b ob (by simpa using hb) e)) hf (Nat.le_refl _) new
  refine⟨.ref s.heap.objs.size,_,I1,rfl,⟨_,k,v,q,hkv,rfl,I.hok.fresh (Nat.le_refl _),hq,rfl⟩,⟨en.key,en.val,he'⟩,fun b hb=>?_⟩
  have e:b=it:=by simpa using hb
  rw[e,zh (Nat.ne_of_lt hlt)]
  exact (hf it (by simp)).1
 done:=by
  intro X hP hw hK hc i pins s σ H E I hf st hg
  subst hP hw hK
  obtain⟨hd,hi⟩:=hg
  obtain⟨f0,f1,f2,f3,f4,f5⟩:=hf it (by simp)
  obtain⟨hs,hgd,hx,es',ep',hdt,hsz,ent⟩:=I.frzT2 hd
  obtain⟨rfl,rfl⟩:=U4 hod hdt
  obtain⟨ok,ov,he⟩:=st
  exact TbRaw.Ur (I.ok.hd hc) he hgd hdt hsz hi fun h' eb=>⟨rfl,I.turned (t':=s.toks) (fun b ob hb e=>eb b ob hb e) f0 f1 f3 f4 f5⟩
 self:=fun A i s Q E st h=>let ⟨_,_,e⟩:=st;PySem.W.kcp_self e h
def abZ (td:TE):TI:=fun σ H R=>td σ H fun x H1=>∃ d o kvs,x=.ref d/\H1 d=some (.frz o (.dT kvs))/\R (aa9 d o kvs) H1
theorem US {X:Cx}{e:Expr}{td:TE}{apos cpos:Pos}{elts:List Expr}{kk:Nat}{tpos:Pos} (he:PE X e td) (hbase:attributeBase e "items" X.env (eval e X.env)=eval e X.env:=by rfl) (hline:(apos.endLine == cpos.line)=true:=by rfl) :
 PI X (.Tuple elts kk tpos) (.Call (.Attribute e "items" apos) [] [] cpos) (abZ td):=by
 intro pins s σ H R I h
 refine wpAny_Call_method (T:="dict") (id:="dict.items") hbase rfl hline F.plainAttrs_dict F.slot_dict_items F.type_dict_items (thn (he pins s σ H _ I h) fun u s1 ⟨x,H1,I1,rx,d,o,kvs,ex,hd,q⟩=>?_)
 subst ex
 obtain rfl:u=Value.ref d:=rx
 obtain⟨hs,hgd,hx,es,ep,hdt,hsz,ent⟩:=I1.frzT2 hd
 have ht:s1.TypeIs (.ref d) "dict":=⟨o,hgd,hx.1⟩
 refine⟨ht,fun a e=>(by cases e;exact⟨o,hgd,hx.2.1⟩),?_⟩
 have I2:Inv X pins σ H1 { s1 with heap:=s1.heap.push { cls:=.type "dict_items",data:=.fields #[.ref d] } }:=I1.kept (t':=s1.toks) fun b ob q=>Heap.get?_push_of_some _ q
 have fin:wpAny (model X.prog X.w) X.A (pyIter (.ref s1.heap.objs.size)) (PIE X pins σ (.Tuple elts kk tpos) R) X.xe { s1 with heap:=s1.heap.push { cls:=.type "dict_items",data:=.fields #[.ref d] } }:=by
  refine TbRaw.Wa (d:=d) ⟨_,Heap.get?_push_size _ rfl,rfl,rfl⟩ (Heap.get?_push_of_some _ hgd) hdt (acD (tk:=s1.toks) I2 _ (Xx _ hdt) ⟨.none,.none,?_⟩ q)
  rw[<-hsz]
  exact Heap.get?_push_size _ rfl
 show wpAny _ _ (callWith cpos (.builtin "dict.items") [.ref d] [] []) _ X.xe s1
 exact method_meetsIn F.slot_dict_items F.entry_dict_items rfl (PySem.evalArgs_none ⟨rfl,ht,F.args_dict_items_1 _,_,TbRaw.W9 d hs,ht,fin⟩)
theorem qX:bootBuiltins "len"=some (.builtin "len"):=by decide +kernel
theorem aa_:bootBuiltins "all"=some (.builtin "all"):=by decide +kernel
theorem aba:bootBuiltins "any"=some (.builtin "any"):=by decide +kernel
theorem acL:bootBuiltins "min"=some (.builtin "min"):=by decide +kernel
theorem U9:bootBuiltins "list"=some (.type "list"):=by decide +kernel
def ab0 (K:PySem.W.Frag):List V->Hp->VK->Prop:=fun xs H Q=>∃ p ys,xs=[.ref p]/\(SqL K H p ys∨SqT K H p ys)/\Q (.int ys.length) H
theorem qY {X:Cx}:ZK X (.builtin "len") (ab0 X.K):=Ye
section
variable {X:Cx}{K:PySem.W.Frag}
theorem jM {e:Expr}{f:Str}{pos:Pos}{ta:TE} (hK:X.K=K) (he:PE X e ta) (hb:attributeBase e f X.env (eval e X.env)=eval e X.env):PE X (.Attribute e f pos) (yj K ta f):=by
 subst hK
 exact zn he hb
theorem ab1 (hK:X.K=K):ZK X (.builtin "len") (ab0 K):=by
 subst hK
 exact qY
theorem Zc (hK:X.K=K):OpR X (compareOp .In) (rIn K false):=by
 subst hK
 exact VA
theorem Ua {es:List Expr}{k:Nat}{pos:Pos}{t:TGs}{n:Nat} (hK:X.K=K) (hc:X.calm=true) (h:PGs X es t) (hn:(assignEach es X.env).length=n:=by rfl) (hst:(assignEach es X.env).findIdx? (·.1)=none:=by rfl):PG X (.Tuple es k pos) (ac0 K n t):=by
 subst hK
 exact Y8 hc h hn hst
end
end L2
end
section
namespace Tb
open PySem PySem.Spec PyProof.Rows L2
def top (i:Nat):Stmt:=PySem.Challenge.pw_twobooks_s01_answers.main.body.getD i (.Pass ⟨0,0,0,0⟩)
abbrev x8:Stmt:=ux (top 21) 0
abbrev x9:Stmt:=ux (top 42) 0
abbrev yl:Stmt:=ux (top 43) 0
abbrev vC:Stmt:=ux (top 56) 0
abbrev jN:Stmt:=ux (top 96) 0
abbrev kT:Stmt:=ux (top 97) 0
abbrev ym:Stmt:=top 22
abbrev js:Stmt:=top 23
abbrev wa:Stmt:=top 24
abbrev uy:Stmt:=top 25
abbrev yn:Stmt:=top 26
abbrev kU:Stmt:=top 27
abbrev kW:Stmt:=top 28
abbrev kX:Stmt:=top 44
abbrev kY:Stmt:=top 45
abbrev wb:Stmt:=top 46
abbrev xa:Stmt:=top 47
abbrev yo:Stmt:=top 48
abbrev jd:Stmt:=top 49
abbrev yr:Stmt:=top 50
abbrev ZU:Stmt:=top 52
abbrev ZV:Stmt:=top 53
abbrev wc:Stmt:=top 57
abbrev uz:Stmt:=top 58
abbrev jt:Stmt:=top 59
abbrev xb:Stmt:=top 60
abbrev jZ:Stmt:=top 61
abbrev vD:Stmt:=top 62
abbrev kn:Stmt:=top 64
abbrev kZ:Stmt:=top 65
abbrev xf:Stmt:=top 66
abbrev vE:Stmt:=top 67
abbrev k_:Stmt:=top 68
abbrev xg:Stmt:=top 69
abbrev qR:Stmt:=top 70
abbrev j_:Stmt:=top 71
abbrev ZW:Stmt:=top 72
abbrev wd:Stmt:=top 74
abbrev jO:Stmt:=top 75
abbrev yt:Stmt:=top 76
abbrev xh:Stmt:=top 77
abbrev xi:Stmt:=top 78
abbrev xj:Stmt:=top 79
abbrev yu:Stmt:=top 88
abbrev ko:Stmt:=top 89
abbrev yw:Stmt:=top 90
abbrev ju:Stmt:=top 91
abbrev v0:Stmt:=top 92
abbrev vF:Stmt:=top 93
abbrev v9:Stmt:=top 98
abbrev j9:Stmt:=top 99
abbrev yx:Stmt:=top 100
abbrev vG:Stmt:=top 101
abbrev xl:Stmt:=top 102
abbrev k5:Stmt:=top 103
abbrev k6:Stmt:=top 104
abbrev we:Stmt:=top 105
abbrev xm:Stmt:=top 106
abbrev wf:Stmt:=top 107
abbrev vH:Stmt:=top 108
abbrev va:Stmt:=top 109
abbrev JQ:Stmt:=top 110
abbrev k7:Stmt:=top 130
abbrev vI:Stmt:=top 131
abbrev k8:Stmt:=top 132
abbrev xn:Stmt:=top 133
abbrev uA:Stmt:=top 134
theorem Ym:zB ["self","number","mark","text"] ["self","number","mark","text"] (zt x8):=⟨rfl,rfl,rfl,by decide +kernel,rfl,by decide +kernel,by decide +kernel⟩
theorem Yn:zB ["self","cells","next_number"] ["self","cells","next_number"] (zt x9):=⟨rfl,rfl,rfl,by decide +kernel,rfl,by decide +kernel,by decide +kernel⟩
theorem K_:zB ["self"] ["self"] (zt yl):=⟨rfl,rfl,rfl,by decide +kernel,rfl,by decide +kernel,by decide +kernel⟩
theorem Kk:zB ["self","begin","end","new_lines"] ["self","begin","end","new_lines"] (zt vC):=⟨rfl,rfl,rfl,by decide +kernel,rfl,by decide +kernel,by decide +kernel⟩
theorem Zd:zB ["self","cell","on_left","on_right"] ["self","cell","on_left","on_right"] (zt jN):=⟨rfl,rfl,rfl,by decide +kernel,rfl,by decide +kernel,by decide +kernel⟩
theorem Jm:zB ["self","refusal","merged"] ["self","refusal","merged"] (zt kT):=⟨rfl,rfl,rfl,by decide +kernel,rfl,by decide +kernel,by decide +kernel⟩
theorem sc_only_bytes:zB ["text","number"] ["text"] (zt ym):=⟨rfl,rfl,rfl,by decide +kernel,rfl,by decide +kernel,by decide +kernel⟩
theorem sc_refusal_of_texts:zB ["texts","text"] ["texts"] (zt js):=⟨rfl,rfl,rfl,by decide +kernel,rfl,by decide +kernel,by decide +kernel⟩
theorem sc_place_of:zB ["cells","number","place","cell"] ["cells","number"] (zt wa):=⟨rfl,rfl,rfl,by decide +kernel,rfl,by decide +kernel,by decide +kernel⟩
theorem sc_cell_of:zB ["cells","number","place"] ["cells","number"] (zt uy):=⟨rfl,rfl,rfl,by decide +kernel,rfl,by decide +kernel,by decide +kernel⟩
theorem sc_numbers_of:zB ["cells","cell"] ["cells"] (zt yn):=⟨rfl,rfl,rfl,by decide +kernel,rfl,by decide +kernel,by decide +kernel⟩
theorem sc_place_behind:zB ["cells","after","place"] ["cells","after"] (zt kU):=⟨rfl,rfl,rfl,by decide +kernel,rfl,by decide +kernel,by decide +kernel⟩
theorem Jn:zB ["cells"] ["cells"] (zt kW):=⟨rfl,rfl,rfl,by decide +kernel,rfl,by decide +kernel,by decide +kernel⟩
theorem Jo:zB ["books"] ["books"] (zt kX):=⟨rfl,rfl,rfl,by decide +kernel,rfl,by decide +kernel,by decide +kernel⟩
theorem sc_texts_of_row:zB ["row","texts","place","begin","end"] ["row"] (zt kY):=⟨rfl,rfl,rfl,by decide +kernel,rfl,by decide +kernel,by decide +kernel⟩
theorem sc_set_base:zB ["books","row","texts","refusal","number","text"] ["books","row"] (zt wb):=⟨rfl,rfl,rfl,by decide +kernel,rfl,by decide +kernel,by decide +kernel⟩
theorem sc_copy_side:zB ["books","side","other"] ["books","side"] (zt xa):=⟨rfl,rfl,rfl,by decide +kernel,rfl,by decide +kernel,by decide +kernel⟩
theorem V0:zB ["books","side"] ["books","side"] (zt yo):=⟨rfl,rfl,rfl,by decide +kernel,rfl,by decide +kernel,by decide +kernel⟩
theorem sc_exchanged_choices:zB ["choices","exchanged","conflict","choice"] ["choices"] (zt jd):=⟨rfl,rfl,rfl,by decide +kernel,rfl,by decide +kernel,by decide +kernel⟩
theorem V1:zB ["books"] ["books"] (zt yr):=⟨rfl,rfl,rfl,by decide +kernel,rfl,by decide +kernel,by decide +kernel⟩
theorem UT:zB ["base","left","right"] ["base","left","right"] (zt ZU):=⟨rfl,rfl,rfl,by decide +kernel,rfl,by decide +kernel,by decide +kernel⟩
theorem UU:zB ["choice","base","left","right"] ["choice","base","left","right"] (zt ZV):=⟨rfl,rfl,rfl,by decide +kernel,rfl,by decide +kernel,by decide +kernel⟩
theorem sc_lines_of:zB ["text","lines","byte"] ["text"] (zt wc):=⟨rfl,rfl,rfl,by decide +kernel,rfl,by decide +kernel,by decide +kernel⟩
theorem sc_text_of:zB ["lines","text","line"] ["lines"] (zt uz):=⟨rfl,rfl,rfl,by decide +kernel,rfl,by decide +kernel,by decide +kernel⟩
theorem sc_common_beginning:zB ["lines","others","most","common"] ["lines","others","most"] (zt jt):=⟨rfl,rfl,rfl,by decide +kernel,rfl,by decide +kernel,by decide +kernel⟩
theorem sc_change_of:zB ["base_text","side_text","base_lines","side_lines","shorter","begin","kept"] ["base_text","side_text"] (zt xb):=⟨rfl,rfl,rfl,by decide +kernel,rfl,by decide +kernel,by decide +kernel⟩
theorem sc_text_with_both:zB ["base_text","first","second","base_lines","lines","text"] ["base_text","first","second"] (zt jZ):=⟨rfl,rfl,rfl,by decide +kernel,rfl,by decide +kernel,by decide +kernel⟩
theorem sc_merged_text:zB ["base_text","left_text","right_text","text","left","right"] ["base_text","left_text","right_text"] (zt vD):=⟨rfl,rfl,rfl,by decide +kernel,rfl,by decide +kernel,by decide +kernel⟩
theorem sc_common_orders:zB ["books","left","right","common","number","left_order","right_order"] ["books"] (zt kn):=⟨rfl,rfl,rfl,by decide +kernel,rfl,by decide +kernel,by decide +kernel⟩
theorem Jp:zB ["orders"] ["orders"] (zt kZ):=⟨rfl,rfl,rfl,by decide +kernel,rfl,by decide +kernel,by decide +kernel⟩
theorem Yo:zB ["base_cell","cell"] ["base_cell","cell"] (zt xf):=⟨rfl,rfl,rfl,by decide +kernel,rfl,by decide +kernel,by decide +kernel⟩
theorem Kl:zB ["base_cell","left","right"] ["base_cell","left","right"] (zt vE):=⟨rfl,rfl,rfl,by decide +kernel,rfl,by decide +kernel,by decide +kernel⟩
theorem sc_conflicts_of:zB ["books","conflicts","base_cell","number","left","right","kind"] ["books"] (zt k_):=⟨rfl,rfl,rfl,by decide +kernel,rfl,by decide +kernel,by decide +kernel⟩
theorem Yp:zB ["books","conflict"] ["books","conflict"] (zt xg):=⟨rfl,rfl,rfl,by decide +kernel,rfl,by decide +kernel,by decide +kernel⟩
theorem sc_count_without_choice:zB ["books","conflict"] ["books"] (zt qR):=⟨rfl,rfl,rfl,by decide +kernel,rfl,by decide +kernel,by decide +kernel⟩
theorem sc_tell_conflicts:zB ["books","conflicts","told","kind","number"] ["books"] (zt j_):=⟨rfl,rfl,rfl,by decide +kernel,rfl,by decide +kernel,by decide +kernel⟩
theorem UV:zB ["books","kind","number","choice"] ["books","kind","number","choice"] (zt ZW):=⟨rfl,rfl,rfl,by decide +kernel,rfl,by decide +kernel,by decide +kernel⟩
theorem sc_new_cell:zB ["books","side","after","text","edited","place","refusal","number"] ["books","side","after","text"] (zt wd):=⟨rfl,rfl,rfl,by decide +kernel,rfl,by decide +kernel,by decide +kernel⟩
theorem Ze:zB ["books","side","number"] ["books","side","number"] (zt jO):=⟨rfl,rfl,rfl,by decide +kernel,rfl,by decide +kernel,by decide +kernel⟩
theorem sc_write_cell:zB ["books","side","number","text","refusal","cells","place"] ["books","side","number","text"] (zt yt):=⟨rfl,rfl,rfl,by decide +kernel,rfl,by decide +kernel,by decide +kernel⟩
theorem sc_move_cell:zB ["books","side","number","after","refusal","edited","old_place","others","cell","new_place"] ["books","side","number","after"] (zt xh):=⟨rfl,rfl,rfl,by decide +kernel,rfl,by decide +kernel,by decide +kernel⟩
theorem sc_drop_cell:zB ["books","side","number","refusal","cells"] ["books","side","number"] (zt xi):=⟨rfl,rfl,rfl,by decide +kernel,rfl,by decide +kernel,by decide +kernel⟩
theorem sc_hide_cell:zB ["books","side","number","mark","refusal","cells","place"] ["books","side","number","mark"] (zt xj):=⟨rfl,rfl,rfl,by decide +kernel,rfl,by decide +kernel,by decide +kernel⟩
theorem sc_tell_cells:zB ["cells","told","cell"] ["cells"] (zt yu):=⟨rfl,rfl,rfl,by decide +kernel,rfl,by decide +kernel,by decide +kernel⟩
theorem QK:zB ["books","which"] ["books","which"] (zt ko):=⟨rfl,rfl,rfl,by decide +kernel,rfl,by decide +kernel,by decide +kernel⟩
theorem V2:zB ["base_cell","cell"] ["base_cell","cell"] (zt yw):=⟨rfl,rfl,rfl,by decide +kernel,rfl,by decide +kernel,by decide +kernel⟩
theorem sc_in_another_order:zB ["base_numbers","side_numbers","of_base","number","of_side"] ["base_numbers","side_numbers"] (zt ju):=⟨rfl,rfl,rfl,by decide +kernel,rfl,by decide +kernel,by decide +kernel⟩
theorem sc_tell_changes:zB ["books","side","cells","told","base_cell","kind","base_numbers","cell","moved"] ["books","side"] (zt v0):=⟨rfl,rfl,rfl,by decide +kernel,rfl,by decide +kernel,by decide +kernel⟩
theorem sc_tell_change:zB ["books","side","number","base_cell","cell","change","told","line"] ["books","side","number"] (zt vF):=⟨rfl,rfl,rfl,by decide +kernel,rfl,by decide +kernel,by decide +kernel⟩
theorem sc_merged_order:zB ["books","orders","order"] ["books","orders"] (zt v9):=⟨rfl,rfl,rfl,by decide +kernel,rfl,by decide +kernel,by decide +kernel⟩
theorem sc_merged_common_cell:zB ["books","number","base","left","right","text","mark"] ["books","number"] (zt j9):=⟨rfl,rfl,rfl,by decide +kernel,rfl,by decide +kernel,by decide +kernel⟩
theorem sc_loose_cell:zB ["books","side","cell","base_cell","kind","choice"] ["books","side","cell"] (zt yx):=⟨rfl,rfl,rfl,by decide +kernel,rfl,by decide +kernel,by decide +kernel⟩
theorem sc_loose_cells:zB ["books","side","common","behind","loose","cell","kept"] ["books","side","common"] (zt vG):=⟨rfl,rfl,rfl,by decide +kernel,rfl,by decide +kernel,by decide +kernel⟩
theorem sc_sort_keys:zB ["cells","base_numbers","cell"] ["cells","base_numbers"] (zt xl):=⟨rfl,rfl,rfl,by decide +kernel,rfl,by decide +kernel,by decide +kernel⟩
theorem sc_loose_together:zB ["left","right","base_numbers","left_keys","right_keys","cell","other","of_left","of_right"] ["left","right","base_numbers"] (zt k5):=⟨rfl,rfl,rfl,by decide +kernel,rfl,by decide +kernel,by decide +kernel⟩
theorem sc_cells_in_order:zB ["books","orders","base_numbers","left","right","merged","number"] ["books"] (zt k6):=⟨rfl,rfl,rfl,by decide +kernel,rfl,by decide +kernel,by decide +kernel⟩
theorem sc_numbered:zB ["books","merged","base_numbers","free","numbered_cells","one","cell"] ["books","merged"] (zt we):=⟨rfl,rfl,rfl,by decide +kernel,rfl,by decide +kernel,by decide +kernel⟩
theorem sc_too_great:zB ["merged","one"] ["merged"] (zt xm):=⟨rfl,rfl,rfl,by decide +kernel,rfl,by decide +kernel,by decide +kernel⟩
theorem sc_merge_of:zB ["books","merged"] ["books"] (zt wf):=⟨rfl,rfl,rfl,by decide +kernel,rfl,by decide +kernel,by decide +kernel⟩
theorem sc_tell_merged:zB ["books","outcome","one"] ["books"] (zt vH):=⟨rfl,rfl,rfl,by decide +kernel,rfl,by decide +kernel,by decide +kernel⟩
theorem sc_tell_origins:zB ["books","outcome","told","one"] ["books"] (zt va):=⟨rfl,rfl,rfl,by decide +kernel,rfl,by decide +kernel,by decide +kernel⟩
theorem sc_adopt:zB ["books","outcome","cells","one","next_number"] ["books"] (zt JQ):=⟨rfl,rfl,rfl,by decide +kernel,rfl,by decide +kernel,by decide +kernel⟩
theorem sc_answer_on_side:zB ["books","call","wholes","row","side"] ["books","call","wholes","row"] (zt k7):=⟨rfl,rfl,rfl,by decide +kernel,rfl,by decide +kernel,by decide +kernel⟩
theorem sc_edited_side:zB ["books","call","wholes","row","answer"] ["books","call","wholes","row"] (zt vI):=⟨rfl,rfl,rfl,by decide +kernel,rfl,by decide +kernel,by decide +kernel⟩
theorem ZX:zB ["books","call","wholes"] ["books","call","wholes"] (zt k8):=⟨rfl,rfl,rfl,by decide +kernel,rfl,by decide +kernel,by decide +kernel⟩
theorem Yq:zB ["books","call","wholes","row"] ["books","call","wholes","row"] (zt xn):=⟨rfl,rfl,rfl,by decide +kernel,rfl,by decide +kernel,by decide +kernel⟩
theorem sc_answers:zB ["calls","books","told","place","call","begin","wholes","row","answer"] ["calls"] (zt uA):=⟨rfl,rfl,rfl,by decide +kernel,rfl,by decide +kernel,by decide +kernel⟩
structure Ad where
 cCell:Addr
 cSide:Addr
 cBooks:Addr
 cChange:Addr
 cMergedCell:Addr
 cOutcome:Addr
 aEXCHANGED_KINDS:Addr
 aEXCHANGED_CHOICES:Addr
 aWHOLES:Addr
 aROWS:Addr
structure Txt (K:PySem.W.Frag) (mg:Str->Option Value) (C:Ad):Prop where
 c_Cell:Cls K C.cCell
 n_Cell_number:NoAttr K C.cCell "number"
 n_Cell_mark:NoAttr K C.cCell "mark"
 n_Cell_text:NoAttr K C.cCell "text"
 c_Side:Cls K C.cSide
 n_Side_cells:NoAttr K C.cSide "cells"
 n_Side_next_number:NoAttr K C.cSide "next_number"
 c_Books:Cls K C.cBooks
 n_Books_base_cells:NoAttr K C.cBooks "base_cells"
 n_Books_sides:NoAttr K C.cBooks "sides"
 n_Books_choices:NoAttr K C.cBooks "choices"
 c_Change:Cls K C.cChange
 n_Change_begin:NoAttr K C.cChange "begin"
 n_Change_end:NoAttr K C.cChange "end"
 n_Change_new_lines:NoAttr K C.cChange "new_lines"
 c_MergedCell:Cls K C.cMergedCell
 n_MergedCell_cell:NoAttr K C.cMergedCell "cell"
 n_MergedCell_on_left:NoAttr K C.cMergedCell "on_left"
 n_MergedCell_on_right:NoAttr K C.cMergedCell "on_right"
 c_Outcome:Cls K C.cOutcome
 n_Outcome_refusal:NoAttr K C.cOutcome "refusal"
 n_Outcome_merged:NoAttr K C.cOutcome "merged"
 g_NO_REFUSAL:∃ t,mg "NO_REFUSAL"=some (Value.int 0 t)
 g_NO_CELL:∃ t,mg "NO_CELL"=some (Value.int (-1) t)
 g_NO_FIT_AFTER:∃ t,mg "NO_FIT_AFTER"=some (Value.int (-2) t)
 g_NO_BYTE:∃ t,mg "NO_BYTE"=some (Value.int (-4) t)
 g_TEXT_TOO_LONG:∃ t,mg "TEXT_TOO_LONG"=some (Value.int (-5) t)
 g_TOO_MANY_CELLS:∃ t,mg "TOO_MANY_CELLS"=some (Value.int (-6) t)
 g_NOTHING_CHANGES:∃ t,mg "NOTHING_CHANGES"=some (Value.int (-7) t)
 g_NO_SIDE:∃ t,mg "NO_SIDE"=some (Value.int (-8) t)
 g_NO_SUCH_CONFLICT:∃ t,mg "NO_SUCH_CONFLICT"=some (Value.int (-9) t)
 g_CHOICE_OUTSIDE:∃ t,mg "CHOICE_OUTSIDE"=some (Value.int (-10) t)
 g_CHOICE_MISSING:∃ t,mg "CHOICE_MISSING"=some (Value.int (-11) t)
 g_TOO_GREAT:∃ t,mg "TOO_GREAT"=some (Value.int (-12) t)
 g_ROW_NOT_WHOLE:∃ t,mg "ROW_NOT_WHOLE"=some (Value.int (-15) t)
 g_NUMBERS_USED_UP:∃ t,mg "NUMBERS_USED_UP"=some (Value.int (-16) t)
 g_NO_MARK:∃ t,mg "NO_MARK"=some (Value.int (-18) t)
 g_NO_DOCUMENT:∃ t,mg "NO_DOCUMENT"=some (Value.int (-19) t)
 g_GREATEST_BYTE:∃ t,mg "GREATEST_BYTE"=some (Value.int 255 t)
 g_MOST_BYTES:∃ t,mg "MOST_BYTES"=some (Value.int 200 t)
 g_MOST_CELLS:∃ t,mg "MOST_CELLS"=some (Value.int 12 t)
 g_GREATEST_NUMBER:∃ t,mg "GREATEST_NUMBER"=some (Value.int 99 t)
 g_LEFT:∃ t,mg "LEFT"=some (Value.int 1 t)
 g_RIGHT:∃ t,mg "RIGHT"=some (Value.int 2 t)
 g_NO_CHOICE:∃ t,mg "NO_CHOICE"=some (Value.int 0 t)
 g_BASE_CHOICE:∃ t,mg "BASE_CHOICE"=some (Value.int 3 t)
 g_GREATEST_CHOICE:∃ t,mg "GREATEST_CHOICE"=some (Value.int 3 t)
 g_NO_CONFLICT:∃ t,mg "NO_CONFLICT"=some (Value.int 0 t)
 g_TEXT_CONFLICT:∃ t,mg "TEXT_CONFLICT"=some (Value.int 1 t)
 g_LEFT_HAS_NOT:∃ t,mg "LEFT_HAS_NOT"=some (Value.int 2 t)
 g_RIGHT_HAS_NOT:∃ t,mg "RIGHT_HAS_NOT"=some (Value.int 3 t)
 g_ORDER_CONFLICT:∃ t,mg "ORDER_CONFLICT"=some (Value.int 4 t)
 g_LINE_END:∃ t,mg "LINE_END"=some (Value.int 10 t)
 g_BASE_DOCUMENT:∃ t,mg "BASE_DOCUMENT"=some (Value.int 0 t)
 g_UNCHANGED:∃ t,mg "UNCHANGED"=some (Value.int 0 t)
 g_DROPPED:∃ t,mg "DROPPED"=some (Value.int 1 t)
 g_NEW_telling:∃ t,mg "NEW_telling"=some (Value.int 2 t)
 g_TEXT_DIFFERS:∃ t,mg "TEXT_DIFFERS"=some (Value.int 3 t)
 g_MARK_DIFFERS:∃ t,mg "MARK_DIFFERS"=some (Value.int 4 t)
 g_BOTH_DIFFER:∃ t,mg "BOTH_DIFFER"=some (Value.int 5 t)
 g_FRONT:∃ t,mg "FRONT"=some (Value.int 0 t)
 g_BASE:∃ t,mg "BASE"=some (Value.int 0 t)
 g_NEW_merge:∃ t,mg "NEW_merge"=some (Value.int 1 t)
 g_WRITE:∃ t,mg "WRITE"=some (Value.int 2 t)
 g_MOVE:∃ t,mg "MOVE"=some (Value.int 3 t)
 g_DROP:∃ t,mg "DROP"=some (Value.int 4 t)
 g_HIDE:∃ t,mg "HIDE"=some (Value.int 5 t)
 g_COPY:∃ t,mg "COPY"=some (Value.int 6 t)
 g_RESET:∃ t,mg "RESET"=some (Value.int 7 t)
 g_SWAP:∃ t,mg "SWAP"=some (Value.int 8 t)
 g_DOCUMENT:∃ t,mg "DOCUMENT"=some (Value.int 9 t)
 g_CHANGES:∃ t,mg "CHANGES"=some (Value.int 10 t)
 g_CHANGE:∃ t,mg "CHANGE"=some (Value.int 11 t)
 g_CONFLICTS:∃ t,mg "CONFLICTS"=some (Value.int 12 t)
 g_CHOOSE:∃ t,mg "CHOOSE"=some (Value.int 13 t)
 g_MERGED:∃ t,mg "MERGED"=some (Value.int 14 t)
 g_ORIGINS:∃ t,mg "ORIGINS"=some (Value.int 15 t)
 g_EXCHANGED_KINDS:mg "EXCHANGED_KINDS"=some (.ref C.aEXCHANGED_KINDS)
 s_EXCHANGED_KINDS:∀ H,SqT K H C.aEXCHANGED_KINDS (([0,1,3,2,4]:List Int).map V.int)
 g_EXCHANGED_CHOICES:mg "EXCHANGED_CHOICES"=some (.ref C.aEXCHANGED_CHOICES)
 s_EXCHANGED_CHOICES:∀ H,SqT K H C.aEXCHANGED_CHOICES (([0,2,1,3]:List Int).map V.int)
 g_WHOLES:mg "WHOLES"=some (.ref C.aWHOLES)
 s_WHOLES:∀ H,SqT K H C.aWHOLES (([0,2,2,3,2,3,1,1,0,1,1,2,0,3,0,0,0]:List Int).map V.int)
 g_ROWS:mg "ROWS"=some (.ref C.aROWS)
 s_ROWS:∀ H,SqT K H C.aROWS (([1,1,1,0,0,0,0,0,0,0,0,0,0,0,0,0,0]:List Int).map V.int)
 b_len:mg "len"=none
 b_all:mg "all"=none
 b_any:mg "any"=none
 b_max:mg "max"=none
 b_min:mg "min"=none
 b_list:mg "list"=none
 b_reversed:mg "reversed"=none
 b_enumerate:mg "enumerate"=none
 b_zip:mg "zip"=none
end Tb
end
section
namespace Tb
open PySem PySem.Spec PyProof.Rows L2
open Vanbki (nats ofNat markNat numbers)
theorem Same.new {H:Hp}{p:Addr}{o:HO} (h:H p=none):Same H (upd H p o):=fun b u e=>by
 rw[zh (zg e h)]
 exact e
def minus (H:Hp) (D:Addr):Hp:=fun b=>if b=D then none else H b
theorem jv (H:Hp) (D:Addr):minus H D D=none:=by unfold minus;rw[if_pos rfl]
theorem qI {H:Hp}{D b:Addr} (h:b≠D):minus H D b=H b:=by unfold minus;rw[if_neg h]
theorem yQ (H:Hp) (D:Addr):Same (minus H D) H:=fun b o e=>by
 by_cases h:b=D
 . rw[h,jv] at e
   cases e
 . rw[qI h] at e
   exact e
theorem xO (H:Hp) (D:Addr) (o:HO):minus (upd H D o) D=minus H D:=by
 funext b
 unfold minus upd
 split <;> rfl
theorem Same.minus {H H':Hp}{D:Addr} (s:Same H H') (h:H D=none):Same H (minus H' D):=fun b o e=>by
 rw[qI (zg e h)]
 exact s b o e
theorem Same.both {H H':Hp}{D:Addr} (s:Same H H'):Same (Tb.minus H D) (Tb.minus H' D):=fun b o e=>by
 by_cases h:b=D
 . rw[h,jv] at e
   cases e
 . rw[qI h] at e ⊢
   exact s b o e
abbrev IL (H:Hp) (a:Addr) (ns:List Int):Prop:=H a=some (.lst (ns.map V.int))
abbrev RL (H:Hp) (a:Addr) (as:List Addr):Prop:=H a=some (.lst (as.map V.ref))
theorem zx {α β:Type}{R:α->β->Prop}{as:List α}{bs:List β} (p:Paired R as bs):as.length=bs.length:=Paired.length p
theorem zN {α β:Type}{R:α->β->Prop}{as:List α}{bs:List β} (p:Paired R as bs) {i:Nat}{a:α} (h:as[i]?=some a):∃ b,bs[i]?=some b/\R a b:=Kf p h
theorem qL {as:List Addr}{i:Nat}{x:V} (h:(as.map V.ref)[i]?=some x):∃ a,as[i]?=some a/\x=.ref a:=by
 rw[List.getElem?_map] at h
 cases e:as[i]? with
 | none=>rw[e] at h;cases h
 | some a=>rw[e] at h;exact⟨a,rfl,(Option.some.inj h).symm⟩
theorem abb {ns:List Int}{i:Nat}{x:V} (h:(ns.map V.int)[i]?=some x):∃ n,ns[i]?=some n/\x=.int n:=by
 rw[List.getElem?_map] at h
 cases e:ns[i]? with
 | none=>rw[e] at h;cases h
 | some a=>rw[e] at h;exact⟨a,rfl,(Option.some.inj h).symm⟩
theorem ja {α β:Type}{R:α->β->Prop}:∀ {as:List α}{bs:List β}{a:α}{b:β},Paired R as bs->R a b->Paired R (as++[a]) (bs++[b])
 | _,_,_,_,.nil,h=>.cons h .nil
 | _,_,_,_,.cons r t,h=>.cons r (ja t h)
theorem zQ {α β:Type}{R:α->β->Prop}:∀ {as as':List α}{bs bs':List β},Paired R as bs->Paired R as' bs'->Paired R (as++as') (bs++bs')
 | _,_,_,_,.nil,h=>h
 | _,_,_,_,.cons r t,h=>.cons r (zQ t h)
theorem jo {α β:Type}{R:α->β->Prop}:∀ {as:List α}{bs:List β} (n:Nat),Paired R as bs->Paired R (as.take n) (bs.take n)
 | _,_,0,_=>.nil
 | _,_,_+1,.nil=>.nil
 | _,_,n+1,.cons r t=>.cons r (jo n t)
theorem jp {α β:Type}{R:α->β->Prop}:∀ {as:List α}{bs:List β} (n:Nat),Paired R as bs->Paired R (as.drop n) (bs.drop n)
 | _,_,0,h=>h
 | _,_,_+1,.nil=>.nil
 | _,_,n+1,.cons _ t=>jp n t
theorem Zf {α β:Type}{R:α->β->Prop}{a:α}{b:β} (h:R a b):∀ {as:List α}{bs:List β} (n:Nat),Paired R as bs->Paired R (as.set n a) (bs.set n b)
 | _,_,_,.nil=>.nil
 | _,_,0,.cons _ t=>.cons h t
 | _,_,n+1,.cons r t=>.cons r (Zf h n t)
theorem zG {α β:Type}{R S:α->β->Prop}{as:List α}{bs:List β} (p:Paired R as bs) (h:∀ a b,R a b->S a b):Paired S as bs:=Paired.mapP p h
theorem Wx {α β:Type}{R:α->β->Prop}{as:List α}{bs:List β} (p:Paired R as bs) {a:α} (h:a∈as):∃ b,b∈bs/\R a b:=by
 obtain⟨i,hi,e⟩:=List.mem_iff_getElem.mp h
 obtain⟨b,hb,r⟩:=zN p (show as[i]?=some a by rw[List.getElem?_eq_getElem hi,e])
 exact⟨b,List.mem_of_getElem? hb,r⟩
def kb (n m:Int) (q:Addr):List (Str × V):=[("number",.int n),("mark",.int m),("text",.ref q)]
def j3 (l:Addr) (k:Int):List (Str × V):=[("cells",.ref l),("next_number",.int k)]
def qF (l s c:Addr):List (Str × V):=[("base_cells",.ref l),("sides",.ref s),("choices",.ref c)]
def wg (p q:Int) (l:Addr):List (Str × V):=[("begin",.int p),("end",.int q),("new_lines",.ref l)]
def k9 (c:Addr) (l r:Int):List (Str × V):=[("cell",.ref c),("on_left",.int l),("on_right",.int r)]
def Wy (n:Int) (l:Addr):List (Str × V):=[("refusal",.int n),("merged",.ref l)]
theorem zK (n m:Int) (q:Addr):(kb n m q).lookup ("number":Str)=some (.int n):=by rfl
theorem qz (n m:Int) (q:Addr):(kb n m q).lookup ("mark":Str)=some (.int m):=by rfl
theorem zV (n m:Int) (q:Addr):(kb n m q).lookup ("text":Str)=some (.ref q):=by rfl
theorem zU (l:Addr) (k:Int):(j3 l k).lookup ("cells":Str)=some (.ref l):=by rfl
theorem Km (l:Addr) (k:Int):(j3 l k).lookup ("next_number":Str)=some (.int k):=by rfl
theorem qZ (l s c:Addr):(qF l s c).lookup ("base_cells":Str)=some (.ref l):=by rfl
theorem zJ (l s c:Addr):(qF l s c).lookup ("sides":Str)=some (.ref s):=by rfl
theorem xE (l s c:Addr):(qF l s c).lookup ("choices":Str)=some (.ref c):=by rfl
theorem kg (p q:Int) (l:Addr):(wg p q l).lookup ("begin":Str)=some (.int p):=by rfl
theorem vT (p q:Int) (l:Addr):(wg p q l).lookup ("end":Str)=some (.int q):=by rfl
theorem xo (p q:Int) (l:Addr):(wg p q l).lookup ("new_lines":Str)=some (.ref l):=by rfl
theorem vc (c:Addr) (l r:Int):(k9 c l r).lookup ("cell":Str)=some (.ref c):=by rfl
theorem ZY (c:Addr) (l r:Int):(k9 c l r).lookup ("on_left":Str)=some (.int l):=by rfl
theorem uU (c:Addr) (l r:Int):(k9 c l r).lookup ("on_right":Str)=some (.int r):=by rfl
theorem ka (n:Int) (l:Addr):(Wy n l).lookup ("refusal":Str)=some (.int n):=by rfl
theorem xp (n:Int) (l:Addr):(Wy n l).lookup ("merged":Str)=some (.ref l):=by rfl
def CellAt (C:Ad) (H:Hp) (a:Addr) (c:Vanbki.Cell):Prop:=∃ dx q,H a=some (.ins C.cCell dx (kb c.number (markNat c.hidden) q))/\IL H q (nats c.text)
theorem CellAt.mono {C:Ad}{H H':Hp}{a:Addr}{c:Vanbki.Cell} (s:Same H H') (h:CellAt C H a c):CellAt C H' a c:=by
 obtain⟨dx,q,h1,h2⟩:=h
 exact⟨dx,q,s _ _ h1,s _ _ h2⟩
abbrev CellsAt (C:Ad) (H:Hp) (as:List Addr) (d:Vanbki.Doc):Prop:=Paired (CellAt C H) as d
theorem CellsAt.mono {C:Ad}{H H':Hp}{as:List Addr}{d:Vanbki.Doc} (s:Same H H') (h:CellsAt C H as d):CellsAt C H' as d:=zG h fun _ _ r=>r.mono s
structure Bk where
 b:Addr
 lb:Addr
 ds:Addr
 a1:Addr
 l1:Addr
 a2:Addr
 l2:Addr
 dc:Addr
def Bk.muts (B:Bk):List Addr:=[B.b,B.ds,B.a1,B.l1,B.a2,B.l2,B.dc]
abbrev Chs:=List ((Nat × Nat) × Nat)
def chV (ch:Chs):List (List Key × V):=ch.map fun x=>([Sum.inl (x.1.1:Int),Sum.inl (x.1.2:Int)],.int (x.2:Int))
def yR (ch:Chs) (k n:Nat):Nat:=match ch.find? fun x=>x.1 == (k,n) with
 | some x=>x.2
 | none=>0
structure Xy (ch:Chs) (s:Vanbki.State):Prop where
 nd:(ch.map fun x=>x.1).Nodup
 rg:∀ x,x∈ch->x.1.1<=4/\x.1.2<=99/\x.2<=3
 eq:∀ k n,yR ch k n=Vanbki.choiceOf s k n
structure BooksAt (C:Ad) (H G:Hp) (B:Bk) (ch:Chs) (s:Vanbki.State):Prop where
 bk:∃ dx,H B.b=some (.ins C.cBooks dx (qF B.lb B.ds B.dc))
 sd:H B.ds=some (.dK [(Sum.inl 1,.ref B.a1),(Sum.inl 2,.ref B.a2)])
 s1:∃ dx,H B.a1=some (.ins C.cSide dx (j3 B.l1 s.nextLeft))
 s2:∃ dx,H B.a2=some (.ins C.cSide dx (j3 B.l2 s.nextRight))
 c0:∃ as,RL G B.lb as/\CellsAt C G as s.base
 c1:∃ as,RL H B.l1 as/\CellsAt C G as s.left
 c2:∃ as,RL H B.l2 as/\CellsAt C G as s.right
 dc:H B.dc=some (.dT (chV ch))
 co:Xy ch s
 gh:Same G H
 fr:∀ a,a∈B.muts->G a=none
 ne:B.muts.Nodup
 ok:qu s
theorem BooksAt.mono {C:Ad}{H H' G:Hp}{B:Bk}{ch:Chs}{s:Vanbki.State} (h:BooksAt C H G B ch s) (k:Same H H'):BooksAt C H' G B ch s where
 bk:=let ⟨dx,e⟩:=h.bk;⟨dx,k _ _ e⟩
 sd:=k _ _ h.sd
 s1:=let ⟨dx,e⟩:=h.s1;⟨dx,k _ _ e⟩
 s2:=let ⟨dx,e⟩:=h.s2;⟨dx,k _ _ e⟩
 c0:=h.c0
 c1:=let ⟨as,e,r⟩:=h.c1;⟨as,k _ _ e,r⟩
 c2:=let ⟨as,e,r⟩:=h.c2;⟨as,k _ _ e,r⟩
 dc:=k _ _ h.dc
 co:=h.co
 gh:=h.gh.trans k
 fr:=h.fr
 ne:=h.ne
 ok:=h.ok
structure Fr (H G:Hp) (B:Bk) (H' G':Hp) (B':Bk):Prop where
 b:B'.b=B.b
 kept:∀ a o,H a=some o->a ∉ B.muts->H' a=some o
 grow:Same G G'
 newM:∀ a,a∈B'.muts->a∈B.muts∨H a=none
 newG:∀ a o,G' a=some o->G a=some o∨H a=none
section
variable {K:PySem.W.Frag}
theorem Yr {a:Addr}{xs:List V}{g:TG}{te:TE}{vs:List Nat}{σ:L2.St}{H1:Hp}{D:Addr}{Qd:Hp->Prop} (R:Nat->V->Hp->Prop) (mono:∀ i y F F',Same F F'->R i y F->R i y F') (hx:SqL K H1 a xs) (hD:H1 D=none) (hz:xs.length<sizeLine)
 (hs:∀ (i:Nat) (x:V) (H':Hp) (P:V->Hp->Prop),xs[i]?=some x->Same H1 H'->(∃ o,H' D=some o)->(∀ y H4,Same H' H4->R i y (minus H4 D)->P y H4) ->
  g x (qQ σ vs) H' fun σ2 H2=>qQ σ2 vs=qQ σ vs/\te σ2 H2 P)
 (hd:∀ H' ys,Same H1 H'->H' D=some (.lst ys)->ys.length=xs.length->(∀ i y,ys[i]?=some y->R i y (minus H' D))->Qd H') :
 ∃ W:Nat->Nat->Hp->Prop,(∃ m,W 0 m (upd H1 D (.lst [])))/\∀ i m H,W i m H ->
  ((Itl K a).stop i H/\Qd H)∨((Itl K a).go i H/\∃ Nx:Hp->Prop,(∀ H',Nx H'->∃ m',m'<m/\W (i+1) m' H')/\∀ x H',(Itl K a).yld i H x H'->g x (qQ σ vs) H' fun σ2 H2=>qQ σ2 vs=qQ σ vs/\Ka σ2 H2 fun b H3 =>
   if b=true then te σ2 H3 fun y H4=>∃ acc,H4 D=some (.lst acc)/\acc.length<sizeLine/\Nx (upd H4 D (.lst (acc++[y]))) else Nx H3):=by
 refine U3 (K:=K) (a:=a) (xs:=xs) (fun i H'=>Same H1 H'/\∃ ys,H' D=some (.lst ys)/\ys.length=i/\∀ j y,ys[j]?=some y->R j y (minus H' D)) ⟨Same.new hD,[],zf,rfl,fun j y h=>by simp at h⟩ (fun i H _ h=>h.1.seq hx) ?_ ?_
 . rintro i x H hi ⟨s,ys,e,hl,hr⟩
   have hlt:i<xs.length:=(List.getElem?_eq_some_iff.mp hi).1
   have q:=hs i x H (fun y H4=>∃ acc,H4 D=some (.lst acc)/\acc.length<sizeLine/\(Same H1 (upd H4 D (.lst (acc++[y])))/\∃ zs,(upd H4 D (.lst (acc++[y]))) D=some (.lst zs)/\zs.length=i+1/\∀ j z,zs[j]?=some z->R j z (minus (upd H4 D (.lst (acc++[y]))) D))) hi s ⟨_,e⟩ (fun y H4 s4 r4=>?_)
   . simp only[Ka,if_true]
     exact q
   . refine⟨ys,s4 _ _ e,by omega,fun b o q=>?_,ys++[y],zf,by simp[hl],fun j z hj=>?_⟩
     . rw[zh (zg q hD)]
       exact s4 _ _ (s b o q)
     . rw[xO]
       by_cases hji:j<ys.length
       . rw[List.getElem?_append_left hji] at hj
         exact mono j z _ _ (Same.both s4) (hr j z hj)
       . have hjl:j<(ys++[y]).length:=(List.getElem?_eq_some_iff.mp hj).1
         have ej:j=ys.length:=by simp at hjl;omega
         subst ej
         rw[List.getElem?_append_right (Nat.le_refl _)] at hj
         simp at hj
         subst hj
         rw[hl]
         exact r4
 . rintro H ⟨s,ys,e,hl,hr⟩
   exact hd H ys s e hl hr
theorem abc {a:Addr}{xs:List V}{g:TG}{tb:TS}{D:Y5}{σ:L2.St}{H:Hp} (Pv:Nat->L2.St->Hp->Prop) (h0:Pv 0 σ H) (hl:∀ i σ H,i<=xs.length->Pv i σ H->SqL K H a xs)
 (hs:∀ i x σ H X,xs[i]?=some x->H X=none->Pv i σ H->g (.ref X) σ (upd H X (.tup [.int (i:Nat),x])) fun σ2 H2=>tb { D with nx:=Pv (i+1),ct:=Pv (i+1),bk:=D.nx } σ2 H2) (hd:∀ σ H,Pv xs.length σ H->D.nx σ H) :
 ∃ W:Nat->Nat->L2.St->Hp->Prop,(∃ m,W 0 m σ H)/\∀ i m σ H,W i m σ H ->
  ((Ite K a).stop i H/\D.nx σ H)∨((Ite K a).go i H/\∃ N:L2.St->Hp->Prop,(∀ σ' H',N σ' H'->∃ m',m'<m/\W (i+1) m' σ' H')/\∀ x H',(Ite K a).yld i H x H'->g x σ H' fun σ2 H2=>tb { D with nx:=N,ct:=N,bk:=D.nx } σ2 H2):=by
 refine⟨fun i m σ H=>m=xs.length - i/\i<=xs.length/\Pv i σ H,⟨xs.length,by simp,Nat.zero_le _,h0⟩,?_⟩
 rintro i m σ H ⟨rfl,hi,p⟩
 have q:=hl i σ H hi p
 by_cases hlt:i<xs.length
 . refine .inr ⟨⟨xs,xs[i],q,by simp[hlt]⟩,Pv (i+1),fun σ' H' p'=>⟨xs.length - (i+1),by omega,rfl,hlt,p'⟩,fun x H' y=>?_⟩
   obtain⟨X,z,rfl,hX,rfl,y⟩:=y
   exact hs i z σ _ X (y xs q) hX p
 . have e:i=xs.length:=by omega
   subst e
   exact .inl ⟨⟨xs,q,Nat.le_refl _⟩,hd σ H p⟩
theorem J5 {a:Addr}{xs:List V}{g:TG}{tt:TT}{te:TE}{vs:List Nat}{σ:L2.St}{H1:Hp}{D:Addr}{Qd:Hp->Prop} (ys:List (Option V)) (hlen:ys.length=xs.length) (hx:SqL K H1 a xs) (hD:H1 D=none) (hz:xs.length<sizeLine)
 (hs:∀ (i:Nat) (x:V) (y:Option V) (H':Hp) (P:V->Hp->Prop) (N:Hp->Prop),xs[i]?=some x->ys[i]?=some y->Same H1 H'->(∀ z,y=some z->∀ H4,Same H' H4->P z H4)->(y=none->∀ H4,Same H' H4->N H4) ->
  g x (qQ σ vs) H' fun σ2 H2=>qQ σ2 vs=qQ σ vs/\tt σ2 H2 fun b H3=>if b=true then te σ2 H3 P else N H3)
 (hd:∀ H',Same H1 H'->H' D=some (.lst (ys.filterMap id))->Qd H') :
 ∃ W:Nat->Nat->Hp->Prop,(∃ m,W 0 m (upd H1 D (.lst [])))/\∀ i m H,W i m H ->
  ((Itl K a).stop i H/\Qd H)∨((Itl K a).go i H/\∃ Nx:Hp->Prop,(∀ H',Nx H'->∃ m',m'<m/\W (i+1) m' H')/\∀ x H',(Itl K a).yld i H x H'->g x (qQ σ vs) H' fun σ2 H2=>qQ σ2 vs=qQ σ vs/\tt σ2 H2 fun b H3 =>
   if b=true then te σ2 H3 fun y H4=>∃ acc,H4 D=some (.lst acc)/\acc.length<sizeLine/\Nx (upd H4 D (.lst (acc++[y]))) else Nx H3):=by
 refine U3 (K:=K) (a:=a) (xs:=xs) (fun i H'=>Same H1 H'/\H' D=some (.lst ((ys.take i).filterMap id))) ⟨Same.new hD,zf⟩ (fun i H _ h=>h.1.seq hx) ?_ ?_
 . rintro i x H hi ⟨s,e⟩
   have hlt:i<ys.length:=by rw[hlen];exact (List.getElem?_eq_some_iff.mp hi).1
   have hy:ys[i]?=some ys[i]:=List.getElem?_eq_getElem hlt
   have hsn:ys.take (i+1)=ys.take i++[ys[i]]:=by
    rw[List.take_succ,hy]
    rfl
   refine hs i x _ H _ _ hi hy s (fun z hp H4 s4=>?_) (fun hp H4 s4=>?_)
   . refine⟨_,s4 _ _ e,?_,fun b o q=>?_,?_⟩
     . have:=List.length_filterMap_le id (ys.take i)
       rw[List.length_take] at this
       omega
     . rw[zh (zg q hD)]
       exact s4 _ _ (s b o q)
     . rw[zf,hsn,List.filterMap_append]
       simp[hp]
   . refine⟨s.trans s4,?_⟩
     rw[s4 _ _ e,hsn,List.filterMap_append]
     simp[hp]
 . rintro H ⟨s,e⟩
   rw[<-hlen,List.take_length] at e
   exact hd H s e
theorem Zg {a:Addr}{xs:List V}{g:TG}{te:TE}{vs:List Nat}{σ:L2.St}{H1:Hp}{D:Addr}{Qd:Hp->Prop} (ys:List V) (hlen:ys.length=xs.length) (hx:SqL K H1 a xs) (hD:H1 D=none) (hz:xs.length<sizeLine)
 (hs:∀ (i:Nat) (x y:V) (H':Hp) (P:V->Hp->Prop),xs[i]?=some x->ys[i]?=some y->Same H1 H'->(∀ H4,Same H' H4->P y H4) ->
  g x (qQ σ vs) H' fun σ2 H2=>qQ σ2 vs=qQ σ vs/\te σ2 H2 P)
 (hd:∀ H',Same H1 H'->H' D=some (.lst ys)->Qd H') :
 ∃ W:Nat->Nat->Hp->Prop,(∃ m,W 0 m (upd H1 D (.lst [])))/\∀ i m H,W i m H ->
  ((Itl K a).stop i H/\Qd H)∨((Itl K a).go i H/\∃ Nx:Hp->Prop,(∀ H',Nx H'->∃ m',m'<m/\W (i+1) m' H')/\∀ x H',(Itl K a).yld i H x H'->g x (qQ σ vs) H' fun σ2 H2=>qQ σ2 vs=qQ σ vs/\Ka σ2 H2 fun b H3 =>
   if b=true then te σ2 H3 fun y H4=>∃ acc,H4 D=some (.lst acc)/\acc.length<sizeLine/\Nx (upd H4 D (.lst (acc++[y]))) else Nx H3):=by
 refine J5 (K:=K) (ys.map some) (by rw[List.length_map];exact hlen) hx hD hz (fun i x y H' P N hi hy s hP hN=>?_) (fun H' s e=>hd H' s ?_)
 . rw[List.getElem?_map] at hy
   cases q:ys[i]? with
   | none=>rw[q] at hy;cases hy
   | some z =>
    rw[q] at hy
    have e:some z=y:=Option.some.inj hy
    subst e
    have:=hs i x z H' P hi q s (hP z rfl)
    simp only[Ka,if_true]
    exact this
 . rw[e]
   congr 2
   rw[List.filterMap_map]
   simp
end
end Tb
end
section
namespace Tb
open PySem PySem.Spec PyProof.Rows L2
open Vanbki (nats ofNat markNat numbers)
def ab2:Option Nat->V
 | none=>.non
 | some n=>.int n
def OptCell (C:Ad) (H:Hp) (r:V):Option Vanbki.Cell->Prop
 | none=>r=.non
 | some c=>∃ a,r=.ref a/\CellAt C H a c
def Ub (H:Hp) (r:V):Option Vanbki.Text->Prop
 | none=>r=.non
 | some t=>∃ a,r=.ref a/\IL H a (nats t)
section
variable (C:Ad)
def qS:Sp:=fun vs H Q _=>∃ p dx n m q,vs=[.ref p,.int n,.int m,.ref q]/\H p=some (.ins C.cCell dx [])/\Q .non (upd H p (.ins C.cCell dx (kb n m q)))
def vd:Sp:=fun vs H Q _=>∃ p dx n m q,vs=[.ref p,.int n,.int m,.ref q]/\H p=some (.ins C.cChange dx [])/\Q .non (upd H p (.ins C.cChange dx (wg n m q)))
def qc:Sp:=fun vs H Q _=>∃ p dx c l r,vs=[.ref p,.ref c,.int l,.int r]/\H p=some (.ins C.cMergedCell dx [])/\Q .non (upd H p (.ins C.cMergedCell dx (k9 c l r)))
def wv:Sp:=fun vs H Q _=>∃ p dx n l,vs=[.ref p,.int n,.ref l]/\H p=some (.ins C.cOutcome dx [])/\Q .non (upd H p (.ins C.cOutcome dx (Wy n l)))
def jw:Sp:=fun vs H Q _=>∃ p dx l xs k,vs=[.ref p,.ref l,.int k]/\H p=some (.ins C.cSide dx [])/\H l=some (.lst xs)/\∀ q,H q=none->Q .non (upd (upd H q (.lst xs)) p (.ins C.cSide dx (j3 q k)))
def uV:Sp:=fun vs H Q _=>∃ a ns,vs=[.ref a]/\IL H a ns/\ns.length<=16000/\∀ H',Same H H'->Q (.bl (Vanbki.bytes ns)) H'
def je:Sp:=fun vs H Q _=>∃ a as tss,vs=[.ref a]/\RL H a as/\Paired (IL H) as tss/\as.length<=16000/\(∀ t,t∈tss->t.length<=16000)/\∀ H',Same H H'->Q (.int (jh tss)) H'
def jq:Sp:=fun vs H Q _=>∃ l as d n,vs=[.ref l,.int n]/\RL H l as/\CellsAt C H as d/\∀ H',Same H H'->Q (ab2 (jH d n)) H'
def vv:Sp:=fun vs H Q _=>∃ l as d n,vs=[.ref l,.int n]/\RL H l as/\CellsAt C H as d/\∀ H' r,Same H H'->(∀ G,Same G H->CellsAt C G as d->OptCell C G r (vi d n))->Q r H'
def jF:Sp:=fun vs H Q _=>∃ l as d,vs=[.ref l]/\RL H l as/\CellsAt C H as d/\d.length<=1000/\∀ H' p,Same H H'->H p=none->IL H' p (nats (numbers d))->Q (.ref p) H'
def y6:Sp:=fun vs H Q _=>∃ l as d n,vs=[.ref l,.int n]/\RL H l as/\CellsAt C H as d/\∀ H',Same H H'->Q (ab2 (yg d n)) H'
def kq:Sp:=fun vs H Q _=>∃ l as d,vs=[.ref l]/\RL H l as/\CellsAt C H as d/\d.length<=1000/\∀ H',Same H H'->Q (.int ((Vanbki.greatest (numbers d):Int)+1)) H'
end
section
variable {C:Ad}{H1:Hp}{Q:VK}
theorem jx {x dx c:Addr}{fs:List (Str × V)} (nx:H1 x=none) (nd:H1 dx=none):Same H1 (upd (upd (upd H1 dx (.own x)) x (.ins c dx [])) x (.ins c dx fs)):=fun b o e=>by
 rw[zh (zg e nx),zh (zg e nx),zh (zg e nd)]
 exact e
theorem UW {n m:Int}{q:Addr} (h:∀ x dx H2,H1 x=none->Same H1 H2->H2 x=some (.ins C.cChange dx (wg n m q))->Q (.ref x) H2) :
 ∀ x dx,H1 x=none->H1 dx=none->dx≠x->vd C (.ref x::([.int n,.int m,.ref q]++[])) (upd (upd H1 dx (.own x)) x (.ins C.cChange dx [])) (fun v H2=>v=.non/\Q (.ref x) H2) E0:=fun x dx nx nd ne =>
 ⟨x,dx,n,m,q,rfl,zf,rfl,h x dx _ nx (jx nx nd) zf⟩
theorem ab3 {l:Addr}{xs:List V}{k:Int} (hl:H1 l=some (.lst xs)) (h:∀ x dx q H2,H1 x=none->H1 q=none->q≠x->Same H1 H2->H2 x=some (.ins C.cSide dx (j3 q k))->H2 q=some (.lst xs)->Q (.ref x) H2) :
 ∀ x dx,H1 x=none->H1 dx=none->dx≠x->jw C (.ref x::([.ref l,.int k]++[])) (upd (upd H1 dx (.own x)) x (.ins C.cSide dx [])) (fun v H2=>v=.non/\Q (.ref x) H2) E0:=fun x dx nx nd ne=>by
 refine⟨x,dx,l,xs,k,rfl,zf,?_,fun q hq=>⟨rfl,?_⟩⟩
 . rw[zh (zg hl nx),zh (zg hl nd)]
   exact hl
 . have qx:q≠x:=fun e=>by rw[e,zf] at hq;cases hq
   have qd:q≠dx:=fun e=>by rw[e,zh ne,zf] at hq;cases hq
   have q0:H1 q=none:=by rw[zh qx,zh qd] at hq;exact hq
   refine h x dx q _ nx q0 qx (fun b o e=>?_) zf ?_
   . rw[zh (zg e nx),zh (zg e q0),zh (zg e nx),zh (zg e nd)]
     exact e
   . rw[zh qx,zf]
end
end Tb
end
section
namespace Tb
open PySem PySem.Spec PyProof.Rows L2
open Vanbki (nats ofNat markNat numbers)
section
variable {P:Program}{w:World}{K:PySem.W.Frag}{mg:Str->Option Value}{base:Heap}{C:Ad}{f:Addr}{fd:FuncData}
theorem Ys (F:Fun K "__init__" "Cell.__init__" x8 f fd) (T:Txt K mg C):z_ P w K mg base CX0 1 f fd ["self","number","mark","text"] (qS C):=by
 refine F.ok Ym (fun vs H Q E h=>?_) (fun cdv A outer s H vs Q E hr h=>?_)
 . obtain⟨p,dx,n,m,q,rfl,_⟩:=h
   rfl
 . obtain⟨p,dx,n,m,q,rfl,hp,k⟩:=h
   refine⟨_,(ze (qK (pv 0) (pv 1) rfl)
    (ze (qK (pv 0) (pv 2) rfl)
    (zj (qK (pv 0) (pv 3) rfl)))),?_⟩
   refine⟨_,rfl,_,rfl,p,C.cCell,dx,_,rfl,hp,T.c_Cell,T.n_Cell_number,(by show 0<1000;decide),?_⟩
   refine⟨_,rfl,_,rfl,p,C.cCell,dx,_,rfl,zf,T.c_Cell,T.n_Cell_mark,(by show 1<1000;decide),?_⟩
   refine⟨_,rfl,_,rfl,p,C.cCell,dx,_,rfl,zf,T.c_Cell,T.n_Cell_text,(by show 2<1000;decide),?_⟩
   show Q .non _
   rw[kj,kj]
   exact k
theorem Kn (F:Fun K "__init__" "Change.__init__" vC f fd) (T:Txt K mg C):z_ P w K mg base CX0 1 f fd ["self","begin","end","new_lines"] (vd C):=by
 refine F.ok Kk (fun vs H Q E h=>?_) (fun cdv A outer s H vs Q E hr h=>?_)
 . obtain⟨p,dx,n,m,q,rfl,_⟩:=h
   rfl
 . obtain⟨p,dx,n,m,q,rfl,hp,k⟩:=h
   refine⟨_,(ze (qK (pv 0) (pv 1) rfl)
    (ze (qK (pv 0) (pv 2) rfl)
    (zj (qK (pv 0) (pv 3) rfl)))),?_⟩
   refine⟨_,rfl,_,rfl,p,C.cChange,dx,_,rfl,hp,T.c_Change,T.n_Change_begin,(by show 0<1000;decide),?_⟩
   refine⟨_,rfl,_,rfl,p,C.cChange,dx,_,rfl,zf,T.c_Change,T.n_Change_end,(by show 1<1000;decide),?_⟩
   refine⟨_,rfl,_,rfl,p,C.cChange,dx,_,rfl,zf,T.c_Change,T.n_Change_new_lines,(by show 2<1000;decide),?_⟩
   show Q .non _
   rw[kj,kj]
   exact k
theorem Zh (F:Fun K "__init__" "MergedCell.__init__" jN f fd) (T:Txt K mg C):z_ P w K mg base CX0 1 f fd ["self","cell","on_left","on_right"] (qc C):=by
 refine F.ok Zd (fun vs H Q E h=>?_) (fun cdv A outer s H vs Q E hr h=>?_)
 . obtain⟨p,dx,n,m,q,rfl,_⟩:=h
   rfl
 . obtain⟨p,dx,n,m,q,rfl,hp,k⟩:=h
   refine⟨_,(ze (qK (pv 0) (pv 1) rfl)
    (ze (qK (pv 0) (pv 2) rfl)
    (zj (qK (pv 0) (pv 3) rfl)))),?_⟩
   refine⟨_,rfl,_,rfl,p,C.cMergedCell,dx,_,rfl,hp,T.c_MergedCell,T.n_MergedCell_cell,(by show 0<1000;decide),?_⟩
   refine⟨_,rfl,_,rfl,p,C.cMergedCell,dx,_,rfl,zf,T.c_MergedCell,T.n_MergedCell_on_left,(by show 1<1000;decide),?_⟩
   refine⟨_,rfl,_,rfl,p,C.cMergedCell,dx,_,rfl,zf,T.c_MergedCell,T.n_MergedCell_on_right,(by show 2<1000;decide),?_⟩
   show Q .non _
   rw[kj,kj]
   exact k
theorem Jq (F:Fun K "__init__" "Outcome.__init__" kT f fd) (T:Txt K mg C):z_ P w K mg base CX0 1 f fd ["self","refusal","merged"] (wv C):=by
 refine F.ok Jm (fun vs H Q E h=>?_) (fun cdv A outer s H vs Q E hr h=>?_)
 . obtain⟨p,dx,n,q,rfl,_⟩:=h
   rfl
 . obtain⟨p,dx,n,q,rfl,hp,k⟩:=h
   refine⟨_,(ze (qK (pv 0) (pv 1) rfl)
    (zj (qK (pv 0) (pv 2) rfl))),?_⟩
   refine⟨_,rfl,_,rfl,p,C.cOutcome,dx,_,rfl,hp,T.c_Outcome,T.n_Outcome_refusal,(by show 0<1000;decide),?_⟩
   refine⟨_,rfl,_,rfl,p,C.cOutcome,dx,_,rfl,zf,T.c_Outcome,T.n_Outcome_merged,(by show 1<1000;decide),?_⟩
   show Q .non _
   rw[kj]
   exact k
theorem Yt (F:Fun K "__init__" "Side.__init__" x9 f fd) (T:Txt K mg C):z_ P w K mg base CX0 1 f fd ["self","cells","next_number"] (jw C):=by
 refine F.ok Yn (fun vs H Q E h=>?_) (fun cdv A outer s H vs Q E hr h=>?_)
 . obtain⟨p,dx,l,xs,n,rfl,_⟩:=h
   rfl
 . obtain⟨p,dx,l,xs,n,rfl,hp,hl,k⟩:=h
   refine⟨_,(ze (qK (pv 0) (Vz ZO (by rfl) T.b_list U9 (za (pv 1) zi)) rfl)
    (zj (qK (pv 0) (pv 2) rfl))),?_⟩
   refine⟨_,rfl,l,_,rfl,.inl (SqL.of hl),fun q hq=>?_⟩
   have pq:p≠q:=zg hp hq
   refine⟨_,rfl,p,C.cSide,dx,_,rfl,(by rw[zh pq];exact hp),T.c_Side,T.n_Side_cells,(by show 0<1000;decide),?_⟩
   refine⟨_,rfl,_,rfl,p,C.cSide,dx,_,rfl,zf,T.c_Side,T.n_Side_next_number,(by show 1<1000;decide),?_⟩
   show Q .non _
   rw[kj]
   exact k q hq
theorem V3 (F:Fun K "only_bytes" "only_bytes" ym f fd) (T:Txt K mg C):z_ P w K mg base CX0 1 f fd ["text"] (uV):=by
 refine F.ok sc_only_bytes (fun vs H Q E h=>?_) (fun cdv A outer s H vs Q E hr h=>?_)
 . obtain⟨a,ns,rfl,_⟩:=h
   rfl
 . obtain⟨a,ns,rfl,ha,hl,k⟩:=h
   refine⟨_,(zj (zo (zW (aaT rfl) (by rfl) T.b_all aa_ (za (w_ rfl sc_only_bytes.nd (qi (pv 0)) (qE (own:=[("number",1)]) (by kernel_rfl)) (fun _ _ _ _ _=>(zS (i:=1) sc_only_bytes.nd rfl (Or.inl rfl))) (fun _ _ _ _ _=>km) (fun _ _ _ _ _=>(aaL Xh Xh zH (pv 1) (pgi T.g_GREATEST_BYTE)))) zi)))),?_⟩
   refine⟨_,rfl,a,rfl,⟨_,SqL.of ha⟩,fun D hD=>?_⟩
   refine Zg (K:=K) (xs:=ns.map V.int) ((ns.map fun n=>decide (0<=n) && decide (n<=255)).map V.bl) (by simp) (SqL.of ha) hD (by rw[List.length_map];exact Nat.lt_of_le_of_lt hl (by decide)) (fun i x y H' P' hi hy s1 hP=>?_) (fun H' s1 e=>?_)
   . obtain⟨n,hn,rfl⟩:=abb hi
     have ey:y=.bl (decide (0<=n) && decide (n<=255)):=by
      rw[List.getElem?_map,List.getElem?_map,hn] at hy
      exact (Option.some.inj hy).symm
     subst ey
     have q:=hP H' (Same.refl _)
     refine⟨rfl,_,rfl,_,_,rfl,rfl,_,rfl,?_⟩
     by_cases h0:0<=n
     . rw[decide_eq_true h0]
       refine zM ⟨_,_,rfl,rfl,?_⟩
       simpa [h0] using q
     . rw[decide_eq_false h0]
       refine zE ?_
       simpa [h0] using q
   . refine⟨D,_,rfl,SqL.of e,?_⟩
     have eb:(ns.map (fun n=>decide (0<=n) && decide (n<=255))).all id=Vanbki.bytes ns:=by
      rw[List.all_map]
      rfl
     rw[eb]
     exact k H' s1
theorem uG {f1:Addr}{fd1:FuncData} (F:Fun K "refusal_of_texts" "refusal_of_texts" js f fd) (T:Txt K mg C) (D_only_bytes:Def P w K mg base "only_bytes" 1 ["text"] (uV) f1 fd1):z_ P w K mg base CX0 2 f fd ["texts"] (je):=by
 refine F.ok sc_refusal_of_texts (fun vs H Q E h=>?_) (fun cdv A outer s H vs Q E hr h=>?_)
 . obtain⟨a,as,ts,rfl,_⟩:=h
   rfl
 . obtain⟨a,as,ts,rfl,ha,hp,hl,ht,k⟩:=h
   have hlen:=zx hp
   have hz:(as.map V.ref).length<sizeLine:=by rw[List.length_map];exact Nat.lt_of_le_of_lt hl (by decide)
   refine⟨_,(ze (zI (acl (QE (zW (aaT rfl) (by rfl) T.b_all aa_ (za (w_ rfl sc_refusal_of_texts.nd (qi (pv 0)) (qE (own:=[("text",1)]) (by kernel_rfl)) (fun _ _ _ _ _=>(zS (i:=1) sc_refusal_of_texts.nd rfl (Or.inl rfl))) (fun _ _ _ _ _=>km) (fun _ _ _ _ _=>(zk D_only_bytes (hr.mono (by decide)) (za (pv 1) zi)))) zi)))) (zj (zo (pgi T.g_NO_BYTE))) zw)
    (ze (zI (QE (zW (aaS rfl) (by rfl) T.b_any aba (za (w_ rfl sc_refusal_of_texts.nd (qi (pv 0)) (qE (own:=[("text",1)]) (by kernel_rfl)) (fun _ _ _ _ _=>(zS (i:=1) sc_refusal_of_texts.nd rfl (Or.inl rfl))) (fun _ _ _ _ _=>km) (fun _ _ _ _ _=>(uv J1 (zW (ab1 (K:=K) rfl) (by rfl) T.b_len qX (za (pv 1) zi)) (pgi T.g_MOST_BYTES) (zF _)))) zi))) (zj (zo (pgi T.g_TEXT_TOO_LONG))) zw)
    (zj (zo (pgi T.g_NO_REFUSAL))))),?_⟩
   refine⟨_,rfl,a,rfl,⟨_,SqL.of ha⟩,fun D hD=>?_⟩
   refine Zg (K:=K) (xs:=as.map V.ref) ((ts.map Vanbki.bytes).map V.bl) (by simp[hlen]) (SqL.of ha) hD hz (fun i x y H' P' hi hy s1 hP=>?_) (fun H1 s1 e=>?_)
   . obtain⟨b,hb,rfl⟩:=qL hi
     obtain⟨t,ht1,ht2⟩:=zN hp hb
     have ey:y=.bl (Vanbki.bytes t):=by
      rw[List.getElem?_map,List.getElem?_map,ht1] at hy
      exact (Option.some.inj hy).symm
     subst ey
     exact⟨rfl,_,rfl,b,t,rfl,s1 _ _ ht2,ht t (List.mem_of_getElem? ht1),fun H4 s4=>hP H4 s4⟩
   . refine⟨D,_,rfl,SqL.of e,_,rfl,?_⟩
     have eb:(ts.map Vanbki.bytes).all id=ts.all Vanbki.bytes:=by
      rw[List.all_map]
      rfl
     rw[eb]
     cases q1:ts.all Vanbki.bytes with
     | false =>
      refine zM ?_
      have q:=k H1 s1
      unfold jh at q
      rw[q1] at q
      exact q
     | true =>
      refine zE ?_
      refine⟨_,rfl,a,rfl,⟨_,SqL.of (s1 _ _ ha)⟩,fun D hD=>?_⟩
      refine Zg (K:=K) (xs:=as.map V.ref) ((ts.map Vanbki.tooLong).map V.bl) (by simp[hlen]) (SqL.of (s1 _ _ ha)) hD hz (fun i x y H' P' hi hy s2 hP=>?_) (fun H2 s2 e=>?_)
      . obtain⟨b,hb,rfl⟩:=qL hi
        obtain⟨t,ht1,ht2⟩:=zN hp hb
        have ey:y=.bl (Vanbki.tooLong t):=by
         rw[List.getElem?_map,List.getElem?_map,ht1] at hy
         exact (Option.some.inj hy).symm
        subst ey
        refine⟨rfl,_,rfl,b,_,rfl,.inl (SqL.of (s2 _ _ (s1 _ _ ht2))),_,_,rfl,rfl,?_⟩
        have q:=hP H' (Same.refl _)
        have e1:Vanbki.tooLong t=decide ((200:Int)<((t.map V.int).length:Nat)):=by
         unfold Vanbki.tooLong Vanbki.LONG
         rw[List.length_map]
         by_cases h:200<t.length
         . rw[decide_eq_true h,decide_eq_true (by omega)]
         . rw[decide_eq_false h,decide_eq_false (by omega)]
        rw[e1] at q
        exact q
      . refine⟨D,_,rfl,SqL.of e,_,rfl,?_⟩
        have eb:(ts.map Vanbki.tooLong).any id=ts.any Vanbki.tooLong:=by
         rw[List.any_map]
         rfl
        rw[eb]
        have q:=k H2 (s1.trans s2)
        unfold jh at q
        rw[q1,if_pos rfl] at q
        cases q2:ts.any Vanbki.tooLong with
        | true =>
         rw[q2] at q
         exact zM q
        | false =>
         rw[q2] at q
         exact zE q
theorem Xz (F:Fun K "place_of" "place_of" wa f fd) (T:Txt K mg C):z_ P w K mg base CX0 1 f fd ["cells","number"] (jq C):=by
 refine F.ok sc_place_of (fun vs H Q E h=>?_) (fun cdv A outer s H vs Q E hr h=>?_)
 . obtain⟨l,as,d,n,rfl,_⟩:=h
   rfl
 . obtain⟨l,as,d,n,rfl,hl,hc,k⟩:=h
   refine⟨_,(ze (kQ PassesOwn.never rfl (abS (by rfl) T.b_enumerate (za (pv 0) zi)) (Y8 rfl (kf (zS (i:=2) sc_place_of.nd rfl (Or.inl rfl)) (kf (zS (i:=3) sc_place_of.nd rfl (Or.inl rfl)) ZJ))) (zj (zI (zz qT (zn (pv 3) rfl) (pv 1) (zF _)) (zj (zo (pv 2))) zw)))
    (zj (zo wS))),?_⟩
   refine⟨_,rfl,l,_,rfl,SqL.of hl,abc (K:=K) (xs:=as.map V.ref) (fun i σ H'=>(∃ v1 v2,σ=[some (.ref l),some (.int n),v1,v2])/\Same H H'/\∀ (j:Nat) (c:Vanbki.Cell),j<i->d[j]?=some c->(c.number:Int)≠n)
    ⟨⟨none,none,rfl⟩,Same.refl _,fun j c h=>absurd h (Nat.not_lt_zero _)⟩ (fun i σ H' _ h=>SqL.of (h.2.1 _ _ hl)) ?_ ?_⟩
   . rintro i x σ H' X hi hX ⟨⟨v1,v2,rfl⟩,s1,hm⟩
     obtain⟨a,ha,rfl⟩:=qL hi
     obtain⟨c,hc1,dx,q,e1,e2⟩:=zN hc ha
     have s2:=s1.trans (Same.new (o:=.tup [.int (i:Nat),.ref a]) hX)
     refine⟨X,_,rfl,SqT.of zf,rfl,_,_,rfl,_,_,rfl,rfl,?_⟩
     refine⟨_,rfl,a,C.cCell,dx,_,_,rfl,s2 _ _ e1,T.c_Cell,T.n_Cell_number,zK _ _ _,_,rfl,rfl,_,rfl,u6 (fun hh=>?_) (fun hh=>?_)⟩
     . have e:(c.number:Int)=n:=by simpa using hh
       refine⟨_,rfl,?_⟩
       have q:=k _ s2
       rw[W5 hc1 e hm] at q
       exact q
     . refine⟨⟨_,_,rfl⟩,s2,fun j c' hj hc'=>?_⟩
       rcases Nat.lt_succ_iff_lt_or_eq.mp hj with z | z
       . exact hm j c' z hc'
       . subst z
         rw[hc1] at hc'
         cases hc'
         simpa using hh
   . rintro σ H' ⟨_,s1,hm⟩
     have q:=k H' s1
     rw[X6 fun j c hc'=>hm j c (by
      have:=(List.getElem?_eq_some_iff.mp hc').1
      rw[List.length_map,zx hc]
      exact this) hc'] at q
     exact q
theorem Wz {f1:Addr}{fd1:FuncData} (F:Fun K "cell_of" "cell_of" uy f fd) (T:Txt K mg C) (D_place_of:Def P w K mg base "place_of" 1 ["cells","number"] (jq C) f1 fd1):z_ P w K mg base CX0 2 f fd ["cells","number"] (vv C):=by
 refine F.ok sc_cell_of (fun vs H Q E h=>?_) (fun cdv A outer s H vs Q E hr h=>?_)
 . obtain⟨l,as,d,n,rfl,_⟩:=h
   rfl
 . obtain⟨l,as,d,n,rfl,hl,hc,k⟩:=h
   refine⟨_,(ze (zu (i:=2) sc_cell_of.nd rfl (Or.inl rfl) (zk D_place_of (hr.mono (by decide)) (za (pv 0) (za (pv 1) zi))))
    (ze (zI (qJ (jJ (pv 2))) (zj (zo wS)) zw)
    (zj (zo (qy qj (pv 0) (pv 2) (fun _ _=>rfl)))))),?_⟩
   refine⟨_,rfl,_,rfl,l,as,d,n,rfl,hl,hc,fun H1 s1=>?_⟩
   cases e:jH d n with
   | none =>
    refine⟨_,rfl,_,rfl,zM ?_⟩
    refine k H1 .non s1 fun G _ _=>?_
    rw[placeI_none.mp e]
    rfl
   | some i =>
    obtain⟨c,h1,h2,h3,_⟩:=jm e
    obtain⟨a,ha⟩:∃ a,as[i]?=some a:=by
     have:=(List.getElem?_eq_some_iff.mp h1).1
     rw[<-zx hc] at this
     exact⟨_,List.getElem?_eq_getElem this⟩
    refine⟨_,rfl,_,rfl,zE ?_⟩
    refine⟨_,rfl,_,rfl,l,_,_,_,rfl,rfl,SqL.of (s1 _ _ hl),q5 (by rw[List.getElem?_map,ha];rfl),?_⟩
    refine k H1 _ s1 fun G _ hG=>?_
    rw[h3]
    obtain⟨c',hc',hca⟩:=zN hG ha
    rw[h1] at hc'
    cases hc'
    exact⟨a,rfl,hca⟩
theorem V4 (F:Fun K "numbers_of" "numbers_of" yn f fd) (T:Txt K mg C):z_ P w K mg base CX0 1 f fd ["cells"] (jF C):=by
 refine F.ok sc_numbers_of (fun vs H Q E h=>?_) (fun cdv A outer s H vs Q E hr h=>?_)
 . obtain⟨l,as,d,rfl,_⟩:=h
   rfl
 . obtain⟨l,as,d,rfl,hl,hc,hz,k⟩:=h
   refine⟨_,(zj (zo (w_ rfl sc_numbers_of.nd (qi (pv 0)) (qE (own:=[("cell",1)]) (by kernel_rfl)) (fun _ _ _ _ _=>(zS (i:=1) sc_numbers_of.nd rfl (Or.inl rfl))) (fun _ _ _ _ _=>km) (fun _ _ _ _ _=>(jM (K:=K) rfl (pv 1) rfl))))),?_⟩
   refine⟨_,rfl,l,rfl,⟨_,SqL.of hl⟩,fun D hD=>?_⟩
   have hlen:=zx hc
   refine Zg (K:=K) (xs:=as.map V.ref) ((nats (numbers d)).map V.int) (by simp[nats,numbers,hlen]) (SqL.of hl) hD (by rw[List.length_map,hlen];exact Nat.lt_of_le_of_lt hz (by decide)) (fun i x y H' P' hi hy s1 hP=>?_) (fun H1 s1 e=>k H1 D s1 hD e)
   obtain⟨b,hb,rfl⟩:=qL hi
   obtain⟨c,hc1,dx,q,e1,e2⟩:=zN hc hb
   have ey:y=.int c.number:=by
    unfold nats numbers at hy
    rw[List.getElem?_map,List.getElem?_map,List.getElem?_map,hc1] at hy
    exact (Option.some.inj hy).symm
   subst ey
   exact⟨rfl,_,rfl,b,C.cCell,dx,_,_,rfl,s1 _ _ e1,T.c_Cell,T.n_Cell_number,zK _ _ _,hP H' (Same.refl _)⟩
theorem Jr {f1:Addr}{fd1:FuncData} (F:Fun K "place_behind" "place_behind" kU f fd) (T:Txt K mg C) (D_place_of:Def P w K mg base "place_of" 1 ["cells","number"] (jq C) f1 fd1):z_ P w K mg base CX0 2 f fd ["cells","after"] (y6 C):=by
 refine F.ok sc_place_behind (fun vs H Q E h=>?_) (fun cdv A outer s H vs Q E hr h=>?_)
 . obtain⟨l,as,d,n,rfl,_⟩:=h
   rfl
 . obtain⟨l,as,d,n,rfl,hl,hc,k⟩:=h
   refine⟨_,(ze (zI (zz qT (pv 1) zH (zF _)) (zj (zo zH)) zw)
    (ze (zu (i:=2) sc_place_behind.nd rfl (Or.inl rfl) (zk D_place_of (hr.mono (by decide)) (za (pv 0) (za (pv 1) zi))))
    (ze (zI (qJ (jJ (pv 2))) (zj (zo wS)) zw)
    (zj (zo (jK w4 (pv 2) zH)))))),?_⟩
   refine⟨_,rfl,rfl,_,rfl,u6 (fun hh=>?_) (fun hh=>?_)⟩
   . have e:n=0:=by simpa using hh
     have q:=k H (Same.refl _)
     unfold yg at q
     rw[if_pos e] at q
     exact q
   . have e:¬n=0:=by simpa using hh
     refine⟨_,rfl,_,rfl,l,as,d,n,rfl,hl,hc,fun H1 s1=>?_⟩
     have q:=k H1 s1
     unfold yg at q
     rw[if_neg e] at q
     cases e:jH d n with
     | none =>
      rw[e] at q
      exact⟨_,rfl,_,rfl,zM q⟩
     | some i =>
      rw[e] at q
      exact⟨_,rfl,_,rfl,zE ⟨_,rfl,_,_,rfl,rfl,q⟩⟩
theorem Js {f1:Addr}{fd1:FuncData} (F:Fun K "number_above" "number_above" kW f fd) (T:Txt K mg C) (D_numbers_of:Def P w K mg base "numbers_of" 1 ["cells"] (jF C) f1 fd1):z_ P w K mg base CX0 2 f fd ["cells"] (kq C):=by
 refine F.ok Jn (fun vs H Q E h=>?_) (fun cdv A outer s H vs Q E hr h=>?_)
 . obtain⟨l,as,d,rfl,_⟩:=h
   rfl
 . obtain⟨l,as,d,rfl,hl,hc,hz,k⟩:=h
   refine⟨_,(zj (zo (jK w4 (abY T.b_max (zk D_numbers_of (hr.mono (by decide)) (za (pv 0) zi)) zH) zH))),?_⟩
   refine⟨_,rfl,l,as,d,rfl,hl,hc,hz,fun H1 p s1 hp e=>⟨p,nats (numbers d),rfl,SqL.of e,fun h0=>?_,fun m h1 h2=>?_⟩⟩
   . refine⟨_,_,rfl,rfl,?_⟩
     have q:=k H1 s1
     have e0:numbers d=[]:=by simpa [nats] using h0
     rw[e0] at q
     exact q
   . refine⟨_,_,rfl,rfl,?_⟩
     rw[Y1 h1 h2]
     exact k H1 s1
end
end Tb
end
section
namespace Tb
open PySem PySem.Spec PyProof.Rows L2
open Vanbki (nats ofNat markNat numbers linesOf unlines inCommon changeOf)
theorem Ko {K:PySem.W.Frag}{H:Hp}:∀ ns:List Int,uS K H (ns.map V.int) (ns.map PyData.int)
 | []=>.nil
 | n::ns=>.cons (.int n) (Ko ns)
theorem vU {K:PySem.W.Frag}{H:Hp}{a:Addr}{ns:List Int} (h:IL H a ns):Dp K H (.ref a) (kO ns):=.lst (SqL.of h) (Ko ns)
theorem ww {α β:Type}{R:α->β->Prop}:∀ {as:List α}{bs:List β}{b:β},Paired R as (bs++[b])->∃ as0 z,as=as0++[z]/\Paired R as0 bs/\R z b
 | _,[],b,h=>by
  cases h with
  | cons r t=>cases t;exact⟨[],_,rfl,.nil,r⟩
 | _,c::bs,b,h=>by
  cases h with
  | cons r t =>
   obtain⟨as0,z,rfl,h1,h2⟩:=ww t
   exact⟨_::as0,z,rfl,.cons r h1,h2⟩
theorem J6 {H H':Hp}{as:List Addr}{ts:List (List Int)} (h:Paired (IL H) as ts) (k:∀ a,a∈as->∀ o,H a=some o->H' a=some o):Paired (IL H') as ts:=by
 induction h with
 | nil=>exact .nil
 | @cons a b l1 l2 r t ih=>exact .cons (k a (List.mem_cons_self ..) _ r) (ih fun x hx=>k x (List.mem_cons_of_mem _ hx))
theorem jS {H H':Hp}{as:List Addr}{ts:List (List Int)} (s:Same H H') (h:Paired (IL H) as ts):Paired (IL H') as ts:=zG h fun _ _ r=>s _ _ r
theorem XA {xs:List V}{i:Nat} (h:i<=xs.length):uF xs (some (i:Int)) none=xs.drop i:=by
 unfold uF
 rw[HT.sIx_nat,HT.sIx_none,Nat.min_eq_left h]
 exact List.take_of_length_le (by rw[List.length_drop];exact Nat.le_refl _)
theorem acM {xs:List V}{j:Nat} (h:j<=xs.length):uF xs none (some (j:Int))=xs.take j:=by
 unfold uF
 rw[HT.sIx_nat,HT.sIx_none,Nat.min_eq_left h]
 rfl
theorem ZZ {xs:List V}{i j:Nat} (h:i<=xs.length) (h2:j<=xs.length):uF xs (some (i:Int)) (some (j:Int))=(xs.drop i).take (j - i):=by
 unfold uF
 rw[HT.sIx_nat,HT.sIx_nat,Nat.min_eq_left h,Nat.min_eq_left h2]
theorem yS {ns:List Nat}{i:Nat}{x:V} (h:((nats ns).map V.int)[i]?=some x):∃ n,ns[i]?=some n/\x=.int (n:Int):=by
 obtain⟨z,hz,rfl⟩:=abb h
 unfold nats at hz
 rw[List.getElem?_map] at hz
 cases e:ns[i]? with
 | none=>rw[e] at hz;cases hz
 | some n=>rw[e] at hz;exact⟨n,rfl,by rw[<-Option.some.inj hz];rfl⟩
theorem zP {α:Type}{l:List α}{i:Nat}{x:α} (h:l[i]?=some x):l.take (i+1)=l.take i++[x]:=by
 rw[List.take_succ,h]
 rfl
theorem qU {n:Nat} (h:n<=1000000):n<sizeLine:=Nat.lt_of_le_of_lt h (by decide)
theorem qN {n:Nat} (h:n<=1000000):n<=sizeLine:=Nat.le_of_lt (qU h)
def QL:Sp:=fun vs H Q _=>∃ a b c xs ys zs,vs=[.ref a,.ref b,.ref c]/\IL H a xs/\IL H b ys/\IL H c zs/\Q (if ys=xs then .ref c else if zs=xs then .ref b else if ys=zs then .ref b else .non) H
def QM:Sp:=fun vs H Q _=>∃ (k:Int) (b l r:V),vs=[.int k,b,l,r]/\Q (if k=1 then l else if k=2 then r else b) H
def u9:Sp:=fun vs H Q _=>∃ a t,vs=[.ref a]/\IL H a (nats t)/\t.length<=16000/\∀ H' p as,Same H H'->H p=none->RL H' p as->Paired (IL H') as ((linesOf t).map nats)->Q (.ref p) H'
def Kp:Sp:=fun vs H Q _=>∃ a as ls,vs=[.ref a]/\RL H a as/\Paired (IL H) as (ls.map nats)/\ls≠[]/\(unlines ls).length<=16000/\ls.length<=16000/\∀ H' p,Same H H'->H p=none->IL H' p (nats (unlines ls))->Q (.ref p) H'
def yd:Sp:=fun vs H Q _=>∃ a b as bs xs ys m,vs=[.ref a,.ref b,.int (m:Nat)]/\RL H a as/\RL H b bs/\Paired (IL H) as (xs.map nats)/\Paired (IL H) bs (ys.map nats)/\m<=xs.length/\m<=ys.length/\Q (.int ((min (inCommon xs ys) m:Nat):Int)) H
section
variable {P:Program}{w:World}{K:PySem.W.Frag}{mg:Str->Option Value}{base:Heap}{C:Ad}{f:Addr}{fd:FuncData}
theorem UX (F:Fun K "agreed" "agreed" ZU f fd) (T:Txt K mg C):z_ P w K mg base CX0 1 f fd ["base","left","right"] (QL):=by
 refine F.ok UT (fun vs H Q E h=>?_) (fun cdv A outer s H vs Q E hr h=>?_)
 . obtain⟨a,b,c,xs,ys,zs,rfl,_⟩:=h
   rfl
 . obtain⟨a,b,c,xs,ys,zs,rfl,ha,hb,hc,k⟩:=h
   refine⟨_,(ze (zI (zz (wV hr.units) (pv 1) (pv 0) (zF _)) (zj (zo (pv 2))) zw)
    (ze (zI (zz (wV hr.units) (pv 2) (pv 0) (zF _)) (zj (zo (pv 1))) zw)
    (ze (zI (zz (wV hr.units) (pv 1) (pv 2) (zF _)) (zj (zo (pv 1))) zw)
    (zj (zo wS))))),?_⟩
   refine⟨_,rfl,_,rfl,kO ys,kO xs,vU hb,vU ha,qh _,qh _,_,rfl,u6 (fun hh=>?_) (fun hh=>?_)⟩ <;> rw[vP] at hh
   . have e:ys=xs:=by simpa using hh
     rw[if_pos e] at k
     exact⟨_,rfl,k⟩
   . have e:¬ys=xs:=by simpa using hh
     rw[if_neg e] at k
     refine⟨_,rfl,_,rfl,kO zs,kO xs,vU hc,vU ha,qh _,qh _,_,rfl,u6 (fun hh=>?_) (fun hh=>?_)⟩ <;> rw[vP] at hh
     . have e:zs=xs:=by simpa using hh
       rw[if_pos e] at k
       exact⟨_,rfl,k⟩
     . have e:¬zs=xs:=by simpa using hh
       rw[if_neg e] at k
       refine⟨_,rfl,_,rfl,kO ys,kO zs,vU hb,vU hc,qh _,qh _,_,rfl,u6 (fun hh=>?_) (fun hh=>?_)⟩ <;> rw[vP] at hh
       . have e:ys=zs:=by simpa using hh
         rw[if_pos e] at k
         exact⟨_,rfl,k⟩
       . have e:¬ys=zs:=by simpa using hh
         rw[if_neg e] at k
         exact k
theorem UY (F:Fun K "chosen" "chosen" ZV f fd) (T:Txt K mg C):z_ P w K mg base CX0 1 f fd ["choice","base","left","right"] (QM):=by
 refine F.ok UU (fun vs H Q E h=>?_) (fun cdv A outer s H vs Q E hr h=>?_)
 . obtain⟨k,b,l,r,rfl,_⟩:=h
   rfl
 . obtain⟨k,b,l,r,rfl,q⟩:=h
   refine⟨_,(ze (zI (zz qT (pv 0) (pgi T.g_LEFT) (zF _)) (zj (zo (pv 2))) zw)
    (ze (zI (zz qT (pv 0) (pgi T.g_RIGHT) (zF _)) (zj (zo (pv 3))) zw)
    (zj (zo (pv 1))))),?_⟩
   refine⟨_,rfl,rfl,_,rfl,u6 (fun hh=>?_) (fun hh=>?_)⟩
   . have e:k=1:=by simpa using hh
     rw[if_pos e] at q
     exact⟨_,rfl,q⟩
   . have e:¬k=1:=by simpa using hh
     rw[if_neg e] at q
     refine⟨_,rfl,rfl,_,rfl,u6 (fun hh=>?_) (fun hh=>?_)⟩
     . have e:k=2:=by simpa using hh
       rw[if_pos e] at q
       exact⟨_,rfl,q⟩
     . have e:¬k=2:=by simpa using hh
       rw[if_neg e] at q
       exact⟨_,rfl,q⟩
theorem XB (F:Fun K "lines_of" "lines_of" wc f fd) (T:Txt K mg C):z_ P w K mg base CX0 1 f fd ["text"] (u9):=by
 refine F.ok sc_lines_of (fun vs H Q E h=>?_) (fun cdv A outer s H vs Q E hr h=>?_)
 . obtain⟨a,t,rfl,_⟩:=h
   rfl
 . obtain⟨a,t,rfl,ha,ht,k⟩:=h
   refine⟨_,(ze (zu (i:=1) sc_lines_of.nd rfl (Or.inl rfl) (qb (za (qb zi) zi)))
    (ze (kQ PassesOwn.never rfl (qi (pv 0)) (zS (i:=2) sc_lines_of.nd rfl (Or.inl rfl)) (zj (zI (zz qT (pv 2) (pgi T.g_LINE_END) (zF _)) (zj (qA (jL PySem.F.plainAttrs_list PySem.F.slot_list_append PySem.F.type_list_append ji (pv 1) (za (qb zi) zi)))) (zj (qA (jL PySem.F.plainAttrs_list PySem.F.slot_list_append PySem.F.type_list_append ji (qy qj (pv 1) (ac2 acr zH) (fun _ _=>rfl)) (za (pv 2) zi)))))))
    (zj (zo (pv 1))))),?_⟩
   refine⟨Nat.zero_le _,fun q hq=>⟨(by show 1<=sizeLine;decide),fun p hp=>?_⟩⟩
   have pq:p≠q:=fun e=>by rw[e,zf] at hp;cases hp
   have hp0:H p=none:=by rw[zh pq] at hp;exact hp
   have s0:Same H (upd (upd H q (.lst [])) p (.lst [.ref q])):=(Same.new hq).trans (Same.new hp)
   refine⟨_,rfl,a,rfl,⟨_,SqL.of (s0 _ _ ha)⟩,jD (K:=K) (a:=a) (xs:=(nats t).map V.int)
    (fun i σ H'=>(∃ v,σ=[some (.ref a),some (.ref p),v])/\Same H H'/\∃ as,RL H' p as/\Paired (IL H') as ((linesOf (t.take i)).map nats)/\(p::as).Nodup/\∀ x,x∈as->H x=none)
    ⟨⟨none,rfl⟩,s0,[q],zf,.cons (by rw[IL,zh (Ne.symm pq)];exact zf) .nil,by simp[pq],by simpa using hq⟩ (fun i σ H' _ h=>SqL.of (h.2.1 _ _ ha)) ?_ ?_⟩
   . rintro i x σ H' hi ⟨⟨v,rfl⟩,s1,as,hr,hpa,hnd,hfr⟩
     obtain⟨b,hb,rfl⟩:=yS hi
     have hit:i<t.length:=(List.getElem?_eq_some_iff.mp hb).1
     obtain⟨hpn,hnda⟩:=List.nodup_cons.mp hnd
     have hlen:as.length<=i+1:=by
      rw[zx hpa,List.length_map]
      have:=ZD (t.take i)
      rw[List.length_take] at this
      omega
     refine⟨_,rfl,rfl,_,rfl,u6 (fun hh=>?_) (fun hh=>?_)⟩
     . have e:b=10:=by
        have:(b:Int)=10:=by simpa using hh
        omega
       subst e
       refine⟨_,rfl,.inl ⟨rfl,_,SqL.of hr⟩,Nat.zero_le _,fun z hz=>⟨p,_,_,rfl,rfl,(by rw[zh (zg hr hz)];exact hr),(by rw[List.length_map];exact qU (by omega)),?_⟩⟩
       have zp:z≠p:=Ne.symm (zg hr hz)
       have hz0:H z=none:=s1.free hz
       refine⟨⟨_,rfl⟩,fun b o e=>?_,as++[z],?_,?_,?_,?_⟩
       . rw[zh (zg e hp0),zh (zg e hz0)]
         exact s1 b o e
       . rw[RL,zf,List.map_append]
         rfl
       . rw[zP hb,wN,List.map_append]
         refine ja (J6 hpa fun y hy o e=>?_) ?_
         . rw[zh (fun (q:y=p)=>hpn (q▸hy)),zh (zg e hz)]
           exact e
         . rw[IL,zh zp]
           exact zf
       . have hza:¬z∈as:=fun m=>by
          obtain⟨b',_,r⟩:=Wx hpa m
          rw[IL,hz] at r
          cases r
         refine List.nodup_cons.mpr ⟨?_,?_⟩
         . simp[hpn,Ne.symm zp]
         . exact Yi hnda hza
       . intro x hx
         rcases List.mem_append.mp hx with h | h
         . exact hfr x h
         . rw[List.mem_singleton.mp h]
           exact hz0
     . have e:b≠10:=fun z=>hh (by rw[z];rfl)
       obtain⟨ls,l,el⟩:=KU (t.take i)
       rw[el,List.map_append] at hpa
       obtain⟨as0,z,rfl,hp1,hp2⟩:=ww hpa
       have hzin:z∈as0++[z]:=by simp
       have zp:z≠p:=fun e=>hpn (e▸hzin)
       have hll:l.length<=i:=by
        have h1:=Uq (t:=t.take i) (l:=l) (by rw[el];simp)
        rw[List.length_take] at h1
        omega
       have hz0':¬z∈as0:=by
        have:=List.nodup_append.mp hnda
        intro m
        exact this.2.2 z m z (by simp) rfl
       refine⟨_,rfl,_,rfl,p,_,_,V.ref z,rfl,rfl,SqL.of hr,(by rw[List.map_append];exact aaO _ _),.inl ⟨rfl,_,SqL.of hp2⟩,_,rfl,z,_,_,rfl,rfl,hp2,(by rw[List.length_map,nats,List.length_map];exact qU (by omega)),?_⟩
       refine⟨⟨_,rfl⟩,fun b o e=>?_,as0++[z],?_,?_,hnd,hfr⟩
       . rw[zh (zg e (hfr z hzin))]
         exact s1 b o e
       . rw[RL,zh (Ne.symm zp)]
         exact hr
       . rw[zP hb,yh e el,List.map_append]
         refine ja (J6 hp1 fun y hy o e=>?_) ?_
         . rw[zh (fun (q:y=z)=>hz0' (q▸hy))]
           exact e
         . rw[IL,zf]
           unfold nats
           rw[List.map_append,List.map_append]
           rfl
   . rintro σ H' ⟨⟨v,rfl⟩,s1,as,hr,hpa,hnd,hfr⟩
     refine⟨_,rfl,?_⟩
     rw[show (List.map V.int (nats t)).length=t.length by simp[nats],List.take_length] at hpa
     exact k H' p as s1 hp0 hr hpa
theorem WA (F:Fun K "text_of" "text_of" uz f fd) (T:Txt K mg C):z_ P w K mg base CX0 1 f fd ["lines"] (Kp):=by
 refine F.ok sc_text_of (fun vs H Q E h=>?_) (fun cdv A outer s H vs Q E hr h=>?_)
 . obtain⟨a,as,ls,rfl,_⟩:=h
   rfl
 . obtain⟨a,as,ls,rfl,ha,hpa,hne,hun,hln,k⟩:=h
   obtain⟨l,m,rfl⟩:∃ l m,ls=l::m:=by
    cases ls with
    | nil=>exact absurd rfl hne
    | cons l m=>exact⟨l,m,rfl⟩
   rw[ZA] at hun k
   rw[List.map_cons] at hpa
   cases hpa with
   | @cons b _ bs _ hb hbs =>
    refine⟨_,(ze (zu (i:=1) sc_text_of.nd rfl (Or.inl rfl) (Vz ZO (by rfl) T.b_list U9 (za (qy qj (pv 0) zH (fun _ _=>rfl)) zi)))
    (ze (kQ PassesOwn.never rfl (qi (vQ yY (pv 0) (jY zH) Yb)) (zS (i:=2) sc_text_of.nd rfl (Or.inl rfl)) (ze (qA (jL PySem.F.plainAttrs_list PySem.F.slot_list_append PySem.F.type_list_append ji (pv 1) (za (pgi T.g_LINE_END) zi)))
    (zj (qA (jL PySem.F.plainAttrs_list PySem.F.slot_list_extend PySem.F.type_list_extend jE (pv 1) (za (pv 2) zi))))))
    (zj (zo (pv 1))))),?_⟩
    have hbl:=zx hbs
    refine⟨_,rfl,a,_,_,_,rfl,rfl,SqL.of ha,q5 (j:=0) rfl,b,_,rfl,.inl (SqL.of hb),fun p hp=>?_⟩
    have s0:Same H (upd H p (.lst ((nats l).map V.int))):=Same.new hp
    refine⟨_,rfl,_,rfl,a,_,rfl,SqL.of (s0 _ _ ha),fun q hq=>?_⟩
    have s1:=s0.trans (Same.new (o:=.lst (uF ((b::bs).map V.ref) (some ((1:Nat):Int)) none)) hq)
    have ecut:uF ((b::bs).map V.ref) (some ((1:Nat):Int)) none=bs.map V.ref:=by
     rw[XA (by simp)]
     rfl
    have hqn:q≠p:=fun e=>by rw[e,zf] at hq;cases hq
    have hq0:H q=none:=by rw[zh hqn] at hq;exact hq
    refine⟨q,rfl,⟨_,SqL.of zf⟩,jD (K:=K) (a:=q) (xs:=bs.map V.ref)
     (fun i σ H'=>(∃ v,σ=[some (.ref a),some (.ref p),v])/\Same H H'/\H' q=some (.lst (bs.map V.ref))/\IL H' p (nats (l++(m.take i).flatMap fun x=>10::x)))
     ⟨⟨none,rfl⟩,s1,(by rw[<-ecut];exact zf),(by rw[IL,zh (Ne.symm hqn),zf];simp)⟩ (fun i σ H' _ h=>SqL.of h.2.2.1) ?_ ?_⟩
    . rintro i x σ H' hi ⟨⟨v,rfl⟩,s2,hq2,hp2⟩
      obtain⟨c,hc,rfl⟩:=qL hi
      obtain⟨tt,ht1,ht2⟩:=zN hbs hc
      rw[List.getElem?_map] at ht1
      obtain⟨y,hy,rfl⟩:∃ y,m[i]?=some y/\nats y=tt:=by
       cases e:m[i]? with
       | none=>rw[e] at ht1;cases ht1
       | some y=>rw[e] at ht1;exact⟨y,rfl,Option.some.inj ht1⟩
      have hcp:c≠p:=zg ht2 hp
      have htot:(l++(m.take i).flatMap fun x=>10::x).length+y.length+1<=16000:=by
       have e1:m=m.take i++y::m.drop (i+1):=by
        have:=List.take_append_drop i m
        rw[List.drop_eq_getElem_cons (List.getElem?_eq_some_iff.mp hy).1,(List.getElem?_eq_some_iff.mp hy).2] at this
        exact this.symm
       rw[e1] at hun
       simp only[List.flatMap_append,List.flatMap_cons,List.length_append,List.length_cons] at hun ⊢
       omega
      have hnl:((nats (l++(m.take i).flatMap fun x=>10::x)).map V.int).length=(l++(m.take i).flatMap fun x=>10::x).length:=by simp[nats]
      refine⟨_,rfl,.inl ⟨rfl,_,SqL.of hp2⟩,p,_,_,rfl,rfl,hp2,(by rw[hnl];exact qU (by omega)),?_⟩
      refine⟨_,rfl,.inl ⟨rfl,_,SqL.of zf⟩,_,rfl,p,c,_,_,rfl,rfl,zf,(by rw[zh hcp];exact s2 _ _ ht2),(by
       rw[List.length_append,hnl,show ((nats y).map V.int).length=y.length by simp[nats]]
       exact qN (by simp only[List.length_singleton];omega)),?_⟩
      refine⟨⟨_,rfl⟩,fun b o e=>?_,?_,?_⟩
      . rw[kj,zh (zg e hp)]
        exact s2 b o e
      . rw[kj,zh hqn]
        exact hq2
      . rw[IL,zf,zP hy]
        simp[nats,ofNat]
    . rintro σ H' ⟨⟨v,rfl⟩,s2,hq2,hp2⟩
      refine⟨_,rfl,?_⟩
      have e1:m.take (bs.map V.ref).length=m:=List.take_of_length_le (by rw[List.length_map,hbl,List.length_map];exact Nat.le_refl _)
      rw[e1] at hp2
      exact k H' p s2 hp hp2
theorem uH (F:Fun K "common_beginning" "common_beginning" jt f fd) (T:Txt K mg C):z_ P w K mg base CX0 1 f fd ["lines","others","most"] (yd):=by
 refine F.ok sc_common_beginning (fun vs H Q E h=>?_) (fun cdv A outer s H vs Q E hr h=>?_)
 . obtain⟨a,b,as,bs,xs,ys,m,rfl,_⟩:=h
   rfl
 . obtain⟨a,b,as,bs,xs,ys,m,rfl,ha,hb,hpa,hpb,hm1,hm2,k⟩:=h
   refine⟨_,(ze (zu (i:=3) sc_common_beginning.nd rfl (Or.inl rfl) zH)
    (ze (K6 PassesOwn.never (Y6 (zz K8 (pv 3) (pv 2) (zF _)) (JM (zz (wV hr.units) (qy qj (pv 0) (pv 3) (fun _ _=>rfl)) (qy qj (pv 1) (pv 3) (fun _ _=>rfl)) (zF _)))).pt (zj (aaH (i:=3) sc_common_beginning.nd rfl (Or.inl rfl) zH aaI)))
    (zj (zo (pv 3))))),?_⟩
   have hla:=zx hpa
   have hlb:=zx hpb
   rw[List.length_map] at hla hlb
   refine⟨fun μ σ H'=>H'=H/\∃ i:Nat,μ=m - i/\i<=m/\σ=[some (.ref a),some (.ref b),some (.int (m:Nat)),some (.int (i:Nat))]/\∀ j,j<i->xs[j]?=ys[j]?,⟨m,rfl,0,by omega,Nat.zero_le _,rfl,fun j h=>absurd h (Nat.not_lt_zero _)⟩,?_⟩
   rintro μ σ H' ⟨rfl,i,rfl,hi,rfl,hj⟩
   refine⟨_,rfl,_,rfl,_,_,rfl,rfl,_,rfl,?_⟩
   by_cases hlt:i<m
   . rw[decide_eq_true (show (i:Int)<(m:Int) by omega)]
     refine zM ?_
     obtain⟨c,hc⟩:∃ c,as[i]?=some c:=⟨_,List.getElem?_eq_getElem (by omega)⟩
     obtain⟨d,hd⟩:∃ d,bs[i]?=some d:=⟨_,List.getElem?_eq_getElem (by omega)⟩
     obtain⟨x,hx⟩:∃ x,xs[i]?=some x:=⟨_,List.getElem?_eq_getElem (by omega)⟩
     obtain⟨y,hy⟩:∃ y,ys[i]?=some y:=⟨_,List.getElem?_eq_getElem (by omega)⟩
     obtain⟨t1,h1,h2⟩:=zN hpa hc
     obtain⟨t2,h3,h4⟩:=zN hpb hd
     rw[List.getElem?_map,hx] at h1
     rw[List.getElem?_map,hy] at h3
     cases h1
     cases h3
     refine⟨_,rfl,_,rfl,a,_,_,_,rfl,rfl,SqL.of ha,q5 (by rw[List.getElem?_map,hc];rfl),_,rfl,_,rfl,b,_,_,_,rfl,rfl,SqL.of hb,q5 (by rw[List.getElem?_map,hd];rfl),kO (nats x),kO (nats y),vU h2,vU h4,qh _,qh _,_,rfl,?_⟩
     rw[vP]
     by_cases exy:x=y
     . rw[decide_eq_true (by rw[exy])]
       refine zM ⟨_,fun σ' H' h=>h,_,rfl,_,_,rfl,rfl,?_⟩
       refine⟨m - (i+1),by omega,rfl,i+1,rfl,hlt,rfl,fun j hj'=>?_⟩
       rcases Nat.lt_succ_iff_lt_or_eq.mp hj' with z | z
       . exact hj j z
       . subst z
         rw[hx,hy,exy]
     . rw[decide_eq_false (fun z=>exy (kP z))]
       refine zE ⟨_,rfl,?_⟩
       rw[<-uR hm1 hm2 (Nat.le_of_lt hlt) hj (.inr (by rw[hx,hy];intro z;exact exy (Option.some.inj z)))]
       exact k
   . rw[decide_eq_false (show ¬(i:Int)<(m:Int) by omega)]
     refine zE (zE ⟨_,rfl,?_⟩)
     have e:i=m:=by omega
     rw[<-uR hm1 hm2 hi hj (.inl e)]
     exact k
end
end Tb
end
section
namespace Tb
open PySem PySem.Spec PyProof.Rows L2
open Vanbki (nats ofNat markNat numbers linesOf unlines inCommon changeOf)
def ChangeAt (C:Ad) (H:Hp) (p:Addr) (c:Vanbki.Change):Prop:=∃ dx l as,H p=some (.ins C.cChange dx (wg c.p c.q l))/\RL H l as/\Paired (IL H) as (c.new.map nats)
theorem ChangeAt.mono {C:Ad}{H H':Hp}{p:Addr}{c:Vanbki.Change} (s:Same H H') (h:ChangeAt C H p c):ChangeAt C H' p c:=by
 obtain⟨dx,l,as,h1,h2,h3⟩:=h
 exact⟨dx,l,as,s _ _ h1,s _ _ h2,jS s h3⟩
theorem ua {α β:Type}{R:α->β->Prop}{as:List α}{bs:List β} (h:Paired R as bs):Paired R as.reverse bs.reverse:=by
 induction h with
 | nil=>exact .nil
 | cons r t ih =>
  rw[List.reverse_cons,List.reverse_cons]
  exact ja ih r
theorem WB {C:Ad}{H0 H1:Hp}{Q:VK}{vs:List V}{n m:Int}{q:Addr} (ev:vs=[.int n,.int m,.ref q]) (eH:H0=H1) (h:∀ x dx H2,H1 x=none->Same H1 H2->H2 x=some (.ins C.cChange dx (wg n m q))->Q (.ref x) H2) :
 ∀ x dx,H0 x=none->H0 dx=none->dx≠x->vd C (.ref x::(vs++[])) (upd (upd H0 dx (.own x)) x (.ins C.cChange dx [])) (fun v H2=>v=.non/\Q (.ref x) H2) E0:=by
 subst ev eH
 exact UW h
def wj (C:Ad):Sp:=fun vs H Q _=>∃ a b t u,vs=[.ref a,.ref b]/\IL H a (nats t)/\IL H b (nats u)/\t.length<=15000/\u.length<=15000/\∀ H' p,Same H H'->ChangeAt C H' p (changeOf (linesOf t) (linesOf u))->Q (.ref p) H'
def xq (C:Ad):Sp:=fun vs H Q _=>∃ a p q t f g,vs=[.ref a,.ref p,.ref q]/\IL H a (nats t)/\ChangeAt C H p f/\ChangeAt C H q g/\t.length<=1000/\f.p<=f.q/\f.q<g.p/\g.p<=g.q/\g.q<=(linesOf t).length/\size f.new<=1001/\size g.new<=1001 /\
 ∀ H' r,Same H H'->Ub H' r (Vanbki.ifShort (unlines (Vanbki.both (linesOf t) f g)))->(∀ x,r=.ref x->H x=none)->Q r H'
def yT (C:Ad):Sp:=fun vs H Q _=>∃ a b c t l r,vs=[.ref a,.ref b,.ref c]/\IL H a (nats t)/\IL H b (nats l)/\IL H c (nats r)/\t.length<=1000/\l.length<=1000/\r.length<=1000/\∀ H' x,Same H H'->Ub H' x (Vanbki.mergedText t l r)->(∀ y,x=.ref y->y=b∨y=c∨H y=none)->Q x H'
theorem Z_ (ls:List Vanbki.Text):ls.length<=size ls:=by
 induction ls with
 | nil=>simp
 | cons l m ih=>simp[size] at ih ⊢;omega
section
variable {P:Program}{w:World}{K:PySem.W.Frag}{mg:Str->Option Value}{base:Heap}{C:Ad}{f:Addr}{fd:FuncData}
theorem Yu {f1:Addr}{fd1:FuncData}{f2:Addr}{fd2:FuncData}{f3:Addr}{fd3:FuncData} (F:Fun K "change_of" "change_of" xb f fd) (T:Txt K mg C) (D_lines_of:Def P w K mg base "lines_of" 1 ["text"] (u9) f1 fd1) (D_common_beginning:Def P w K mg base "common_beginning" 1 ["lines","others","most"] (yd) f2 fd2) (D_Change:Cdf P w K mg base "Change" 1 ["self","begin","end","new_lines"] (vd C) C.cChange f3 fd3):z_ P w K mg base CX0 3 f fd ["base_text","side_text"] (wj C):=by
 refine F.ok sc_change_of (fun vs H Q E h=>?_) (fun cdv A outer s H vs Q E hr h=>?_)
 . obtain⟨a,b,t,u,rfl,_⟩:=h
   rfl
 . obtain⟨a,b,t,u,rfl,ha,hb,ht,hu',k⟩:=h
   refine⟨_,(ze (zu (i:=2) sc_change_of.nd rfl (Or.inl rfl) (zk D_lines_of (hr.mono (by decide)) (za (pv 0) zi)))
    (ze (zu (i:=3) sc_change_of.nd rfl (Or.inl rfl) (zk D_lines_of (hr.mono (by decide)) (za (pv 1) zi)))
    (ze (zu (i:=4) sc_change_of.nd rfl (Or.inl rfl) (zW (UB rfl) (by rfl) T.b_min acL (za (zW qY (by rfl) T.b_len qX (za (pv 2) zi)) (za (zW qY (by rfl) T.b_len qX (za (pv 3) zi)) zi))))
    (ze (zu (i:=5) sc_change_of.nd rfl (Or.inl rfl) (zk D_common_beginning (hr.mono (by decide)) (za (pv 2) (za (pv 3) (za (pv 4) zi)))))
    (ze (zu (i:=6) sc_change_of.nd rfl (Or.inl rfl) (zk D_common_beginning (hr.mono (by decide)) (za (Kj T.b_list T.b_reversed (pv 2)) (za (Kj T.b_list T.b_reversed (pv 3)) (za (jK Wh (pv 4) (pv 5)) zi)))))
    (zj (zo (qw D_Change (hr.mono (by decide)) (za (pv 5) (za (jK Wh (zW qY (by rfl) T.b_len qX (za (pv 2) zi)) (pv 6)) (za (vQ yY (pv 3) (jY (pv 5)) (jY (jK Wh (zW qY (by rfl) T.b_len qX (za (pv 3) zi)) (pv 6)))) zi))))))))))),?_⟩
   refine⟨_,rfl,a,t,rfl,ha,(by omega),fun H1 p1 as1 s1 n1 r1 q1=>?_⟩
   refine⟨_,rfl,b,u,rfl,s1 _ _ hb,(by omega),fun H2 p2 as2 s2 n2 r2 q2=>?_⟩
   have q1':=jS s2 q1
   have r1':=s2 _ _ r1
   have l1:=zx q1'
   have l2:=zx q2
   rw[List.length_map] at l1 l2
   have hc1:=vM (linesOf t) (linesOf u)
   have hk:=Up (linesOf t) (linesOf u)
   refine⟨_,rfl,p1,_,rfl,.inl (SqL.of r1'),_,rfl,p2,_,rfl,.inl (SqL.of r2),_,_,rfl,?_⟩
   have em:(if (((as2.map V.ref).length:Nat):Int)<(((as1.map V.ref).length:Nat):Int) then (((as2.map V.ref).length:Nat):Int) else (((as1.map V.ref).length:Nat):Int))=((min (linesOf t).length (linesOf u).length:Nat):Int):=by
    rw[List.length_map,List.length_map,l1,l2]
    split <;> omega
   rw[em]
   refine⟨_,rfl,_,rfl,_,rfl,p1,p2,as1,as2,linesOf t,linesOf u,_,rfl,r1',r2,q1',q2,Nat.min_le_left _ _,Nat.min_le_right _ _,?_⟩
   rw[Y2]
   refine⟨_,rfl,p1,_,rfl,SqL.of r1',fun p3 n3=>⟨_,rfl,p2,_,rfl,SqL.of (Same.new n3 _ _ r2),fun p4 n4=>⟨_,rfl,_,rfl,_,_,rfl,rfl,?_⟩⟩⟩
   have s4:Same H2 _:=(Same.new (o:=.lst (as1.map V.ref).reverse) n3).trans (Same.new (o:=.lst (as2.map V.ref).reverse) n4)
   have p43:p3≠p4:=fun e=>by rw[<-e,zf] at n4;cases n4
   have es:((min (linesOf t).length (linesOf u).length:Nat):Int) - ((inCommon (linesOf t) (linesOf u):Nat):Int)=((min (linesOf t).length (linesOf u).length - inCommon (linesOf t) (linesOf u):Nat):Int):=by omega
   refine⟨p3,p4,as1.reverse,as2.reverse,(linesOf t).reverse,(linesOf u).reverse,_,congrArg (fun z=>[V.ref p3,V.ref p4,V.int z]) es,?_,?_,?_,?_,?_,?_,?_⟩
   . rw[RL,zh p43,zf,List.map_reverse]
   . rw[RL,zf,List.map_reverse]
   . rw[List.map_reverse]
     exact ua (jS s4 q1')
   . rw[List.map_reverse]
     exact ua (jS s4 q2)
   . rw[List.length_reverse]
     omega
   . rw[List.length_reverse]
     omega
   . show _
     have r1'':=s4 _ _ r1'
     have r2'':=s4 _ _ r2
     refine⟨_,rfl,_,rfl,p1,_,rfl,.inl (SqL.of r1''),_,rfl,_,_,rfl,rfl,_,rfl,_,rfl,_,rfl,_,rfl,p2,_,rfl,.inl (SqL.of r2''),_,rfl,_,_,rfl,rfl,_,rfl,p2,_,rfl,SqL.of r2'',fun p5 n5=>?_⟩
     have e1:(((as1.map V.ref).length:Nat):Int) - ((min (inCommon (linesOf t).reverse (linesOf u).reverse) (min (linesOf t).length (linesOf u).length - inCommon (linesOf t) (linesOf u)):Nat):Int)=(((changeOf (linesOf t) (linesOf u)).q:Nat):Int):=by
      rw[W7,List.length_map,l1]
      unfold yJ at hk ⊢
      omega
     have e2:(((as2.map V.ref).length:Nat):Int) - ((min (inCommon (linesOf t).reverse (linesOf u).reverse) (min (linesOf t).length (linesOf u).length - inCommon (linesOf t) (linesOf u)):Nat):Int)=(((linesOf u).length - yJ (linesOf t) (linesOf u):Nat):Int):=by
      rw[List.length_map,l2]
      unfold yJ at hk ⊢
      omega
     refine WB (n:=((inCommon (linesOf t) (linesOf u):Nat):Int)) (m:=(((changeOf (linesOf t) (linesOf u)).q:Nat):Int)) (q:=p5) (congrArg (fun z=>[V.int ((inCommon (linesOf t) (linesOf u):Nat):Int),V.int z,V.ref p5]) e1)
      (congrArg (fun z=>upd _ p5 (.lst z)) (show uF (as2.map V.ref) (some ((inCommon (linesOf t) (linesOf u):Nat):Int)) (some _)=((as2.map V.ref).drop (inCommon (linesOf t) (linesOf u))).take ((linesOf u).length - yJ (linesOf t) (linesOf u) - inCommon (linesOf t) (linesOf u)) from (by rw[e2];exact ZZ (by rw[List.length_map];omega) (by rw[List.length_map];omega)))) fun x dx H6 hx s6 e6=>?_
     have s56:=(Same.new (o:=.lst (((as2.map V.ref).drop (inCommon (linesOf t) (linesOf u))).take ((linesOf u).length - yJ (linesOf t) (linesOf u) - inCommon (linesOf t) (linesOf u)))) n5).trans s6
     refine k H6 x ((s1.trans (s2.trans s4)).trans s56) ⟨dx,p5,(as2.drop (inCommon (linesOf t) (linesOf u))).take ((linesOf u).length - yJ (linesOf t) (linesOf u) - inCommon (linesOf t) (linesOf u)),e6,s6 _ _ ?_,?_⟩
     . rw[zf,List.map_take,List.map_drop]
     . rw[Y3,List.map_take,List.map_drop]
       exact jo _ (jp _ (jS (s4.trans s56) q2))
theorem Q0 {f1:Addr}{fd1:FuncData}{f2:Addr}{fd2:FuncData} (F:Fun K "text_with_both" "text_with_both" jZ f fd) (T:Txt K mg C) (D_lines_of:Def P w K mg base "lines_of" 1 ["text"] (u9) f1 fd1) (D_text_of:Def P w K mg base "text_of" 1 ["lines"] (Kp) f2 fd2):z_ P w K mg base CX0 2 f fd ["base_text","first","second"] (xq C):=by
 refine F.ok sc_text_with_both (fun vs H Q E h=>?_) (fun cdv A outer s H vs Q E hr h=>?_)
 . obtain⟨a,p,q,t,f,g,rfl,_⟩:=h
   rfl
 . obtain⟨a,p,q,t,f,g,rfl,ha,⟨dx1,l1,as1,e1,r1,b1⟩,⟨dx2,l2,as2,e2,r2,b2⟩,ht,h1,h2,h3,h4,z1,z2,k⟩:=h
   refine⟨_,(ze (zu (i:=3) sc_text_with_both.nd rfl (Or.inl rfl) (zk D_lines_of (hr.mono (by decide)) (za (pv 0) zi)))
    (ze (zu (i:=4) sc_text_with_both.nd rfl (Or.inl rfl) (jK yO (vQ yY (pv 3) Yb (jY (zn (pv 1) rfl))) (zn (pv 1) rfl)))
    (ze (zu (i:=4) sc_text_with_both.nd rfl (Or.inl rfl) (jK yO (jK yO (pv 4) (vQ yY (pv 3) (jY (zn (pv 1) rfl)) (jY (zn (pv 2) rfl)))) (zn (pv 2) rfl)))
    (ze (zu (i:=5) sc_text_with_both.nd rfl (Or.inl rfl) (zk D_text_of (hr.mono (by decide)) (za (jK yO (pv 4) (vQ yY (pv 3) (jY (zn (pv 2) rfl)) Yb)) zi)))
    (zj (zo (jQ (zz Xh (zW qY (by rfl) T.b_len qX (za (pv 5) zi)) (pgi T.g_MOST_BYTES) (zF _)) (pv 5) wS))))))),?_⟩
   refine⟨_,rfl,a,t,rfl,ha,(by omega),fun H1 pb as s1 n1 r b=>?_⟩
   have lb:=zx b
   rw[List.length_map] at lb
   have zb:=yi t
   have la1:=zx b1
   have la2:=zx b2
   rw[List.length_map] at la1 la2
   have sl1:=Z_ f.new
   have sl2:=Z_ g.new
   have slb:=ZD t
   refine⟨_,rfl,_,rfl,p,C.cChange,dx1,_,_,rfl,s1 _ _ e1,T.c_Change,T.n_Change_begin,kg _ _ _,_,rfl,pb,_,rfl,SqL.of r,fun p2 n2=>?_⟩
   rw[acM (by rw[List.length_map];omega)]
   have s2:=Same.new (o:=.lst ((as.map V.ref).take f.p)) n2
   refine⟨_,rfl,p,C.cChange,dx1,_,_,rfl,s2 _ _ (s1 _ _ e1),T.c_Change,T.n_Change_new_lines,xo _ _ _,p2,l1,_,_,rfl,rfl,zf,s2 _ _ (s1 _ _ r1),(by simp only[List.length_take,List.length_map];exact qN (by omega)),fun p3 n3=>?_⟩
   have s3:=s2.trans (Same.new (o:=.lst ((as.map V.ref).take f.p++as1.map V.ref)) n3)
   refine⟨_,rfl,_,rfl,_,rfl,p,C.cChange,dx1,_,_,rfl,s3 _ _ (s1 _ _ e1),T.c_Change,T.n_Change_end,vT _ _ _,_,rfl,_,rfl,q,C.cChange,dx2,_,_,rfl,s3 _ _ (s1 _ _ e2),T.c_Change,T.n_Change_begin,kg _ _ _,_,rfl,pb,_,rfl,SqL.of (s3 _ _ r),fun p4 n4=>?_⟩
   rw[ZZ (by rw[List.length_map];omega) (by rw[List.length_map];omega)]
   have s4':=Same.new (o:=.lst (((as.map V.ref).drop f.q).take (g.p - f.q))) n4
   refine⟨p3,p4,_,_,rfl,rfl,s4' _ _ zf,zf,(by simp only[List.length_append,List.length_take,List.length_drop,List.length_map];exact qN (by omega)),fun p5 n5=>?_⟩
   have s4:=s3.trans s4'
   have s5:=s4.trans (Same.new (o:=.lst (((as.map V.ref).take f.p++as1.map V.ref)++((as.map V.ref).drop f.q).take (g.p - f.q))) n5)
   refine⟨_,rfl,q,C.cChange,dx2,_,_,rfl,s5 _ _ (s1 _ _ e2),T.c_Change,T.n_Change_new_lines,xo _ _ _,p5,l2,_,_,rfl,rfl,zf,s5 _ _ (s1 _ _ r2),(by simp only[List.length_append,List.length_take,List.length_drop,List.length_map];exact qN (by omega)),fun p6 n6=>?_⟩
   have s6:=s5.trans (Same.new (o:=.lst ((((as.map V.ref).take f.p++as1.map V.ref)++((as.map V.ref).drop f.q).take (g.p - f.q))++as2.map V.ref)) n6)
   refine⟨_,rfl,_,rfl,_,rfl,q,C.cChange,dx2,_,_,rfl,s6 _ _ (s1 _ _ e2),T.c_Change,T.n_Change_end,vT _ _ _,_,rfl,pb,_,rfl,SqL.of (s6 _ _ r),fun p7 n7=>?_⟩
   rw[XA (by rw[List.length_map];omega)]
   have s7':=Same.new (o:=.lst ((as.map V.ref).drop g.q)) n7
   refine⟨p6,p7,_,_,rfl,rfl,s7' _ _ zf,zf,(by simp only[List.length_append,List.length_take,List.length_drop,List.length_map];exact qN (by omega)),fun p8 n8=>?_⟩
   have s8:=(s6.trans s7').trans (Same.new (o:=.lst (((((as.map V.ref).take f.p++as1.map V.ref)++((as.map V.ref).drop f.q).take (g.p - f.q))++as2.map V.ref)++(as.map V.ref).drop g.q)) n8)
   have eas:((((as.map V.ref).take f.p++as1.map V.ref)++((as.map V.ref).drop f.q).take (g.p - f.q))++as2.map V.ref)++(as.map V.ref).drop g.q=((((as.take f.p++as1)++(as.drop f.q).take (g.p - f.q))++as2)++as.drop g.q).map V.ref:=by
    simp only[List.map_append,List.map_take,List.map_drop]
   have hb:=jS s8 b
   have hb1:=jS (s1.trans s8) b1
   have hb2:=jS (s1.trans s8) b2
   have hbl:=aas (linesOf t) f g
   have hbs:=Vq (linesOf t) f g
   have hll:=Z_ (Vanbki.both (linesOf t) f g)
   refine⟨p8,_,Vanbki.both (linesOf t) f g,rfl,(by rw[eas];exact zf),?_,?_,(by omega),(by omega),fun H9 p9 s9 n9 e9=>?_⟩
   . unfold Vanbki.both
     simp only[List.map_append,List.map_take,List.map_drop]
     exact zQ (zQ (zQ (zQ (jo _ hb) hb1) (jo _ (jp _ hb))) hb2) (jp _ hb)
   . intro z
     have:=congrArg List.length z
     unfold Vanbki.both at this
     simp only[List.length_append,List.length_take,List.length_drop,List.length_nil] at this
     omega
   . have sall:=s1.trans (s8.trans s9)
     refine⟨_,rfl,p9,_,rfl,.inl (SqL.of e9),_,_,rfl,rfl,_,rfl,?_⟩
     have el:((nats (unlines (Vanbki.both (linesOf t) f g))).map V.int).length=(unlines (Vanbki.both (linesOf t) f g)).length:=by simp[nats]
     rw[el]
     by_cases hs:(unlines (Vanbki.both (linesOf t) f g)).length<=200
     . rw[decide_eq_true (by omega)]
       refine zM ⟨_,rfl,k H9 _ sall ?_ (fun x hx=>by cases hx;exact (s1.trans s8).free n9)⟩
       unfold Vanbki.ifShort Vanbki.LONG
       rw[if_pos hs]
       exact⟨p9,rfl,e9⟩
     . rw[decide_eq_false (by omega)]
       refine zE (k H9 _ sall ?_ (fun x hx=>nomatch hx))
       unfold Vanbki.ifShort Vanbki.LONG
       rw[if_neg hs]
       rfl
theorem Kq {f1:Addr}{fd1:FuncData}{f2:Addr}{fd2:FuncData}{f3:Addr}{fd3:FuncData} (F:Fun K "merged_text" "merged_text" vD f fd) (T:Txt K mg C) (D_agreed:Def P w K mg base "agreed" 1 ["base","left","right"] (QL) f1 fd1) (D_change_of:Def P w K mg base "change_of" 3 ["base_text","side_text"] (wj C) f2 fd2) (D_text_with_both:Def P w K mg base "text_with_both" 2 ["base_text","first","second"] (xq C) f3 fd3):z_ P w K mg base CX0 4 f fd ["base_text","left_text","right_text"] (yT C):=by
 refine F.ok sc_merged_text (fun vs H Q E h=>?_) (fun cdv A outer s H vs Q E hr h=>?_)
 . obtain⟨a,b,c,t,l,r,rfl,_⟩:=h
   rfl
 . obtain⟨a,b,c,t,l,r,rfl,ha,hb,hc,ht,hl,hr',k⟩:=h
   refine⟨_,(ze (zu (i:=3) sc_merged_text.nd rfl (Or.inl rfl) (zk D_agreed (hr.mono (by decide)) (za (pv 0) (za (pv 1) (za (pv 2) zi)))))
    (ze (zI (qJ (WT (pv 3))) (zj (zo (pv 3))) zw)
    (ze (zu (i:=4) sc_merged_text.nd rfl (Or.inl rfl) (zk D_change_of (hr.mono (by decide)) (za (pv 0) (za (pv 1) zi))))
    (ze (zu (i:=5) sc_merged_text.nd rfl (Or.inl rfl) (zk D_change_of (hr.mono (by decide)) (za (pv 0) (za (pv 2) zi))))
    (ze (zI (zz K8 (zn (pv 4) rfl) (zn (pv 5) rfl) (zF _)) (zj (zo (zk D_text_with_both (hr.mono (by decide)) (za (pv 0) (za (pv 4) (za (pv 5) zi)))))) zw)
    (ze (zI (zz K8 (zn (pv 5) rfl) (zn (pv 4) rfl) (zF _)) (zj (zo (zk D_text_with_both (hr.mono (by decide)) (za (pv 0) (za (pv 5) (za (pv 4) zi)))))) zw)
    (zj (zo wS)))))))),?_⟩
   refine⟨_,rfl,_,rfl,_,rfl,a,b,c,_,_,_,rfl,ha,hb,hc,?_⟩
   have k0:=k H
   unfold Vanbki.mergedText at k k0
   by_cases g1:l=t
   . rw[if_pos (by rw[g1])]
     refine⟨_,rfl,_,rfl,zM ⟨_,rfl,k0 _ (Same.refl _) ?_ (fun y hy=>by cases hy;exact .inr (.inl rfl))⟩⟩
     rw[if_pos g1]
     exact⟨c,rfl,hc⟩
   rw[if_neg (fun z=>g1 (kP z))]
   by_cases g2:r=t
   . rw[if_pos (by rw[g2])]
     refine⟨_,rfl,_,rfl,zM ⟨_,rfl,k0 _ (Same.refl _) ?_ (fun y hy=>by cases hy;exact .inl rfl)⟩⟩
     rw[if_neg g1,if_pos g2]
     exact⟨b,rfl,hb⟩
   rw[if_neg (fun z=>g2 (kP z))]
   by_cases g3:l=r
   . rw[if_pos (by rw[g3])]
     refine⟨_,rfl,_,rfl,zM ⟨_,rfl,k0 _ (Same.refl _) ?_ (fun y hy=>by cases hy;exact .inl rfl)⟩⟩
     rw[if_neg g1,if_neg g2,if_pos g3]
     exact⟨b,rfl,hb⟩
   rw[if_neg (fun z=>g3 (kP z))]
   simp only[if_neg g1,if_neg g2,if_neg g3] at k
   refine⟨_,rfl,_,rfl,zE ?_⟩
   refine⟨_,rfl,_,rfl,a,b,t,l,rfl,ha,hb,(by omega),(by omega),fun H1 p1 s1 c1=>?_⟩
   refine⟨_,rfl,_,rfl,a,c,t,r,rfl,s1 _ _ ha,s1 _ _ hc,(by omega),(by omega),fun H2 p2 s2 c2=>?_⟩
   have c1':=c1.mono s2
   have f1:=ut (linesOf t) (linesOf l)
   have f2:=ut (linesOf t) (linesOf r)
   have z1:=wP (linesOf t) (linesOf l)
   have z2:=wP (linesOf t) (linesOf r)
   rw[yi] at z1 z2
   have s12:=s1.trans s2
   have ha2:=s12 _ _ ha
   obtain⟨dx1,l1,as1,e1,r1,b1⟩:=id c1'
   obtain⟨dx2,l2,as2,e2,r2,b2⟩:=id c2
   refine⟨_,rfl,p1,C.cChange,dx1,_,_,rfl,e1,T.c_Change,T.n_Change_end,vT _ _ _,_,rfl,p2,C.cChange,dx2,_,_,rfl,e2,T.c_Change,T.n_Change_begin,kg _ _ _,_,_,rfl,rfl,_,rfl,u6 (fun hh=>?_) (fun hh=>?_)⟩
   . have e:(changeOf (linesOf t) (linesOf l)).q<(changeOf (linesOf t) (linesOf r)).p:=by
      have:=of_decide_eq_true hh
      omega
     refine⟨_,rfl,_,rfl,_,rfl,a,p1,p2,t,_,_,rfl,ha2,c1',c2,ht,f1.1,e,f2.1,f2.2,(by omega),(by omega),fun H3 x s3 o3 n3=>k H3 x (s12.trans s3) ?_ (fun y hy=>.inr (.inr (s12.free (n3 y hy))))⟩
     rw[if_pos e]
     exact o3
   . have e:¬(changeOf (linesOf t) (linesOf l)).q<(changeOf (linesOf t) (linesOf r)).p:=fun z=>hh (decide_eq_true (by omega))
     refine⟨_,rfl,p2,C.cChange,dx2,_,_,rfl,e2,T.c_Change,T.n_Change_end,vT _ _ _,_,rfl,p1,C.cChange,dx1,_,_,rfl,e1,T.c_Change,T.n_Change_begin,kg _ _ _,_,_,rfl,rfl,_,rfl,u6 (fun hh=>?_) (fun hh=>?_)⟩
     . have e':(changeOf (linesOf t) (linesOf r)).q<(changeOf (linesOf t) (linesOf l)).p:=by
        have:=of_decide_eq_true hh
        omega
       refine⟨_,rfl,_,rfl,_,rfl,a,p2,p1,t,_,_,rfl,ha2,c2,c1',ht,f2.1,e',f1.1,f1.2,(by omega),(by omega),fun H3 x s3 o3 n3=>k H3 x (s12.trans s3) ?_ (fun y hy=>.inr (.inr (s12.free (n3 y hy))))⟩
       rw[if_neg e,if_pos e']
       exact o3
     . have e':¬(changeOf (linesOf t) (linesOf r)).q<(changeOf (linesOf t) (linesOf l)).p:=fun z=>hh (decide_eq_true (by omega))
       refine k H2 .non s12 ?_ (fun y hy=>nomatch hy)
       rw[if_neg e,if_neg e']
       rfl
end
end Tb
end
section
namespace Tb
open PySem PySem.Spec PyProof.Rows L2
open Vanbki (nats ofNat markNat numbers)
theorem Kr (a b:V):wC [(Sum.inl 1,a),(Sum.inl 2,b)] (Sum.inl 1:Key)=some a:=yP rfl
theorem Ks (a b:V):wC [(Sum.inl 1,a),(Sum.inl 2,b)] (Sum.inl 2:Key)=some b:=by
 rw[vS (by intro e;injection e with e;exact absurd e (by decide))]
 exact yP rfl
theorem acN (a b:V) {n:Int} (h1:n≠1) (h2:n≠2):wC [(Sum.inl 1,a),(Sum.inl 2,b)] (Sum.inl n:Key)=none:=by
 rw[vS (by intro e;injection e with e;exact h1 e.symm),vS (by intro e;injection e with e;exact h2 e.symm)]
 rfl
section
variable {K:PySem.W.Frag}{mg:Str->Option Value}{C:Ad}{H G:Hp}{B:Bk}{ch:Chs}{s:Vanbki.State}{σ:L2.St}{i:Nat}{Q:VK}
theorem Yv (T:Txt K mg C) (h:BooksAt C H G B ch s) (hv:σ[i]?=some (some (.ref B.b))) (q:Q (.ref B.lb) H):yj K (qC i) "base_cells" σ H Q:=by
 obtain⟨dx,e⟩:=h.bk
 exact⟨_,hv,B.b,C.cBooks,dx,_,_,rfl,e,T.c_Books,T.n_Books_base_cells,qZ _ _ _,q⟩
theorem abd (T:Txt K mg C) (h:BooksAt C H G B ch s) (hv:σ[i]?=some (some (.ref B.b))) (q:Q (.ref B.a1) H):Kc (yj K (qC i) "sides") (tC (.int 1)) σ H Q:=by
 obtain⟨dx,e⟩:=h.bk
 exact⟨_,hv,B.b,C.cBooks,dx,_,_,rfl,e,T.c_Books,T.n_Books_sides,zJ _ _ _,B.ds,_,rfl,Kr (.ref B.a1) (.ref B.a2)▸DGet.k (k:=Sum.inl 1) h.sd,q⟩
theorem abe (T:Txt K mg C) (h:BooksAt C H G B ch s) (hv:σ[i]?=some (some (.ref B.b))) (q:Q (.ref B.a2) H):Kc (yj K (qC i) "sides") (tC (.int 2)) σ H Q:=by
 obtain⟨dx,e⟩:=h.bk
 exact⟨_,hv,B.b,C.cBooks,dx,_,_,rfl,e,T.c_Books,T.n_Books_sides,zJ _ _ _,B.ds,_,rfl,Ks (.ref B.a1) (.ref B.a2)▸DGet.k (k:=Sum.inl 2) h.sd,q⟩
theorem QN (T:Txt K mg C) (h:BooksAt C H G B ch s) (hv:σ[i]?=some (some (.ref B.b))) (q:Q (.ref B.l1) H):yj K (Kc (yj K (qC i) "sides") (tC (.int 1))) "cells" σ H Q:=by
 obtain⟨dx,e⟩:=h.s1
 exact abd T h hv ⟨B.a1,C.cSide,dx,_,_,rfl,e,T.c_Side,T.n_Side_cells,zU _ _,q⟩
theorem QO (T:Txt K mg C) (h:BooksAt C H G B ch s) (hv:σ[i]?=some (some (.ref B.b))) (q:Q (.ref B.l2) H):yj K (Kc (yj K (qC i) "sides") (tC (.int 2))) "cells" σ H Q:=by
 obtain⟨dx,e⟩:=h.s2
 exact abe T h hv ⟨B.a2,C.cSide,dx,_,_,rfl,e,T.c_Side,T.n_Side_cells,zU _ _,q⟩
end
section
variable {C:Ad}{H G:Hp}{B:Bk}{ch:Chs}{s:Vanbki.State}
theorem BooksAt.d0 (h:BooksAt C H G B ch s):∃ as,RL H B.lb as/\CellsAt C H as s.base/\CellsAt C G as s.base:=by
 obtain⟨as,e,r⟩:=h.c0
 exact⟨as,h.gh _ _ e,r.mono h.gh,r⟩
theorem BooksAt.d1 (h:BooksAt C H G B ch s):∃ as,RL H B.l1 as/\CellsAt C H as s.left/\CellsAt C G as s.left:=by
 obtain⟨as,e,r⟩:=h.c1
 exact⟨as,e,r.mono h.gh,r⟩
theorem BooksAt.d2 (h:BooksAt C H G B ch s):∃ as,RL H B.l2 as/\CellsAt C H as s.right/\CellsAt C G as s.right:=by
 obtain⟨as,e,r⟩:=h.c2
 exact⟨as,e,r.mono h.gh,r⟩
end
theorem ab4 (a b:Int):eqV (.int a) (.int b)=decide (a=b):=by
 first | rfl | (simp[eqV]) | (unfold eqV;exact (by by_cases h:a=b <;> simp[h]))
theorem abf (n:Int) (ns:List Int):inV (.int n) (ns.map V.int)=decide (n∈ns):=by
 unfold inV
 rw[List.any_map]
 induction ns with
 | nil=>rfl
 | cons a r ih =>
  rw[List.any_cons,ih]
  show (eqV (.int a) (.int n) || _)=_
  rw[ab4]
  by_cases h:a=n
  . simp[h]
  . have h':¬n=a:=fun e=>h e.symm
    simp[h,h']
theorem jG (ns:List Int):(ns.map V.int).all ZL=true:=by
 rw[List.all_map]
 exact List.all_eq_true.mpr fun x _=>rfl
theorem mem_nats {n:Nat}{l:List Nat}:((n:Int)∈nats l) ↔ n∈l:=by
 unfold nats
 constructor
 . intro h
   obtain⟨m,hm,e⟩:=List.mem_map.mp h
   have:m=n:=by unfold ofNat at e;omega
   exact this▸hm
 . intro h
   exact List.mem_map.mpr ⟨n,h,rfl⟩
theorem kh (n:Nat) (l:List Nat):inV (.int (n:Int)) ((nats l).map V.int)=decide (n∈l):=by
 rw[abf]
 by_cases h:n∈l
 . rw[decide_eq_true h,decide_eq_true (mem_nats.mpr h)]
 . rw[decide_eq_false h,decide_eq_false (fun z=>h (mem_nats.mp z))]
theorem xP (l:List Nat) (p:Nat->Bool):(l.map fun n=>if p n=true then some (V.int (n:Int)) else none).filterMap id=(nats (l.filter p)).map V.int:=by
 induction l with
 | nil=>rfl
 | cons a r ih =>
  rw[List.map_cons]
  by_cases h:p a=true
  . rw[if_pos h,List.filter_cons_of_pos h,List.filterMap_cons_some (by rfl),ih]
    rfl
  . rw[if_neg h,List.filter_cons_of_neg h,List.filterMap_cons_none (by rfl),ih]
theorem xr (d:Vanbki.Doc) (n:Nat):Vanbki.has d n=decide (n∈numbers d):=by
 by_cases h:n∈numbers d
 . rw[decide_eq_true h]
   exact has_iff.mpr h
 . rw[decide_eq_false h]
   exact has_false.mpr h
theorem OptCell.mono {C:Ad}{H H':Hp}{r:V}{o:Option Vanbki.Cell} (s:Same H H') (h:OptCell C H r o):OptCell C H' r o:=by
 cases o with
 | none=>exact h
 | some c =>
  obtain⟨a,e,q⟩:=h
  exact⟨a,e,q.mono s⟩
def vw (C:Ad):Sp:=fun vs H Q _=>∃ G B ch s,vs=[.ref (Bk.b B)]/\BooksAt C H G B ch s/\∀ H' p a b c,Same H H'->H' p=some (.tup [.ref a,.ref b,.ref c])->IL H' a (nats (Vanbki.common s))->IL H' b (nats (Vanbki.orderIn s s.left))->IL H' c (nats (Vanbki.orderIn s s.right))->Q (.ref p) H'
def y8:Sp:=fun vs H Q _=>∃ p a b c xs ys zs,vs=[.ref p]/\H p=some (.tup [.ref a,.ref b,.ref c])/\IL H a xs/\IL H b ys/\IL H c zs/\Q (if ys=xs then .ref c else if zs=xs then .ref b else if ys=zs then .ref b else .non) H
def Q1 (C:Ad):Sp:=fun vs H Q _=>∃ a b c d,vs=[.ref a,.ref b]/\CellAt C H a c/\CellAt C H b d/\Q (.bl (Vanbki.sameCell c d)) H
def kindOf (c:Vanbki.Cell) (l r:Option Vanbki.Cell):Nat:=match l,r with
 | some l,some r=>if (Vanbki.mergedText c.text l.text r.text).isNone=true then 1 else 0
 | none,some r=>if Vanbki.sameCell c r=true then 0 else 2
 | some l,none=>if Vanbki.sameCell c l=true then 0 else 3
 | none,none=>0
theorem UZ (s:Vanbki.State) (c:Vanbki.Cell):kN s c=kindOf c (Vanbki.find s.left c.number) (Vanbki.find s.right c.number):=by
 unfold kN Vanbki.conflictAt kindOf
 cases Vanbki.find s.left c.number <;> cases Vanbki.find s.right c.number <;> simp <;> split <;> simp_all
def abg (o:Option Vanbki.Cell):Prop:=∀ c,o=some c->c.text.length<=1000
def ub (C:Ad):Sp:=fun vs H Q _=>∃ a vl vr c l r,vs=[.ref a,vl,vr]/\CellAt C H a c/\OptCell C H vl l/\OptCell C H vr r/\c.text.length<=1000/\abg l/\abg r/\∀ H',Same H H'->Q (.int (kindOf c l r:Nat)) H'
def vx (H:Hp) (q:Addr) (x:Nat × Nat):Prop:=H q=some (.tup [.int (x.1:Nat),.int (x.2:Nat)])
def kt (C:Ad):Sp:=fun vs H Q _=>∃ G B ch s,vs=[.ref (Bk.b B)]/\BooksAt C H G B ch s/\∀ H' p qs,Same H H'->H p=none->RL H' p qs->Paired (vx H') qs (Vanbki.conflicts s)->Q (.ref p) H'
def jy (C:Ad):Sp:=fun vs H Q _=>∃ G B ch s q x,vs=[.ref (Bk.b B),.ref q]/\BooksAt C H G B ch s/\vx H q x/\Q (.int (Vanbki.choiceOf s x.1 x.2:Nat)) H
def jj (C:Ad):Sp:=fun vs H Q _=>∃ G B ch s,vs=[.ref (Bk.b B)]/\BooksAt C H G B ch s/\∀ H',Same H H'->Q (.int (Vanbki.open_ s:Nat)) H'
def xt (C:Ad):Sp:=fun vs H Q _=>∃ G B ch s,vs=[.ref (Bk.b B)]/\BooksAt C H G B ch s/\∀ H' p,Same H H'->H p=none->IL H' p (ofNat (Vanbki.conflicts s).length::(Vanbki.conflicts s).flatMap fun x=>[ofNat x.1,ofNat x.2,ofNat (Vanbki.choiceOf s x.1 x.2)])->Q (.ref p) H'
section
variable {P:Program}{w:World}{K:PySem.W.Frag}{mg:Str->Option Value}{base:Heap}{C:Ad}{f:Addr}{fd:FuncData}
theorem Jt {f1:Addr}{fd1:FuncData} (F:Fun K "agreed_order" "agreed_order" kZ f fd) (T:Txt K mg C) (D_agreed:Def P w K mg base "agreed" 1 ["base","left","right"] (QL) f1 fd1):z_ P w K mg base CX0 2 f fd ["orders"] (y8):=by
 refine F.ok Jp (fun vs H Q E h=>?_) (fun cdv A outer s H vs Q E hr h=>?_)
 . obtain⟨p,a,b,c,xs,ys,zs,rfl,_⟩:=h
   rfl
 . obtain⟨p,a,b,c,xs,ys,zs,rfl,hp,ha,hb,hc,k⟩:=h
   refine⟨_,(zj (zo (zk D_agreed (hr.mono (by decide)) (za (qy kR (pv 0) zH (fun _ _=>rfl)) (za (qy kR (pv 0) zH (fun _ _=>rfl)) (za (qy kR (pv 0) zH (fun _ _=>rfl)) zi)))))),?_⟩
   exact⟨_,rfl,p,_,_,_,rfl,rfl,SqT.of hp,q5 (j:=0) rfl,_,rfl,p,_,_,_,rfl,rfl,SqT.of hp,q5 (j:=1) rfl,_,rfl,p,_,_,_,rfl,rfl,SqT.of hp,q5 (j:=2) rfl,a,b,c,xs,ys,zs,rfl,ha,hb,hc,k⟩
theorem Yw (F:Fun K "unchanged" "unchanged" xf f fd) (T:Txt K mg C):z_ P w K mg base CX0 1 f fd ["base_cell","cell"] (Q1 C):=by
 refine F.ok Yo (fun vs H Q E h=>?_) (fun cdv A outer s H vs Q E hr h=>?_)
 . obtain⟨a,b,c,d,rfl,_⟩:=h
   rfl
 . obtain⟨a,b,c,d,rfl,⟨dx1,q1,e1,t1⟩,⟨dx2,q2,e2,t2⟩,k⟩:=h
   refine⟨_,(zj (zo (acm (uv (wV hr.units) (zn (pv 1) rfl) (zn (pv 0) rfl) (zF _)) (aaD (uv qT (zn (pv 1) rfl) (zn (pv 0) rfl) (zF _)))))),?_⟩
   refine⟨_,rfl,b,C.cCell,dx2,_,_,rfl,e2,T.c_Cell,T.n_Cell_text,zV _ _ _,_,rfl,a,C.cCell,dx1,_,_,rfl,e1,T.c_Cell,T.n_Cell_text,zV _ _ _,_,_,vU t2,vU t1,qh _,qh _,_,rfl,?_⟩
   rw[vP]
   unfold Vanbki.sameCell at k
   by_cases h:d.text=c.text
   . rw[decide_eq_true (by rw[h])]
     refine zM ⟨_,rfl,b,C.cCell,dx2,_,_,rfl,e2,T.c_Cell,T.n_Cell_mark,qz _ _ _,_,rfl,a,C.cCell,dx1,_,_,rfl,e1,T.c_Cell,T.n_Cell_mark,qz _ _ _,rfl,?_⟩
     have e:decide (V.int (markNat d.hidden:Nat)=V.int (markNat c.hidden:Nat))=(c.text == d.text && c.hidden == d.hidden):=by
      rw[h]
      cases c.hidden <;> cases d.hidden <;> simp[markNat]
     rw[<-e] at k
     exact k
   . rw[decide_eq_false (fun z=>h (kP z))]
     refine zE ?_
     have e:(c.text == d.text && c.hidden == d.hidden)=false:=by
      have:(c.text == d.text)=false:=by simpa using fun z=>h z.symm
      rw[this]
      rfl
     rw[e] at k
     exact k
theorem Kt {f1:Addr}{fd1:FuncData}{f2:Addr}{fd2:FuncData} (F:Fun K "conflict_at" "conflict_at" vE f fd) (T:Txt K mg C) (D_merged_text:Def P w K mg base "merged_text" 4 ["base_text","left_text","right_text"] (yT C) f1 fd1) (D_unchanged:Def P w K mg base "unchanged" 1 ["base_cell","cell"] (Q1 C) f2 fd2):z_ P w K mg base CX0 5 f fd ["base_cell","left","right"] (ub C):=by
 refine F.ok Kl (fun vs H Q E h=>?_) (fun cdv A outer s H vs Q E hr h=>?_)
 . obtain⟨a,vl,vr,c,l,r,rfl,_⟩:=h
   rfl
 . obtain⟨a,vl,vr,c,l,r,rfl,ha,hl,hr',zc,zl,zr,k⟩:=h
   refine⟨_,(ze (zI (Y6 (qJ (jJ (pv 1))) (JM (qJ (jJ (pv 2))))).pt (zj (zo (pgi T.g_NO_CONFLICT))) zw)
    (ze (zI (qJ (jJ (pv 1))) (zj (zo (jQ (QE (zk D_unchanged (hr.mono (by decide)) (za (pv 0) (za (pv 2) zi)))) (pgi T.g_NO_CONFLICT) (pgi T.g_LEFT_HAS_NOT)))) zw)
    (ze (zI (qJ (jJ (pv 2))) (zj (zo (jQ (QE (zk D_unchanged (hr.mono (by decide)) (za (pv 0) (za (pv 1) zi)))) (pgi T.g_NO_CONFLICT) (pgi T.g_RIGHT_HAS_NOT)))) zw)
    (ze (zI (qJ (jJ (zk D_merged_text (hr.mono (by decide)) (za (zn (pv 0) rfl) (za (zn (pv 1) rfl) (za (zn (pv 2) rfl) zi)))))) (zj (zo (pgi T.g_TEXT_CONFLICT))) zw)
    (zj (zo (pgi T.g_NO_CONFLICT))))))),?_⟩
   have k0:=k H (Same.refl _)
   cases l with
   | none =>
    have hl:vl=.non:=hl
    subst hl
    cases r with
    | none =>
     have hr':vr=.non:=hr'
     subst hr'
     exact⟨_,rfl,_,rfl,zM ⟨_,rfl,_,rfl,zM k0⟩⟩
    | some r =>
     obtain⟨b,rfl,hb⟩:=hr'
     refine⟨_,rfl,_,rfl,zM ⟨_,rfl,_,rfl,zE ?_⟩⟩
     refine⟨_,rfl,_,rfl,zM ⟨_,rfl,_,rfl,a,b,c,r,rfl,ha,hb,_,rfl,?_⟩⟩
     have k0:Q (.int ((if Vanbki.sameCell c r=true then 0 else 2:Nat):Int)) H:=k0
     cases e:Vanbki.sameCell c r with
     | true =>
      rw[e] at k0
      exact zM k0
     | false =>
      rw[e] at k0
      exact zE k0
   | some l =>
    obtain⟨b,rfl,hb⟩:=hl
    refine⟨_,rfl,_,rfl,zE (zE ?_)⟩
    refine⟨_,rfl,_,rfl,zE ?_⟩
    cases r with
    | none =>
     have hr':vr=.non:=hr'
     subst hr'
     refine⟨_,rfl,_,rfl,zM ⟨_,rfl,_,rfl,a,b,c,l,rfl,ha,hb,_,rfl,?_⟩⟩
     have k0:Q (.int ((if Vanbki.sameCell c l=true then 0 else 3:Nat):Int)) H:=k0
     cases e:Vanbki.sameCell c l with
     | true =>
      rw[e] at k0
      exact zM k0
     | false =>
      rw[e] at k0
      exact zE k0
    | some r =>
     obtain⟨d,rfl,hd⟩:=hr'
     refine⟨_,rfl,_,rfl,zE ?_⟩
     obtain⟨dx1,q1,e1,t1⟩:=ha
     obtain⟨dx2,q2,e2,t2⟩:=hb
     obtain⟨dx3,q3,e3,t3⟩:=hd
     refine⟨_,rfl,a,C.cCell,dx1,_,_,rfl,e1,T.c_Cell,T.n_Cell_text,zV _ _ _,_,rfl,b,C.cCell,dx2,_,_,rfl,e2,T.c_Cell,T.n_Cell_text,zV _ _ _,_,rfl,d,C.cCell,dx3,_,_,rfl,e3,T.c_Cell,T.n_Cell_text,zV _ _ _,
      q1,q2,q3,c.text,l.text,r.text,rfl,t1,t2,t3,zc,zl l rfl,zr r rfl,fun H1 x s1 o1 _=>?_⟩
     have k1:Q (.int ((if (Vanbki.mergedText c.text l.text r.text).isNone=true then 1 else 0:Nat):Int)) H1:=k H1 s1
     cases e:Vanbki.mergedText c.text l.text r.text with
     | none =>
      rw[e] at o1 k1
      have o1:x=.non:=o1
      subst o1
      exact⟨_,rfl,zM k1⟩
     | some t =>
      rw[e] at o1 k1
      obtain⟨y,rfl,_⟩:=o1
      exact⟨_,rfl,zE k1⟩
theorem QP {f1:Addr}{fd1:FuncData} (F:Fun K "common_orders" "common_orders" kn f fd) (T:Txt K mg C) (D_numbers_of:Def P w K mg base "numbers_of" 1 ["cells"] (jF C) f1 fd1):z_ P w K mg base CX0 2 f fd ["books"] (vw C):=by
 refine F.ok sc_common_orders (fun vs H Q E h=>?_) (fun cdv A outer s H vs Q E hr h=>?_)
 . obtain⟨G,B,ch,s,rfl,_⟩:=h
   rfl
 . obtain⟨G,B,ch,s,rfl,hb,k⟩:=h
   have hu:=jR hr
   refine⟨_,(ze (zu (i:=1) sc_common_orders.nd rfl (Or.inr rfl) (zk D_numbers_of (hr.mono (by decide)) (za (zn (qk hu (zn (pv 0) rfl) (pgi T.g_LEFT) (fun _ _=>rfl)) rfl) zi)))
    (ze (zu (i:=2) sc_common_orders.nd rfl (Or.inr rfl) (zk D_numbers_of (hr.mono (by decide)) (za (zn (qk hu (zn (pv 0) rfl) (pgi T.g_RIGHT) (fun _ _=>rfl)) rfl) zi)))
    (ze (zu (i:=3) sc_common_orders.nd rfl (Or.inr rfl) (w_ rfl sc_common_orders.nd (qi (zk D_numbers_of (hr.mono (by decide)) (za (zn (pv 0) rfl) zi))) (qE (own:=[("number",4)]) (by kernel_rfl)) (fun _ _ _ _ _=>(zS (i:=4) sc_common_orders.nd rfl (Or.inl rfl))) (fun _ _ _ _ _=>w6 (Y6 (zz (Zc (K:=K) rfl) (pv 4) (pv 1) rfl) (JM (zz (Zc (K:=K) rfl) (pv 4) (pv 2) rfl))).pt) (fun _ _ _ _ _=>(pv 4))))
    (ze (vR (i:=5) rfl sc_common_orders.nd rfl rfl (y_ rfl rfl rfl rfl) (qi (pv 1)) (qE (own:=[("number",4)]) (by kernel_rfl)) (fun _ _ _ _ _=>(zS (i:=4) sc_common_orders.nd rfl (Or.inl rfl))) (fun _ _ _ _ _=>w6 (zz (Zc (K:=K) rfl) (pv 4) (pv 3) rfl)) (fun _ _ _ _ _=>(pv 4)))
    (ze (vR (i:=6) rfl sc_common_orders.nd rfl rfl (y_ rfl rfl rfl rfl) (qi (pv 2)) (qE (own:=[("number",4)]) (by kernel_rfl)) (fun _ _ _ _ _=>(zS (i:=4) sc_common_orders.nd rfl (Or.inl rfl))) (fun _ _ _ _ _=>w6 (zz (Zc (K:=K) rfl) (pv 4) (pv 3) rfl)) (fun _ _ _ _ _=>(pv 4)))
    (zj (zo (yN (za (pv 3) (za (pv 5) (za (pv 6) zi))))))))))),?_⟩
   obtain⟨as0,r0,c0,_⟩:=hb.d0
   obtain⟨as1,r1,c1,_⟩:=hb.d1
   obtain⟨as2,r2,c2,_⟩:=hb.d2
   have z0:=hb.ok.b.len
   have z1:=hb.ok.l.len
   have z2:=hb.ok.r.len
   refine QN T hb rfl ⟨B.l1,as1,s.left,rfl,r1,c1,(by omega),fun H1 p1 s1 n1 e1=>?_⟩
   refine QO T (hb.mono s1) rfl ⟨B.l2,as2,s.right,rfl,s1 _ _ r2,c2.mono s1,(by omega),fun H2 p2 s2 n2 e2=>?_⟩
   have s12:=s1.trans s2
   refine Yv T (hb.mono s12) rfl ⟨B.lb,as0,s.base,rfl,s12 _ _ r0,c0.mono s12,(by omega),fun H3 p3 s3 n3 e3=>⟨p3,rfl,⟨_,SqL.of e3⟩,fun D hD=>?_⟩⟩
   have lenN:∀ d:Vanbki.Doc,((nats (numbers d)).map V.int).length=d.length:=fun d=>by simp[nats,numbers]
   refine J5 (K:=K) (xs:=(nats (numbers s.base)).map V.int) ((numbers s.base).map fun n=>if (Vanbki.has s.left n && Vanbki.has s.right n)=true then some (V.int n) else none) (by simp[nats,numbers]) (SqL.of e3) hD (by rw[lenN];exact qU (by omega)) (fun i x y H' P' N hi hy s4 hP hN=>?_) (fun H4 s4 e4=>?_)
   . obtain⟨n,hn,rfl⟩:=yS hi
     rw[List.getElem?_map,hn] at hy
     have ey:y=if (Vanbki.has s.left n && Vanbki.has s.right n)=true then some (V.int n) else none:=(Option.some.inj hy).symm
     rw[xr,xr] at ey
     refine⟨rfl,_,rfl,_,rfl,p1,_,rfl,.inl (SqL.of (s4 _ _ (s3 _ _ (s2 _ _ e1)))),rfl,jG _,_,rfl,?_⟩
     simp only[Bool.false_eq_true,if_false]
     rw[kh]
     by_cases h1:n∈numbers s.left
     . rw[decide_eq_true h1] at ey ⊢
       refine zM ⟨_,rfl,_,rfl,p2,_,rfl,.inl (SqL.of (s4 _ _ (s3 _ _ e2))),rfl,jG _,_,rfl,?_⟩
       simp only[Bool.false_eq_true,if_false]
       rw[kh]
       by_cases h2:n∈numbers s.right
       . rw[decide_eq_true h2] at ey ⊢
         exact zM ⟨_,rfl,hP _ ey _ (Same.refl _)⟩
       . rw[decide_eq_false h2] at ey ⊢
         exact zE (hN ey _ (Same.refl _))
     . rw[decide_eq_false h1] at ey ⊢
       exact zE (hN (by simpa using ey) _ (Same.refl _))
   rw[xP] at e4
   have e4:IL H4 D (nats (Vanbki.common s)):=e4
   have ord:∀ (d:Vanbki.Doc) (i:Nat) (n:Nat) (y:Option V),(numbers d)[i]?=some n->((numbers d).map fun n=>if (Vanbki.common s).contains n=true then some (V.int n) else none)[i]?=some y->y=if decide (n∈Vanbki.common s)=true then some (V.int n) else none:=fun d i n y hn hy=>by
    rw[List.getElem?_map,hn] at hy
    rw[<-show (if (Vanbki.common s).contains n=true then some (V.int (n:Int)) else none)=y from Option.some.inj hy]
    by_cases h:n∈Vanbki.common s
    . rw[if_pos (by simpa using h),if_pos (by simpa using h)]
    . rw[if_neg (by simpa using h),if_neg (by simpa using h)]
   have s34:=s3.trans s4
   refine⟨_,rfl,p1,rfl,⟨_,SqL.of (s34 _ _ (s2 _ _ e1))⟩,fun D2 hD2=>?_⟩
   refine J5 (K:=K) (xs:=(nats (numbers s.left)).map V.int) ((numbers s.left).map fun n=>if (Vanbki.common s).contains n=true then some (V.int n) else none) (by simp[nats,numbers]) (SqL.of (s34 _ _ (s2 _ _ e1))) hD2 (by rw[lenN];exact qU (by omega)) (fun i x y H' P' N hi hy s5 hP hN=>?_) (fun H5 s5 e5=>?_)
   . obtain⟨n,hn,rfl⟩:=yS hi
     have ey:=ord _ _ _ _ hn hy
     refine⟨rfl,_,rfl,_,rfl,D,_,rfl,.inl (SqL.of (s5 _ _ e4)),rfl,jG _,_,rfl,?_⟩
     simp only[Bool.false_eq_true,if_false]
     rw[kh]
     by_cases h2:n∈Vanbki.common s
     . rw[decide_eq_true h2] at ey ⊢
       exact zM ⟨_,rfl,hP _ ey _ (Same.refl _)⟩
     . rw[decide_eq_false h2] at ey ⊢
       exact zE (hN ey _ (Same.refl _))
   rw[xP] at e5
   have e5:IL H5 D2 (nats (Vanbki.orderIn s s.left)):=e5
   have s35:=s34.trans s5
   refine⟨_,rfl,p2,rfl,⟨_,SqL.of (s35 _ _ e2)⟩,fun D3 hD3=>?_⟩
   refine J5 (K:=K) (xs:=(nats (numbers s.right)).map V.int) ((numbers s.right).map fun n=>if (Vanbki.common s).contains n=true then some (V.int n) else none) (by simp[nats,numbers]) (SqL.of (s35 _ _ e2)) hD3 (by rw[lenN];exact qU (by omega)) (fun i x y H' P' N hi hy s6 hP hN=>?_) (fun H6 s6 e6=>?_)
   . obtain⟨n,hn,rfl⟩:=yS hi
     have ey:=ord _ _ _ _ hn hy
     refine⟨rfl,_,rfl,_,rfl,D,_,rfl,.inl (SqL.of (s6 _ _ (s5 _ _ e4))),rfl,jG _,_,rfl,?_⟩
     simp only[Bool.false_eq_true,if_false]
     rw[kh]
     by_cases h2:n∈Vanbki.common s
     . rw[decide_eq_true h2] at ey ⊢
       exact zM ⟨_,rfl,hP _ ey _ (Same.refl _)⟩
     . rw[decide_eq_false h2] at ey ⊢
       exact zE (hN ey _ (Same.refl _))
   rw[xP] at e6
   refine⟨_,rfl,_,rfl,_,rfl,(by show 3<=sizeLine;decide),fun p hp=>?_⟩
   have s7:=Same.new (o:=.tup [.ref D,.ref D2,.ref D3]) hp
   exact k _ p D D2 D3 (s12.trans (s35.trans (s6.trans s7))) zf (s7 _ _ (s6 _ _ (s5 _ _ e4))) (s7 _ _ (s6 _ _ e5)) (s7 _ _ e6)
theorem Ju {f1:Addr}{fd1:FuncData}{f2:Addr}{fd2:FuncData}{f3:Addr}{fd3:FuncData}{f4:Addr}{fd4:FuncData} (F:Fun K "conflicts_of" "conflicts_of" k_ f fd) (T:Txt K mg C) (D_cell_of:Def P w K mg base "cell_of" 2 ["cells","number"] (vv C) f1 fd1) (D_conflict_at:Def P w K mg base "conflict_at" 5 ["base_cell","left","right"] (ub C) f2 fd2) (D_agreed_order:Def P w K mg base "agreed_order" 2 ["orders"] (y8) f3 fd3) (D_common_orders:Def P w K mg base "common_orders" 2 ["books"] (vw C) f4 fd4):z_ P w K mg base CX0 6 f fd ["books"] (kt C):=by
 refine F.ok sc_conflicts_of (fun vs H Q E h=>?_) (fun cdv A outer s H vs Q E hr h=>?_)
 . obtain⟨G,B,ch,s,rfl,_⟩:=h
   rfl
 . obtain⟨G,B,ch,s,rfl,hb,k⟩:=h
   have hu:=jR hr
   refine⟨_,(ze (zu (i:=1) sc_conflicts_of.nd rfl (Or.inl rfl) (qb zi))
    (ze (kQ PassesOwn.never rfl (qi (zn (pv 0) rfl)) (zS (i:=2) sc_conflicts_of.nd rfl (Or.inl rfl)) (ze (zu (i:=3) sc_conflicts_of.nd rfl (Or.inl rfl) (zn (pv 2) rfl))
    (ze (zu (i:=4) sc_conflicts_of.nd rfl (Or.inl rfl) (zk D_cell_of (hr.mono (by decide)) (za (zn (qk hu (zn (pv 0) rfl) (pgi T.g_LEFT) (fun _ _=>rfl)) rfl) (za (pv 3) zi))))
    (ze (zu (i:=5) sc_conflicts_of.nd rfl (Or.inl rfl) (zk D_cell_of (hr.mono (by decide)) (za (zn (qk hu (zn (pv 0) rfl) (pgi T.g_RIGHT) (fun _ _=>rfl)) rfl) (za (pv 3) zi))))
    (ze (zu (i:=6) sc_conflicts_of.nd rfl (Or.inl rfl) (zk D_conflict_at (hr.mono (by decide)) (za (pv 2) (za (pv 4) (za (pv 5) zi)))))
    (zj (zI (zz yM (pv 6) (pgi T.g_NO_CONFLICT) (zF _)) (zj (qA (jL PySem.F.plainAttrs_list PySem.F.slot_list_append PySem.F.type_list_append ji (pv 1) (za (yN (za (pv 6) (za (pv 3) zi))) zi)))) zw)))))))
    (ze (zI (qJ (jJ (zk D_agreed_order (hr.mono (by decide)) (za (zk D_common_orders (hr.mono (by decide)) (za (pv 0) zi)) zi)))) (zj (qA (jL PySem.F.plainAttrs_list PySem.F.slot_list_append PySem.F.type_list_append ji (pv 1) (za (yN (za (pgi T.g_ORDER_CONFLICT) (za zH zi))) zi)))) zw)
    (zj (zo (pv 1)))))),?_⟩
   obtain⟨as0,r0,c0,_⟩:=hb.d0
   obtain⟨as1,r1,c1,_⟩:=hb.d1
   obtain⟨as2,r2,c2,_⟩:=hb.d2
   have z0:=hb.ok.b.len
   have hlen:=zx c0
   refine⟨Nat.zero_le _,fun p hp=>?_⟩
   have s0:=Same.new (o:=.lst []) hp
   obtain⟨dxb,eb⟩:=hb.bk
   refine⟨_,rfl,B.b,C.cBooks,dxb,_,_,rfl,s0 _ _ eb,T.c_Books,T.n_Books_base_cells,qZ _ _ _,B.lb,rfl,⟨_,SqL.of (s0 _ _ r0)⟩,jD (K:=K) (a:=B.lb) (xs:=as0.map V.ref)
    (fun i σ H'=>(∃ v2 v3 v4 v5 v6,σ=[some (.ref B.b),some (.ref p),v2,v3,v4,v5,v6])/\Same H H'/\∃ qs,RL H' p qs/\qs.length<=i/\Paired (vx H') qs ((s.base.take i).filterMap fun c=>if kN s c=0 then none else some (kN s c,c.number)))
    ⟨⟨none,none,none,none,none,rfl⟩,s0,[],zf,Nat.le_refl _,.nil⟩ (fun i σ H' _ h=>SqL.of (h.2.1 _ _ r0)) ?_ ?_⟩
   . rintro i x σ H' hi ⟨⟨v2,v3,v4,v5,v6,rfl⟩,s1,qs,hq,hql,hqp⟩
     obtain⟨a,ha,rfl⟩:=qL hi
     obtain⟨c,hc,hca⟩:=zN c0 ha
     obtain⟨dx,q,e1,e2⟩:=id hca
     have hcm:=List.mem_of_getElem? hc
     have hnum:=hb.ok.b.num c hcm
     have hil:i<12:=by
      have:=(List.getElem?_eq_some_iff.mp hc).1
      omega
     refine⟨_,rfl,a,C.cCell,dx,_,_,rfl,s1 _ _ e1,T.c_Cell,T.n_Cell_number,zK _ _ _,?_⟩
     refine QN T (hb.mono s1) rfl ⟨_,rfl,B.l1,as1,s.left,_,rfl,s1 _ _ r1,c1.mono s1,fun H2 x1 s2 o1=>?_⟩
     have o1:=(o1 H' (Same.refl _) (c1.mono s1))
     rw[vo] at o1
     have s12:=s1.trans s2
     refine QO T (hb.mono s12) rfl ⟨_,rfl,B.l2,as2,s.right,_,rfl,s12 _ _ r2,c2.mono s12,fun H3 x2 s3 o2=>?_⟩
     have o2:=(o2 H2 (Same.refl _) (c2.mono s12))
     rw[vo] at o2
     have s13:=s12.trans s3
     have tl:∀ (d:Vanbki.Doc),jB d->abg (Vanbki.find d c.number):=fun d D c' e=>by
      have:=(kz D e).1
      omega
     refine⟨_,rfl,_,rfl,_,rfl,a,x1,x2,c,_,_,rfl,hca.mono s13,OptCell.mono (s2.trans s3) o1,OptCell.mono s3 o2,(by have:=(hb.ok.b.txt c hcm).1;omega),tl _ hb.ok.l,tl _ hb.ok.r,fun H4 s4=>?_⟩
     rw[<-UZ]
     have s14:=s13.trans s4
     have s1':=(s2.trans s3).trans s4
     have hq4:=s1' _ _ hq
     have hqp4:Paired (vx H4) qs _:=zG hqp fun _ _ r=>s1' _ _ r
     refine⟨_,rfl,rfl,_,rfl,u6 (fun hh=>?_) (fun hh=>?_)⟩
     . have e:kN s c≠0:=fun z=>by rw[z] at hh;exact absurd hh (by decide)
       refine⟨_,rfl,.inl ⟨rfl,_,SqL.of hq4⟩,_,rfl,_,rfl,(by show 2<=sizeLine;decide),fun y hy=>⟨p,_,_,rfl,rfl,(by rw[zh (zg hq4 hy)];exact hq4),(by rw[List.length_map];exact qU (by omega)),?_⟩⟩
       have yp:y≠p:=Ne.symm (zg hq4 hy)
       have hpn:H p=none:=hp
       refine⟨⟨_,_,_,_,_,rfl⟩,fun b o eo=>?_,qs++[y],?_,(by simp;omega),?_⟩
       . rw[zh (zg eo hp),zh (zg (s14 _ _ eo) hy)]
         exact s14 b o eo
       . rw[RL,zf,List.map_append]
         rfl
       . rw[zP hc,List.filterMap_append]
         simp only[List.filterMap_cons,List.filterMap_nil,if_neg e]
         refine ja ?_ ?_
         . have:∀ {qs:List Addr}{l:List (Nat × Nat)},Paired (vx H4) qs l->Paired (vx (upd (upd H4 y (.tup [.int (kN s c:Nat),.int (c.number:Nat)])) p (.lst (qs.map V.ref++[.ref y])))) qs l:=fun {qs l} h=>zG h fun z w r=>by
            unfold vx at r ⊢
            rw[zh (aaz r hq4 (by intro z;cases z)),zh (zg r hy)]
            exact r
           exact this hqp4
         . unfold vx
           rw[zh yp,zf]
     . have e:kN s c=0:=by
        by_cases z:kN s c=0
        . exact z
        . exfalso
          apply hh
          have:¬(V.int (kN s c:Nat)=V.int 0):=by
           intro q
           injection q with q
           omega
          simp[this]
       refine⟨⟨_,_,_,_,_,rfl⟩,s14,qs,hq4,(by omega),?_⟩
       rw[zP hc,List.filterMap_append]
       simp only[List.filterMap_cons,List.filterMap_nil,if_pos e,List.append_nil]
       exact hqp4
   . rintro σ H' ⟨⟨v2,v3,v4,v5,v6,rfl⟩,s1,qs,hq,hql,hqp⟩
     rw[List.length_map,hlen,List.take_length] at hqp
     rw[List.length_map,hlen] at hql
     refine⟨_,rfl,G,B,ch,s,rfl,hb.mono s1,fun H2 q a b c s2 eq ea eb ec=>⟨q,a,b,c,_,_,_,rfl,eq,ea,eb,ec,?_⟩⟩
     have s12:=s1.trans s2
     have hq2:=s2 _ _ hq
     have hqp2:Paired (vx H2) qs _:=zG hqp fun _ _ r=>s2 _ _ r
     have eo:Vanbki.mergedOrder s=if Vanbki.orderIn s s.left=Vanbki.common s then some (Vanbki.orderIn s s.right) else if Vanbki.orderIn s s.right=Vanbki.common s then some (Vanbki.orderIn s s.left) else if Vanbki.orderIn s s.left=Vanbki.orderIn s s.right then some (Vanbki.orderIn s s.left) else none:=rfl
     have fin:∀ (H3:Hp) qs',Same H H3->RL H3 p qs'->Paired (vx H3) qs' (Vanbki.conflicts s)->Y7 (qC 1) { nx:=fun _ H'=>Q .non H',rt:=Q } [some (.ref B.b),some (.ref p),v2,v3,v4,v5,v6] H3:=fun H3 qs' s3 h3 p3=>⟨_,rfl,k H3 p qs' s3 hp h3 p3⟩
     simp only[WR]
     have ek:=K1 s
     by_cases g1:Vanbki.orderIn s s.left=Vanbki.common s
     . rw[if_pos g1] at eo ⊢
       rw[eo] at ek
       refine⟨_,rfl,zE (fin H2 qs s12 hq2 ?_)⟩
       rw[ek]
       simpa using hqp2
     rw[if_neg g1] at eo ⊢
     by_cases g2:Vanbki.orderIn s s.right=Vanbki.common s
     . rw[if_pos g2] at eo ⊢
       rw[eo] at ek
       refine⟨_,rfl,zE (fin H2 qs s12 hq2 ?_)⟩
       rw[ek]
       simpa using hqp2
     rw[if_neg g2] at eo ⊢
     by_cases g3:Vanbki.orderIn s s.left=Vanbki.orderIn s s.right
     . rw[if_pos g3] at eo ⊢
       rw[eo] at ek
       refine⟨_,rfl,zE (fin H2 qs s12 hq2 ?_)⟩
       rw[ek]
       simpa using hqp2
     rw[if_neg g3] at eo ⊢
     rw[eo] at ek
     refine⟨_,rfl,zM ⟨_,rfl,.inl ⟨rfl,_,SqL.of hq2⟩,(by show 2<=sizeLine;decide),fun y hy=>⟨p,_,_,rfl,rfl,(by rw[zh (zg hq2 hy)];exact hq2),(by rw[List.length_map];exact qU (by omega)),?_⟩⟩⟩
     have yp:y≠p:=Ne.symm (zg hq2 hy)
     refine fin _ (qs++[y]) (fun b o eo=>?_) ?_ ?_
     . rw[zh (zg eo hp),zh (zg (s12 _ _ eo) hy)]
       exact s12 b o eo
     . rw[RL,zf,List.map_append]
       rfl
     . rw[ek]
       refine ja (b:=(4,0)) ?_ ?_
       . refine zG hqp2 fun z w r=>?_
         unfold vx at r ⊢
         rw[zh (aaz r hq2 (by intro z;cases z)),zh (zg r hy)]
         exact r
       . unfold vx
         rw[zh yp,zf]
         rfl
end
end Tb
end
section
namespace Tb
open PySem PySem.Spec PyProof.Rows L2
open Vanbki (nats ofNat markNat numbers)
def zZ (B:Bk) (n:Int):Addr:=if n=1 then B.a1 else B.a2
def zT (B:Bk) (n:Int):Addr:=if n=1 then B.l1 else B.l2
theorem jz {n:Int} (h:Vanbki.noSide n=false):n=1∨n=2:=by
 unfold Vanbki.noSide at h
 by_cases h1:n=1
 . exact .inl h1
 . exact .inr (by simpa [h1] using h)
section
variable {K:PySem.W.Frag}{mg:Str->Option Value}{C:Ad}{H G:Hp}{B:Bk}{ch:Chs}{s:Vanbki.State}{σ:L2.St}{i j:Nat}{n:Int}{Q:VK}
theorem jc (h:H B.ds=some (.dK [(Sum.inl 1,.ref B.a1),(Sum.inl 2,.ref B.a2)])) (hn:Vanbki.noSide n=false):DGet H B.ds (.int n) (some (.ref (zZ B n))):=by
 rcases jz hn with rfl | rfl
 . exact Kr (.ref B.a1) (.ref B.a2)▸DGet.k (k:=Sum.inl 1) h
 . exact Ks (.ref B.a1) (.ref B.a2)▸DGet.k (k:=Sum.inl 2) h
theorem U_ (h:H B.ds=some (.dK [(Sum.inl 1,.ref B.a1),(Sum.inl 2,.ref B.a2)])) (hn:Vanbki.noSide n=true):DGet H B.ds (.int n) none:=by
 have hh:¬n=1/\¬n=2:=by
  unfold Vanbki.noSide at hn
  simpa using hn
 exact acN (.ref B.a1) (.ref B.a2) hh.1 hh.2▸DGet.k (k:=Sum.inl n) h
def Uc (B:Bk) (n:Int):Option V:=if Vanbki.noSide n=true then none else some (.ref (zZ B n))
theorem yU (h:H B.ds=some (.dK [(Sum.inl 1,.ref B.a1),(Sum.inl 2,.ref B.a2)])) (n:Int):DGet H B.ds (.int n) (Uc B n):=by
 unfold Uc
 cases hn:Vanbki.noSide n with
 | true=>exact U_ h hn
 | false=>exact jc h hn
theorem vy (B:Bk) (n:Int):(!(Uc B n).isSome)=Vanbki.noSide n:=by
 unfold Uc
 cases Vanbki.noSide n <;> rfl
theorem ab5 (T:Txt K mg C) (h:BooksAt C H G B ch s) (hn:Vanbki.noSide n=false) (hv:σ[i]?=some (some (.ref B.b))) (hw:σ[j]?=some (some (.int n))) (q:Q (.ref (zZ B n)) H):Kc (yj K (qC i) "sides") (qC j) σ H Q:=by
 obtain⟨dx,e⟩:=h.bk
 exact⟨_,hv,B.b,C.cBooks,dx,_,_,rfl,e,T.c_Books,T.n_Books_sides,zJ _ _ _,_,hw,B.ds,_,rfl,jc h.sd hn,q⟩
theorem BooksAt.sS (h:BooksAt C H G B ch s) (n:Int):∃ dx,H (zZ B n)=some (.ins C.cSide dx (j3 (zT B n) (Vanbki.sideNext s n))):=by
 unfold zZ zT Vanbki.sideNext
 by_cases hn:n=1
 . simp only[hn,if_true]
   exact h.s1
 . simp only[hn,if_false]
   exact h.s2
theorem BooksAt.dS (h:BooksAt C H G B ch s) (n:Int):∃ as,RL H (zT B n) as/\CellsAt C H as (Vanbki.sideDoc s n)/\CellsAt C G as (Vanbki.sideDoc s n):=by
 unfold zT Vanbki.sideDoc
 by_cases hn:n=1
 . simp only[hn,if_true]
   exact h.d1
 . simp only[hn,if_false]
   exact h.d2
theorem Ku (T:Txt K mg C) (h:BooksAt C H G B ch s) (hn:Vanbki.noSide n=false) (hv:σ[i]?=some (some (.ref B.b))) (hw:σ[j]?=some (some (.int n))) (q:Q (.ref (zT B n)) H):yj K (Kc (yj K (qC i) "sides") (qC j)) "cells" σ H Q:=by
 obtain⟨dx,e⟩:=h.sS n
 exact ab5 T h hn hv hw ⟨zZ B n,C.cSide,dx,_,_,rfl,e,T.c_Side,T.n_Side_cells,zU _ _,q⟩
end
theorem acO (ch:Chs) (k n:Nat):(wC (chV ch) [Sum.inl (k:Int),Sum.inl (n:Int)]).getD (.int 0)=.int (yR ch k n:Nat):=by
 induction ch with
 | nil=>rfl
 | cons x r ih =>
  unfold chV yR at ih ⊢
  rw[List.map_cons,List.find?_cons]
  by_cases h:x.1=(k,n)
  . rw[yP (by rw[h])]
    simp[h]
  . rw[vS (by
     intro e
     injection e with e1 e2
     injection e2 with e2 _
     injection e1 with e1
     injection e2 with e2
     apply h
     ext
     . simp;omega
     . simp;omega)]
    have hb:(x.1 == (k,n))=false:=by simpa using h
    simp only[hb]
    exact ih
abbrev enc (a:Vanbki.Answer):List Int:=a.number::a.more
def ve (c:Vanbki.Cell):Option Vanbki.Cell->Nat
 | none=>1
 | some x=>if x.text=c.text then (if x.hidden=c.hidden then 0 else 4) else if x.hidden=c.hidden then 3 else 5
theorem abh (b d:Vanbki.Doc):(b.filterMap fun c=>match Vanbki.find d c.number with
 | none=>some (c.number,1)
 | some x=>if c.text=x.text then (if c.hidden=x.hidden then none else some (c.number,4)) else (if c.hidden=x.hidden then some (c.number,3) else some (c.number,5)))=b.filterMap fun c=>if ve c (Vanbki.find d c.number)=0 then none else some (c.number,ve c (Vanbki.find d c.number)):=by
 congr 1
 funext c
 cases Vanbki.find d c.number with
 | none=>rfl
 | some x =>
  unfold ve
  by_cases h1:c.text=x.text
  . by_cases h2:c.hidden=x.hidden
    . simp[h1,h2]
    . have h2':¬x.hidden=c.hidden:=fun e=>h2 e.symm
      simp[h1,h2,h2']
  . have h1':¬x.text=c.text:=fun e=>h1 e.symm
    by_cases h2:c.hidden=x.hidden
    . simp[h1,h1',h2]
    . have h2':¬x.hidden=c.hidden:=fun e=>h2 e.symm
      simp[h1,h1',h2,h2']
def xF (C:Ad):Sp:=fun vs H Q _=>∃ l as d,vs=[.ref l]/\RL H l as/\CellsAt C H as d/\d.length<=1000/\(∀ c,c∈d->c.text.length<=200)/\∀ H' p,Same H H'->H p=none->IL H' p (enc (Vanbki.tellDoc d))->Q (.ref p) H'
def xQ (C:Ad):Sp:=fun vs H Q _=>∃ G B ch s n,vs=[.ref (Bk.b B),.int n]/\BooksAt C H G B ch s/\∀ H' p,Same H H'->H p=none->IL H' p (enc (Vanbki.step s (.document n)).2)->Q (.ref p) H'
def uW (C:Ad):Sp:=fun vs H Q _=>∃ a v c o,vs=[.ref a,v]/\CellAt C H a c/\OptCell C H v o/\Q (.int (ve c o:Nat)) H
def ye:Sp:=fun vs H Q _=>∃ a b l m,vs=[.ref a,.ref b]/\IL H a (nats l)/\IL H b (nats m)/\l.length<=1000/\m.length<=1000/\∀ H',Same H H'->Q (.bl ((l.filter fun n=>decide (n∈m)) != m.filter fun n=>decide (n∈l))) H'
def wx (C:Ad):Sp:=fun vs H Q _=>∃ G B ch s n,vs=[.ref (Bk.b B),.int n]/\BooksAt C H G B ch s/\∀ H' p,Same H H'->H p=none->IL H' p (enc (Vanbki.step s (.changes n)).2)->Q (.ref p) H'
def uc (C:Ad):Sp:=fun vs H Q _=>∃ G B ch s n m,vs=[.ref (Bk.b B),.int n,.int m]/\BooksAt C H G B ch s/\∀ H' p,Same H H'->H p=none->IL H' p (enc (Vanbki.step s (.change n m)).2)->Q (.ref p) H'
section
variable {P:Program}{w:World}{K:PySem.W.Frag}{mg:Str->Option Value}{base:Heap}{C:Ad}{f:Addr}{fd:FuncData}
theorem Yx (F:Fun K "choice_of" "choice_of" xg f fd) (T:Txt K mg C):z_ P w K mg base CX0 1 f fd ["books","conflict"] (jy C):=by
 refine F.ok Yp (fun vs H Q E h=>?_) (fun cdv A outer s H vs Q E hr h=>?_)
 . obtain⟨G,B,ch,s,q,x,rfl,_⟩:=h
   rfl
 . obtain⟨G,B,ch,s,q,x,rfl,hb,hq,k⟩:=h
   have hu:=jR hr
   refine⟨_,(zj (zo (aaX hu (zn (pv 0) rfl) (pv 1) (pgi T.g_NO_CHOICE) ⟨rfl,rfl,rfl,rfl⟩))),?_⟩
   obtain⟨dx,e⟩:=hb.bk
   refine⟨_,rfl,B.b,C.cBooks,dx,_,_,rfl,e,T.c_Books,T.n_Books_choices,xE _ _ _,B.dc,rfl,.inr ⟨_,.inl hb.dc⟩,_,rfl,_,DGet.t (k:=[Sum.inl (x.1:Int),Sum.inl (x.2:Int)]) hb.dc hq,?_⟩
   rw[acO,hb.co.eq]
   exact k
theorem xR {f1:Addr}{fd1:FuncData}{f2:Addr}{fd2:FuncData} (F:Fun K "count_without_choice" "count_without_choice" qR f fd) (T:Txt K mg C) (D_conflicts_of:Def P w K mg base "conflicts_of" 6 ["books"] (kt C) f1 fd1) (D_choice_of:Def P w K mg base "choice_of" 1 ["books","conflict"] (jy C) f2 fd2):z_ P w K mg base CX0 7 f fd ["books"] (jj C):=by
 refine F.ok sc_count_without_choice (fun vs H Q E h=>?_) (fun cdv A outer s H vs Q E hr h=>?_)
 . obtain⟨G,B,ch,s,rfl,_⟩:=h
   rfl
 . obtain⟨G,B,ch,s,rfl,hb,k⟩:=h
   refine⟨_,(zj (zo (zW qY (by rfl) T.b_len qX (za (w_ rfl sc_count_without_choice.nd (qi (zk D_conflicts_of (hr.mono (by decide)) (za (pv 0) zi))) (qE (own:=[("conflict",1)]) (by kernel_rfl)) (fun _ _ _ _ _=>(zS (i:=1) sc_count_without_choice.nd rfl (Or.inl rfl))) (fun _ _ _ _ _=>w6 (zz qT (zk D_choice_of (hr.mono (by decide)) (za (pv 0) (za (pv 1) zi))) (pgi T.g_NO_CHOICE) (zF _))) (fun _ _ _ _ _=>(pv 1))) zi)))),?_⟩
   refine⟨_,rfl,G,B,ch,s,rfl,hb,fun H1 p qs s1 n1 r1 pr=>⟨p,rfl,⟨_,SqL.of r1⟩,fun D hD=>?_⟩⟩
   have hlen:=zx pr
   have hcl:=xC hb.ok
   refine J5 (K:=K) (xs:=qs.map V.ref) ((qs.zip (Vanbki.conflicts s)).map fun z=>if Vanbki.choiceOf s z.2.1 z.2.2=0 then some (V.ref z.1) else none) (by simp[hlen]) (SqL.of r1) hD (by rw[List.length_map];exact qU (by omega)) (fun i x y H' P' N hi hy s2 hP hN=>?_) (fun H2 s2 e2=>?_)
   . obtain⟨q,hq,rfl⟩:=qL hi
     obtain⟨z,hz,ez⟩:=zN pr hq
     have ey:y=if Vanbki.choiceOf s z.1 z.2=0 then some (V.ref q) else none:=by
      rw[List.getElem?_map,List.getElem?_zip_eq_some (z:=(q,z)) |>.mpr ⟨hq,hz⟩] at hy
      exact (Option.some.inj hy).symm
     refine⟨rfl,_,rfl,_,rfl,G,B,ch,s,q,z,rfl,hb.mono (s1.trans s2),s2 _ _ ez,rfl,_,rfl,u6 (fun hh=>?_) (fun hh=>?_)⟩
     . have e0:Vanbki.choiceOf s z.1 z.2=0:=by
        have:((Vanbki.choiceOf s z.1 z.2:Nat):Int)=0:=by simpa using hh
        omega
       rw[if_pos e0] at ey
       exact⟨_,rfl,hP _ ey _ (Same.refl _)⟩
     . have e0:¬Vanbki.choiceOf s z.1 z.2=0:=fun e=>hh (by rw[e];rfl)
       rw[if_neg e0] at ey
       exact hN ey _ (Same.refl _)
   . refine⟨D,_,rfl,.inl (SqL.of e2),?_⟩
     have el:(((qs.zip (Vanbki.conflicts s)).map fun z=>if Vanbki.choiceOf s z.2.1 z.2.2=0 then some (V.ref z.1) else none).filterMap id).length=Vanbki.open_ s:=by
      unfold Vanbki.open_
      have:∀ (qs:List Addr) (l:List (Nat × Nat)),qs.length=l.length->(((qs.zip l).map fun z=>if Vanbki.choiceOf s z.2.1 z.2.2=0 then some (V.ref z.1) else none).filterMap id).length=(l.filter fun x=>Vanbki.choiceOf s x.1 x.2 == 0).length:=by
       intro qs
       induction qs with
       | nil =>
        intro l hl
        cases l with
        | nil=>rfl
        | cons _ _=>simp at hl
       | cons q qs ih =>
        intro l hl
        cases l with
        | nil=>simp at hl
        | cons x l =>
         have:=ih l (by simpa using hl)
         rw[List.zip_cons_cons,List.map_cons]
         by_cases h:Vanbki.choiceOf s x.1 x.2=0
         . rw[List.filter_cons_of_pos (by simpa using h)]
           simp only[h,if_true]
           rw[List.filterMap_cons_some (by rfl),List.length_cons,List.length_cons,this]
         . rw[List.filter_cons_of_neg (by simpa using h)]
           simp only[h,if_false]
           rw[List.filterMap_cons_none (by rfl),this]
      exact this qs _ hlen
     rw[el]
     exact k H2 (s1.trans s2)
theorem Q2 {f1:Addr}{fd1:FuncData}{f2:Addr}{fd2:FuncData} (F:Fun K "tell_conflicts" "tell_conflicts" j_ f fd) (T:Txt K mg C) (D_conflicts_of:Def P w K mg base "conflicts_of" 6 ["books"] (kt C) f1 fd1) (D_choice_of:Def P w K mg base "choice_of" 1 ["books","conflict"] (jy C) f2 fd2):z_ P w K mg base CX0 7 f fd ["books"] (xt C):=by
 refine F.ok sc_tell_conflicts (fun vs H Q E h=>?_) (fun cdv A outer s H vs Q E hr h=>?_)
 . obtain⟨G,B,ch,s,rfl,_⟩:=h
   rfl
 . obtain⟨G,B,ch,s,rfl,hb,k⟩:=h
   refine⟨_,(ze (zu (i:=1) sc_tell_conflicts.nd rfl (Or.inl rfl) (zk D_conflicts_of (hr.mono (by decide)) (za (pv 0) zi)))
    (ze (zu (i:=2) sc_tell_conflicts.nd rfl (Or.inl rfl) (qb (za (zW qY (by rfl) T.b_len qX (za (pv 1) zi)) zi)))
    (ze (kQ PassesOwn.never rfl (qi (pv 1)) (Y8 rfl (kf (zS (i:=3) sc_tell_conflicts.nd rfl (Or.inl rfl)) (kf (zS (i:=4) sc_tell_conflicts.nd rfl (Or.inl rfl)) ZJ))) (zj (qA (jL PySem.F.plainAttrs_list PySem.F.slot_list_extend PySem.F.type_list_extend jE (pv 2) (za (qb (za (pv 3) (za (pv 4) (za (zk D_choice_of (hr.mono (by decide)) (za (pv 0) (za (yN (za (pv 3) (za (pv 4) zi))) zi))) zi)))) zi)))))
    (zj (zo (pv 2)))))),?_⟩
   refine⟨_,rfl,G,B,ch,s,rfl,hb,fun H1 p qs s1 n1 r1 pr=>?_⟩
   have hlen:=zx pr
   have hcl:=xC hb.ok
   refine⟨_,rfl,p,_,rfl,.inl (SqL.of r1),(by show 1<=sizeLine;decide),fun q hq=>?_⟩
   have hq0:=s1.free hq
   have s2:=Same.new (o:=.lst [V.int (((qs.map V.ref).length:Nat):Int)]) hq
   refine⟨_,rfl,p,rfl,⟨_,SqL.of (s2 _ _ r1)⟩,jD (K:=K) (a:=p) (xs:=qs.map V.ref)
    (fun i σ H'=>(∃ v3 v4,σ=[some (.ref B.b),some (.ref p),some (.ref q),v3,v4])/\(∀ b o,H1 b=some o->H' b=some o)/\IL H' q (ofNat (Vanbki.conflicts s).length::((Vanbki.conflicts s).take i).flatMap fun x=>[ofNat x.1,ofNat x.2,ofNat (Vanbki.choiceOf s x.1 x.2)]))
    ⟨⟨none,none,rfl⟩,s2,(by rw[IL,zf,List.length_map,hlen];rfl)⟩ (fun i σ H' _ h=>SqL.of (h.2.1 _ _ r1)) ?_ ?_⟩
   . rintro i x σ H' hi ⟨⟨v3,v4,rfl⟩,s3,e3⟩
     obtain⟨y,hy,rfl⟩:=qL hi
     obtain⟨z,hz,ez⟩:=zN pr hy
     have hil:i<13:=by
      have:=(List.getElem?_eq_some_iff.mp hz).1
      omega
     refine⟨y,_,rfl,SqT.of (s3 _ _ ez),rfl,_,_,rfl,_,_,rfl,rfl,?_⟩
     refine⟨_,rfl,.inl ⟨rfl,_,SqL.of e3⟩,_,rfl,_,rfl,_,rfl,_,rfl,_,rfl,(by show 2<=sizeLine;decide),fun t ht=>?_⟩
     have s4:=Same.new (o:=.tup [.int (z.1:Nat),.int (z.2:Nat)]) ht
     refine⟨G,B,ch,s,t,z,rfl,hb.mono (s1.trans (Same.trans s3 s4)),zf,(by show 3<=sizeLine;decide),fun u hu'=>?_⟩
     have s5:=Same.new (o:=.lst [.int (z.1:Nat),.int (z.2:Nat),.int (Vanbki.choiceOf s z.1 z.2:Nat)]) hu'
     have e5:=s5 _ _ (s4 _ _ e3)
     have hfl:(((Vanbki.conflicts s).take i).flatMap fun x=>[ofNat x.1,ofNat x.2,ofNat (Vanbki.choiceOf s x.1 x.2)]).length<=3 * i:=by
      have:=jl (f:=fun x:Nat × Nat=>[ofNat x.1,ofNat x.2,ofNat (Vanbki.choiceOf s x.1 x.2)]) (k:=3) (l:=(Vanbki.conflicts s).take i) (fun x _=>by simp)
      rw[List.length_take] at this
      omega
     refine⟨q,u,_,_,rfl,rfl,e5,zf,(by simp only[List.length_map,List.length_cons,List.length_nil];exact qN (by omega)),?_⟩
     refine⟨⟨_,_,rfl⟩,fun b o eo=>?_,?_⟩
     . rw[zh (zg eo hq)]
       exact s5 _ _ (s4 _ _ (s3 b o eo))
     . rw[IL,zf,zP hz,List.flatMap_append]
       simp[ofNat]
   . rintro σ H' ⟨⟨v3,v4,rfl⟩,s3,e3⟩
     refine⟨_,rfl,k H' q (s1.trans s3) hq0 ?_⟩
     rw[List.length_map,hlen,List.take_length] at e3
     exact e3
theorem V5 (F:Fun K "tell_cells" "tell_cells" yu f fd) (T:Txt K mg C):z_ P w K mg base CX0 1 f fd ["cells"] (xF C):=by
 refine F.ok sc_tell_cells (fun vs H Q E h=>?_) (fun cdv A outer s H vs Q E hr h=>?_)
 . obtain⟨l,as,d,rfl,_⟩:=h
   rfl
 . obtain⟨l,as,d,rfl,hl,hc,hz,ht,k⟩:=h
   refine⟨_,(ze (zu (i:=1) sc_tell_cells.nd rfl (Or.inl rfl) (qb (za (zW qY (by rfl) T.b_len qX (za (pv 0) zi)) zi)))
    (ze (kQ PassesOwn.never rfl (qi (pv 0)) (zS (i:=2) sc_tell_cells.nd rfl (Or.inl rfl)) (ze (qA (jL PySem.F.plainAttrs_list PySem.F.slot_list_extend PySem.F.type_list_extend jE (pv 1) (za (qb (za (zn (pv 2) rfl) (za (zn (pv 2) rfl) (za (zW qY (by rfl) T.b_len qX (za (zn (pv 2) rfl) zi)) zi)))) zi)))
    (zj (qA (jL PySem.F.plainAttrs_list PySem.F.slot_list_extend PySem.F.type_list_extend jE (pv 1) (za (zn (pv 2) rfl) zi))))))
    (zj (zo (pv 1))))),?_⟩
   have hlen:=zx hc
   refine⟨_,rfl,l,_,rfl,.inl (SqL.of hl),(by show 1<=sizeLine;decide),fun q hq=>?_⟩
   have s2:=Same.new (o:=.lst [V.int (((as.map V.ref).length:Nat):Int)]) hq
   refine⟨_,rfl,l,rfl,⟨_,SqL.of (s2 _ _ hl)⟩,jD (K:=K) (a:=l) (xs:=as.map V.ref)
    (fun i σ H'=>(∃ v,σ=[some (.ref l),some (.ref q),v])/\Same H H'/\IL H' q (ofNat d.length::(d.take i).flatMap fun c=>ofNat c.number::ofNat (markNat c.hidden)::Vanbki.tellText c.text))
    ⟨⟨none,rfl⟩,s2,(by rw[IL,zf,List.length_map,hlen];rfl)⟩ (fun i σ H' _ h=>SqL.of (h.2.1 _ _ hl)) ?_ ?_⟩
   . rintro i x σ H' hi ⟨⟨v,rfl⟩,s3,e3⟩
     obtain⟨a,ha,rfl⟩:=qL hi
     obtain⟨c,hc1,dx,tq,e1,e2⟩:=zN hc ha
     have hil:i<d.length:=(List.getElem?_eq_some_iff.mp hc1).1
     have hct:=ht c (List.mem_of_getElem? hc1)
     have hfl:((d.take i).flatMap fun c=>ofNat c.number::ofNat (markNat c.hidden)::Vanbki.tellText c.text).length<=i * 203:=by
      have:=jl (f:=fun c:Vanbki.Cell=>ofNat c.number::ofNat (markNat c.hidden)::Vanbki.tellText c.text) (k:=203) (l:=d.take i) (fun x hx=>by
       have:=ht x (List.mem_of_mem_take hx)
       simp only[List.length_cons,jV]
       omega)
      rw[List.length_take,Nat.min_eq_left (by omega)] at this
      exact this
     have e1':=s3 _ _ e1
     refine⟨_,rfl,.inl ⟨rfl,_,SqL.of e3⟩,_,rfl,a,C.cCell,dx,_,_,rfl,e1',T.c_Cell,T.n_Cell_number,zK _ _ _,_,rfl,a,C.cCell,dx,_,_,rfl,e1',T.c_Cell,T.n_Cell_mark,qz _ _ _,_,rfl,a,C.cCell,dx,_,_,rfl,e1',T.c_Cell,T.n_Cell_text,zV _ _ _,tq,_,rfl,.inl (SqL.of (s3 _ _ e2)),(by show 3<=sizeLine;decide),fun u hu'=>?_⟩
     have s5:=Same.new (o:=.lst [.int (c.number:Nat),.int (markNat c.hidden:Nat),.int ((((nats c.text).map V.int).length:Nat):Int)]) hu'
     refine⟨q,u,_,_,rfl,rfl,s5 _ _ e3,zf,(by simp only[List.length_map,List.length_cons,List.length_nil];exact qN (by omega)),?_⟩
     have aq:a≠q:=zg e1 hq
     have tqq:tq≠q:=zg e2 hq
     have e1'':upd (upd H' u (.lst [.int (c.number:Nat),.int (markNat c.hidden:Nat),.int ((((nats c.text).map V.int).length:Nat):Int)])) q (.lst ((ofNat d.length::(d.take i).flatMap fun c=>ofNat c.number::ofNat (markNat c.hidden)::Vanbki.tellText c.text).map V.int++[.int (c.number:Nat),.int (markNat c.hidden:Nat),.int ((((nats c.text).map V.int).length:Nat):Int)])) a=some (.ins C.cCell dx (kb c.number (markNat c.hidden) tq)):=by
      rw[zh aq]
      exact s5 _ _ e1'
     refine⟨_,rfl,.inl ⟨rfl,_,SqL.of zf⟩,_,rfl,a,C.cCell,dx,_,_,rfl,e1'',T.c_Cell,T.n_Cell_text,zV _ _ _,q,tq,_,_,rfl,rfl,zf,(by rw[zh tqq];exact s5 _ _ (s3 _ _ e2)),(by simp only[List.length_append,List.length_map,List.length_cons,List.length_nil,nats];exact qN (by omega)),?_⟩
     refine⟨⟨_,rfl⟩,fun b o eo=>?_,?_⟩
     . rw[kj,zh (zg eo hq)]
       exact s5 _ _ (s3 b o eo)
     . rw[IL,zf,zP hc1,List.flatMap_append]
       simp[ofNat,Vanbki.tellText,nats]
   . rintro σ H' ⟨⟨v,rfl⟩,s3,e3⟩
     refine⟨_,rfl,k H' q s3 hq ?_⟩
     rw[List.length_map,hlen,List.take_length] at e3
     exact e3
theorem QQ {f1:Addr}{fd1:FuncData} (F:Fun K "tell_document" "tell_document" ko f fd) (T:Txt K mg C) (D_tell_cells:Def P w K mg base "tell_cells" 1 ["cells"] (xF C) f1 fd1):z_ P w K mg base CX0 2 f fd ["books","which"] (xQ C):=by
 refine F.ok QK (fun vs H Q E h=>?_) (fun cdv A outer s H vs Q E hr h=>?_)
 . obtain⟨G,B,ch,s,n,rfl,_⟩:=h
   rfl
 . obtain⟨G,B,ch,s,n,rfl,hb,k⟩:=h
   have hu:=jR hr
   refine⟨_,(ze (zI (zz qT (pv 1) (pgi T.g_BASE_DOCUMENT) (zF _)) (zj (zo (zk D_tell_cells (hr.mono (by decide)) (za (zn (pv 0) rfl) zi)))) zw)
    (ze (zI (qJ (vt hu (pv 1) (zn (pv 0) rfl))) (zj (zo (qb (za (pgi T.g_NO_DOCUMENT) zi)))) zw)
    (zj (zo (zk D_tell_cells (hr.mono (by decide)) (za (zn (qk hu (zn (pv 0) rfl) (pv 1) (fun _ _=>rfl)) rfl) zi)))))),?_⟩
   have k:∀ H' p,Same H H'->H p=none->IL H' p (enc (if n=0 then (s,Vanbki.tellDoc s.base) else if Vanbki.noSide n=true then (s,⟨-19,[]⟩) else (s,Vanbki.tellDoc (Vanbki.sideDoc s n))).2)->Q (.ref p) H':=k
   refine⟨_,rfl,rfl,_,rfl,u6 (fun hh=>?_) (fun hh=>?_)⟩
   . have e:n=0:=by simpa using hh
     rw[if_pos e] at k
     obtain⟨as0,r0,c0,_⟩:=hb.d0
     exact Yv T hb rfl ⟨B.lb,as0,s.base,rfl,r0,c0,(by have:=hb.ok.b.len;omega),fun c hc=>(hb.ok.b.txt c hc).1,k⟩
   . have e:¬n=0:=by simpa using hh
     rw[if_neg e] at k
     obtain⟨dxb,eb⟩:=hb.bk
     refine⟨_,rfl,_,rfl,B.b,C.cBooks,dxb,_,_,rfl,eb,T.c_Books,T.n_Books_sides,zJ _ _ _,B.ds,_,rfl,yU hb.sd n,_,rfl,?_⟩
     rw[vy]
     cases hn:Vanbki.noSide n with
     | true =>
      rw[hn] at k
      exact zM ⟨(by show 1<=sizeLine;decide),fun p hp=>k _ p (Same.new hp) hp zf⟩
     | false =>
      rw[hn] at k
      obtain⟨as,r,c,_⟩:=hb.dS n
      have D:=qa hb.ok n
      exact zE (Ku T hb hn rfl rfl ⟨zT B n,as,_,rfl,r,c,(by have:=D.len;omega),fun c hc=>(D.txt c hc).1,k⟩)
theorem V6 (F:Fun K "difference" "difference" yw f fd) (T:Txt K mg C):z_ P w K mg base CX0 1 f fd ["base_cell","cell"] (uW C):=by
 refine F.ok V2 (fun vs H Q E h=>?_) (fun cdv A outer s H vs Q E hr h=>?_)
 . obtain⟨a,v,c,o,rfl,_⟩:=h
   rfl
 . obtain⟨a,v,c,o,rfl,⟨dx1,q1,e1,t1⟩,ho,k⟩:=h
   refine⟨_,(ze (zI (qJ (jJ (pv 1))) (zj (zo (pgi T.g_DROPPED))) zw)
    (ze (zI (zz (wV hr.units) (zn (pv 1) rfl) (zn (pv 0) rfl) (zF _)) (zj (zo (jQ (zz qT (zn (pv 1) rfl) (zn (pv 0) rfl) (zF _)) (pgi T.g_UNCHANGED) (pgi T.g_MARK_DIFFERS)))) zw)
    (zj (zo (jQ (zz qT (zn (pv 1) rfl) (zn (pv 0) rfl) (zF _)) (pgi T.g_TEXT_DIFFERS) (pgi T.g_BOTH_DIFFER)))))),?_⟩
   cases o with
   | none =>
    have ho:v=.non:=ho
    subst ho
    exact⟨_,rfl,_,rfl,zM k⟩
   | some x =>
    obtain⟨b,rfl,dx2,q2,e2,t2⟩:=ho
    refine⟨_,rfl,_,rfl,zE ?_⟩
    refine⟨_,rfl,b,C.cCell,dx2,_,_,rfl,e2,T.c_Cell,T.n_Cell_text,zV _ _ _,_,rfl,a,C.cCell,dx1,_,_,rfl,e1,T.c_Cell,T.n_Cell_text,zV _ _ _,_,_,vU t2,vU t1,qh _,qh _,_,rfl,?_⟩
    rw[vP]
    have k:Q (.int ((if x.text=c.text then (if x.hidden=c.hidden then 0 else 4) else if x.hidden=c.hidden then 3 else 5:Nat):Int)) H:=k
    have em:decide (V.int (markNat x.hidden:Nat)=V.int (markNat c.hidden:Nat))=decide (x.hidden=c.hidden):=by
     cases x.hidden <;> cases c.hidden <;> simp[markNat]
    have rdm:∀ (R1 R2:Prop),(x.hidden=c.hidden->R1)->(¬x.hidden=c.hidden->R2)->if decide (V.int (markNat x.hidden:Nat)=V.int (markNat c.hidden:Nat))=true then R1 else R2:=fun R1 R2 h1 h2=>by
     rw[em]
     exact u6 (fun z=>h1 (of_decide_eq_true z)) (fun z=>h2 (fun y=>z (decide_eq_true y)))
    by_cases h:x.text=c.text
    . rw[decide_eq_true (by rw[h])]
      rw[if_pos h] at k
      refine zM ⟨_,rfl,b,C.cCell,dx2,_,_,rfl,e2,T.c_Cell,T.n_Cell_mark,qz _ _ _,_,rfl,a,C.cCell,dx1,_,_,rfl,e1,T.c_Cell,T.n_Cell_mark,qz _ _ _,rfl,_,rfl,rdm _ _ (fun z=>?_) (fun z=>?_)⟩
      . rw[if_pos z] at k
        exact k
      . rw[if_neg z] at k
        exact k
    . rw[decide_eq_false (fun z=>h (kP z))]
      rw[if_neg h] at k
      refine zE ⟨_,rfl,b,C.cCell,dx2,_,_,rfl,e2,T.c_Cell,T.n_Cell_mark,qz _ _ _,_,rfl,a,C.cCell,dx1,_,_,rfl,e1,T.c_Cell,T.n_Cell_mark,qz _ _ _,rfl,_,rfl,rdm _ _ (fun z=>?_) (fun z=>?_)⟩
      . rw[if_pos z] at k
        exact k
      . rw[if_neg z] at k
        exact k
theorem uI (F:Fun K "in_another_order" "in_another_order" ju f fd) (T:Txt K mg C):z_ P w K mg base CX0 1 f fd ["base_numbers","side_numbers"] (ye):=by
 refine F.ok sc_in_another_order (fun vs H Q E h=>?_) (fun cdv A outer s H vs Q E hr h=>?_)
 . obtain⟨a,b,l,m,rfl,_⟩:=h
   rfl
 . obtain⟨a,b,l,m,rfl,ha,hb,zl,zm,k⟩:=h
   refine⟨_,(ze (vR (i:=2) rfl sc_in_another_order.nd rfl rfl (y_ rfl rfl rfl rfl) (qi (pv 0)) (qE (own:=[("number",3)]) (by kernel_rfl)) (fun _ _ _ _ _=>(zS (i:=3) sc_in_another_order.nd rfl (Or.inl rfl))) (fun _ _ _ _ _=>w6 (zz (Zc (K:=K) rfl) (pv 3) (pv 1) rfl)) (fun _ _ _ _ _=>(pv 3)))
    (ze (vR (i:=4) rfl sc_in_another_order.nd rfl rfl (y_ rfl rfl rfl rfl) (qi (pv 1)) (qE (own:=[("number",3)]) (by kernel_rfl)) (fun _ _ _ _ _=>(zS (i:=3) sc_in_another_order.nd rfl (Or.inl rfl))) (fun _ _ _ _ _=>w6 (zz (Zc (K:=K) rfl) (pv 3) (pv 0) rfl)) (fun _ _ _ _ _=>(pv 3)))
    (zj (zo (uv (acx hr.units) (pv 2) (pv 4) (zF _)))))),?_⟩
   have lenN:∀ d:List Nat,((nats d).map V.int).length=d.length:=fun d=>by simp[nats]
   refine⟨_,rfl,a,rfl,⟨_,SqL.of ha⟩,fun D hD=>?_⟩
   refine J5 (K:=K) (xs:=(nats l).map V.int) (l.map fun n=>if decide (n∈m)=true then some (V.int n) else none) (by simp[nats]) (SqL.of ha) hD (by rw[lenN];exact qU (by omega)) (fun i x y H' P' N hi hy s5 hP hN=>?_) (fun H1 s1 e1=>?_)
   . obtain⟨n,hn,rfl⟩:=yS hi
     rw[List.getElem?_map,hn] at hy
     have ey:y=if decide (n∈m)=true then some (V.int n) else none:=(Option.some.inj hy).symm
     refine⟨rfl,_,rfl,_,rfl,b,_,rfl,.inl (SqL.of (s5 _ _ hb)),rfl,jG _,_,rfl,?_⟩
     simp only[Bool.false_eq_true,if_false]
     rw[kh]
     by_cases h2:n∈m
     . rw[decide_eq_true h2] at ey ⊢
       exact zM ⟨_,rfl,hP _ ey _ (Same.refl _)⟩
     . rw[decide_eq_false h2] at ey ⊢
       exact zE (hN ey _ (Same.refl _))
   rw[xP l fun n=>decide (n∈m)] at e1
   refine⟨_,rfl,b,rfl,⟨_,SqL.of (s1 _ _ hb)⟩,fun D2 hD2=>?_⟩
   refine J5 (K:=K) (xs:=(nats m).map V.int) (m.map fun n=>if decide (n∈l)=true then some (V.int n) else none) (by simp[nats]) (SqL.of (s1 _ _ hb)) hD2 (by rw[lenN];exact qU (by omega)) (fun i x y H' P' N hi hy s5 hP hN=>?_) (fun H2 s2 e2=>?_)
   . obtain⟨n,hn,rfl⟩:=yS hi
     rw[List.getElem?_map,hn] at hy
     have ey:y=if decide (n∈l)=true then some (V.int n) else none:=(Option.some.inj hy).symm
     refine⟨rfl,_,rfl,_,rfl,a,_,rfl,.inl (SqL.of (s5 _ _ (s1 _ _ ha))),rfl,jG _,_,rfl,?_⟩
     simp only[Bool.false_eq_true,if_false]
     rw[kh]
     by_cases h2:n∈l
     . rw[decide_eq_true h2] at ey ⊢
       exact zM ⟨_,rfl,hP _ ey _ (Same.refl _)⟩
     . rw[decide_eq_false h2] at ey ⊢
       exact zE (hN ey _ (Same.refl _))
   rw[xP m fun n=>decide (n∈l)] at e2
   refine⟨_,rfl,_,rfl,_,_,vU (s2 _ _ e1),vU e2,qh _,qh _,?_⟩
   rw[vP]
   have q:=k H2 (s1.trans s2)
   have e3:(!decide (nats (l.filter fun n=>decide (n∈m))=nats (m.filter fun n=>decide (n∈l))))=((l.filter fun n=>decide (n∈m)) != m.filter fun n=>decide (n∈l)):=by
    by_cases h:(l.filter fun n=>decide (n∈m))=m.filter fun n=>decide (n∈l)
    . rw[h]
      simp
    . rw[decide_eq_false (fun z=>h (kP z))]
      simp[h]
   rw[e3]
   exact q
end
end Tb
end
section
namespace Tb
open PySem PySem.Spec PyProof.Rows L2
open Vanbki (nats ofNat markNat numbers)
def Q3 (x:Nat × Nat):List Int:=[ofNat x.1,ofNat x.2]
theorem uB (l:List (Nat × Nat)):(l.flatMap Q3).length=2 * l.length:=by
 induction l with
 | nil=>rfl
 | cons a r ih =>
  rw[List.flatMap_cons,List.length_append,ih,List.length_cons]
  show 2+_=_
  omega
def vf (b d:Vanbki.Doc):List (Nat × Nat):=b.filterMap fun c=>if ve c (Vanbki.find d c.number)=0 then none else some (c.number,ve c (Vanbki.find d c.number))
theorem Q4 (b d:Vanbki.Doc):(vf b d).length<=b.length:=List.length_filterMap_le _ _
theorem uX (b d:Vanbki.Doc) (c:Vanbki.Cell):vf (b++[c]) d=vf b d++(if ve c (Vanbki.find d c.number)=0 then [] else [(c.number,ve c (Vanbki.find d c.number))]):=by
 unfold vf
 rw[List.filterMap_append]
 by_cases h:ve c (Vanbki.find d c.number)=0
 . simp[h]
 . simp[h]
def vJ (b d:Vanbki.Doc):List (Nat × Nat):=(d.filter fun x=>!Vanbki.has b x.number).map fun x=>(x.number,2)
theorem J7 (b d:Vanbki.Doc):(vJ b d).length<=d.length:=by
 unfold vJ
 rw[List.length_map]
 exact List.length_filter_le _ _
theorem Q5 (b d:Vanbki.Doc) (c:Vanbki.Cell):vJ b (d++[c])=vJ b d++(if Vanbki.has b c.number=true then [] else [(c.number,2)]):=by
 unfold vJ
 rw[List.filter_append,List.map_append]
 cases h:Vanbki.has b c.number <;> simp[h]
theorem ue (b d:Vanbki.Doc):Vanbki.differences b d=vf b d++vJ b d:=by
 exact congrArg (·++vJ b d) (abh b d)
section
variable {P:Program}{w:World}{K:PySem.W.Frag}{mg:Str->Option Value}{base:Heap}{C:Ad}{f:Addr}{fd:FuncData}
theorem Jv {f1:Addr}{fd1:FuncData}{f2:Addr}{fd2:FuncData}{f3:Addr}{fd3:FuncData}{f4:Addr}{fd4:FuncData} (F:Fun K "tell_changes" "tell_changes" v0 f fd) (T:Txt K mg C) (D_numbers_of:Def P w K mg base "numbers_of" 1 ["cells"] (jF C) f1 fd1) (D_difference:Def P w K mg base "difference" 1 ["base_cell","cell"] (uW C) f2 fd2) (D_in_another_order:Def P w K mg base "in_another_order" 1 ["base_numbers","side_numbers"] (ye) f3 fd3) (D_cell_of:Def P w K mg base "cell_of" 2 ["cells","number"] (vv C) f4 fd4):z_ P w K mg base CX0 3 f fd ["books","side"] (wx C):=by
 refine F.ok sc_tell_changes (fun vs H Q E h=>?_) (fun cdv A outer s H vs Q E hr h=>?_)
 . obtain⟨G,B,ch,s,n,rfl,_⟩:=h
   rfl
 . obtain⟨G,B,ch,s,n,rfl,hb,k⟩:=h
   have hu:=jR hr
   refine⟨_,(ze (zI (qJ (vt hu (pv 1) (zn (pv 0) rfl))) (zj (zo (qb (za (pgi T.g_NO_SIDE) zi)))) zw)
    (ze (zu (i:=2) sc_tell_changes.nd rfl (Or.inl rfl) (zn (qk hu (zn (pv 0) rfl) (pv 1) (fun _ _=>rfl)) rfl))
    (ze (zu (i:=3) sc_tell_changes.nd rfl (Or.inl rfl) (qb zi))
    (ze (kQ PassesOwn.never rfl (qi (zn (pv 0) rfl)) (zS (i:=4) sc_tell_changes.nd rfl (Or.inl rfl)) (ze (zu (i:=5) sc_tell_changes.nd rfl (Or.inl rfl) (zk D_difference (hr.mono (by decide)) (za (pv 4) (za (zk D_cell_of (hr.mono (by decide)) (za (pv 2) (za (zn (pv 4) rfl) zi))) zi))))
    (zj (zI (zz yM (pv 5) (pgi T.g_UNCHANGED) (zF _)) (zj (qA (jL PySem.F.plainAttrs_list PySem.F.slot_list_extend PySem.F.type_list_extend jE (pv 3) (za (qb (za (zn (pv 4) rfl) (za (pv 5) zi))) zi)))) zw))))
    (ze (zu (i:=6) sc_tell_changes.nd rfl (Or.inl rfl) (zk D_numbers_of (hr.mono (by decide)) (za (zn (pv 0) rfl) zi)))
    (ze (kQ PassesOwn.never rfl (qi (pv 2)) (zS (i:=7) sc_tell_changes.nd rfl (Or.inl rfl)) (zj (zI (zz ZN (zn (pv 7) rfl) (pv 6) rfl) (zj (qA (jL PySem.F.plainAttrs_list PySem.F.slot_list_extend PySem.F.type_list_extend jE (pv 3) (za (qb (za (zn (pv 7) rfl) (za (pgi T.g_NEW_telling) zi))) zi)))) zw)))
    (ze (zu (i:=8) sc_tell_changes.nd rfl (Or.inl rfl) (jQ (QE (zk D_in_another_order (hr.mono (by decide)) (za (pv 6) (za (zk D_numbers_of (hr.mono (by decide)) (za (pv 2) zi)) zi)))) zH zH))
    (zj (zo (jK yO (qb (za (pv 8) (za (jK abG (zW qY (by rfl) T.b_len qX (za (pv 3) zi)) zH) zi))) (pv 3))))))))))),?_⟩
   obtain⟨dxb,eb⟩:=hb.bk
   refine⟨_,rfl,_,rfl,B.b,C.cBooks,dxb,_,_,rfl,eb,T.c_Books,T.n_Books_sides,zJ _ _ _,B.ds,_,rfl,yU hb.sd n,_,rfl,?_⟩
   rw[vy]
   have k:∀ H' p,Same H H'->H p=none->IL H' p (enc (if Vanbki.noSide n=true then (s,⟨-8,[]⟩) else (s,⟨ofNat (markNat (Vanbki.moved s.base (Vanbki.sideDoc s n))),ofNat (Vanbki.differences s.base (Vanbki.sideDoc s n)).length::(Vanbki.differences s.base (Vanbki.sideDoc s n)).flatMap fun x=>[ofNat x.1,ofNat x.2]⟩):Vanbki.State × Vanbki.Answer).2)->Q (.ref p) H':=k
   cases hn:Vanbki.noSide n with
   | true =>
    rw[hn] at k
    exact zM ⟨(by show 1<=sizeLine;decide),fun p hp=>k _ p (Same.new hp) hp zf⟩
   | false =>
    rw[hn] at k
    have k:∀ H' p,Same H H'->H p=none->IL H' p (ofNat (markNat (Vanbki.moved s.base (Vanbki.sideDoc s n)))::ofNat (Vanbki.differences s.base (Vanbki.sideDoc s n)).length::(Vanbki.differences s.base (Vanbki.sideDoc s n)).flatMap Q3)->Q (.ref p) H':=k
    obtain⟨as0,r0,c0,_⟩:=hb.d0
    obtain⟨as,r,c,_⟩:=hb.dS n
    have D:=qa hb.ok n
    have z0:=hb.ok.b.len
    have z1:=D.len
    have len0:=zx c0
    have JA:=zx c
    generalize hd:Vanbki.sideDoc s n=d at *
    refine zE ?_
    refine Ku T hb hn rfl rfl ?_
    refine⟨Nat.zero_le _,fun q hq=>?_⟩
    have s0:=Same.new (o:=.lst []) hq
    refine⟨_,rfl,B.b,C.cBooks,dxb,_,_,rfl,s0 _ _ eb,T.c_Books,T.n_Books_base_cells,qZ _ _ _,B.lb,rfl,⟨_,SqL.of (s0 _ _ r0)⟩,jD (K:=K) (a:=B.lb) (xs:=as0.map V.ref)
     (fun i σ H'=>(∃ v4 v5,σ=[some (.ref B.b),some (.int n),some (.ref (zT B n)),some (.ref q),v4,v5,none,none,none])/\Same H H'/\IL H' q ((vf (s.base.take i) d).flatMap Q3))
     ⟨⟨none,none,rfl⟩,s0,zf⟩ (fun i σ H' _ h=>SqL.of (h.2.1 _ _ r0)) ?_ ?_⟩
    . rintro i x σ H' hi ⟨⟨v4,v5,rfl⟩,s1,e1⟩
      obtain⟨a,ha,rfl⟩:=qL hi
      obtain⟨c',hc',hca⟩:=zN c0 ha
      obtain⟨dx,tq,ec,et⟩:=id hca
      have hil:i<12:=by
       have:=(List.getElem?_eq_some_iff.mp hc').1
       omega
      refine⟨_,rfl,_,rfl,_,rfl,a,C.cCell,dx,_,_,rfl,s1 _ _ ec,T.c_Cell,T.n_Cell_number,zK _ _ _,zT B n,as,d,_,rfl,s1 _ _ r,c.mono s1,fun H2 x s2 o2=>?_⟩
      have o2:=OptCell.mono s2 (o2 H' (Same.refl _) (c.mono s1))
      rw[vo] at o2
      have s12:=s1.trans s2
      refine⟨a,x,c',_,rfl,hca.mono s12,o2,?_⟩
      have e1':=s2 _ _ e1
      have hfm:(vf (s.base.take i) d).length<=12:=by
       have:=Q4 (s.base.take i) d
       rw[List.length_take] at this
       omega
      refine⟨_,rfl,rfl,_,rfl,u6 (fun hh=>?_) (fun hh=>?_)⟩
      . have e:ve c' (Vanbki.find d c'.number)≠0:=fun z=>by rw[z] at hh;exact absurd hh (by decide)
        refine⟨_,rfl,.inl ⟨rfl,_,SqL.of e1'⟩,_,rfl,a,C.cCell,dx,_,_,rfl,s12 _ _ ec,T.c_Cell,T.n_Cell_number,zK _ _ _,_,rfl,(by show 2<=sizeLine;decide),fun u hu'=>?_⟩
        have s3:=Same.new (o:=.lst [.int (c'.number:Nat),.int (ve c' (Vanbki.find d c'.number):Nat)]) hu'
        refine⟨q,u,_,_,rfl,rfl,s3 _ _ e1',zf,(by rw[List.length_map,uB];simp only[List.length_cons,List.length_nil];exact qN (by omega)),?_⟩
        refine⟨⟨_,_,rfl⟩,fun b o eo=>?_,?_⟩
        . rw[zh (zg eo hq)]
          exact s3 _ _ (s12 b o eo)
        . rw[IL,zf,zP hc',uX,if_neg e,List.flatMap_append]
          simp[Q3,ofNat]
      . have e:ve c' (Vanbki.find d c'.number)=0:=by
         by_cases z:ve c' (Vanbki.find d c'.number)=0
         . exact z
         . exfalso
           apply hh
           have:¬(V.int (ve c' (Vanbki.find d c'.number):Nat)=V.int 0):=by
            intro q
            injection q with q
            omega
           simp[this]
        refine⟨⟨_,_,rfl⟩,s12,?_⟩
        rw[zP hc',uX,if_pos e,List.append_nil]
        exact e1'
    . rintro σ H1 ⟨⟨v4,v5,rfl⟩,s1,e1⟩
      rw[List.length_map,len0,List.take_length] at e1
      refine Yv T (hb.mono s1) rfl ⟨B.lb,as0,s.base,rfl,s1 _ _ r0,c0.mono s1,(by omega),fun H2 p s2 hp e2=>?_⟩
      have s12:=s1.trans s2
      have e1':=s2 _ _ e1
      have hdl:(vf s.base d).length<=12:=Nat.le_trans (Q4 _ _) z0
      refine⟨_,rfl,zT B n,rfl,⟨_,SqL.of (s12 _ _ r)⟩,jD (K:=K) (a:=zT B n) (xs:=as.map V.ref)
       (fun i σ H'=>(∃ v7,σ=[some (.ref B.b),some (.int n),some (.ref (zT B n)),some (.ref q),v4,v5,some (.ref p),v7,none])/\Same H H'/\IL H' p (nats (numbers s.base))/\IL H' q (((vf s.base d)++vJ s.base (d.take i)).flatMap Q3))
       ⟨⟨none,rfl⟩,s12,e2,(by simpa [vJ] using e1')⟩ (fun i σ H' _ h=>SqL.of (h.2.1 _ _ r)) ?_ ?_⟩
      . rintro i x σ H' hi ⟨⟨v7,rfl⟩,s3,ep,eq⟩
        obtain⟨a,ha,rfl⟩:=qL hi
        obtain⟨c',hc',dx,tq,ec,et⟩:=zN c ha
        have hil:i<12:=by
         have:=(List.getElem?_eq_some_iff.mp hc').1
         omega
        have ec':=s3 _ _ ec
        refine⟨_,rfl,a,C.cCell,dx,_,_,rfl,ec',T.c_Cell,T.n_Cell_number,zK _ _ _,_,rfl,p,_,rfl,.inl (SqL.of ep),rfl,jG _,_,rfl,?_⟩
        simp only[if_true]
        rw[kh,<-xr]
        have hfl:(vJ s.base (d.take i)).length<=12:=by
         have:=J7 s.base (d.take i)
         rw[List.length_take] at this
         omega
        cases hh:Vanbki.has s.base c'.number with
        | false =>
         refine zM ⟨_,rfl,.inl ⟨rfl,_,SqL.of eq⟩,_,rfl,a,C.cCell,dx,_,_,rfl,ec',T.c_Cell,T.n_Cell_number,zK _ _ _,(by show 2<=sizeLine;decide),fun u hu'=>?_⟩
         have s4:=Same.new (o:=.lst [.int (c'.number:Nat),.int 2]) hu'
         refine⟨q,u,_,_,rfl,rfl,s4 _ _ eq,zf,(by rw[List.length_map,uB,List.length_append];simp only[List.length_cons,List.length_nil];exact qN (by omega)),?_⟩
         refine⟨⟨_,rfl⟩,fun b o eo=>?_,?_,?_⟩
         . rw[zh (zg eo hq)]
           exact s4 _ _ (s3 b o eo)
         . have pq:p≠q:=fun z=>by
            have h1:=s1.free (l:=p) hp
            rw[z] at hp
            rw[IL,hp] at e1
            cases e1
           rw[IL,zh pq]
           exact s4 _ _ ep
         . rw[IL,zf,zP hc',Q5,hh]
           simp[Q3,ofNat]
        | true =>
         refine zE ⟨⟨_,rfl⟩,s3,ep,?_⟩
         rw[zP hc',Q5,hh,if_pos rfl,List.append_nil]
         exact eq
      . rintro σ H3 ⟨⟨v7,rfl⟩,s3,ep,eq⟩
        rw[List.length_map,JA,List.take_length] at eq
        rw[<-ue] at eq
        refine⟨_,rfl,_,rfl,zT B n,as,d,rfl,s3 _ _ r,c.mono s3,(by omega),fun H4 p4 s4 hp4 e4=>?_⟩
        refine⟨p,p4,numbers s.base,numbers d,rfl,s4 _ _ ep,e4,(by rw[jg];omega),(by rw[jg];omega),fun H5 s5=>?_⟩
        have s45:=s4.trans s5
        have em:((numbers s.base).filter (fun n=>decide (n∈numbers d)) != (numbers d).filter fun n=>decide (n∈numbers s.base))=Vanbki.moved s.base d:=by
         unfold Vanbki.moved
         simp only[xr]
        rw[em]
        have hdl2:(Vanbki.differences s.base d).length<=24:=by
         rw[ue,List.length_append]
         have:=J7 s.base d
         omega
        have fin:∀ m:Nat,m=markNat (Vanbki.moved s.base d)->(Y7 (tOp adb (ac8 (qD (qC 8) (qD (tOp (rI ac4 fun i j=>.int (i / j)) (tCB (ab0 K) (qD (qC 3) xL)) (tC (.int 2))) xL))) (qC 3))) { nx:=fun _ H'=>Q .non H',rt:=Q } [some (.ref B.b),some (.int n),some (.ref (zT B n)),some (.ref q),v4,v5,some (.ref p),v7,some (.int (m:Nat))] H5:=fun m em=>by
         refine⟨_,rfl,_,rfl,q,_,rfl,.inl (SqL.of (s45 _ _ eq)),_,_,rfl,rfl,⟨by decide,by decide⟩,(by show 2<=sizeLine;decide),fun u hu'=>?_⟩
         have s6:=Same.new (o:=.lst [.int (m:Nat),.int (((((Vanbki.differences s.base d).flatMap Q3).map V.int).length:Nat) / 2:Int)]) hu'
         refine⟨_,rfl,u,q,_,_,rfl,rfl,zf,s6 _ _ (s45 _ _ eq),(by rw[List.length_map,uB];simp only[List.length_cons,List.length_nil];exact qN (by omega)),fun y hy=>?_⟩
         refine k _ y (s3.trans (s45.trans (s6.trans (Same.new hy)))) ((s3.trans (s45.trans s6)).free hy) ?_
         rw[IL,zf]
         show some (HO.lst ([V.int (m:Nat),V.int (((((Vanbki.differences s.base d).flatMap Q3).map V.int).length:Int) / 2)]++_))=_
         have e2:((((Vanbki.differences s.base d).flatMap Q3).map V.int).length:Int) / 2=ofNat (Vanbki.differences s.base d).length:=by
          rw[List.length_map,uB]
          unfold ofNat
          omega
         rw[e2,em]
         rfl
        cases hm:Vanbki.moved s.base d with
        | true=>exact⟨_,rfl,zM (fin 1 (by rw[hm];rfl))⟩
        | false=>exact⟨_,rfl,zE (fin 0 (by rw[hm];rfl))⟩
theorem Kv {f1:Addr}{fd1:FuncData}{f2:Addr}{fd2:FuncData} (F:Fun K "tell_change" "tell_change" vF f fd) (T:Txt K mg C) (D_cell_of:Def P w K mg base "cell_of" 2 ["cells","number"] (vv C) f1 fd1) (D_change_of:Def P w K mg base "change_of" 3 ["base_text","side_text"] (wj C) f2 fd2):z_ P w K mg base CX0 4 f fd ["books","side","number"] (uc C):=by
 refine F.ok sc_tell_change (fun vs H Q E h=>?_) (fun cdv A outer s H vs Q E hr h=>?_)
 . obtain⟨G,B,ch,s,n,m,rfl,_⟩:=h
   rfl
 . obtain⟨G,B,ch,s,n,m,rfl,hb,k⟩:=h
   have hu:=jR hr
   refine⟨_,(ze (zI (qJ (vt hu (pv 1) (zn (pv 0) rfl))) (zj (zo (qb (za (pgi T.g_NO_SIDE) zi)))) zw)
    (ze (zu (i:=3) sc_tell_change.nd rfl (Or.inl rfl) (zk D_cell_of (hr.mono (by decide)) (za (zn (pv 0) rfl) (za (pv 2) zi))))
    (ze (zu (i:=4) sc_tell_change.nd rfl (Or.inl rfl) (zk D_cell_of (hr.mono (by decide)) (za (zn (qk hu (zn (pv 0) rfl) (pv 1) (fun _ _=>rfl)) rfl) (za (pv 2) zi))))
    (ze (zI (aaC (qJ (jJ (pv 3))) (Wf (qJ (jJ (pv 4))))).pt (zj (zo (qb (za (pgi T.g_NO_CELL) zi)))) zw)
    (ze (zu (i:=5) sc_tell_change.nd rfl (Or.inl rfl) (zk D_change_of (hr.mono (by decide)) (za (zn (pv 3) rfl) (za (zn (pv 4) rfl) zi))))
    (ze (zu (i:=6) sc_tell_change.nd rfl (Or.inl rfl) (qb (za (zn (pv 5) rfl) (za (zn (pv 5) rfl) (za (zW qY (by rfl) T.b_len qX (za (zn (pv 5) rfl) zi)) zi)))))
    (ze (kQ PassesOwn.never rfl (qi (zn (pv 5) rfl)) (zS (i:=7) sc_tell_change.nd rfl (Or.inl rfl)) (ze (qA (jL PySem.F.plainAttrs_list PySem.F.slot_list_append PySem.F.type_list_append ji (pv 6) (za (zW qY (by rfl) T.b_len qX (za (pv 7) zi)) zi)))
    (zj (qA (jL PySem.F.plainAttrs_list PySem.F.slot_list_extend PySem.F.type_list_extend jE (pv 6) (za (pv 7) zi))))))
    (zj (zo (pv 6)))))))))),?_⟩
   obtain⟨dxb,eb⟩:=hb.bk
   refine⟨_,rfl,_,rfl,B.b,C.cBooks,dxb,_,_,rfl,eb,T.c_Books,T.n_Books_sides,zJ _ _ _,B.ds,_,rfl,yU hb.sd n,_,rfl,?_⟩
   rw[vy]
   have kk:Vanbki.step s (.change n m)=if Vanbki.noSide n=true then (s,⟨-8,[]⟩) else if m<0 then (s,⟨-1,[]⟩) else match Vanbki.find s.base m.toNat,Vanbki.find (Vanbki.sideDoc s n) m.toNat with
    | some b,some x=>(s,Vanbki.tellChange (Vanbki.changeOf (Vanbki.linesOf b.text) (Vanbki.linesOf x.text)))
    | _,_=>(s,⟨-1,[]⟩):=rfl
   rw[kk] at k
   cases hn:Vanbki.noSide n with
   | true =>
    rw[hn] at k
    exact zM ⟨(by show 1<=sizeLine;decide),fun p hp=>k _ p (Same.new hp) hp zf⟩
   | false =>
    rw[hn] at k
    simp only[Bool.false_eq_true,if_false] at k
    obtain⟨as0,r0,c0,_⟩:=hb.d0
    obtain⟨as,r,c,_⟩:=hb.dS n
    have D:=qa hb.ok n
    generalize hd:Vanbki.sideDoc s n=d at *
    refine zE ?_
    refine⟨_,rfl,B.b,C.cBooks,dxb,_,_,rfl,eb,T.c_Books,T.n_Books_base_cells,qZ _ _ _,_,rfl,B.lb,as0,s.base,_,rfl,r0,c0,fun H1 x1 s1 o1=>?_⟩
    have o1:=OptCell.mono s1 (o1 H (Same.refl _) c0)
    refine Ku T (hb.mono s1) hn rfl rfl ⟨_,rfl,zT B n,as,d,_,rfl,s1 _ _ r,c.mono s1,fun H2 x2 s2 o2=>?_⟩
    have o2:=OptCell.mono s2 (o2 H1 (Same.refl _) (c.mono s1))
    have o1:=OptCell.mono s2 o1
    have s12:=s1.trans s2
    have bad:(vi s.base m=none∨vi d m=none)->∀ H' p,Same H H'->H p=none->IL H' p [-1]->Q (.ref p) H':=fun hh H' p s' hp e'=>by
     refine k H' p s' hp ?_
     unfold vi at hh
     by_cases hm:m<0
     . rw[if_pos hm]
       exact e'
     . rw[if_neg hm]
       rw[if_pos (by omega),if_pos (by omega)] at hh
       rcases hh with z | z
       . rw[z]
         exact e'
       . rw[z]
         cases Vanbki.find s.base m.toNat <;> exact e'
    cases e1:vi s.base m with
    | none =>
     rw[e1] at o1
     have o1:x1=.non:=o1
     subst o1
     exact⟨_,rfl,_,rfl,zM (zM ⟨(by show 1<=sizeLine;decide),fun p hp=>bad (.inl e1) _ p (s12.trans (Same.new hp)) (s12.free hp) zf⟩)⟩
    | some b =>
     rw[e1] at o1
     obtain⟨a1,rfl,dx1,q1,f1,t1⟩:=o1
     refine⟨_,rfl,_,rfl,zE ⟨_,rfl,_,rfl,?_⟩⟩
     cases e2:vi d m with
     | none =>
      rw[e2] at o2
      have o2:x2=.non:=o2
      subst o2
      exact zM ⟨(by show 1<=sizeLine;decide),fun p hp=>bad (.inr e2) _ p (s12.trans (Same.new hp)) (s12.free hp) zf⟩
     | some x =>
      rw[e2] at o2
      obtain⟨a2,rfl,dx2,q2,f2,t2⟩:=o2
      have hm:¬m<0:=fun z=>by
       unfold vi at e1
       rw[if_neg (by omega)] at e1
       cases e1
      have g1:Vanbki.find s.base m.toNat=some b:=by
       unfold vi at e1
       rw[if_pos (by omega)] at e1
       exact e1
      have g2:Vanbki.find d m.toNat=some x:=by
       unfold vi at e2
       rw[if_pos (by omega)] at e2
       exact e2
      rw[if_neg hm,g1,g2] at k
      have k:∀ H' p,Same H H'->H p=none->IL H' p (enc (Vanbki.tellChange (Vanbki.changeOf (Vanbki.linesOf b.text) (Vanbki.linesOf x.text))))->Q (.ref p) H':=k
      have tb:=(kz hb.ok.b g1).1
      have tx:=(kz D g2).1
      have zc:=wP (Vanbki.linesOf b.text) (Vanbki.linesOf x.text)
      rw[yi] at zc
      have zl:=Z_ (Vanbki.changeOf (Vanbki.linesOf b.text) (Vanbki.linesOf x.text)).new
      refine zE ?_
      refine⟨_,rfl,a1,C.cCell,dx1,_,_,rfl,f1,T.c_Cell,T.n_Cell_text,zV _ _ _,_,rfl,a2,C.cCell,dx2,_,_,rfl,f2,T.c_Cell,T.n_Cell_text,zV _ _ _,q1,q2,b.text,x.text,rfl,t1,t2,(by omega),(by omega),fun H3 pc s3 ⟨dx3,l3,as3,f3,r3,t3⟩=>?_⟩
      generalize hg:Vanbki.changeOf (Vanbki.linesOf b.text) (Vanbki.linesOf x.text)=g at *
      have WL:=zx t3
      rw[List.length_map] at WL
      refine⟨_,rfl,pc,C.cChange,dx3,_,_,rfl,f3,T.c_Change,T.n_Change_begin,kg _ _ _,_,rfl,pc,C.cChange,dx3,_,_,rfl,f3,T.c_Change,T.n_Change_end,vT _ _ _,_,rfl,pc,C.cChange,dx3,_,_,rfl,f3,T.c_Change,T.n_Change_new_lines,xo _ _ _,l3,_,rfl,.inl (SqL.of r3),(by show 3<=sizeLine;decide),fun q hq=>?_⟩
      have s4:=Same.new (o:=.lst [.int (g.p:Nat),.int (g.q:Nat),.int (((as3.map V.ref).length:Nat):Int)]) hq
      have s03:=s12.trans s3
      refine⟨_,rfl,pc,C.cChange,dx3,_,_,rfl,s4 _ _ f3,T.c_Change,T.n_Change_new_lines,xo _ _ _,l3,rfl,⟨_,SqL.of (s4 _ _ r3)⟩,jD (K:=K) (a:=l3) (xs:=as3.map V.ref)
       (fun i σ H'=>(∃ v7,σ=[some (.ref B.b),some (.int n),some (.int m),some (.ref a1),some (.ref a2),some (.ref pc),some (.ref q),v7])/\Same H3 H'/\IL H' q (ofNat g.p::ofNat g.q::ofNat g.new.length::(g.new.take i).flatMap Vanbki.tellText))
       ⟨⟨none,rfl⟩,s4,(by rw[IL,zf,List.length_map,WL];rfl)⟩ (fun i σ H' _ h=>SqL.of (h.2.1 _ _ r3)) ?_ ?_⟩
      . rintro i y σ H' hi ⟨⟨v7,rfl⟩,s5,eq⟩
        obtain⟨z,hz,rfl⟩:=qL hi
        obtain⟨tt,ht1,ht2⟩:=zN t3 hz
        rw[List.getElem?_map] at ht1
        obtain⟨y,hy,rfl⟩:∃ y,g.new[i]?=some y/\nats y=tt:=by
         cases e:g.new[i]? with
         | none=>rw[e] at ht1;cases ht1
         | some y=>rw[e] at ht1;exact⟨y,rfl,Option.some.inj ht1⟩
        have zq:z≠q:=zg ht2 hq
        have htot:((g.new.take i).flatMap Vanbki.tellText).length+y.length+1<=201:=by
         have e1:g.new=g.new.take i++y::g.new.drop (i+1):=by
          have:=List.take_append_drop i g.new
          rw[List.drop_eq_getElem_cons (List.getElem?_eq_some_iff.mp hy).1,(List.getElem?_eq_some_iff.mp hy).2] at this
          exact this.symm
         have e2:∀ l:List Vanbki.Text,(l.flatMap Vanbki.tellText).length=size l:=fun l=>by
          induction l with
          | nil=>rfl
          | cons a r ih =>
           rw[List.flatMap_cons,List.length_append,ih,jV]
           simp[size]
         rw[e2]
         rw[e1,kG] at zc
         simp[size] at zc ⊢
         omega
        refine⟨_,rfl,.inl ⟨rfl,_,SqL.of eq⟩,_,rfl,z,_,rfl,.inl (SqL.of (s5 _ _ ht2)),q,_,_,rfl,rfl,eq,(by simp only[List.length_map,List.length_cons];exact qU (by omega)),?_⟩
        refine⟨_,rfl,.inl ⟨rfl,_,SqL.of zf⟩,_,rfl,q,z,_,_,rfl,rfl,zf,(by rw[zh zq];exact s5 _ _ ht2),(by simp only[List.length_append,List.length_map,List.length_cons,List.length_nil,nats];exact qN (by omega)),?_⟩
        refine⟨⟨_,rfl⟩,fun b o eo=>?_,?_⟩
        . rw[kj,zh (zg eo hq)]
          exact s5 b o eo
        . rw[IL,zf,zP hy,List.flatMap_append]
          simp[Vanbki.tellText,nats,ofNat]
      . rintro σ H' ⟨⟨v7,rfl⟩,s5,eq⟩
        refine⟨_,rfl,k H' q (s03.trans s5) (s03.free hq) ?_⟩
        rw[List.length_map,WL,List.take_length] at eq
        exact eq
end
end Tb
end
section
namespace Tb
open PySem PySem.Spec PyProof.Rows L2
open Vanbki (nats ofNat markNat numbers)
structure Grow (G H F H':Hp):Prop where
 gf:Same G F
 fh:Same F H'
 nw:∀ a o,F a=some o->G a=some o∨H a=none
theorem Grow.free {G H F H':Hp} (h:Grow G H F H') {a:Addr}{o:HO} (hg:G a=none) (hh:H a=some o):F a=none:=by
 cases e:F a with
 | none=>rfl
 | some u =>
  rcases h.nw a u e with z | z
  . rw[hg] at z
    cases z
  . rw[hh] at z
    cases z
def zY (G H H':Hp):Hp:=fun a=>match G a with
 | some o=>some o
 | none=>match H a with
  | some _=>none
  | none=>H' a
theorem qV {G H H':Hp}{a:Addr} (g:Same G H) (h:H a=none):zY G H H' a=H' a:=by
 unfold zY
 rw[g.free h,h]
theorem qO {G H H':Hp} (g:Same G H) (s:Same H H'):Grow G H (zY G H H') H' where
 gf:=fun a o e=>by
  unfold zY
  rw[e]
 fh:=fun a o e=>by
  unfold zY at e
  cases h1:G a with
  | some u =>
   rw[h1] at e
   rw[<-e]
   exact s _ _ (g _ _ h1)
  | none =>
   rw[h1] at e
   cases h2:H a with
   | some u=>rw[h2] at e;cases e
   | none=>rw[h2] at e;exact e
 nw:=fun a o e=>by
  unfold zY at e
  cases h1:G a with
  | some u =>
   rw[h1] at e
   exact .inl e
  | none =>
   rw[h1] at e
   cases h2:H a with
   | some u=>rw[h2] at e;cases e
   | none=>exact .inr rfl
theorem Grow.minus {G H F H':Hp} (h:Grow G H F H') {D:Addr} (hD:G D=none):Grow G H (minus F D) H' where
 gf:=Tb.Same.minus h.gf hD
 fh:=(yQ _ _).trans h.fh
 nw:=fun a o e=>h.nw a o (yQ _ _ _ _ e)
def MCAt (C:Ad) (H:Hp) (x:Addr) (m:MC):Prop:=∃ dx a,H x=some (.ins C.cMergedCell dx (k9 a m.l m.r))/\CellAt C H a m.cell
theorem MCAt.mono {C:Ad}{H H':Hp}{x:Addr}{m:MC} (s:Same H H') (h:MCAt C H x m):MCAt C H' x m:=by
 obtain⟨dx,a,h1,h2⟩:=h
 exact⟨dx,a,s _ _ h1,h2.mono s⟩
def KeyAt (s:Vanbki.State) (H:Hp) (q:Addr) (c:Vanbki.Cell):Prop:=∃ t,H q=some (.tup [.ref t,.int (markNat c.hidden:Nat),.int (kK s c.number:Nat)])/\IL H t (nats c.text)
theorem KeyAt.mono {s:Vanbki.State}{H H':Hp}{q:Addr}{c:Vanbki.Cell} (k:Same H H') (h:KeyAt s H q c):KeyAt s H' q c:=by
 obtain⟨t,h1,h2⟩:=h
 exact⟨t,k _ _ h1,k _ _ h2⟩
def LooseAt (C:Ad) (H G:Hp) (p:Addr) (g:Nat->List Vanbki.Cell) (keys:List Nat):Prop:=∃ kvs,H p=some (.dK kvs)/\∀ n,n∈keys->∃ q as,wC kvs (Sum.inl (n:Int))=some (.ref q)/\RL H q as/\CellsAt C G as (g n)
theorem LooseAt.mono {C:Ad}{H H' G:Hp}{p:Addr}{g:Nat->List Vanbki.Cell}{keys:List Nat} (k:Same H H') (h:LooseAt C H G p g keys):LooseAt C H' G p g keys:=by
 obtain⟨kvs,h1,h2⟩:=h
 refine⟨kvs,k _ _ h1,fun n hn=>?_⟩
 obtain⟨q,as,a1,a2,a3⟩:=h2 n hn
 exact⟨q,as,a1,k _ _ a2,a3⟩
def uC (s:Vanbki.State) (side:Nat):Vanbki.Doc:=if side=1 then s.left else s.right
def wy (C:Ad):Sp:=fun vs H Q _=>∃ G B ch s p a b c,vs=[.ref (Bk.b B),.ref p]/\BooksAt C H G B ch s/\H p=some (.tup [.ref a,.ref b,.ref c])/\IL H a (nats (Vanbki.common s))/\IL H b (nats (Vanbki.orderIn s s.left))/\IL H c (nats (Vanbki.orderIn s s.right))/\∀ H' r,Same H H'->(r=a∨r=b∨r=c)->IL H' r (nats (jr s))->Q (.ref r) H'
def vj (C:Ad):Sp:=fun vs H Q _=>∃ G B ch s n c l r,vs=[.ref (Bk.b B),.int (n:Nat)]/\BooksAt C H G B ch s/\Vanbki.find s.base n=some c/\Vanbki.find s.left n=some l/\Vanbki.find s.right n=some r/\∀ H' x F,Same H H'->Grow G H F H'->MCAt C F x (jP s n c l r)->Q (.ref x) H'
def uY (C:Ad):Sp:=fun vs H Q _=>∃ G B ch s side a x,vs=[.ref (Bk.b B),.int (side:Nat),.ref a]/\BooksAt C H G B ch s/\(side=1∨side=2)/\CellAt C G a x/\∀ H' r,Same H H'->OptCell C G r (yH s side x)->Q r H'
def uf (C:Ad):Sp:=fun vs H Q _=>∃ G B ch s side cm,vs=[.ref (Bk.b B),.int (side:Nat),.ref cm]/\BooksAt C H G B ch s/\(side=1∨side=2)/\IL H cm (nats (Vanbki.common s))/\∀ H' p,Same H H'->LooseAt C H' G p (atC (qH s side)) (vq (Vanbki.common s) (uC s side))->Q (.ref p) H'
def Q6 (C:Ad):Sp:=fun vs H Q _=>∃ l bn as cs s,vs=[.ref l,.ref bn]/\RL H l as/\CellsAt C H as cs/\IL H bn (nats (numbers (Vanbki.State.base s)))/\cs.length<=1000/\∀ H' p qs,Same H H'->RL H' p qs->Paired (KeyAt s H') qs cs->Q (.ref p) H'
theorem XC {κ:Type} [DecidableEq κ] {kvs:List (κ × V)}{k:κ}{v:V} (h:¬k∈kvs.map (·.1)):yk kvs k v=kvs++[(k,v)]:=by
 unfold yk
 rw[if_neg]
 intro z
 obtain⟨p,hp,e⟩:=List.any_eq_true.mp z
 exact h (List.mem_map.mpr ⟨p,hp,of_decide_eq_true e⟩)
def dkv (ks:List (Nat × Addr)):List (Key × V):=ks.map fun x=>(Sum.inl (x.1:Int),V.ref x.2)
theorem Ud {ks:List (Nat × Addr)} (nd:(ks.map fun x=>x.1).Nodup) {x:Nat × Addr} (h:x∈ks):wC (dkv ks) (Sum.inl (x.1:Int))=some (.ref x.2):=by
 induction ks with
 | nil=>cases h
 | cons y r ih =>
  rw[List.map_cons,List.nodup_cons] at nd
  unfold dkv at ih ⊢
  rw[List.map_cons]
  rcases List.mem_cons.mp h with e | e
  . subst e
    exact yP rfl
  . rw[vS (by
     intro z
     injection z with z
     have:y.1=x.1:=by
      have:(y.1:Int)=(x.1:Int):=z
      omega
     exact nd.1 (this▸List.mem_map.mpr ⟨x,e,rfl⟩))]
    exact ih nd.2 e
theorem abi {ks:List (Nat × Addr)}{n:Nat} (h:¬n∈ks.map fun x=>x.1):¬(Sum.inl (n:Int):Key)∈(dkv ks).map (·.1):=by
 intro z
 obtain⟨p,hp,e⟩:=List.mem_map.mp z
 obtain⟨x,hx,rfl⟩:=List.mem_map.mp hp
 injection e with e
 have:x.1=n:=by
  have:(x.1:Int)=(n:Int):=e
  omega
 exact h (this▸List.mem_map.mpr ⟨x,hx,rfl⟩)
section
variable {P:Program}{w:World}{K:PySem.W.Frag}{mg:Str->Option Value}{base:Heap}{C:Ad}{f:Addr}{fd:FuncData}
theorem Jw {f1:Addr}{fd1:FuncData}{f2:Addr}{fd2:FuncData}{f3:Addr}{fd3:FuncData} (F:Fun K "merged_order" "merged_order" v9 f fd) (T:Txt K mg C) (D_agreed_order:Def P w K mg base "agreed_order" 2 ["orders"] (y8) f1 fd1) (D_chosen:Def P w K mg base "chosen" 1 ["choice","base","left","right"] (QM) f2 fd2) (D_choice_of:Def P w K mg base "choice_of" 1 ["books","conflict"] (jy C) f3 fd3):z_ P w K mg base CX0 3 f fd ["books","orders"] (wy C):=by
 refine F.ok sc_merged_order (fun vs H Q E h=>?_) (fun cdv A outer s H vs Q E hr h=>?_)
 . obtain⟨G,B,ch,s,p,a,b,c,rfl,_⟩:=h
   rfl
 . obtain⟨G,B,ch,s,p,a,b,c,rfl,hb,hp,ha,hbb,hc,k⟩:=h
   refine⟨_,(ze (zu (i:=2) sc_merged_order.nd rfl (Or.inl rfl) (zk D_agreed_order (hr.mono (by decide)) (za (pv 1) zi)))
    (ze (zI (qJ (jJ (pv 2))) (zj (zo (zk D_chosen (hr.mono (by decide)) (za (zk D_choice_of (hr.mono (by decide)) (za (pv 0) (za (yN (za (pgi T.g_ORDER_CONFLICT) (za zH zi))) zi))) (za (qy kR (pv 1) zH (fun _ _=>rfl)) (za (qy kR (pv 1) zH (fun _ _=>rfl)) (za (qy kR (pv 1) zH (fun _ _=>rfl)) zi))))))) zw)
    (zj (zo (pv 2))))),?_⟩
   refine⟨_,rfl,p,a,b,c,_,_,_,rfl,hp,ha,hbb,hc,?_⟩
   simp only[WR]
   have eo:Vanbki.mergedOrder s=if Vanbki.orderIn s s.left=Vanbki.common s then some (Vanbki.orderIn s s.right) else if Vanbki.orderIn s s.right=Vanbki.common s then some (Vanbki.orderIn s s.left) else if Vanbki.orderIn s s.left=Vanbki.orderIn s s.right then some (Vanbki.orderIn s s.left) else none:=rfl
   unfold jr at k
   by_cases g1:Vanbki.orderIn s s.left=Vanbki.common s
   . rw[if_pos g1] at eo ⊢
     rw[eo] at k
     exact⟨_,rfl,_,rfl,zE ⟨_,rfl,k H c (Same.refl _) (.inr (.inr rfl)) hc⟩⟩
   rw[if_neg g1] at eo ⊢
   by_cases g2:Vanbki.orderIn s s.right=Vanbki.common s
   . rw[if_pos g2] at eo ⊢
     rw[eo] at k
     exact⟨_,rfl,_,rfl,zE ⟨_,rfl,k H b (Same.refl _) (.inr (.inl rfl)) hbb⟩⟩
   rw[if_neg g2] at eo ⊢
   by_cases g3:Vanbki.orderIn s s.left=Vanbki.orderIn s s.right
   . rw[if_pos g3] at eo ⊢
     rw[eo] at k
     exact⟨_,rfl,_,rfl,zE ⟨_,rfl,k H b (Same.refl _) (.inr (.inl rfl)) hbb⟩⟩
   rw[if_neg g3] at eo ⊢
   rw[eo] at k
   refine⟨_,rfl,_,rfl,zM ⟨_,rfl,(by show 2<=sizeLine;decide),fun t ht=>?_⟩⟩
   have s1:=Same.new (o:=.tup [.int 4,.int 0]) ht
   have hp1:=s1 _ _ hp
   refine⟨G,B,ch,s,t,(4,0),rfl,hb.mono s1,zf,?_⟩
   refine⟨_,rfl,p,_,_,_,rfl,rfl,SqT.of hp1,q5 (j:=0) rfl,_,rfl,p,_,_,_,rfl,rfl,SqT.of hp1,q5 (j:=1) rfl,_,rfl,p,_,_,_,rfl,rfl,SqT.of hp1,q5 (j:=2) rfl,_,_,_,_,rfl,?_⟩
   by_cases h1:Vanbki.choiceOf s 4 0=1
   . rw[if_pos (by show ((Vanbki.choiceOf s 4 0:Nat):Int)=1;omega)]
     exact k _ b s1 (.inr (.inl rfl)) (by rw[if_pos h1];exact s1 _ _ hbb)
   . rw[if_neg (by show ¬((Vanbki.choiceOf s 4 0:Nat):Int)=1;omega)]
     by_cases h2:Vanbki.choiceOf s 4 0=2
     . rw[if_pos (by show ((Vanbki.choiceOf s 4 0:Nat):Int)=2;omega)]
       exact k _ c s1 (.inr (.inr rfl)) (by rw[if_neg h1,if_pos h2];exact s1 _ _ hc)
     . rw[if_neg (by show ¬((Vanbki.choiceOf s 4 0:Nat):Int)=2;omega)]
       exact k _ a s1 (.inl rfl) (by rw[if_neg h1,if_neg h2];exact s1 _ _ ha)
theorem wD {f1:Addr}{fd1:FuncData}{f2:Addr}{fd2:FuncData}{f3:Addr}{fd3:FuncData}{f4:Addr}{fd4:FuncData}{f5:Addr}{fd5:FuncData}{f6:Addr}{fd6:FuncData} (F:Fun K "merged_common_cell" "merged_common_cell" j9 f fd) (T:Txt K mg C) (D_cell_of:Def P w K mg base "cell_of" 2 ["cells","number"] (vv C) f1 fd1) (D_merged_text:Def P w K mg base "merged_text" 4 ["base_text","left_text","right_text"] (yT C) f2 fd2) (D_MergedCell:Cdf P w K mg base "MergedCell" 1 ["self","cell","on_left","on_right"] (qc C) C.cMergedCell f3 fd3) (D_chosen:Def P w K mg base "chosen" 1 ["choice","base","left","right"] (QM) f4 fd4) (D_Cell:Cdf P w K mg base "Cell" 1 ["self","number","mark","text"] (qS C) C.cCell f5 fd5) (D_choice_of:Def P w K mg base "choice_of" 1 ["books","conflict"] (jy C) f6 fd6):z_ P w K mg base CX0 5 f fd ["books","number"] (vj C):=by
 refine F.ok sc_merged_common_cell (fun vs H Q E h=>?_) (fun cdv A outer s H vs Q E hr h=>?_)
 . obtain⟨G,B,ch,s,n,c,l,r,rfl,_⟩:=h
   rfl
 . obtain⟨G,B,ch,s,n,c,l,r,rfl,hb,fc,fl,fr,k⟩:=h
   have hu:=jR hr
   refine⟨_,(ze (zu (i:=2) sc_merged_common_cell.nd rfl (Or.inl rfl) (zk D_cell_of (hr.mono (by decide)) (za (zn (pv 0) rfl) (za (pv 1) zi))))
    (ze (zu (i:=3) sc_merged_common_cell.nd rfl (Or.inl rfl) (zk D_cell_of (hr.mono (by decide)) (za (zn (qk hu (zn (pv 0) rfl) (pgi T.g_LEFT) (fun _ _=>rfl)) rfl) (za (pv 1) zi))))
    (ze (zu (i:=4) sc_merged_common_cell.nd rfl (Or.inl rfl) (zk D_cell_of (hr.mono (by decide)) (za (zn (qk hu (zn (pv 0) rfl) (pgi T.g_RIGHT) (fun _ _=>rfl)) rfl) (za (pv 1) zi))))
    (ze (zu (i:=5) sc_merged_common_cell.nd rfl (Or.inl rfl) (zk D_merged_text (hr.mono (by decide)) (za (zn (pv 2) rfl) (za (zn (pv 3) rfl) (za (zn (pv 4) rfl) zi)))))
    (ze (zI (qJ (jJ (pv 5))) (zj (zu (i:=5) sc_merged_common_cell.nd rfl (Or.inl rfl) (zk D_chosen (hr.mono (by decide)) (za (zk D_choice_of (hr.mono (by decide)) (za (pv 0) (za (yN (za (pgi T.g_TEXT_CONFLICT) (za (pv 1) zi))) zi))) (za (zn (pv 2) rfl) (za (zn (pv 3) rfl) (za (zn (pv 4) rfl) zi))))))) zw)
    (ze (zu (i:=6) sc_merged_common_cell.nd rfl (Or.inl rfl) (jQ (zz qT (zn (pv 3) rfl) (zn (pv 2) rfl) (zF _)) (zn (pv 4) rfl) (zn (pv 3) rfl)))
    (zj (zo (qw D_MergedCell (hr.mono (by decide)) (za (qw D_Cell (hr.mono (by decide)) (za (pv 1) (za (pv 6) (za (pv 5) zi)))) (za (pv 1) (za (pv 1) zi)))))))))))),?_⟩
   obtain⟨as0,r0,c0,g0⟩:=hb.d0
   obtain⟨as1,r1,c1,g1⟩:=hb.d1
   obtain⟨as2,r2,c2,g2⟩:=hb.d2
   obtain⟨dxb,eb⟩:=hb.bk
   refine⟨_,rfl,B.b,C.cBooks,dxb,_,_,rfl,eb,T.c_Books,T.n_Books_base_cells,qZ _ _ _,_,rfl,B.lb,as0,s.base,_,rfl,r0,c0,fun H1 x1 s1 o1=>?_⟩
   have o1:=o1 G hb.gh g0
   rw[vo,fc] at o1
   obtain⟨a1,rfl,u1⟩:=o1
   refine QN T (hb.mono s1) rfl ⟨_,rfl,B.l1,as1,s.left,_,rfl,s1 _ _ r1,c1.mono s1,fun H2 x2 s2 o2=>?_⟩
   have o2:=o2 G (hb.gh.trans s1) g1
   rw[vo,fl] at o2
   obtain⟨a2,rfl,u2⟩:=o2
   have s12:=s1.trans s2
   refine QO T (hb.mono s12) rfl ⟨_,rfl,B.l2,as2,s.right,_,rfl,s12 _ _ r2,c2.mono s12,fun H3 x3 s3 o3=>?_⟩
   have o3:=o3 G (hb.gh.trans s12) g2
   rw[vo,fr] at o3
   obtain⟨a3,rfl,u3⟩:=o3
   have s13:=s12.trans s3
   obtain⟨dx1,q1,e1,t1⟩:=u1
   obtain⟨dx2,q2,e2,t2⟩:=u2
   obtain⟨dx3,q3,e3,t3⟩:=u3
   have w1:=t1
   have w2:=t2
   have w3:=t3
   have g3:=hb.gh.trans s13
   replace e1:=g3 _ _ e1
   replace e2:=g3 _ _ e2
   replace e3:=g3 _ _ e3
   replace t1:=g3 _ _ t1
   replace t2:=g3 _ _ t2
   replace t3:=g3 _ _ t3
   have z1:=(kz hb.ok.b fc).1
   have z2:=(kz hb.ok.l fl).1
   have z3:=(kz hb.ok.r fr).1
   refine⟨_,rfl,a1,C.cCell,dx1,_,_,rfl,e1,T.c_Cell,T.n_Cell_text,zV _ _ _,_,rfl,a2,C.cCell,dx2,_,_,rfl,e2,T.c_Cell,T.n_Cell_text,zV _ _ _,_,rfl,a3,C.cCell,dx3,_,_,rfl,e3,T.c_Cell,T.n_Cell_text,zV _ _ _,
    q1,q2,q3,c.text,l.text,r.text,rfl,t1,t2,t3,(by omega),(by omega),(by omega),fun H4 x4 s4 o4 n4=>?_⟩
   have em:decide (V.int (markNat l.hidden:Nat)=V.int (markNat c.hidden:Nat))=decide (l.hidden=c.hidden):=by
    cases l.hidden <;> cases c.hidden <;> simp[markNat]
   have fin:∀ (H5:Hp) (t:Addr) (tt:Vanbki.Text),Same H3 H5->IL H5 t (nats tt)->(IL G t (nats tt)∨H t=none)->(jP s n c l r).cell.text=tt ->
    (KY (Y9 (tIf (WY (tOp rEq (yj K (qC 3) "mark") (yj K (qC 2) "mark"))) (yj K (qC 4) "mark") (yj K (qC 3) "mark")) (wq 6)) (Y7 (wt C.cMergedCell (qc C) [] E0 (qD (wt C.cCell (qS C) [] E0 (qD (qC 1) (qD (qC 6) (qD (qC 5) xL)))) (qD (qC 1) (qD (qC 1) xL))))))
     { nx:=fun _ H'=>Q .non H',rt:=Q } [some (.ref B.b),some (.int (n:Nat)),some (.ref a1),some (.ref a2),some (.ref a3),some (.ref t),none] H5:=fun H5 t tt s5 e5 gt et=>by
    have last:∀ m:Bool,m=Vanbki.mergedMark c.hidden l.hidden r.hidden->(Y7 (wt C.cMergedCell (qc C) [] E0 (qD (wt C.cCell (qS C) [] E0 (qD (qC 1) (qD (qC 6) (qD (qC 5) xL)))) (qD (qC 1) (qD (qC 1) xL)))))
     { nx:=fun _ H'=>Q .non H',rt:=Q } [some (.ref B.b),some (.int (n:Nat)),some (.ref a1),some (.ref a2),some (.ref a3),some (.ref t),some (.int (markNat m:Nat))] H5:=fun m hm=>by
     refine⟨_,rfl,_,rfl,_,rfl,?_⟩
     intro y dy ny nd ne
     refine⟨y,dy,_,_,_,rfl,zf,rfl,?_⟩
     have s6:=jx (c:=C.cCell) (fs:=kb (n:Nat) (markNat m:Nat) t) ny nd
     refine⟨_,rfl,_,rfl,?_⟩
     intro x dx nx nd' ne'
     refine⟨x,dx,_,_,_,rfl,zf,rfl,?_⟩
     have s7:=jx (c:=C.cMergedCell) (fs:=k9 y (n:Nat) (n:Nat)) nx nd'
     have sall:=s13.trans (s5.trans (s6.trans s7))
     have s05:=s13.trans s5
     have gr:=qO hb.gh sall
     refine k _ x _ sall gr ⟨dx,y,?_,dy,t,?_,?_⟩
     . rw[qV hb.gh ((s05.trans s6).free nx)]
       exact zf
     . rw[qV hb.gh (s05.free ny)]
       refine s7 _ _ ?_
       rw[zf,hm]
       rfl
     . rw[et]
       rcases gt with z | z
       . exact gr.gf _ _ z
       . rw[IL,qV hb.gh z]
         exact s7 _ _ (s6 _ _ e5)
    refine⟨_,rfl,a2,C.cCell,dx2,_,_,rfl,s5 _ _ e2,T.c_Cell,T.n_Cell_mark,qz _ _ _,_,rfl,a1,C.cCell,dx1,_,_,rfl,s5 _ _ e1,T.c_Cell,T.n_Cell_mark,qz _ _ _,rfl,_,rfl,?_⟩
    rw[em]
    by_cases hm:l.hidden=c.hidden
    . rw[decide_eq_true hm]
      refine zM ⟨_,rfl,a3,C.cCell,dx3,_,_,rfl,s5 _ _ e3,T.c_Cell,T.n_Cell_mark,qz _ _ _,last r.hidden ?_⟩
      unfold Vanbki.mergedMark
      rw[if_pos hm]
    . rw[decide_eq_false hm]
      refine zE ⟨_,rfl,a2,C.cCell,dx2,_,_,rfl,s5 _ _ e2,T.c_Cell,T.n_Cell_mark,qz _ _ _,last l.hidden ?_⟩
      unfold Vanbki.mergedMark
      rw[if_neg hm]
   cases e:Vanbki.mergedText c.text l.text r.text with
   | some tt =>
    rw[e] at o4
    obtain⟨t,rfl,e4⟩:=o4
    refine⟨_,rfl,_,rfl,zE ?_⟩
    exact (fin H4 t tt s4 e4 (by
     rcases n4 t rfl with z | z | z
     . subst z
       have:IL H4 t (nats l.text):=s4 _ _ t2
       rw[IL] at this e4
       rw[this] at e4
       exact .inl (by rw[IL,w2,e4])
     . subst z
       have:IL H4 t (nats r.text):=s4 _ _ t3
       rw[IL] at this e4
       rw[this] at e4
       exact .inl (by rw[IL,w3,e4])
     . exact .inr (s13.free z)) (by simp[jP,e]))
   | none =>
    rw[e] at o4
    have o4:x4=.non:=o4
    subst o4
    refine⟨_,rfl,_,rfl,zM ⟨_,rfl,_,rfl,(by show 2<=sizeLine;decide),fun u hu'=>?_⟩⟩
    have s5:=Same.new (o:=.tup [.int 1,.int (n:Nat)]) hu'
    have s45:=s4.trans s5
    refine⟨G,B,ch,s,u,(1,n),rfl,hb.mono (s13.trans s45),zf,?_⟩
    refine⟨_,rfl,a1,C.cCell,dx1,_,_,rfl,s45 _ _ e1,T.c_Cell,T.n_Cell_text,zV _ _ _,_,rfl,a2,C.cCell,dx2,_,_,rfl,s45 _ _ e2,T.c_Cell,T.n_Cell_text,zV _ _ _,_,rfl,a3,C.cCell,dx3,_,_,rfl,s45 _ _ e3,T.c_Cell,T.n_Cell_text,zV _ _ _,_,_,_,_,rfl,?_⟩
    by_cases h1:Vanbki.choiceOf s 1 n=1
    . rw[if_pos (by show ((Vanbki.choiceOf s 1 n:Nat):Int)=1;omega)]
      exact fin _ q2 l.text s45 (s45 _ _ t2) (.inl w2) (by simp[jP,e,h1])
    . rw[if_neg (by show ¬((Vanbki.choiceOf s 1 n:Nat):Int)=1;omega)]
      by_cases h2:Vanbki.choiceOf s 1 n=2
      . rw[if_pos (by show ((Vanbki.choiceOf s 1 n:Nat):Int)=2;omega)]
        exact fin _ q3 r.text s45 (s45 _ _ t3) (.inl w3) (by simp[jP,e,h2])
      . rw[if_neg (by show ¬((Vanbki.choiceOf s 1 n:Nat):Int)=2;omega)]
        exact fin _ q1 c.text s45 (s45 _ _ t1) (.inl w1) (by simp[jP,e,h1,h2])
theorem V7 {f1:Addr}{fd1:FuncData}{f2:Addr}{fd2:FuncData} (F:Fun K "loose_cell" "loose_cell" yx f fd) (T:Txt K mg C) (D_cell_of:Def P w K mg base "cell_of" 2 ["cells","number"] (vv C) f1 fd1) (D_choice_of:Def P w K mg base "choice_of" 1 ["books","conflict"] (jy C) f2 fd2):z_ P w K mg base CX0 3 f fd ["books","side","cell"] (uY C):=by
 refine F.ok sc_loose_cell (fun vs H Q E h=>?_) (fun cdv A outer s H vs Q E hr h=>?_)
 . obtain⟨G,B,ch,s,side,a,x,rfl,_⟩:=h
   rfl
 . obtain⟨G,B,ch,s,side,a,x,rfl,hb,hside,ha,k⟩:=h
   refine⟨_,(ze (zu (i:=3) sc_loose_cell.nd rfl (Or.inl rfl) (zk D_cell_of (hr.mono (by decide)) (za (zn (pv 0) rfl) (za (zn (pv 2) rfl) zi))))
    (ze (zI (qJ (jJ (pv 3))) (zj (zo (pv 2))) zw)
    (ze (zu (i:=4) sc_loose_cell.nd rfl (Or.inl rfl) (jQ (zz qT (pv 1) (pgi T.g_RIGHT) (zF _)) (pgi T.g_LEFT_HAS_NOT) (pgi T.g_RIGHT_HAS_NOT)))
    (ze (zu (i:=5) sc_loose_cell.nd rfl (Or.inl rfl) (zk D_choice_of (hr.mono (by decide)) (za (pv 0) (za (yN (za (pv 4) (za (zn (pv 2) rfl) zi))) zi))))
    (ze (zI (zz qT (pv 5) (pv 1) (zF _)) (zj (zo (pv 2))) zw)
    (ze (zI (zz qT (pv 5) (pgi T.g_BASE_CHOICE) (zF _)) (zj (zo (pv 3))) zw)
    (zj (zo wS)))))))),?_⟩
   obtain⟨as0,r0,c0,g0⟩:=hb.d0
   obtain⟨dx,q,e1,t1⟩:=ha.mono hb.gh
   obtain⟨dxb,eb⟩:=hb.bk
   refine⟨_,rfl,B.b,C.cBooks,dxb,_,_,rfl,eb,T.c_Books,T.n_Books_base_cells,qZ _ _ _,_,rfl,a,C.cCell,dx,_,_,rfl,e1,T.c_Cell,T.n_Cell_number,zK _ _ _,B.lb,as0,s.base,_,rfl,r0,c0,fun H1 x1 s1 o1=>?_⟩
   have o1:=o1 G hb.gh g0
   rw[vo] at o1
   unfold yH at k
   cases e:Vanbki.find s.base x.number with
   | none =>
    rw[e] at o1 k
    have o1:x1=.non:=o1
    subst o1
    exact⟨_,rfl,_,rfl,zM ⟨_,rfl,k H1 _ s1 ⟨a,rfl,ha⟩⟩⟩
   | some c =>
    rw[e] at o1 k
    obtain⟨b,rfl,u1⟩:=o1
    refine⟨_,rfl,_,rfl,zE ?_⟩
    have rest:∀ kd:Nat,kd=(if side=2 then 2 else 3)->(KY (Y9 (W_ (jy C) [] E0 (qD (qC 0) (qD (ac7 (qD (qC 4) (qD (yj K (qC 2) "number") xL))) xL))) (wq 5)) (KY (acn (WY (tOp rEq (qC 5) (qC 1))) (Y7 (qC 2)) aaE) (KY (acn (WY (tOp rEq (qC 5) (tC (.int 3)))) (Y7 (qC 3)) aaE) (Y7 (tC .non)))))
     { nx:=fun _ H'=>Q .non H',rt:=Q } [some (.ref B.b),some (.int (side:Nat)),some (.ref a),some (.ref b),some (.int (kd:Nat)),none] H1:=fun kd hk=>by
     refine⟨_,rfl,_,rfl,_,rfl,a,C.cCell,dx,_,_,rfl,s1 _ _ e1,T.c_Cell,T.n_Cell_number,zK _ _ _,(by show 2<=sizeLine;decide),fun u hu'=>?_⟩
     have s2:=Same.new (o:=.tup [.int (kd:Nat),.int (x.number:Nat)]) hu'
     refine⟨G,B,ch,s,u,(kd,x.number),rfl,hb.mono (s1.trans s2),zf,?_⟩
     have k2:=fun r=>k _ r (s1.trans s2)
     rw[<-hk] at k2
     refine⟨_,rfl,_,rfl,rfl,_,rfl,u6 (fun hh=>?_) (fun hh=>?_)⟩
     . have e0:Vanbki.choiceOf s kd x.number=side:=by
        have:((Vanbki.choiceOf s kd x.number:Nat):Int)=((side:Nat):Int):=by simpa using hh
        omega
       refine⟨_,rfl,k2 _ ?_⟩
       show OptCell C G _ (if Vanbki.choiceOf s kd x.number=side then some x else if Vanbki.choiceOf s kd x.number=3 then some c else none)
       rw[if_pos e0]
       exact⟨a,rfl,ha⟩
     . have e0:¬Vanbki.choiceOf s kd x.number=side:=fun z=>hh (by rw[z];exact decide_eq_true rfl)
       refine⟨_,rfl,rfl,_,rfl,u6 (fun hh=>?_) (fun hh=>?_)⟩
       . have e3:Vanbki.choiceOf s kd x.number=3:=by
          have:((Vanbki.choiceOf s kd x.number:Nat):Int)=3:=by simpa using hh
          omega
         refine⟨_,rfl,k2 _ ?_⟩
         show OptCell C G _ (if Vanbki.choiceOf s kd x.number=side then some x else if Vanbki.choiceOf s kd x.number=3 then some c else none)
         rw[if_neg e0,if_pos e3]
         exact⟨b,rfl,u1⟩
       . have e3:¬Vanbki.choiceOf s kd x.number=3:=fun z=>hh (by rw[z];rfl)
         refine k2 _ ?_
         show OptCell C G _ (if Vanbki.choiceOf s kd x.number=side then some x else if Vanbki.choiceOf s kd x.number=3 then some c else none)
         rw[if_neg e0,if_neg e3]
         rfl
    refine⟨_,rfl,rfl,_,rfl,?_⟩
    rcases hside with rfl | rfl
    . exact zE (rest 3 rfl)
    . exact zM (rest 2 rfl)
end
end Tb
end
section
namespace Tb
open PySem PySem.Spec PyProof.Rows L2
open Vanbki (nats ofNat markNat numbers)
theorem ug (co:List Nat) (d:Vanbki.Doc) (x:Vanbki.Cell):vq co (d++[x])=vq co d++(if co.contains x.number=true then [x.number] else []):=by
 unfold vq numbers
 rw[List.map_append,List.filter_append]
 by_cases h:x.number∈co
 . simp[h]
 . simp[h]
theorem abj {co:List Nat}{d:Vanbki.Doc}{n:Nat} (h:n∈vq co d):n=0∨(n∈numbers d/\n∈co):=by
 unfold vq at h
 rcases List.mem_cons.mp h with e | e
 . exact .inl e
 . obtain⟨h1,h2⟩:=List.mem_filter.mp e
   exact .inr ⟨h1,by simpa using h2⟩
theorem WC {keep:Vanbki.Cell->Option Vanbki.Cell}{co:List Nat}{d:Vanbki.Doc}{x:Vanbki.Cell} (h:co.contains x.number=true):qf keep co 0 (d++[x])=qf keep co 0 d:=by
 rw[kL,if_pos h,List.append_nil]
theorem acP {K:PySem.W.Frag}{a b:Addr}{xs zs:List V}{g:TG}{te:TE}{vs:List Nat}{σ:L2.St}{H1:Hp}{D:Addr}{Qd:Hp->Prop} (R:Nat->V->Hp->Prop) (mono:∀ i y F F',Same F F'->R i y F->R i y F') (hx:SqL K H1 a xs) (hy:SqL K H1 b zs) (hlen:xs.length=zs.length) (hD:H1 D=none) (hz:xs.length<sizeLine)
 (hs:∀ (i:Nat) (x z:V) (H':Hp) (X:Addr) (P:V->Hp->Prop),xs[i]?=some x->zs[i]?=some z->Same H1 H'->(∃ o,H' D=some o)->H' X=none->(∀ y H4,Same H' H4->R i y (minus H4 D)->P y H4) ->
  g (.ref X) (qQ σ vs) (upd H' X (.tup [x,z])) fun σ2 H2=>qQ σ2 vs=qQ σ vs/\te σ2 H2 P)
 (hd:∀ H' ys,Same H1 H'->H' D=some (.lst ys)->ys.length=xs.length->(∀ i y,ys[i]?=some y->R i y (minus H' D))->Qd H') :
 ∃ W:Nat->Nat->Hp->Prop,(∃ m,W 0 m (upd H1 D (.lst [])))/\∀ i m H,W i m H ->
  ((Itz K a b).stop i H/\Qd H)∨((Itz K a b).go i H/\∃ Nx:Hp->Prop,(∀ H',Nx H'->∃ m',m'<m/\W (i+1) m' H')/\∀ x H',(Itz K a b).yld i H x H'->g x (qQ σ vs) H' fun σ2 H2=>qQ σ2 vs=qQ σ vs/\Ka σ2 H2 fun b H3 =>
   if b=true then te σ2 H3 fun y H4=>∃ acc,H4 D=some (.lst acc)/\acc.length<sizeLine/\Nx (upd H4 D (.lst (acc++[y]))) else Nx H3):=by
 refine⟨fun i m H=>m=xs.length - i/\i<=xs.length/\(Same H1 H/\∃ ys,H D=some (.lst ys)/\ys.length=i/\∀ j y,ys[j]?=some y->R j y (minus H D)),⟨xs.length,by simp,Nat.zero_le _,Same.new hD,[],zf,rfl,fun j y h=>by simp at h⟩,?_⟩
 rintro i m H ⟨rfl,hi,s,ys,e,hl,hr⟩
 have q:=s.seq hx
 have q2:=s.seq hy
 by_cases hlt:i<xs.length
 . have hx':xs[i]?=some xs[i]:=List.getElem?_eq_getElem hlt
   have hz':zs[i]?=some (zs[i]'(by omega)):=List.getElem?_eq_getElem (by omega)
   refine .inr ⟨⟨xs,zs,_,_,q,q2,hx',hz'⟩,fun H'=>Same H1 H'/\∃ zs,H' D=some (.lst zs)/\zs.length=i+1/\∀ j z,zs[j]?=some z->R j z (minus H' D),fun H' p'=>⟨xs.length - (i+1),by omega,rfl,hlt,p'⟩,fun v H' y=>?_⟩
   obtain⟨X,x,z,rfl,hX,rfl,y1,y2⟩:=y
   have h1:=y1 xs q
   have h2:=y2 zs q2
   simp only[Ka,if_true]
   refine hs i x z H X _ h1 h2 s ⟨_,e⟩ hX fun y H4 s4 r4=>⟨ys,s4 _ _ e,by omega,fun b o q=>?_,ys++[y],zf,by simp[hl],fun j z hj=>?_⟩
   . rw[zh (zg q hD)]
     exact s4 _ _ (s b o q)
   . rw[xO]
     by_cases hji:j<ys.length
     . rw[List.getElem?_append_left hji] at hj
       exact mono j z _ _ (Same.both s4) (hr j z hj)
     . have hjl:j<(ys++[y]).length:=(List.getElem?_eq_some_iff.mp hj).1
       have ej:j=ys.length:=by simp at hjl;omega
       subst ej
       rw[List.getElem?_append_right (Nat.le_refl _)] at hj
       simp at hj
       subst hj
       rw[hl]
       exact r4
 . have e':i=xs.length:=by omega
   subst e'
   exact .inl ⟨⟨xs,zs,q,q2,.inl (Nat.le_refl _)⟩,hd H ys s e hl hr⟩
theorem yz {β:Type}{R:Addr->β->Prop}:∀ {ys:List V}{bs:List β},ys.length=bs.length->(∀ (i:Nat) (y:V) (b:β),ys[i]?=some y->bs[i]?=some b->∃ a,y=.ref a/\R a b)->∃ as:List Addr,ys=as.map V.ref/\Paired R as bs
 | [],[],_,_=>⟨[],rfl,.nil⟩
 | [],_::_,h,_=>by simp at h
 | _::_,[],h,_=>by simp at h
 | y::ys,b::bs,h,hr=>by
  obtain⟨a,ea,ra⟩:=hr 0 y b rfl rfl
  obtain⟨as,e,p⟩:=yz (R:=R) (ys:=ys) (bs:=bs) (by simpa using h) fun i y' b' h1 h2=>hr (i+1) y' b' (by simpa using h1) (by simpa using h2)
  exact⟨a::as,by rw[ea,e];rfl,.cons ra p⟩
def xu (C:Ad):Sp:=fun vs H Q _=>∃ G l r bn as1 as2 ls rs s,vs=[.ref l,.ref r,.ref bn]/\Same G H/\RL H l as1/\RL H r as2/\CellsAt C G as1 ls/\CellsAt C G as2 rs/\IL H bn (nats (numbers (Vanbki.State.base s)))/\ls.length<=1000/\rs.length<=1000 /\
 ∀ H' p qs F,Same H H'->H p=none->F p=none->Grow G H F H'->RL H' p qs->Paired (MCAt C F) qs (jC s ls rs)->Q (.ref p) H'
def NewMC (C:Ad) (G H F:Hp) (q:Addr) (m:MC):Prop:=H q=none/\∃ dx a,F q=some (.ins C.cMergedCell dx (k9 a m.l m.r))/\CellAt C G a m.cell
theorem NewMC.mono {C:Ad}{G H F F':Hp}{q:Addr}{m:MC} (s:Same F F') (h:NewMC C G H F q m):NewMC C G H F' q m:=by
 obtain⟨h0,dx,a,h1,h2⟩:=h
 exact⟨h0,dx,a,s _ _ h1,h2⟩
theorem NewMC.all {C:Ad}{G H H':Hp}{p:Addr} (g:Same G H) (s:Same H H') (hp:H p=none) {qs:List Addr}{ms:List MC} (h:Paired (NewMC C G H (minus H' p)) qs ms):Paired (MCAt C (minus (zY G H H') p)) qs ms:=by
 refine zG h fun q m ⟨h0,dx,a,h1,h2⟩=>⟨dx,a,?_,h2.mono (Tb.Same.minus (qO g s).gf (g.free hp))⟩
 have qp:q≠p:=fun z=>by rw[z,jv] at h1;cases h1
 rw[qI qp] at h1 ⊢
 rw[qV g h0]
 exact h1
theorem acQ {K:PySem.W.Frag}{s:Vanbki.State}{H:Hp}{q:Addr}{c:Vanbki.Cell} (h:KeyAt s H q c):Dp K H (.ref q) (Xb c.text (markNat c.hidden) (kK s c.number)):=by
 obtain⟨t,h1,h2⟩:=h
 exact .tup (SqT.of h1) (.cons (vU h2) (.cons (.int _) (.cons (.int _) .nil)))
theorem WD {K:PySem.W.Frag}{s:Vanbki.State}{H:Hp}{side:Nat}{qs:List Addr}{cs:List Vanbki.Cell} (h:Paired (KeyAt s H) qs cs):uS K H (qs.map V.ref) ((cs.map (qv s side)).map kH):=by
 induction h with
 | nil=>exact .nil
 | cons r t ih=>exact .cons (acQ r) ih
theorem uD {K:PySem.W.Frag}{s:Vanbki.State}{H:Hp}{side:Nat}{p:Addr}{qs:List Addr}{cs:List Vanbki.Cell} (hp:RL H p qs) (h:Paired (KeyAt s H) qs cs):Dp K H (.ref p) (jI (cs.map (qv s side))):=.lst (SqL.of hp) (WD h)
section
variable {P:Program}{w:World}{K:PySem.W.Frag}{mg:Str->Option Value}{base:Heap}{C:Ad}{f:Addr}{fd:FuncData}
theorem Yy (F:Fun K "sort_keys" "sort_keys" xl f fd) (T:Txt K mg C):z_ P w K mg base CX0 1 f fd ["cells","base_numbers"] (Q6 C):=by
 refine F.ok sc_sort_keys (fun vs H Q E h=>?_) (fun cdv A outer s H vs Q E hr h=>?_)
 . obtain⟨l,bn,as,cs,s,rfl,_⟩:=h
   rfl
 . obtain⟨l,bn,as,cs,s,rfl,hl,hc,hbn,hz,k⟩:=h
   refine⟨_,(zj (zo (w_ rfl sc_sort_keys.nd (qi (pv 0)) (qE (own:=[("cell",2)]) (by kernel_rfl)) (fun _ _ _ _ _=>(zS (i:=2) sc_sort_keys.nd rfl (Or.inl rfl))) (fun _ _ _ _ _=>km) (fun _ _ _ _ _=>(yN (za (jM (K:=K) rfl (pv 2) rfl) (za (jM (K:=K) rfl (pv 2) rfl) (za (jQ (zz (Zc (K:=K) rfl) (jM (K:=K) rfl (pv 2) rfl) (pv 1) rfl) (jM (K:=K) rfl (pv 2) rfl) zH) zi)))))))),?_⟩
   have hlen:=zx hc
   refine⟨_,rfl,l,rfl,⟨_,SqL.of hl⟩,fun D hD=>?_⟩
   refine Yr (K:=K) (xs:=as.map V.ref) (fun i y F=>∃ q c,y=.ref q/\cs[i]?=some c/\KeyAt s F q c) (fun i y F F' sf ⟨q,c,e1,e2,e3⟩=>⟨q,c,e1,e2,e3.mono sf⟩) (SqL.of hl) hD (by rw[List.length_map];exact qU (by omega)) (fun i x H' P' hi s1 hDo hP=>?_) (fun H' ys s1 e1 hyl hr'=>?_)
   . obtain⟨a,ha,rfl⟩:=qL hi
     obtain⟨c,hc1,dx,tq,e1,e2⟩:=zN hc ha
     have e1':=s1 _ _ e1
     have last:∀ o:Nat,o=kK s c.number->∀ p,H' p=none->P' (.ref p) (upd H' p (.tup [.ref tq,.int (markNat c.hidden:Nat),.int (o:Nat)])):=fun o ho p hp=>by
      have hpD:p≠D:=fun z=>by
       obtain⟨ob,hob⟩:=hDo
       rw[<-z,hp] at hob
       cases hob
      refine hP _ _ (Same.new hp) ⟨p,c,rfl,hc1,tq,?_,?_⟩
      . rw[qI hpD,zf,ho]
      . have tD:tq≠D:=zg e2 hD
        rw[IL,qI tD]
        exact Same.new hp _ _ (s1 _ _ e2)
     refine⟨rfl,_,rfl,a,C.cCell,dx,_,_,rfl,e1',T.c_Cell,T.n_Cell_text,zV _ _ _,_,rfl,a,C.cCell,dx,_,_,rfl,e1',T.c_Cell,T.n_Cell_mark,qz _ _ _,_,rfl,a,C.cCell,dx,_,_,rfl,e1',T.c_Cell,T.n_Cell_number,zK _ _ _,_,rfl,bn,_,rfl,.inl (SqL.of (s1 _ _ hbn)),rfl,jG _,_,rfl,?_⟩
     simp only[Bool.false_eq_true,if_false]
     rw[kh,<-xr]
     cases hh:Vanbki.has s.base c.number with
     | true=>exact zM ⟨_,rfl,a,C.cCell,dx,_,_,rfl,e1',T.c_Cell,T.n_Cell_number,zK _ _ _,(by show 3<=sizeLine;decide),last _ (by unfold kK;rw[hh,if_pos rfl])⟩
     | false=>exact zE ⟨(by show 3<=sizeLine;decide),last 0 (by unfold kK;rw[hh];rfl)⟩
   . obtain⟨qs,rfl,pr⟩:=yz (R:=KeyAt s (minus H' D)) (ys:=ys) (bs:=cs) (by rw[hyl,List.length_map,hlen]) fun i y b hy hb=>by
      obtain⟨q,c,e2,e3,e4⟩:=hr' i y hy
      rw[hb] at e3
      cases e3
      exact⟨q,e2,e4⟩
     exact k H' D qs s1 e1 (zG pr fun _ _ r=>r.mono (yQ _ _))
theorem Q7 {f1:Addr}{fd1:FuncData}{f2:Addr}{fd2:FuncData} (F:Fun K "loose_together" "loose_together" k5 f fd) (T:Txt K mg C) (D_sort_keys:Def P w K mg base "sort_keys" 1 ["cells","base_numbers"] (Q6 C) f1 fd1) (D_MergedCell:Cdf P w K mg base "MergedCell" 1 ["self","cell","on_left","on_right"] (qc C) C.cMergedCell f2 fd2):z_ P w K mg base CX0 3 f fd ["left","right","base_numbers"] (xu C):=by
 refine F.ok sc_loose_together (fun vs H Q E h=>?_) (fun cdv A outer s H vs Q E hr h=>?_)
 . obtain⟨G,l,r,bn,as1,as2,ls,rs,s,rfl,_⟩:=h
   rfl
 . obtain⟨G,l,r,bn,as1,as2,ls,rs,s,rfl,gH,hl,hr1,v1,v2,hbn,z1,z2,k⟩:=h
   have c1:=v1.mono gH
   have c2:=v2.mono gH
   refine⟨_,(ze (zu (i:=3) sc_loose_together.nd rfl (Or.inl rfl) (zk D_sort_keys (hr.mono (by decide)) (za (pv 0) (za (pv 2) zi))))
    (ze (zu (i:=4) sc_loose_together.nd rfl (Or.inl rfl) (zk D_sort_keys (hr.mono (by decide)) (za (pv 1) (za (pv 2) zi))))
    (ze (zI (zz (wV hr.units) (pv 3) (pv 4) (zF _)) (zj (zo (w_ rfl sc_loose_together.nd (acE (by rfl) T.b_zip (za (pv 0) (za (pv 1) zi))) (qE (own:=[("cell",5),("other",6)]) (by kernel_rfl)) (fun _ _ _ _ _=>(Ua (K:=K) (n:=2) rfl rfl (kf (zS (i:=5) sc_loose_together.nd rfl (Or.inl rfl)) (kf (zS (i:=6) sc_loose_together.nd rfl (Or.inl rfl)) ZJ)))) (fun _ _ _ _ _=>km) (fun _ _ _ _ _=>(qw D_MergedCell (hr.mono (by decide)) (za (pv 5) (za (jM (K:=K) rfl (pv 5) rfl) (za (jM (K:=K) rfl (pv 6) rfl) zi)))))))) zw)
    (ze (vR (i:=7) rfl sc_loose_together.nd rfl rfl (y_ rfl rfl rfl rfl) (qi (pv 0)) (qE (own:=[("cell",5)]) (by kernel_rfl)) (fun _ _ _ _ _=>(zS (i:=5) sc_loose_together.nd rfl (Or.inl rfl))) (fun _ _ _ _ _=>km) (fun _ _ _ _ _=>(qw D_MergedCell (hr.mono (by decide)) (za (pv 5) (za (jM (K:=K) rfl (pv 5) rfl) (za zH zi))))))
    (ze (vR (i:=8) rfl sc_loose_together.nd rfl rfl (y_ rfl rfl rfl rfl) (qi (pv 1)) (qE (own:=[("cell",5)]) (by kernel_rfl)) (fun _ _ _ _ _=>(zS (i:=5) sc_loose_together.nd rfl (Or.inl rfl))) (fun _ _ _ _ _=>km) (fun _ _ _ _ _=>(qw D_MergedCell (hr.mono (by decide)) (za (pv 5) (za zH (za (jM (K:=K) rfl (pv 5) rfl) zi))))))
    (zj (zo (jQ (zz (acK hr.units) (pv 3) (pv 4) (zF _)) (jK yO (pv 7) (pv 8)) (jK yO (pv 8) (pv 7)))))))))),?_⟩
   have JA:=zx c1
   have WK:=zx c2
   refine⟨_,rfl,_,rfl,l,bn,as1,ls,s,rfl,hl,c1,hbn,z1,fun H1 p1 qs1 s1 r1 k1=>?_⟩
   refine⟨_,rfl,_,rfl,r,bn,as2,rs,s,rfl,s1 _ _ hr1,c2.mono s1,s1 _ _ hbn,z2,fun H2 p2 qs2 s2 r2 k2=>?_⟩
   have s12:=s1.trans s2
   have r1':=s2 _ _ r1
   have k1':Paired (KeyAt s H2) qs1 ls:=zG k1 fun _ _ r=>r.mono s2
   have hl2:=s12 _ _ hl
   have hr2:=s12 _ _ hr1
   have c1':=c1.mono s12
   have c2':=c2.mono s12
   unfold jC at k
   refine⟨_,rfl,_,rfl,jI (ls.map (qv s 1)),jI (rs.map (qv s 2)),uD r1' k1',uD r2 k2,jX _,jX _,_,rfl,?_⟩
   rw[Uv]
   have mono:∀ (ms:List MC) (i:Nat) (y:V) (F F':Hp),Same F F'->(∃ q m,y=.ref q/\ms[i]?=some m/\NewMC C G H F q m)->∃ q m,y=.ref q/\ms[i]?=some m/\NewMC C G H F' q m:=fun ms i y F F' sf ⟨q,m,e1,e2,e3⟩=>⟨q,m,e1,e2,e3.mono sf⟩
   have both:∀ (nx:L2.St->Hp->Prop) (rt:VK),(∀ (H4:Hp) (D1 D2:Addr) (m1 m2:List Addr),Same H2 H4->H2 D1=none->D1≠D2->RL H4 D1 m1->RL H4 D2 m2->Paired (NewMC C G H H4) m1 (ls.map fun c=>(⟨c,c.number,0⟩:MC))->Paired (NewMC C G H H4) m2 (rs.map fun c=>(⟨c,0,c.number⟩:MC))->nx [some (.ref l),some (.ref r),some (.ref bn),some (.ref p1),some (.ref p2),none,none,some (.ref D1),some (.ref D2)] H4) ->
    KY (Y9 (tLc (aaJ K (qC 0)) (wq 5) Ka (wt C.cMergedCell (qc C) [] E0 (qD (qC 5) (qD (yj K (qC 5) "number") (qD (tC (.int 0)) xL)))) [5]) (wq 7)) (Y9 (tLc (aaJ K (qC 1)) (wq 5) Ka (wt C.cMergedCell (qc C) [] E0 (qD (qC 5) (qD (tC (.int 0)) (qD (yj K (qC 5) "number") xL)))) [5]) (wq 8))
     { nx:=nx,rt:=rt } [some (.ref l),some (.ref r),some (.ref bn),some (.ref p1),some (.ref p2),none,none,none,none] H2:=fun nx rt kk=>by
    refine⟨_,rfl,l,rfl,⟨_,SqL.of hl2⟩,fun D hD=>?_⟩
    refine Yr (K:=K) (xs:=as1.map V.ref) (fun i y F=>∃ q m,y=.ref q/\(ls.map fun c=>(⟨c,c.number,0⟩:MC))[i]?=some m/\NewMC C G H F q m) (mono _) (SqL.of hl2) hD (by rw[List.length_map];exact qU (by omega)) (fun i x H' P' hi s3 hDo hP=>?_) (fun H3 ys s3 e3 hyl hr'=>?_)
    . obtain⟨a,ha,rfl⟩:=qL hi
      obtain⟨c,hc1,hca⟩:=zN v1 ha
      obtain⟨dx,tq,e1,e2⟩:=hca.mono (gH.trans s12)
      refine⟨rfl,_,rfl,_,rfl,a,C.cCell,dx,_,_,rfl,s3 _ _ e1,T.c_Cell,T.n_Cell_number,zK _ _ _,?_⟩
      intro y dy ny nd ne
      refine⟨y,dy,_,_,_,rfl,zf,rfl,?_⟩
      have s5:=jx (c:=C.cMergedCell) (fs:=k9 a (c.number:Nat) 0) ny nd
      have yD:y≠D:=fun z=>by
       obtain⟨ob,hob⟩:=hDo
       rw[<-z,ny] at hob
       cases hob
      refine hP _ _ s5 ⟨y,⟨c,c.number,0⟩,rfl,(by rw[List.getElem?_map,hc1];rfl),(s12.trans s3).free ny,dy,a,?_,hca⟩
      rw[qI yD,zf]
      rfl
    obtain⟨m1,rfl,pr1⟩:=yz (R:=NewMC C G H (minus H3 D)) (ys:=ys) (bs:=ls.map fun c=>(⟨c,c.number,0⟩:MC)) (by rw[hyl,List.length_map,List.length_map,JA]) fun i y b hy hb=>by
     obtain⟨q,c,e2,e3,e4⟩:=hr' i y hy
     rw[hb] at e3
     cases e3
     exact⟨q,e2,e4⟩
    refine⟨_,rfl,r,rfl,⟨_,SqL.of (s3 _ _ hr2)⟩,fun D2 hD2=>?_⟩
    have c2'':=c2'.mono s3
    refine Yr (K:=K) (xs:=as2.map V.ref) (fun i y F=>∃ q m,y=.ref q/\(rs.map fun c=>(⟨c,0,c.number⟩:MC))[i]?=some m/\NewMC C G H F q m) (mono _) (SqL.of (s3 _ _ hr2)) hD2 (by rw[List.length_map];exact qU (by omega)) (fun i x H' P' hi s4 hDo hP=>?_) (fun H4 ys s4 e4 hyl hr'=>?_)
    . obtain⟨a,ha,rfl⟩:=qL hi
      obtain⟨c,hc1,hca⟩:=zN v2 ha
      obtain⟨dx,tq,e1,e2⟩:=hca.mono (gH.trans (s12.trans s3))
      refine⟨rfl,_,rfl,_,rfl,a,C.cCell,dx,_,_,rfl,s4 _ _ e1,T.c_Cell,T.n_Cell_number,zK _ _ _,?_⟩
      intro y dy ny nd ne
      refine⟨y,dy,_,_,_,rfl,zf,rfl,?_⟩
      have s5:=jx (c:=C.cMergedCell) (fs:=k9 a 0 (c.number:Nat)) ny nd
      have yD:y≠D2:=fun z=>by
       obtain⟨ob,hob⟩:=hDo
       rw[<-z,ny] at hob
       cases hob
      refine hP _ _ s5 ⟨y,⟨c,0,c.number⟩,rfl,(by rw[List.getElem?_map,hc1];rfl),((s12.trans s3).trans s4).free ny,dy,a,?_,hca⟩
      rw[qI yD,zf]
      rfl
    obtain⟨m2,rfl,pr2⟩:=yz (R:=NewMC C G H (minus H4 D2)) (ys:=ys) (bs:=rs.map fun c=>(⟨c,0,c.number⟩:MC)) (by rw[hyl,List.length_map,List.length_map,WK]) fun i y b hy hb=>by
     obtain⟨q,c,e2,e3,e4⟩:=hr' i y hy
     rw[hb] at e3
     cases e3
     exact⟨q,e2,e4⟩
    exact kk H4 D D2 m1 m2 (s3.trans s4) hD (zg e3 hD2) (s4 _ _ e3) e4 (zG pr1 fun _ _ r=>r.mono ((yQ _ _).trans s4)) (zG pr2 fun _ _ r=>r.mono (yQ _ _))
   cases hc:Vanbki.cmpItems (ls.map (qv s 1)) (rs.map (qv s 2)) with
   | eq =>
    rw[hc] at k
    have hll:ls.length=rs.length:=by
     have:∀ (a b:List Vanbki.Item),Vanbki.cmpItems a b=.eq->a.length=b.length:=by
      intro a
      induction a with
      | nil =>
       intro b h
       cases b with
       | nil=>rfl
       | cons _ _=>simp[Vanbki.cmpItems] at h
      | cons x a ih =>
       intro b h
       cases b with
       | nil=>simp[Vanbki.cmpItems] at h
       | cons y b =>
        rw[Vanbki.cmpItems] at h
        cases e:Vanbki.cmpItem x y <;> rw[e] at h <;> simp at h
        rw[List.length_cons,List.length_cons,ih b h]
     have:=this _ _ hc
     simpa using this
    refine zM ?_
    refine⟨_,rfl,_,rfl,l,r,_,_,rfl,SqL.of hl2,SqL.of hr2,fun D hD=>?_⟩
    refine acP (K:=K) (xs:=as1.map V.ref) (zs:=as2.map V.ref) (fun i y F=>∃ q m,y=.ref q/\((ls.zip rs).map fun x=>(⟨x.1,x.1.number,x.2.number⟩:MC))[i]?=some m/\NewMC C G H F q m) (mono _) (SqL.of hl2) (SqL.of hr2) (by rw[List.length_map,List.length_map,JA,WK,hll]) hD (by rw[List.length_map];exact qU (by omega)) (fun i x z H' X P' hi hi2 s3 hDo hX hP=>?_) (fun H' ys s3 e3 hyl hr'=>?_)
    . obtain⟨a,ha,rfl⟩:=qL hi
      obtain⟨b,hb,rfl⟩:=qL hi2
      obtain⟨c,hc1,hca⟩:=zN v1 ha
      obtain⟨d,hd1,hda⟩:=zN v2 hb
      obtain⟨dx,tq,e1,e2⟩:=hca.mono (gH.trans s12)
      obtain⟨dx2,tq2,e5,e6⟩:=hda.mono (gH.trans s12)
      have s4:=s3.trans (Same.new (o:=.tup [.ref a,.ref b]) hX)
      refine⟨X,_,rfl,SqT.of zf,rfl,_,_,rfl,_,_,rfl,rfl,rfl,_,rfl,_,rfl,a,C.cCell,dx,_,_,rfl,s4 _ _ e1,T.c_Cell,T.n_Cell_number,zK _ _ _,_,rfl,b,C.cCell,dx2,_,_,rfl,s4 _ _ e5,T.c_Cell,T.n_Cell_number,zK _ _ _,?_⟩
      intro y dy ny nd ne
      refine⟨y,dy,_,_,_,rfl,zf,rfl,?_⟩
      have s5:=jx (c:=C.cMergedCell) (fs:=k9 a (c.number:Nat) (d.number:Nat)) ny nd
      have yD:y≠D:=fun z=>by
       obtain⟨ob,hob⟩:=hDo
       have:=Same.new (o:=.tup [.ref a,.ref b]) hX _ _ hob
       rw[<-z,ny] at this
       cases this
      refine hP _ _ ((Same.new hX).trans s5) ⟨y,⟨c,c.number,d.number⟩,rfl,(by rw[List.getElem?_map,List.getElem?_zip_eq_some (z:=(c,d)) |>.mpr ⟨hc1,hd1⟩];rfl),(s12.trans s4).free ny,dy,a,?_,hca⟩
      rw[qI yD,zf]
    . obtain⟨qs,rfl,pr⟩:=yz (R:=NewMC C G H (minus H' D)) (ys:=ys) (bs:=(ls.zip rs).map fun x=>(⟨x.1,x.1.number,x.2.number⟩:MC)) (by rw[hyl,List.length_map,List.length_map,List.length_zip];omega) fun i y b hy hb=>by
       obtain⟨q,c,e2,e3,e4⟩:=hr' i y hy
       rw[hb] at e3
       cases e3
       exact⟨q,e2,e4⟩
      have sa:=s12.trans s3
      have hD0:=s12.free hD
      exact k H' D qs _ sa hD0 (jv _ _) ((qO gH sa).minus (gH.free hD0)) e3 (NewMC.all gH sa hD0 pr)
   | lt =>
    rw[hc] at k
    refine zE ?_
    refine both _ _ fun H4 D1 D2 m1 m2 s4 n4 d12 e1 e2 pr1 pr2=>?_
    refine⟨_,rfl,_,rfl,jI (ls.map (qv s 1)),jI (rs.map (qv s 2)),uD (s4 _ _ r1') (zG k1' fun _ _ r=>r.mono s4),uD (s4 _ _ r2) (zG k2 fun _ _ r=>r.mono s4),jX _,jX _,Vr _ _,_,rfl,?_⟩
    rw[Vs,hc]
    have l1:=zx pr1
    have l2:=zx pr2
    rw[List.length_map] at l1 l2
    refine zM ⟨_,rfl,_,rfl,D1,D2,_,_,rfl,rfl,e1,e2,(by rw[List.length_map,List.length_map];exact qN (by omega)),fun p hp=>?_⟩
    have s5:=s4.trans (Same.new (o:=.lst (m1.map V.ref++m2.map V.ref)) hp)
    have sa:=s12.trans s5
    have hp0:=s12.free (s4.free hp)
    have sm:Same H4 (minus (upd H4 p (.lst (m1.map V.ref++m2.map V.ref))) p):=by
     rw[xO]
     exact Tb.Same.minus (Same.refl _) hp
    exact k _ p (m1++m2) _ sa hp0 (jv _ _) ((qO gH sa).minus (gH.free hp0)) (by rw[RL,zf,List.map_append]) (NewMC.all gH sa hp0 (zQ (zG pr1 fun _ _ r=>r.mono sm) (zG pr2 fun _ _ r=>r.mono sm)))
   | gt =>
    rw[hc] at k
    refine zE ?_
    refine both _ _ fun H4 D1 D2 m1 m2 s4 n4 d12 e1 e2 pr1 pr2=>?_
    refine⟨_,rfl,_,rfl,jI (ls.map (qv s 1)),jI (rs.map (qv s 2)),uD (s4 _ _ r1') (zG k1' fun _ _ r=>r.mono s4),uD (s4 _ _ r2) (zG k2 fun _ _ r=>r.mono s4),jX _,jX _,Vr _ _,_,rfl,?_⟩
    rw[Vs,hc]
    have l1:=zx pr1
    have l2:=zx pr2
    rw[List.length_map] at l1 l2
    refine zE ⟨_,rfl,_,rfl,D2,D1,_,_,rfl,rfl,e2,e1,(by rw[List.length_map,List.length_map];exact qN (by omega)),fun p hp=>?_⟩
    have s5:=s4.trans (Same.new (o:=.lst (m2.map V.ref++m1.map V.ref)) hp)
    have sa:=s12.trans s5
    have hp0:=s12.free (s4.free hp)
    have sm:Same H4 (minus (upd H4 p (.lst (m2.map V.ref++m1.map V.ref))) p):=by
     rw[xO]
     exact Tb.Same.minus (Same.refl _) hp
    exact k _ p (m2++m1) _ sa hp0 (jv _ _) ((qO gH sa).minus (gH.free hp0)) (by rw[RL,zf,List.map_append]) (NewMC.all gH sa hp0 (zQ (zG pr2 fun _ _ r=>r.mono sm) (zG pr1 fun _ _ r=>r.mono sm)))
end
end Tb
end
section
namespace Tb
open PySem PySem.Spec PyProof.Rows L2
open Vanbki (nats ofNat markNat numbers)
theorem WE {side:Nat} (h:side=1∨side=2):Vanbki.noSide (side:Int)=false:=by
 rcases h with rfl | rfl <;> rfl
theorem XD {s:Vanbki.State}{side:Nat} (h:side=1∨side=2):Vanbki.sideDoc s (side:Int)=uC s side:=by
 rcases h with rfl | rfl <;> rfl
theorem aaa {s:Vanbki.State}{side:Nat}:qH s side=qf (yH s side) (Vanbki.common s) 0 (uC s side):=rfl
section
variable {P:Program}{w:World}{K:PySem.W.Frag}{mg:Str->Option Value}{base:Heap}{C:Ad}{f:Addr}{fd:FuncData}
theorem Kw {f1:Addr}{fd1:FuncData} (F:Fun K "loose_cells" "loose_cells" vG f fd) (T:Txt K mg C) (D_loose_cell:Def P w K mg base "loose_cell" 3 ["books","side","cell"] (uY C) f1 fd1):z_ P w K mg base CX0 4 f fd ["books","side","common"] (uf C):=by
 refine F.ok sc_loose_cells (fun vs H Q E h=>?_) (fun cdv A outer s H vs Q E hr h=>?_)
 . obtain⟨G,B,ch,s,side,cm,rfl,_⟩:=h
   rfl
 . obtain⟨G,B,ch,s,side,cm,rfl,hb,hside,hcm,k⟩:=h
   have hu:=jR hr
   refine⟨_,(ze (zu (i:=3) sc_loose_cells.nd rfl (Or.inl rfl) (pgi T.g_FRONT))
    (ze (zu (i:=4) sc_loose_cells.nd rfl (Or.inl rfl) (ZS (kS (pgi T.g_FRONT) (qb zi) ZR) rfl rfl (by simp) (by decide)))
    (ze (kQ PassesOwn.never rfl (qi (zn (qk hu (zn (pv 0) rfl) (pv 1) (fun _ _=>rfl)) rfl)) (zS (i:=5) sc_loose_cells.nd rfl (Or.inl rfl)) (zj (zI (zz VA (zn (pv 5) rfl) (pv 2) rfl) (ze (zu (i:=3) sc_loose_cells.nd rfl (Or.inl rfl) (zn (pv 5) rfl))
    (zj (ZQ hu (pv 4) (pv 3) (qb zi) rfl))) (ze (zu (i:=6) sc_loose_cells.nd rfl (Or.inl rfl) (zk D_loose_cell (hr.mono (by decide)) (za (pv 0) (za (pv 1) (za (pv 5) zi)))))
    (zj (zI (qJ (WT (pv 6))) (zj (qA (jL PySem.F.plainAttrs_list PySem.F.slot_list_append PySem.F.type_list_append ji (qk hu (pv 4) (pv 3) (fun _ _=>rfl)) (za (pv 6) zi)))) zw))))))
    (zj (zo (pv 4)))))),?_⟩
   have hn:=WE hside
   obtain⟨as,rS,cS,gS⟩:=hb.dS (side:Int)
   obtain⟨dxs,eS⟩:=hb.sS (side:Int)
   obtain⟨dxb,eb⟩:=hb.bk
   have D:=qa hb.ok (side:Int)
   rw[XD hside] at cS gS D
   have hlen:=zx cS
   rw[aaa] at k
   generalize hd:uC s side=d at *
   generalize hco:Vanbki.common s=co at *
   generalize hkp:yH s side=keep at *
   have zd:=D.len
   intro p hp
   refine⟨Nat.zero_le _,fun q hq=>?_⟩
   have pq:p≠q:=fun e=>by rw[<-e,zf] at hq;cases hq
   have hq0:H q=none:=by rw[zh (Ne.symm pq)] at hq;exact hq
   refine⟨(by rw[zh pq];exact zf),[(Sum.inl 0,.ref q)],rfl,(by show 1<=15;decide),?_⟩
   have s0:Same H (upd (upd (upd H p (.dK [])) q (.lst [])) p (.dK (u5 [] [(Sum.inl 0,V.ref q)]))):=fun b o e=>by
    rw[zh (zg e hp),zh (zg e hq0),zh (zg e hp)]
    exact e
   refine⟨_,rfl,B.b,C.cBooks,dxb,_,_,rfl,s0 _ _ eb,T.c_Books,T.n_Books_sides,zJ _ _ _,_,rfl,B.ds,_,rfl,jc (s0 _ _ hb.sd) hn,zZ B (side:Int),C.cSide,dxs,_,_,rfl,s0 _ _ eS,T.c_Side,T.n_Side_cells,zU _ _,zT B (side:Int),rfl,⟨_,SqL.of (s0 _ _ rS)⟩,jD (K:=K) (a:=zT B (side:Int)) (xs:=as.map V.ref)
    (fun i σ H'=>(∃ v5 v6,σ=[some (.ref B.b),some (.int (side:Nat)),some (.ref cm),some (.int (x_ co 0 (d.take i):Nat)),some (.ref p),v5,v6])/\Same H H'/\∃ ks:List (Nat × Addr),H' p=some (.dK (dkv ks))/\(ks.map fun x=>x.1)=vq co (d.take i)/\(ks.map fun x=>x.2).Nodup/\(∀ x,x∈ks->H x.2=none/\x.2≠p)/\∀ x,x∈ks->∃ bs,RL H' x.2 bs/\CellsAt C G bs (atC (qf keep co 0 (d.take i)) x.1))
    ⟨⟨none,none,rfl⟩,s0,[(0,q)],zf,rfl,by simp,(by intro x hx;rw[List.mem_singleton.mp hx];exact⟨hq0,Ne.symm pq⟩),(by intro x hx;rw[List.mem_singleton.mp hx];exact⟨[],by rw[RL,zh (Ne.symm pq),zf];rfl,.nil⟩)⟩ (fun i σ H' _ h=>SqL.of (h.2.1 _ _ rS)) ?_ ?_⟩
   . rintro i x σ H' hi ⟨⟨v5,v6,rfl⟩,s1,ks,hk,hkeys,hnd,hfr,hat⟩
     obtain⟨a,ha,rfl⟩:=qL hi
     obtain⟨c,hc1,hca⟩:=zN gS ha
     obtain⟨dx,tq,e1,e2⟩:=hca.mono (hb.gh.trans s1)
     have hil:i<d.length:=(List.getElem?_eq_some_iff.mp hc1).1
     have hcm':=List.mem_of_getElem? hc1
     have hnum:=D.num c hcm'
     have hnot:¬c.number∈numbers (d.take i):=by
      intro z
      obtain⟨c',hc',ec'⟩:=List.mem_map.mp z
      obtain⟨j,hj,ej⟩:=List.mem_iff_getElem.mp hc'
      have hji:j<i:=by
       rw[List.length_take] at hj
       omega
      have h1:(numbers d)[j]?=some c.number:=by
       unfold numbers
       rw[List.getElem?_map]
       have:d[j]?=some c':=by
        rw[List.getElem_take] at ej
        rw[<-ej]
        exact List.getElem?_eq_getElem (by omega)
       rw[this]
       exact congrArg some ec'
      have h2:(numbers d)[i]?=some c.number:=by
       unfold numbers
       rw[List.getElem?_map,hc1]
       rfl
      have:=aa1 D.nd h1 h2
      omega
     have hklen:ks.length<=13:=by
      have h1:=congrArg List.length hkeys
      rw[List.length_map] at h1
      unfold vq at h1
      rw[List.length_cons] at h1
      have h2:=List.length_filter_le (fun n=>co.contains n) (numbers (d.take i))
      rw[jg,List.length_take] at h2
      omega
     have hndk:(ks.map fun x=>x.1).Nodup:=by
      rw[hkeys]
      unfold vq
      refine List.nodup_cons.mpr ⟨fun z=>?_,?_⟩
      . have z1:=(List.mem_filter.mp z).1
        obtain⟨c',hc',ec'⟩:=List.mem_map.mp z1
        have:=D.num c' (List.mem_of_mem_take hc')
        omega
      . refine List.Sublist.nodup List.filter_sublist ?_
        have:numbers (d.take i)=(numbers d).take i:=by
         unfold numbers
         rw[List.map_take]
        rw[this]
        exact List.Sublist.nodup (List.take_sublist ..) D.nd
     refine⟨_,rfl,a,C.cCell,dx,_,_,rfl,e1,T.c_Cell,T.n_Cell_number,zK _ _ _,_,rfl,cm,_,rfl,.inl (SqL.of (s1 _ _ hcm)),rfl,jG _,_,rfl,?_⟩
     simp only[Bool.false_eq_true,if_false]
     rw[kh]
     by_cases hin:c.number∈co
     . have hct:co.contains c.number=true:=by simpa using hin
       rw[decide_eq_true hin]
       refine zM ⟨_,rfl,a,C.cCell,dx,_,_,rfl,e1,T.c_Cell,T.n_Cell_number,zK _ _ _,Nat.zero_le _,fun z hz=>?_⟩
       have zp:z≠p:=Ne.symm (zg hk hz)
       have hz0:=s1.free hz
       have hknew:¬c.number∈ks.map fun x=>x.1:=by
        rw[hkeys]
        intro m
        rcases abj m with m | m
        . omega
        . exact hnot m.1
       refine⟨_,rfl,_,rfl,p,_,rfl,DPut.k (k:=Sum.inl (c.number:Int)) (by rw[zh (Ne.symm zp)];exact hk) (by unfold dkv;rw[List.length_map];exact qU (by omega)),?_⟩
       rw[XC (abi hknew)]
       refine⟨⟨some (.ref a),v6,?_⟩,fun b o e=>?_,ks++[(c.number,z)],?_,?_,?_,?_,?_⟩
       . rw[zP hc1,xJ,if_pos hct]
         rfl
       . rw[zh (zg e hp),zh (zg e hz0)]
         exact s1 b o e
       . rw[zf]
         unfold dkv
         rw[List.map_append]
         rfl
       . rw[List.map_append,hkeys,zP hc1,ug,if_pos hct]
         rfl
       . rw[List.map_append]
         refine Yi hnd fun m=>?_
         obtain⟨y,hy,ey⟩:=List.mem_map.mp m
         obtain⟨bs,hbs,_⟩:=hat y hy
         rw[ey,RL,hz] at hbs
         cases hbs
       . intro y hy
         rcases List.mem_append.mp hy with m | m
         . exact hfr y m
         . rw[List.mem_singleton.mp m]
           exact⟨hz0,zp⟩
       . intro y hy
         rw[zP hc1,WC hct]
         rcases List.mem_append.mp hy with m | m
         . obtain⟨bs,hbs,hcs⟩:=hat y m
           exact⟨bs,by rw[RL,zh (hfr y m).2,zh (zg hbs hz)];exact hbs,hcs⟩
         . rw[List.mem_singleton.mp m]
           refine⟨[],by rw[RL,zh zp,zf];rfl,?_⟩
           rw[K0 (by show c.number≠0;omega) (fun m=>hnot (List.mem_filter.mp m).1)]
           exact .nil
     . have hct:co.contains c.number=false:=by simpa using hin
       rw[decide_eq_false hin]
       refine zE ⟨_,rfl,_,rfl,_,rfl,G,B,ch,s,side,a,c,rfl,hb.mono s1,hside,hca,fun H2 r s2 o2=>?_⟩
       rw[hkp] at o2
       have s12:=s1.trans s2
       have hk2:=s2 _ _ hk
       cases ek:keep c with
       | none =>
        rw[ek] at o2
        have o2:r=.non:=o2
        subst o2
        refine⟨_,rfl,_,rfl,zE ⟨⟨some (.ref a),some .non,?_⟩,s12,ks,hk2,?_,hnd,hfr,fun y hy=>?_⟩⟩
        . rw[zP hc1,xJ,hct,if_neg Bool.false_ne_true]
          rfl
        . rw[hkeys,zP hc1,ug,hct,if_neg Bool.false_ne_true,List.append_nil]
        . obtain⟨bs,hbs,hcs⟩:=hat y hy
          refine⟨bs,s2 _ _ hbs,?_⟩
          rw[zP hc1,kL,hct,if_neg Bool.false_ne_true,ek,List.append_nil]
          exact hcs
       | some yc =>
        rw[ek] at o2
        obtain⟨y,rfl,hy⟩:=o2
        have hcur:x_ co 0 (d.take i)∈ks.map fun x=>x.1:=by
         rw[hkeys]
         unfold vq
         rcases J_ co (d.take i) 0 with z | z
         . rw[z]
           exact List.mem_cons_self ..
         . exact List.mem_cons_of_mem _ z
        obtain⟨x0,hx0,ex0⟩:=List.mem_map.mp hcur
        obtain⟨bs,hbs,hcs⟩:=hat x0 hx0
        have hbs2:=s2 _ _ hbs
        have hbl:bs.length<=12:=by
         rw[zx hcs]
         have:∀ (keep:Vanbki.Cell->Option Vanbki.Cell) (d:Vanbki.Doc) (a n:Nat),(atC (qf keep co a d) n).length<=d.length:=by
          intro keep d
          induction d with
          | nil=>intro a n;exact Nat.le_refl _
          | cons z r ih =>
           intro a n
           rw[qf]
           by_cases hz:co.contains z.number=true
           . rw[if_pos hz]
             exact Nat.le_trans (ih _ _) (Nat.le_succ _)
           . rw[if_neg hz]
             cases keep z with
             | none=>exact Nat.le_trans (ih _ _) (Nat.le_succ _)
             | some w =>
              show (atC ((a,w)::qf keep co a r) n).length<=_
              have:=ih a n
              unfold atC at this ⊢
              rw[List.filter_cons]
              split
              . rw[List.map_cons,List.length_cons,List.length_cons]
                omega
              . rw[List.length_cons]
                omega
         have:=this keep (d.take i) 0 x0.1
         rw[List.length_take] at this
         omega
        have hx0p:=(hfr x0 hx0).2
        refine⟨_,rfl,_,rfl,zM ⟨_,rfl,_,rfl,p,_,rfl,(show DGet H2 p (.int (x_ co 0 (d.take i):Nat)) (some (.ref x0.2)) from (by rw[<-ex0,<-Ud hndk hx0];exact DGet.k (k:=Sum.inl (x0.1:Int)) hk2)),.inl ⟨rfl,_,SqL.of hbs2⟩,_,rfl,x0.2,_,_,rfl,rfl,hbs2,(by rw[List.length_map];exact qU (by omega)),?_⟩⟩
        refine⟨⟨some (.ref a),some (.ref y),?_⟩,fun b o e=>?_,ks,?_,?_,hnd,hfr,fun y' hy'=>?_⟩
        . rw[zP hc1,xJ,hct,if_neg Bool.false_ne_true]
          rfl
        . rw[zh (zg e (hfr x0 hx0).1)]
          exact s12 b o e
        . rw[zh (Ne.symm hx0p)]
          exact hk2
        . rw[hkeys,zP hc1,ug,hct,if_neg Bool.false_ne_true,List.append_nil]
        . rw[zP hc1,kL,hct,if_neg Bool.false_ne_true,ek]
          show ∃ bs,_/\CellsAt C G bs (atC (qf keep co 0 (d.take i)++[(x_ co 0 (d.take i),yc)]) y'.1)
          rw[aaq]
          by_cases hyy:y'=x0
          . subst hyy
            refine⟨bs++[y],by rw[RL,zf,List.map_append];rfl,?_⟩
            rw[if_pos ex0.symm]
            exact ja hcs hy
          . obtain⟨bs',hbs',hcs'⟩:=hat y' hy'
            have hne1:y'.2≠x0.2:=fun z=>hyy (by
             obtain⟨j1,g1,h1⟩:=List.mem_iff_getElem.mp hy'
             obtain⟨j2,g2,h2⟩:=List.mem_iff_getElem.mp hx0
             have e1:(ks.map fun x=>x.2)[j1]?=some y'.2:=by rw[List.getElem?_map,List.getElem?_eq_getElem g1,h1];rfl
             have e2:(ks.map fun x=>x.2)[j2]?=some y'.2:=by rw[List.getElem?_map,List.getElem?_eq_getElem g2,h2,z];rfl
             have:=aa1 hnd e1 e2
             subst this
             exact h1.symm.trans h2)
            have hne2:¬x_ co 0 (d.take i)=y'.1:=fun z=>hyy (by
             obtain⟨j1,g1,h1⟩:=List.mem_iff_getElem.mp hy'
             obtain⟨j2,g2,h2⟩:=List.mem_iff_getElem.mp hx0
             have e1:(ks.map fun x=>x.1)[j1]?=some y'.1:=by rw[List.getElem?_map,List.getElem?_eq_getElem g1,h1];rfl
             have e2:(ks.map fun x=>x.1)[j2]?=some y'.1:=by rw[List.getElem?_map,List.getElem?_eq_getElem g2,h2,<-z,<-ex0];rfl
             have:=aa1 hndk e1 e2
             subst this
             exact h1.symm.trans h2)
            refine⟨bs',by rw[RL,zh hne1];exact s2 _ _ hbs',?_⟩
            rw[if_neg hne2,List.append_nil]
            exact hcs'
   . rintro σ H' ⟨⟨v5,v6,rfl⟩,s1,ks,hk,hkeys,hnd,hfr,hat⟩
     rw[List.length_map,hlen,List.take_length] at hkeys hat
     have hndk:(ks.map fun x=>x.1).Nodup:=by
      rw[hkeys]
      unfold vq
      refine List.nodup_cons.mpr ⟨fun z=>?_,List.Sublist.nodup List.filter_sublist D.nd⟩
      obtain⟨c',hc',ec'⟩:=List.mem_map.mp (List.mem_filter.mp z).1
      have:=D.num c' hc'
      omega
     refine⟨_,rfl,k H' p s1 ⟨dkv ks,hk,fun n hn=>?_⟩⟩
     rw[<-hkeys] at hn
     obtain⟨x,hx,rfl⟩:=List.mem_map.mp hn
     obtain⟨bs,hbs,hcs⟩:=hat x hx
     exact⟨x.2,bs,Ud hndk hx,hbs,hcs⟩
end
end Tb
end
section
namespace Tb
open PySem PySem.Spec PyProof.Rows L2
open Vanbki (nats ofNat markNat numbers)
theorem ab6 (keep:Vanbki.Cell->Option Vanbki.Cell) (co:List Nat):∀ (d:Vanbki.Doc) (a n:Nat),(atC (qf keep co a d) n).length<=d.length:=by
 intro d
 induction d with
 | nil=>intro a n;exact Nat.le_refl _
 | cons z r ih =>
  intro a n
  rw[qf]
  by_cases hz:co.contains z.number=true
  . rw[if_pos hz]
    exact Nat.le_trans (ih _ _) (Nat.le_succ _)
  . rw[if_neg hz]
    cases keep z with
    | none=>exact Nat.le_trans (ih _ _) (Nat.le_succ _)
    | some w =>
     show (atC ((a,w)::qf keep co a r) n).length<=_
     have:=ih a n
     unfold atC at this ⊢
     rw[List.filter_cons]
     split
     . rw[List.map_cons,List.length_cons,List.length_cons]
       omega
     . rw[List.length_cons]
       omega
theorem kI {s:Vanbki.State} (S:qu s) (side n:Nat):(atC (qH s side) n).length<=12:=by
 unfold qH
 refine Nat.le_trans (ab6 _ _ _ _ _) ?_
 split
 . exact S.l.len
 . exact S.r.len
theorem yy (s:Vanbki.State) (l r:List Vanbki.Cell):(jC s l r).length<=l.length+r.length:=by
 unfold jC
 split
 . rw[List.length_map,List.length_zip]
   omega
 . rw[List.length_append,List.length_map,List.length_map]
   omega
 . rw[List.length_append,List.length_map,List.length_map]
   omega
theorem WF {s:Vanbki.State}{n:Nat} (h:n∈jr s):n∈Vanbki.common s:=by
 unfold jr at h
 have key:∀ d,n∈Vanbki.orderIn s d->n∈Vanbki.common s:=fun d hd=>(orderIn_mem.mp hd).2
 cases e:Vanbki.mergedOrder s with
 | some o =>
  rw[e] at h
  have eo:(if Vanbki.orderIn s s.left=Vanbki.common s then some (Vanbki.orderIn s s.right) else if Vanbki.orderIn s s.right=Vanbki.common s then some (Vanbki.orderIn s s.left) else if Vanbki.orderIn s s.left=Vanbki.orderIn s s.right then some (Vanbki.orderIn s s.left) else none)=some o:=e
  split at eo
  . cases eo;exact key _ h
  . split at eo
    . cases eo;exact key _ h
    . split at eo
      . cases eo;exact key _ h
      . cases eo
 | none =>
  rw[e] at h
  dsimp only at h
  split at h
  . exact key _ h
  . split at h
    . exact key _ h
    . exact h
theorem Kx {s:Vanbki.State} (S:qu s):(jr s).length<=12:=by
 have h0:(Vanbki.common s).length<=12:=by
  unfold Vanbki.common
  exact Nat.le_trans (List.length_filter_le _ _) (by rw[jg];exact S.b.len)
 have key:∀ d,jB d->(Vanbki.orderIn s d).length<=12:=fun d D=>by
  unfold Vanbki.orderIn
  exact Nat.le_trans (List.length_filter_le _ _) (by rw[jg];exact D.len)
 unfold jr
 cases e:Vanbki.mergedOrder s with
 | some o =>
  have eo:(if Vanbki.orderIn s s.left=Vanbki.common s then some (Vanbki.orderIn s s.right) else if Vanbki.orderIn s s.right=Vanbki.common s then some (Vanbki.orderIn s s.left) else if Vanbki.orderIn s s.left=Vanbki.orderIn s s.right then some (Vanbki.orderIn s s.left) else none)=some o:=e
  split at eo
  . cases eo;exact key _ S.r
  . split at eo
    . cases eo;exact key _ S.l
    . split at eo
      . cases eo;exact key _ S.l
      . cases eo
 | none =>
  dsimp only
  split
  . exact key _ S.l
  . split
    . exact key _ S.r
    . exact h0
def Ky (s:Vanbki.State) (n:Nat):List MC:=Uo s n++jC s (atC (qH s 1) n) (atC (qH s 2) n)
theorem abk (s:Vanbki.State):mcs s=jC s (atC (qH s 1) 0) (atC (qH s 2) 0)++(jr s).flatMap (Ky s):=rfl
theorem aab {s:Vanbki.State} (S:qu s) (n:Nat):(Ky s n).length<=25:=by
 unfold Ky
 rw[List.length_append]
 have h1:=yy s (atC (qH s 1) n) (atC (qH s 2) n)
 have h2:=kI S 1 n
 have h3:=kI S 2 n
 have h4:(Uo s n).length<=1:=by
  unfold Uo
  split <;> simp
 omega
theorem VN {s:Vanbki.State} (S:qu s) (l:List Nat):(l.flatMap (Ky s)).length<=25 * l.length:=by
 induction l with
 | nil=>exact Nat.le_refl _
 | cons a r ih =>
  rw[List.flatMap_cons,List.length_append,List.length_cons]
  have:=aab S a
  omega
theorem Ue {s:Vanbki.State} (S:qu s):(mcs s).length<=324:=by
 rw[abk,List.length_append]
 have h1:=yy s (atC (qH s 1) 0) (atC (qH s 2) 0)
 have h2:=kI S 1 0
 have h3:=kI S 2 0
 have h4:=VN S (jr s)
 have h5:=Kx S
 omega
theorem vg {G H H1 H2:Hp} (s:Same H1 H2):Same (zY G H H1) (zY G H H2):=fun a o e=>by
 unfold zY at e ⊢
 cases h1:G a with
 | some u=>rw[h1] at e;exact e
 | none =>
  rw[h1] at e
  cases h2:H a with
  | some u=>rw[h2] at e;cases e
  | none=>rw[h2] at e;exact s _ _ e
theorem uh (G H H1:Hp) (m:Addr) (o:HO):minus (zY G H (upd H1 m o)) m=minus (zY G H H1) m:=by
 funext b
 by_cases h:b=m
 . rw[h,jv,jv]
 . rw[qI h,qI h]
   unfold zY
   rw[zh h]
theorem Grow.part {G H H1 F H2 H3:Hp} (g:Grow G H1 F H2) (gh:Same G H) (s1:Same H H1) (s3:Same H2 H3):Same F (zY G H H3):=fun a o e=>by
 rcases g.nw a o e with z | z
 . unfold zY
   rw[z]
 . rw[qV gh (s1.free z)]
   exact s3 _ _ (g.fh _ _ e)
theorem Grow.trans {G H F H1 F2 H2:Hp} (g:Grow G H F H1) (s:Same H H1) (g2:Grow F H1 F2 H2):Grow G H F2 H2 where
 gf:=g.gf.trans g2.gf
 fh:=g2.fh
 nw:=fun a o e=>by
  rcases g2.nw a o e with z | z
  . exact g.nw a o z
  . exact .inr (s.free z)
theorem Grow.down {G H H1 F H2:Hp} (g:Grow G H1 F H2) (s:Same H H1):Grow G H F H2:=⟨g.gf,g.fh,fun a o e=>(g.nw a o e).imp id fun z=>s.free z⟩
theorem Grow.up {G H F H1 H2:Hp} (g:Grow G H F H1) (s:Same H1 H2):Grow G H F H2:=⟨g.gf,g.fh.trans s,g.nw⟩
def xw (C:Ad):Sp:=fun vs H Q _=>∃ G B ch s,vs=[.ref (Bk.b B)]/\BooksAt C H G B ch s/\∀ H' p qs F,Same H H'->H p=none->Grow G H F H'->RL H' p qs->Paired (MCAt C F) qs (mcs s)->Q (.ref p) H'
section
variable {P:Program}{w:World}{K:PySem.W.Frag}{mg:Str->Option Value}{base:Heap}{C:Ad}{f:Addr}{fd:FuncData}
theorem Q8 {f1:Addr}{fd1:FuncData}{f2:Addr}{fd2:FuncData}{f3:Addr}{fd3:FuncData}{f4:Addr}{fd4:FuncData}{f5:Addr}{fd5:FuncData}{f6:Addr}{fd6:FuncData} (F:Fun K "cells_in_order" "cells_in_order" k6 f fd) (T:Txt K mg C) (D_common_orders:Def P w K mg base "common_orders" 2 ["books"] (vw C) f1 fd1) (D_numbers_of:Def P w K mg base "numbers_of" 1 ["cells"] (jF C) f2 fd2) (D_loose_cells:Def P w K mg base "loose_cells" 4 ["books","side","common"] (uf C) f3 fd3) (D_loose_together:Def P w K mg base "loose_together" 3 ["left","right","base_numbers"] (xu C) f4 fd4) (D_merged_order:Def P w K mg base "merged_order" 3 ["books","orders"] (wy C) f5 fd5) (D_merged_common_cell:Def P w K mg base "merged_common_cell" 5 ["books","number"] (vj C) f6 fd6):z_ P w K mg base CX0 6 f fd ["books"] (xw C):=by
 refine F.ok sc_cells_in_order (fun vs H Q E h=>?_) (fun cdv A outer s H vs Q E hr h=>?_)
 . obtain⟨G,B,ch,s,rfl,_⟩:=h
   rfl
 . obtain⟨G,B,ch,s,rfl,hb,k⟩:=h
   have hu:=jR hr
   refine⟨_,(ze (zu (i:=1) sc_cells_in_order.nd rfl (Or.inl rfl) (zk D_common_orders (hr.mono (by decide)) (za (pv 0) zi)))
    (ze (zu (i:=2) sc_cells_in_order.nd rfl (Or.inl rfl) (zk D_numbers_of (hr.mono (by decide)) (za (zn (pv 0) rfl) zi)))
    (ze (zu (i:=3) sc_cells_in_order.nd rfl (Or.inl rfl) (zk D_loose_cells (hr.mono (by decide)) (za (pv 0) (za (pgi T.g_LEFT) (za (qy kR (pv 1) zH (fun _ _=>rfl)) zi)))))
    (ze (zu (i:=4) sc_cells_in_order.nd rfl (Or.inl rfl) (zk D_loose_cells (hr.mono (by decide)) (za (pv 0) (za (pgi T.g_RIGHT) (za (qy kR (pv 1) zH (fun _ _=>rfl)) zi)))))
    (ze (zu (i:=5) sc_cells_in_order.nd rfl (Or.inl rfl) (zk D_loose_together (hr.mono (by decide)) (za (qk hu (pv 3) (pgi T.g_FRONT) (fun _ _=>rfl)) (za (qk hu (pv 4) (pgi T.g_FRONT) (fun _ _=>rfl)) (za (pv 2) zi)))))
    (ze (kQ PassesOwn.never rfl (qi (zk D_merged_order (hr.mono (by decide)) (za (pv 0) (za (pv 1) zi)))) (zS (i:=6) sc_cells_in_order.nd rfl (Or.inl rfl)) (ze (qA (jL PySem.F.plainAttrs_list PySem.F.slot_list_append PySem.F.type_list_append ji (pv 5) (za (zk D_merged_common_cell (hr.mono (by decide)) (za (pv 0) (za (pv 6) zi))) zi)))
    (zj (qA (jL PySem.F.plainAttrs_list PySem.F.slot_list_extend PySem.F.type_list_extend jE (pv 5) (za (zk D_loose_together (hr.mono (by decide)) (za (qk hu (pv 3) (pv 6) (fun _ _=>rfl)) (za (qk hu (pv 4) (pv 6) (fun _ _=>rfl)) (za (pv 2) zi)))) zi))))))
    (zj (zo (pv 5))))))))),?_⟩
   obtain⟨as0,r0,c0,g0⟩:=hb.d0
   obtain⟨dxb,eb⟩:=hb.bk
   have S:=hb.ok
   have z0:=S.b.len
   refine⟨_,rfl,G,B,ch,s,rfl,hb,fun H1 po a b c s1 epo ea eb' ec=>?_⟩
   refine⟨_,rfl,B.b,C.cBooks,dxb,_,_,rfl,s1 _ _ eb,T.c_Books,T.n_Books_base_cells,qZ _ _ _,B.lb,as0,s.base,rfl,s1 _ _ r0,c0.mono s1,(by omega),fun H2 pb s2 n2 e2=>?_⟩
   have s12:=s1.trans s2
   refine⟨_,rfl,_,rfl,po,_,_,_,rfl,rfl,SqT.of (s2 _ _ epo),q5 (j:=0) rfl,G,B,ch,s,1,a,rfl,hb.mono s12,.inl rfl,s2 _ _ ea,fun H3 pl s3 lo3=>?_⟩
   have s13:=s12.trans s3
   refine⟨_,rfl,_,rfl,po,_,_,_,rfl,rfl,SqT.of (s3 _ _ (s2 _ _ epo)),q5 (j:=0) rfl,G,B,ch,s,2,a,rfl,hb.mono s13,.inr rfl,s3 _ _ (s2 _ _ ea),fun H4 pr s4 lo4=>?_⟩
   have s14:=s13.trans s4
   have lo3:=lo3.mono s4
   have e24:=s4 _ _ (s3 _ _ e2)
   have gH4:=hb.gh.trans s14
   obtain⟨kl,hkl,atl⟩:=lo3
   obtain⟨kr,hkr,atr⟩:=lo4
   obtain⟨ql,al,vl,rl,cl⟩:=atl 0 (List.mem_cons_self ..)
   obtain⟨qr,ar,vr,rr,cr⟩:=atr 0 (List.mem_cons_self ..)
   have ll:=kI S 1 0
   have lr:=kI S 2 0
   refine⟨_,rfl,pl,_,rfl,(show DGet H4 pl (.int 0) (some (.ref ql)) from vl▸DGet.k (k:=Sum.inl ((0:Nat):Int)) hkl),_,rfl,pr,_,rfl,(show DGet H4 pr (.int 0) (some (.ref qr)) from vr▸DGet.k (k:=Sum.inl ((0:Nat):Int)) hkr),_,rfl,G,ql,qr,pb,al,ar,_,_,s,rfl,gH4,rl,rr,cl,cr,e24,(by omega),(by omega),fun H5 m qs F s5 hm hFm gr rm pm=>?_⟩
   have Gm:G m=none:=gH4.free hm
   have epo5:=s5 _ _ (s4 _ _ (s3 _ _ (s2 _ _ epo)))
   have up:=(s2.trans (s3.trans s4)).trans s5
   refine⟨_,rfl,_,rfl,G,B,ch,s,po,a,b,c,rfl,hb.mono (s14.trans s5),epo5,up _ _ ea,up _ _ eb',up _ _ ec,fun H6 ro s6 hro e6=>?_⟩
   have hro4:IL H4 ro (nats (jr s)):=by
    have up4:=s2.trans (s3.trans s4)
    have key:∀ l,IL H1 ro l->IL H4 ro (nats (jr s)):=fun l hl=>by
     have h6:IL H6 ro l:=(up.trans s6) _ _ hl
     rw[IL] at h6
     rw[IL,h6] at e6
     rw[IL,up4 _ _ hl]
     exact e6
    rcases hro with rfl | rfl | rfl
    . exact key _ ea
    . exact key _ eb'
    . exact key _ ec
   have qm:=zx pm
   have tl:=yy s (atC (qH s 1) 0) (atC (qH s 2) 0)
   refine⟨ro,rfl,⟨_,SqL.of e6⟩,jD (K:=K) (a:=ro) (xs:=(nats (jr s)).map V.int)
    (fun i σ H'=>(∃ v6,σ=[some (.ref B.b),some (.ref po),some (.ref pb),some (.ref pl),some (.ref pr),some (.ref m),v6])/\Same H4 H'/\∃ qs,RL H' m qs/\Paired (MCAt C (minus (zY G H H') m)) qs (jC s (atC (qH s 1) 0) (atC (qH s 2) 0)++((jr s).take i).flatMap (Ky s)))
    ⟨⟨none,rfl⟩,s5.trans s6,qs,s6 _ _ rm,(by
     simp only[List.take_zero,List.flatMap_nil,List.append_nil]
     exact zG pm fun _ _ r=>r.mono (Tb.Same.minus (gr.part hb.gh s14 s6) hFm))⟩ (fun i σ H' _ h=>SqL.of (h.2.1 _ _ hro4)) ?_ ?_⟩
   . rintro i x σ H' hi ⟨⟨v6,rfl⟩,s7,qs,hq,hp⟩
     obtain⟨n,hn,rfl⟩:=yS hi
     have hnm:=List.mem_of_getElem? hn
     have hnc:=WF hnm
     obtain⟨m0,m1,m2⟩:=common_mem.mp hnc
     obtain⟨cc,fc⟩:=vL m0
     obtain⟨cl',fl⟩:=vL m1
     obtain⟨cr',fr⟩:=vL m2
     have hil:i<12:=by
      have:=(List.getElem?_eq_some_iff.mp hn).1
      have:=Kx S
      omega
     have hql:qs.length<=324:=by
      have h1:=zx hp
      rw[List.length_append] at h1
      have h2:=VN S ((jr s).take i)
      rw[List.length_take] at h2
      omega
     refine⟨_,rfl,.inl ⟨rfl,_,SqL.of hq⟩,_,rfl,_,rfl,G,B,ch,s,n,cc,cl',cr',rfl,hb.mono (s14.trans s7),fc,fl,fr,fun H8 x F8 s8 gr8 mc8=>⟨m,_,_,rfl,rfl,s8 _ _ hq,(by rw[List.length_map];exact qU (by omega)),?_⟩⟩
     have hF8:F8 m=none:=gr8.free Gm hq
     have mc8':MCAt C (minus (zY G H H8) m) x (jP s n cc cl' cr'):=mc8.mono (Tb.Same.minus (gr8.part hb.gh (s14.trans s7) (Same.refl _)) hF8)
     have s9:Same H4 (upd H8 m (.lst (qs.map V.ref++[.ref x]))):=fun b o e=>by
      rw[zh (zg e hm)]
      exact s8 _ _ (s7 b o e)
     have inK:∀ d,n∈numbers d->n∈vq (Vanbki.common s) d:=fun d hd=>by
      unfold vq
      exact List.mem_cons_of_mem _ (List.mem_filter.mpr ⟨hd,by simpa using hnc⟩)
     obtain⟨ql,al,vl,rl,cl⟩:=atl n (inK _ m1)
     obtain⟨qr,ar,vr,rr,cr⟩:=atr n (inK _ m2)
     have ll:=kI S 1 n
     have lr:=kI S 2 n
     refine⟨_,rfl,.inl ⟨rfl,_,SqL.of zf⟩,_,rfl,_,rfl,pl,_,rfl,(show DGet _ pl (.int (n:Nat)) (some (.ref ql)) from vl▸DGet.k (k:=Sum.inl ((n:Nat):Int)) (s9 _ _ hkl)),_,rfl,_,rfl,pr,_,rfl,(show DGet _ pr (.int (n:Nat)) (some (.ref qr)) from vr▸DGet.k (k:=Sum.inl ((n:Nat):Int)) (s9 _ _ hkr)),_,rfl,G,ql,qr,pb,al,ar,_,_,s,rfl,gH4.trans s9,s9 _ _ rl,s9 _ _ rr,cl,cr,s9 _ _ e24,(by omega),(by omega),fun H10 p10 qs10 F10 s10 hp10 hF10 gr10 r10 pr10=>?_⟩
     have F10m:F10 m=none:=gr10.free Gm zf
     have q10:=zx pr10
     have t10:=yy s (atC (qH s 1) n) (atC (qH s 2) n)
     refine⟨m,p10,_,_,rfl,rfl,s10 _ _ zf,r10,(by simp only[List.length_append,List.length_map,List.length_cons,List.length_nil];exact qN (by omega)),?_⟩
     refine⟨⟨_,rfl⟩,fun b o e=>?_,qs++[x]++qs10,?_,?_⟩
     . rw[zh (zg e hm)]
       exact s10 _ _ (s9 b o e)
     . rw[RL,zf]
       simp
     . rw[uh,zP hn,List.flatMap_append,<-List.append_assoc]
       have sM:Same (minus (zY G H H8) m) (minus (zY G H H10) m):=by
        have h1:=Same.both (D:=m) (vg (G:=G) (H:=H) s10)
        rw[uh] at h1
        exact h1
       have e1:[n].flatMap (Ky s)=[jP s n cc cl' cr']++jC s (atC (qH s 1) n) (atC (qH s 2) n):=by
        simp[Ky,Uo,fc,fl,fr]
       rw[e1,<-List.append_assoc]
       exact zQ (zQ (zG hp fun _ _ r=>r.mono ((Same.both (vg s8)).trans sM)) (.cons (mc8'.mono sM) .nil)) (zG pr10 fun _ _ r=>r.mono (Tb.Same.minus (gr10.part hb.gh (s14.trans s9) (Same.refl _)) F10m))
   . rintro σ H' ⟨⟨v6,rfl⟩,s7,qs,hq,hp⟩
     rw[show ((nats (jr s)).map V.int).length=(jr s).length by simp[nats],List.take_length,<-abk] at hp
     exact⟨_,rfl,k H' m qs _ (s14.trans s7) (s14.free hm) ((qO hb.gh (s14.trans s7)).minus (hb.gh.free (s14.free hm))) hq hp⟩
end
end Tb
end
section
namespace Tb
open PySem PySem.Spec PyProof.Rows L2
open Vanbki (nats ofNat markNat numbers)
def cnt (s:Vanbki.State) (ms:List MC):Nat:=(ms.filter fun m=>!Vanbki.has s.base m.cell.number).length
def ui (s:Vanbki.State) (k:Nat) (m:MC):MC:=if Vanbki.has s.base m.cell.number=true then m else ⟨⟨k+1,m.cell.hidden,m.cell.text⟩,m.l,m.r⟩
theorem QR (s:Vanbki.State) (m:MC):∀ (ms:List MC) (k:Nat),yI s k (ms++[m])=yI s k ms++[ui s (k+cnt s ms) m]
 | [],k=>by
  rw[List.nil_append,yI,yI]
  unfold ui cnt
  split <;> simp[yI]
 | x::r,k=>by
  rw[List.cons_append,yI,yI]
  by_cases h:Vanbki.has s.base x.cell.number=true
  . rw[if_pos h,if_pos h,QR s m r k]
    have:cnt s (x::r)=cnt s r:=by
     unfold cnt
     rw[List.filter_cons_of_neg (by simp[h])]
    rw[this]
    rfl
  . rw[if_neg h,if_neg h,QR s m r (k+1)]
    have:cnt s (x::r)=cnt s r+1:=by
     unfold cnt
     rw[List.filter_cons_of_pos (by simpa using h),List.length_cons]
    rw[this,show k+1+cnt s r=k+(cnt s r+1) by omega]
    rfl
theorem XE (s:Vanbki.State) (ms:List MC) (m:MC):cnt s (ms++[m])=cnt s ms+(if Vanbki.has s.base m.cell.number=true then 0 else 1):=by
 unfold cnt
 rw[List.filter_append,List.length_append]
 cases h:Vanbki.has s.base m.cell.number <;> simp[h]
theorem Q9 (s:Vanbki.State):∀ (ms:List MC) (k:Nat),(yI s k ms).length=ms.length
 | [],_=>rfl
 | m::r,k=>by
  rw[yI]
  split
  . rw[List.length_cons,List.length_cons,Q9 s r]
  . rw[List.length_cons,List.length_cons,Q9 s r]
def Yz (ms:List MC):Bool:=decide (12<ms.length) || ms.any fun m=>decide (99<m.cell.number)
def qo (s:Vanbki.State):Int × List MC:=if Vanbki.open_ s≠0 then (-11,[]) else if Yz (yI s (Vanbki.top s) (mcs s))=true then (-12,[]) else (0,yI s (Vanbki.top s) (mcs s))
theorem WG (l:List (Nat × Vanbki.Item)):Vanbki.tooGreat l=Yz (l.map ZC):=by
 unfold Vanbki.tooGreat Yz Vanbki.CELLS
 rw[List.length_map,List.any_map]
 rfl
theorem wk {s:Vanbki.State} (S:qu s) (g:List (Nat × Vanbki.Item)->Vanbki.State × Vanbki.Answer):((qo s).1≠0->(qo s).1<0/\Vanbki.withResult s g=(s,⟨(qo s).1,[]⟩))/\((qo s).1=0->∃ l,Vanbki.result s=some l/\Vanbki.tooGreat l=false/\l.map ZC=(qo s).2/\Vanbki.withResult s g=g l):=by
 obtain⟨h1,h2⟩:=aar S
 unfold qo Vanbki.withResult
 by_cases ho:Vanbki.open_ s≠0
 . rw[if_pos ho,h1 ho]
   exact⟨fun _=>⟨by decide,rfl⟩,fun z=>absurd z (by decide)⟩
 . obtain⟨l,e1,e2⟩:=h2 (by omega)
   rw[if_neg ho,e1]
   have e3:Vanbki.tooGreat l=Yz (yI s (Vanbki.top s) (mcs s)):=by rw[WG,e2]
   by_cases ht:Yz (yI s (Vanbki.top s) (mcs s))=true
   . rw[if_pos ht]
     refine⟨fun _=>⟨by decide,?_⟩,fun z=>absurd z (by decide)⟩
     show (if Vanbki.tooGreat l=true then _ else _)=_
     rw[e3,if_pos ht]
   . rw[if_neg ht]
     refine⟨fun z=>absurd rfl z,fun _=>⟨l,rfl,?_,e2,?_⟩⟩
     . rw[e3]
       simpa using ht
     . show (if Vanbki.tooGreat l=true then _ else _)=_
       rw[e3,if_neg ht]
def J8 (C:Ad):Sp:=fun vs H Q _=>∃ G B ch s m qs ms F0,vs=[.ref (Bk.b B),.ref m]/\BooksAt C H G B ch s/\RL H m qs/\Same F0 H/\Paired (MCAt C F0) qs ms/\ms.length<=1000/\∀ H' p qs' F,Same H H'->H p=none->Grow F0 H F H'->RL H' p qs'->Paired (MCAt C F) qs' (yI s (Vanbki.top s) ms)->Q (.ref p) H'
def Qa (C:Ad):Sp:=fun vs H Q _=>∃ m qs ms,vs=[.ref m]/\RL H m qs/\Paired (MCAt C H) qs ms/\ms.length<=1000/\∀ H',Same H H'->Q (.bl (Yz ms)) H'
def xx (C:Ad):Sp:=fun vs H Q _=>∃ G B ch s,vs=[.ref (Bk.b B)]/\BooksAt C H G B ch s/\∀ H' x dx p qs F,Same H H'->Grow G H F H'->H' x=some (.ins C.cOutcome dx (Wy (qo s).1 p))->RL H' p qs->Paired (MCAt C F) qs (qo s).2->Q (.ref x) H'
def uj (C:Ad):Sp:=fun vs H Q _=>∃ G B ch s,vs=[.ref (Bk.b B)]/\BooksAt C H G B ch s/\∀ H' p,Same H H'->H p=none->IL H' p (enc (Vanbki.step s .merged).2)->Q (.ref p) H'
def wz (C:Ad):Sp:=fun vs H Q _=>∃ G B ch s,vs=[.ref (Bk.b B)]/\BooksAt C H G B ch s/\∀ H' p,Same H H'->H p=none->IL H' p (enc (Vanbki.step s .origins).2)->Q (.ref p) H'
section
variable {P:Program}{w:World}{K:PySem.W.Frag}{mg:Str->Option Value}{base:Heap}{C:Ad}{f:Addr}{fd:FuncData}
theorem XF {f1:Addr}{fd1:FuncData}{f2:Addr}{fd2:FuncData}{f3:Addr}{fd3:FuncData}{f4:Addr}{fd4:FuncData} (F:Fun K "numbered" "numbered" we f fd) (T:Txt K mg C) (D_numbers_of:Def P w K mg base "numbers_of" 1 ["cells"] (jF C) f1 fd1) (D_number_above:Def P w K mg base "number_above" 2 ["cells"] (kq C) f2 fd2) (D_Cell:Cdf P w K mg base "Cell" 1 ["self","number","mark","text"] (qS C) C.cCell f3 fd3) (D_MergedCell:Cdf P w K mg base "MergedCell" 1 ["self","cell","on_left","on_right"] (qc C) C.cMergedCell f4 fd4):z_ P w K mg base CX0 3 f fd ["books","merged"] (J8 C):=by
 refine F.ok sc_numbered (fun vs H Q E h=>?_) (fun cdv A outer s H vs Q E hr h=>?_)
 . obtain⟨G,B,ch,s,m,qs,ms,F0,rfl,_⟩:=h
   rfl
 . obtain⟨G,B,ch,s,m,qs,ms,F0,rfl,hb,hm,f0,hp,hz,k⟩:=h
   have hu:=jR hr
   refine⟨_,(ze (zu (i:=2) sc_numbered.nd rfl (Or.inl rfl) (zk D_numbers_of (hr.mono (by decide)) (za (zn (pv 0) rfl) zi)))
    (ze (zu (i:=3) sc_numbered.nd rfl (Or.inl rfl) (zk D_number_above (hr.mono (by decide)) (za (jK yO (jK yO (zn (pv 0) rfl) (zn (qk hu (zn (pv 0) rfl) (pgi T.g_LEFT) (fun _ _=>rfl)) rfl)) (zn (qk hu (zn (pv 0) rfl) (pgi T.g_RIGHT) (fun _ _=>rfl)) rfl)) zi)))
    (ze (zu (i:=4) sc_numbered.nd rfl (Or.inl rfl) (qb zi))
    (ze (kQ PassesOwn.never rfl (qi (pv 1)) (zS (i:=5) sc_numbered.nd rfl (Or.inl rfl)) (ze (zu (i:=6) sc_numbered.nd rfl (Or.inl rfl) (zn (pv 5) rfl))
    (ze (zI (zz ZN (zn (pv 6) rfl) (pv 2) rfl) (ze (zu (i:=6) sc_numbered.nd rfl (Or.inl rfl) (qw D_Cell (hr.mono (by decide)) (za (pv 3) (za (zn (pv 6) rfl) (za (zn (pv 6) rfl) zi)))))
    (zj (aaH (i:=3) sc_numbered.nd rfl (Or.inl rfl) zH aaI))) zw)
    (zj (qA (jL PySem.F.plainAttrs_list PySem.F.slot_list_append PySem.F.type_list_append ji (pv 4) (za (qw D_MergedCell (hr.mono (by decide)) (za (pv 6) (za (zn (pv 5) rfl) (za (zn (pv 5) rfl) zi)))) zi)))))))
    (zj (zo (pv 4))))))),?_⟩
   obtain⟨as0,r0,c0,_⟩:=hb.d0
   obtain⟨as1,r1,c1,_⟩:=hb.d1
   obtain⟨as2,r2,c2,_⟩:=hb.d2
   obtain⟨dxb,eb⟩:=hb.bk
   have S:=hb.ok
   have z0:=S.b.len
   have z1:=S.l.len
   have z2:=S.r.len
   have l0:=zx c0
   have l1:=zx c1
   have l2:=zx c2
   have lm:=zx hp
   refine⟨_,rfl,B.b,C.cBooks,dxb,_,_,rfl,eb,T.c_Books,T.n_Books_base_cells,qZ _ _ _,B.lb,as0,s.base,rfl,r0,c0,(by omega),fun H1 pb s1 n1 e1=>?_⟩
   obtain⟨dx1,es1⟩:=hb.s1
   obtain⟨dx2,es2⟩:=hb.s2
   have d1:DGet H1 B.ds (.int 1) (some (.ref B.a1)):=Kr (.ref B.a1) (.ref B.a2)▸DGet.k (k:=Sum.inl 1) (s1 _ _ hb.sd)
   refine⟨_,rfl,B.b,C.cBooks,dxb,_,_,rfl,s1 _ _ eb,T.c_Books,T.n_Books_base_cells,qZ _ _ _,_,rfl,B.b,C.cBooks,dxb,_,_,rfl,s1 _ _ eb,T.c_Books,T.n_Books_sides,zJ _ _ _,B.ds,_,rfl,d1,B.a1,C.cSide,dx1,_,_,rfl,s1 _ _ es1,T.c_Side,T.n_Side_cells,zU _ _,B.lb,B.l1,_,_,rfl,rfl,s1 _ _ r0,s1 _ _ r1,(by rw[List.length_map,List.length_map];exact qN (by omega)),fun p2 n2=>?_⟩
   have s2:=Same.new (o:=.lst (as0.map V.ref++as1.map V.ref)) n2
   have s12:=s1.trans s2
   have d2:DGet _ B.ds (.int 2) (some (.ref B.a2)):=Ks (.ref B.a1) (.ref B.a2)▸DGet.k (k:=Sum.inl 2) (s12 _ _ hb.sd)
   refine⟨_,rfl,B.b,C.cBooks,dxb,_,_,rfl,s12 _ _ eb,T.c_Books,T.n_Books_sides,zJ _ _ _,B.ds,_,rfl,d2,B.a2,C.cSide,dx2,_,_,rfl,s12 _ _ es2,T.c_Side,T.n_Side_cells,zU _ _,p2,B.l2,_,_,rfl,rfl,zf,s12 _ _ r2,(by rw[List.length_append,List.length_map,List.length_map,List.length_map];exact qN (by omega)),fun p3 n3=>?_⟩
   have s3:=s12.trans (Same.new (o:=.lst ((as0.map V.ref++as1.map V.ref)++as2.map V.ref)) n3)
   refine⟨p3,as0++as1++as2,s.base++s.left++s.right,rfl,(by rw[RL,zf];simp),zQ (zQ (c0.mono s3) (c1.mono s3)) (c2.mono s3),(by simp only[List.length_append];omega),fun H4 s4=>?_⟩
   have etop:((Vanbki.greatest (numbers (s.base++s.left++s.right)):Int)+1)=((Vanbki.top s+1:Nat):Int):=by
    unfold Vanbki.top numbers
    rw[List.map_append,List.map_append]
    push_cast
    rfl
   rw[etop]
   have s04:=s3.trans s4
   refine⟨Nat.zero_le _,fun nc hnc=>?_⟩
   have s5:=s04.trans (Same.new (o:=.lst []) hnc)
   have hnc0:=s04.free hnc
   have e1':IL H4 pb (nats (numbers s.base)):=((s2.trans (Same.new (o:=.lst ((as0.map V.ref++as1.map V.ref)++as2.map V.ref)) n3)).trans s4) _ _ e1
   have hpbnc:pb≠nc:=zg e1' hnc
   refine⟨_,rfl,m,rfl,⟨_,SqL.of (s5 _ _ hm)⟩,jD (K:=K) (a:=m) (xs:=qs.map V.ref)
    (fun i σ H'=>(∃ v5 v6,σ=[some (.ref B.b),some (.ref m),some (.ref pb),some (.int (Vanbki.top s+1+cnt s (ms.take i):Nat)),some (.ref nc),v5,v6])/\Same H4 H'/\∃ qs',RL H' nc qs'/\Paired (MCAt C (minus (zY F0 H H') nc)) qs' (yI s (Vanbki.top s) (ms.take i)))
    ⟨⟨none,none,rfl⟩,Same.new hnc,[],zf,.nil⟩ (fun i σ H' _ h=>SqL.of (h.2.1 _ _ (s04 _ _ hm))) ?_ ?_⟩
   . rintro i x σ H' hi ⟨⟨v5,v6,rfl⟩,s6,qs',hq',hp'⟩
     obtain⟨q,hq,rfl⟩:=qL hi
     obtain⟨mm,hm1,dx,a,ex0,hca⟩:=zN hp hq
     have ex:=f0 _ _ ex0
     have hil:i<ms.length:=(List.getElem?_eq_some_iff.mp hm1).1
     have ex':=s6 _ _ (s04 _ _ ex)
     obtain⟨dxc,tq,ec0,et0⟩:=hca
     have ec:=f0 _ _ ec0
     have et:=f0 _ _ et0
     have ec':=s6 _ _ (s04 _ _ ec)
     have lq:=zx hp'
     rw[Q9,List.length_take] at lq
     have pf:Same F0 (zY F0 H H'):=(qO f0 (s04.trans s6)).gf
     have anc:a≠nc:=zg ec hnc0
     have tnc:tq≠nc:=zg et hnc0
     have qnc:q≠nc:=zg ex hnc0
     have last:∀ (H7:Hp) (y:Addr) (fr:Nat) (v:MC),Same H' H7->CellAt C (minus (zY F0 H H7) nc) y v.cell->v=ui s (Vanbki.top s+cnt s (ms.take i)) mm->fr=Vanbki.top s+1+cnt s (ms.take (i+1)) ->
      (WU (tBM K "list" Yf (qC 4) (qD (wt C.cMergedCell (qc C) [] E0 (qD (qC 6) (qD (yj K (qC 5) "on_left") (qD (yj K (qC 5) "on_right") xL)))) xL)))
       { nx:=(fun σ H'=>(∃ v5 v6,σ=[some (.ref B.b),some (.ref m),some (.ref pb),some (.int (Vanbki.top s+1+cnt s (ms.take (i+1)):Nat)),some (.ref nc),v5,v6])/\Same H4 H'/\∃ qs',RL H' nc qs'/\Paired (MCAt C (minus (zY F0 H H') nc)) qs' (yI s (Vanbki.top s) (ms.take (i+1)))),rt:=Q } [some (.ref B.b),some (.ref m),some (.ref pb),some (.int (fr:Nat)),some (.ref nc),some (.ref q),some (.ref y)] H7:=fun H7 y fr v s7 hy hv hfr=>by
      refine⟨_,rfl,.inl ⟨rfl,_,SqL.of (s7 _ _ hq')⟩,_,rfl,_,rfl,q,C.cMergedCell,dx,_,_,rfl,s7 _ _ ex',T.c_MergedCell,T.n_MergedCell_on_left,ZY _ _ _,_,rfl,q,C.cMergedCell,dx,_,_,rfl,s7 _ _ ex',T.c_MergedCell,T.n_MergedCell_on_right,uU _ _ _,?_⟩
      intro z dz nz nd ne
      refine⟨z,dz,_,_,_,rfl,zf,rfl,?_⟩
      have s8:=jx (c:=C.cMergedCell) (fs:=k9 y (mm.l:Nat) (mm.r:Nat)) nz nd
      have znc:z≠nc:=Ne.symm (zg (s7 _ _ hq') nz)
      refine⟨nc,_,_,rfl,rfl,s8 _ _ (s7 _ _ hq'),(by rw[List.length_map];exact qU (by omega)),?_⟩
      refine⟨⟨_,_,by rw[hfr]⟩,fun b o e=>?_,qs'++[z],?_,?_⟩
      . rw[zh (zg e hnc)]
        exact s8 _ _ (s7 _ _ (s6 b o e))
      . rw[RL,zf,List.map_append]
        rfl
      . rw[uh,zP hm1,QR]
        refine ja (zG hp' fun _ _ r=>r.mono (Same.both (vg (s7.trans s8)))) ⟨dz,y,?_,?_⟩
        . rw[qI znc,qV f0 ((s04.trans (s6.trans s7)).free nz),zf]
          unfold ui
          split <;> rfl
        . rw[<-hv]
          exact hy.mono (Same.both (vg s8))
     refine⟨_,rfl,q,C.cMergedCell,dx,_,_,rfl,ex',T.c_MergedCell,T.n_MergedCell_cell,vc _ _ _,?_⟩
     refine⟨_,rfl,a,C.cCell,dxc,_,_,rfl,ec',T.c_Cell,T.n_Cell_number,zK _ _ _,_,rfl,pb,_,rfl,.inl (SqL.of (s6 _ _ e1')),rfl,jG _,_,rfl,?_⟩
     simp only[if_true]
     rw[kh,<-xr]
     cases hh:Vanbki.has s.base mm.cell.number with
     | true =>
      refine zE (last H' a _ mm (Same.refl _) ⟨dxc,tq,by rw[qI anc];exact pf _ _ ec0,by rw[IL,qI tnc];exact pf _ _ et0⟩ (by unfold ui;rw[if_pos hh]) ?_)
      rw[zP hm1,XE,if_pos hh]
      rfl
     | false =>
      refine zM ?_
      refine⟨_,rfl,_,rfl,a,C.cCell,dxc,_,_,rfl,ec',T.c_Cell,T.n_Cell_mark,qz _ _ _,_,rfl,a,C.cCell,dxc,_,_,rfl,ec',T.c_Cell,T.n_Cell_text,zV _ _ _,?_⟩
      intro y dy ny nd ne
      refine⟨y,dy,_,_,_,rfl,zf,rfl,?_⟩
      have s7:=jx (c:=C.cCell) (fs:=kb ((Vanbki.top s+1+cnt s (ms.take i):Nat):Int) (markNat mm.cell.hidden:Nat) tq) ny nd
      have ync:y≠nc:=Ne.symm (zg hq' ny)
      refine⟨_,rfl,_,_,rfl,rfl,?_⟩
      refine last _ y (Vanbki.top s+1+cnt s (ms.take i)+1) (ui s (Vanbki.top s+cnt s (ms.take i)) mm) s7 ⟨dy,tq,?_,?_⟩ rfl ?_
      . rw[qI ync,qV f0 ((s04.trans s6).free ny),zf]
        unfold ui
        rw[hh,if_neg Bool.false_ne_true]
        have:Vanbki.top s+1+cnt s (ms.take i)=Vanbki.top s+cnt s (ms.take i)+1:=by omega
        rw[this]
      . rw[IL,qI tnc]
        unfold ui
        rw[hh,if_neg Bool.false_ne_true]
        exact vg s7 _ _ (pf _ _ et0)
      . rw[zP hm1,XE,hh,if_neg Bool.false_ne_true]
        omega
   . rintro σ H' ⟨⟨v5,v6,rfl⟩,s6,qs',hq',hp'⟩
     rw[List.length_map,lm,List.take_length] at hp'
     exact⟨_,rfl,k H' nc qs' _ (s04.trans s6) hnc0 ((qO f0 (s04.trans s6)).minus (f0.free hnc0)) hq' hp'⟩
theorem YA (F:Fun K "too_great" "too_great" xm f fd) (T:Txt K mg C):z_ P w K mg base CX0 1 f fd ["merged"] (Qa C):=by
 refine F.ok sc_too_great (fun vs H Q E h=>?_) (fun cdv A outer s H vs Q E hr h=>?_)
 . obtain⟨m,qs,ms,rfl,_⟩:=h
   rfl
 . obtain⟨m,qs,ms,rfl,hm,hp,hz,k⟩:=h
   refine⟨_,(zj (zo (acX (uv J1 (zW qY (by rfl) T.b_len qX (za (pv 0) zi)) (pgi T.g_MOST_CELLS) (zF _)) (aaD (zW (aaS rfl) (by rfl) T.b_any aba (za (w_ rfl sc_too_great.nd (qi (pv 0)) (qE (own:=[("one",1)]) (by kernel_rfl)) (fun _ _ _ _ _=>(zS (i:=1) sc_too_great.nd rfl (Or.inl rfl))) (fun _ _ _ _ _=>km) (fun _ _ _ _ _=>(uv J1 (jM (K:=K) rfl (jM (K:=K) rfl (pv 1) rfl) rfl) (pgi T.g_GREATEST_NUMBER) (zF _)))) zi)))))),?_⟩
   have lm:=zx hp
   refine⟨_,rfl,m,_,rfl,.inl (SqL.of hm),_,_,rfl,rfl,_,rfl,?_⟩
   have el:(((qs.map V.ref).length:Nat):Int)=(ms.length:Int):=by rw[List.length_map,lm]
   unfold Yz at k
   rw[el]
   by_cases h:12<ms.length
   . rw[decide_eq_true (by omega)]
     have q:=k H (Same.refl _)
     rw[decide_eq_true h] at q
     exact zM q
   . rw[decide_eq_false (by omega)]
     refine zE ?_
     rw[decide_eq_false h] at k
     refine⟨_,rfl,m,rfl,⟨_,SqL.of hm⟩,fun D hD=>?_⟩
     refine Zg (K:=K) (xs:=qs.map V.ref) ((ms.map fun m=>decide (99<m.cell.number)).map V.bl) (by simp[lm]) (SqL.of hm) hD (by rw[List.length_map];exact qU (by omega)) (fun i x y H' P' hi hy s1 hP=>?_) (fun H' s1 e=>?_)
     . obtain⟨q,hq,rfl⟩:=qL hi
       obtain⟨mm,hm1,dx,a,ex,dxc,tq,ec,et⟩:=zN hp hq
       have ey:y=.bl (decide (99<mm.cell.number)):=by
        rw[List.getElem?_map,List.getElem?_map,hm1] at hy
        exact (Option.some.inj hy).symm
       subst ey
       refine⟨rfl,_,rfl,q,C.cMergedCell,dx,_,_,rfl,s1 _ _ ex,T.c_MergedCell,T.n_MergedCell_cell,vc _ _ _,a,C.cCell,dxc,_,_,rfl,s1 _ _ ec,T.c_Cell,T.n_Cell_number,zK _ _ _,_,_,rfl,rfl,?_⟩
       have q:=hP H' (Same.refl _)
       have e1:decide (99<mm.cell.number)=decide ((99:Int)<(mm.cell.number:Int)):=by
        by_cases h:99<mm.cell.number
        . rw[decide_eq_true h,decide_eq_true (by omega)]
        . rw[decide_eq_false h,decide_eq_false (by omega)]
       rw[e1] at q
       exact q
     . refine⟨D,_,rfl,SqL.of e,?_⟩
       have q:=k H' s1
       rw[Bool.false_or] at q
       have eb:(ms.map fun m=>decide (99<m.cell.number)).any id=ms.any fun m=>decide (99<m.cell.number):=by
        rw[List.any_map]
        rfl
       rw[eb]
       exact q
theorem XG {f1:Addr}{fd1:FuncData}{f2:Addr}{fd2:FuncData}{f3:Addr}{fd3:FuncData}{f4:Addr}{fd4:FuncData}{f5:Addr}{fd5:FuncData} (F:Fun K "merge_of" "merge_of" wf f fd) (T:Txt K mg C) (D_numbered:Def P w K mg base "numbered" 3 ["books","merged"] (J8 C) f1 fd1) (D_too_great:Def P w K mg base "too_great" 1 ["merged"] (Qa C) f2 fd2) (D_Outcome:Cdf P w K mg base "Outcome" 1 ["self","refusal","merged"] (wv C) C.cOutcome f3 fd3) (D_count_without_choice:Def P w K mg base "count_without_choice" 7 ["books"] (jj C) f4 fd4) (D_cells_in_order:Def P w K mg base "cells_in_order" 6 ["books"] (xw C) f5 fd5):z_ P w K mg base CX0 8 f fd ["books"] (xx C):=by
 refine F.ok sc_merge_of (fun vs H Q E h=>?_) (fun cdv A outer s H vs Q E hr h=>?_)
 . obtain⟨G,B,ch,s,rfl,_⟩:=h
   rfl
 . obtain⟨G,B,ch,s,rfl,hb,k⟩:=h
   refine⟨_,(ze (zI (zz J1 (zk D_count_without_choice (hr.mono (by decide)) (za (pv 0) zi)) zH (zF _)) (zj (zo (qw D_Outcome (hr.mono (by decide)) (za (pgi T.g_CHOICE_MISSING) (za (qb zi) zi))))) zw)
    (ze (zu (i:=1) sc_merge_of.nd rfl (Or.inl rfl) (zk D_numbered (hr.mono (by decide)) (za (pv 0) (za (zk D_cells_in_order (hr.mono (by decide)) (za (pv 0) zi)) zi))))
    (ze (zI (QE (zk D_too_great (hr.mono (by decide)) (za (pv 1) zi))) (zj (zo (qw D_Outcome (hr.mono (by decide)) (za (pgi T.g_TOO_GREAT) (za (qb zi) zi))))) zw)
    (zj (zo (qw D_Outcome (hr.mono (by decide)) (za (pgi T.g_NO_REFUSAL) (za (pv 1) zi)))))))),?_⟩
   have S:=hb.ok
   refine⟨_,rfl,G,B,ch,s,rfl,hb,fun H1 s1=>⟨_,_,rfl,rfl,_,rfl,?_⟩⟩
   unfold qo at k
   by_cases ho:Vanbki.open_ s≠0
   . rw[decide_eq_true (by omega)]
     rw[if_pos ho] at k
     refine zM ⟨Nat.zero_le _,fun p hp=>?_⟩
     have s2:=Same.new (o:=.lst []) hp
     intro x dx nx nd ne
     refine⟨x,dx,_,_,rfl,zf,rfl,?_⟩
     have s3:=jx (c:=C.cOutcome) (fs:=Wy (-11) p) nx nd
     exact k _ x dx p [] G (s1.trans (s2.trans s3)) ⟨Same.refl _,hb.gh.trans (s1.trans (s2.trans s3)),fun _ _ e=>.inl e⟩ zf (s3 _ _ zf) .nil
   . rw[decide_eq_false (by omega)]
     rw[if_neg ho] at k
     refine zE ?_
     refine⟨_,rfl,_,rfl,G,B,ch,s,rfl,hb.mono s1,fun H2 m qs F2 s2 hm g2 rm pm=>?_⟩
     have s12:=s1.trans s2
     refine⟨G,B,ch,s,m,qs,mcs s,F2,rfl,hb.mono s12,rm,g2.fh,pm,(by have:=Ue S;omega),fun H3 p qs3 F3 s3 hp g3 r3 p3=>?_⟩
     have s13:=s12.trans s3
     refine⟨_,rfl,p,qs3,_,rfl,r3,zG p3 (fun _ _ r=>r.mono g3.fh),(by rw[Q9];have:=Ue S;omega),fun H4 s4=>⟨_,rfl,?_⟩⟩
     cases ht:Yz (yI s (Vanbki.top s) (mcs s)) with
     | true =>
      rw[ht,if_pos rfl] at k
      refine zM ⟨Nat.zero_le _,fun p hp=>?_⟩
      have s5:=Same.new (o:=.lst []) hp
      intro x dx nx nd ne
      refine⟨x,dx,_,_,rfl,zf,rfl,?_⟩
      have s6:=jx (c:=C.cOutcome) (fs:=Wy (-12) p) nx nd
      exact k _ x dx p [] G (s13.trans (s4.trans (s5.trans s6))) ⟨Same.refl _,hb.gh.trans (s13.trans (s4.trans (s5.trans s6))),fun _ _ e=>.inl e⟩ zf (s6 _ _ zf) .nil
     | false =>
      rw[ht,if_neg Bool.false_ne_true] at k
      refine zE ⟨_,rfl,?_⟩
      intro x dx nx nd ne
      refine⟨x,dx,_,_,rfl,zf,rfl,?_⟩
      have s6:=jx (c:=C.cOutcome) (fs:=Wy 0 p) nx nd
      refine k _ x dx p qs3 F3 (s13.trans (s4.trans s6)) ?_ zf (s6 _ _ (s4 _ _ r3)) p3
      exact (((Grow.trans (H1:=H2) (g2.down s1) s12 g3).up s4).up s6)
end
end Tb
end
section
namespace Tb
open PySem PySem.Spec PyProof.Rows L2
open Vanbki (nats ofNat markNat numbers)
theorem wm {s:Vanbki.State} (S:qu s):(qo s).2.length<=12:=by
 unfold qo
 split
 . simp
 . split
   . simp
   . rename_i h
     unfold Yz at h
     simp only[Bool.or_eq_true,decide_eq_true_eq,not_or] at h
     show (yI s (Vanbki.top s) (mcs s)).length<=12
     omega
section
variable {P:Program}{w:World}{K:PySem.W.Frag}{mg:Str->Option Value}{base:Heap}{C:Ad}{f:Addr}{fd:FuncData}
theorem qP {z:Int}{A B:Prop} (h1:z≠0->A) (h2:z=0->B):if (!decide (V.int z=V.int 0))=true then A else B:=by
 by_cases h:z=0
 . subst h
   exact zE (h2 rfl)
 . have:¬(V.int z=V.int 0):=fun e=>h (by injection e)
   rw[decide_eq_false this]
   exact zM (h1 h)
theorem Kz {f1:Addr}{fd1:FuncData}{f2:Addr}{fd2:FuncData} (F:Fun K "tell_merged" "tell_merged" vH f fd) (T:Txt K mg C) (D_merge_of:Def P w K mg base "merge_of" 8 ["books"] (xx C) f1 fd1) (D_tell_cells:Def P w K mg base "tell_cells" 1 ["cells"] (xF C) f2 fd2):z_ P w K mg base CX0 9 f fd ["books"] (uj C):=by
 refine F.ok sc_tell_merged (fun vs H Q E h=>?_) (fun cdv A outer s H vs Q E hr h=>?_)
 . obtain⟨G,B,ch,s,rfl,_⟩:=h
   rfl
 . obtain⟨G,B,ch,s,rfl,hb,k⟩:=h
   refine⟨_,(ze (zu (i:=1) sc_tell_merged.nd rfl (Or.inl rfl) (zk D_merge_of (hr.mono (by decide)) (za (pv 0) zi)))
    (ze (zI (zz yM (zn (pv 1) rfl) (pgi T.g_NO_REFUSAL) (zF _)) (zj (zo (qb (za (zn (pv 1) rfl) zi)))) zw)
    (zj (zo (zk D_tell_cells (hr.mono (by decide)) (za (w_ rfl sc_tell_merged.nd (qi (zn (pv 1) rfl)) (qE (own:=[("one",2)]) (by kernel_rfl)) (fun _ _ _ _ _=>(zS (i:=2) sc_tell_merged.nd rfl (Or.inl rfl))) (fun _ _ _ _ _=>km) (fun _ _ _ _ _=>(jM (K:=K) rfl (pv 2) rfl))) zi)))))),?_⟩
   have S:=hb.ok
   refine⟨_,rfl,G,B,ch,s,rfl,hb,fun H1 x dx p qs F s1 gr ex rp pp=>?_⟩
   have pp:=zG pp (fun _ _ r=>MCAt.mono gr.fh r)
   obtain⟨w1,w2⟩:=wk S (fun l=>(s,Vanbki.tellDoc (Vanbki.docOf l)))
   have k:∀ H' p,Same H H'->H p=none->IL H' p (enc (Vanbki.withResult s (fun l=>(s,Vanbki.tellDoc (Vanbki.docOf l)))).2)->Q (.ref p) H':=k
   have lq:=zx pp
   have l12:=wm S
   refine⟨_,rfl,x,C.cOutcome,dx,_,_,rfl,ex,T.c_Outcome,T.n_Outcome_refusal,ka _ _,rfl,_,rfl,qP (fun hh=>?_) (fun hh=>?_)⟩
   . obtain⟨_,e⟩:=w1 hh
     rw[e] at k
     exact⟨_,rfl,x,C.cOutcome,dx,_,_,rfl,ex,T.c_Outcome,T.n_Outcome_refusal,ka _ _,(by show 1<=sizeLine;decide),fun y hy=>k _ y (s1.trans (Same.new hy)) (s1.free hy) zf⟩
   . obtain⟨l,e1,e2,e3,e4⟩:=w2 hh
     rw[e4] at k
     have D:=yf S e1 e2
     have ed:Vanbki.docOf l=(qo s).2.map fun m=>m.cell:=by rw[Vp,e3]
     rw[ed] at k D
     refine⟨_,rfl,x,C.cOutcome,dx,_,_,rfl,ex,T.c_Outcome,T.n_Outcome_merged,xp _ _,p,rfl,⟨_,SqL.of rp⟩,fun Dl hDl=>?_⟩
     have cells:∀ {qs:List Addr}{ms:List MC},Paired (MCAt C H1) qs ms->∃ as,as.length=qs.length/\CellsAt C H1 as (ms.map fun m=>m.cell)/\∀ (i:Nat) (q:Addr),qs[i]?=some q->∃ a dx l r,as[i]?=some a/\H1 q=some (.ins C.cMergedCell dx (k9 a l r)):=by
      intro qs ms h
      induction h with
      | nil=>exact⟨[],rfl,.nil,fun i q h=>by simp at h⟩
      | @cons q m qs ms r t ih =>
       obtain⟨as,h1,h2,h3⟩:=ih
       obtain⟨dx,a,e1,e2⟩:=r
       refine⟨a::as,by simp[h1],.cons e2 h2,fun i q' hq=>?_⟩
       cases i with
       | zero =>
        simp at hq
        subst hq
        exact⟨a,dx,_,_,rfl,e1⟩
       | succ i =>
        obtain⟨a',dx',l',r',f1,f2⟩:=h3 i q' (by simpa using hq)
        exact⟨a',dx',l',r',by simpa using f1,f2⟩
     obtain⟨as,h1,h2,h3⟩:=cells pp
     refine Zg (K:=K) (xs:=qs.map V.ref) (as.map V.ref) (by rw[List.length_map,List.length_map,h1]) (SqL.of rp) hDl (by rw[List.length_map];exact qU (by omega)) (fun i y z H' P' hi hy s2 hP=>?_) (fun H2 s2 e2=>?_)
     . obtain⟨q,hq,rfl⟩:=qL hi
       obtain⟨a,hz,rfl⟩:=qL hy
       obtain⟨a',dx',l',r',f1,f2⟩:=h3 i q hq
       rw[hz] at f1
       cases f1
       exact⟨rfl,_,rfl,q,C.cMergedCell,dx',_,_,rfl,s2 _ _ f2,T.c_MergedCell,T.n_MergedCell_cell,vc _ _ _,hP H' (Same.refl _)⟩
     . refine⟨Dl,as,_,rfl,e2,h2.mono s2,(by rw[List.length_map];omega),fun c hc=>(D.txt c hc).1,fun H3 p3 s3 n3 e3=>k H3 p3 (s1.trans (s2.trans s3)) ((s1.trans s2).free n3) e3⟩
theorem Jx {f1:Addr}{fd1:FuncData} (F:Fun K "tell_origins" "tell_origins" va f fd) (T:Txt K mg C) (D_merge_of:Def P w K mg base "merge_of" 8 ["books"] (xx C) f1 fd1):z_ P w K mg base CX0 9 f fd ["books"] (wz C):=by
 refine F.ok sc_tell_origins (fun vs H Q E h=>?_) (fun cdv A outer s H vs Q E hr h=>?_)
 . obtain⟨G,B,ch,s,rfl,_⟩:=h
   rfl
 . obtain⟨G,B,ch,s,rfl,hb,k⟩:=h
   refine⟨_,(ze (zu (i:=1) sc_tell_origins.nd rfl (Or.inl rfl) (zk D_merge_of (hr.mono (by decide)) (za (pv 0) zi)))
    (ze (zI (zz yM (zn (pv 1) rfl) (pgi T.g_NO_REFUSAL) (zF _)) (zj (zo (qb (za (zn (pv 1) rfl) zi)))) zw)
    (ze (zu (i:=2) sc_tell_origins.nd rfl (Or.inl rfl) (qb (za (zW qY (by rfl) T.b_len qX (za (zn (pv 1) rfl) zi)) zi)))
    (ze (kQ PassesOwn.never rfl (qi (zn (pv 1) rfl)) (zS (i:=3) sc_tell_origins.nd rfl (Or.inl rfl)) (zj (qA (jL PySem.F.plainAttrs_list PySem.F.slot_list_extend PySem.F.type_list_extend jE (pv 2) (za (qb (za (zn (zn (pv 3) rfl) rfl) (za (zn (pv 3) rfl) (za (zn (pv 3) rfl) zi)))) zi)))))
    (zj (zo (pv 2))))))),?_⟩
   have S:=hb.ok
   refine⟨_,rfl,G,B,ch,s,rfl,hb,fun H1 x dx p qs F s1 gr ex rp pp=>?_⟩
   have pp:=zG pp (fun _ _ r=>MCAt.mono gr.fh r)
   obtain⟨w1,w2⟩:=wk S (fun l=>(s,⟨ofNat l.length,l.flatMap fun x=>[ofNat x.1,ofNat x.2.onLeft,ofNat x.2.onRight]⟩))
   have k:∀ H' p,Same H H'->H p=none->IL H' p (enc (Vanbki.withResult s (fun l=>(s,⟨ofNat l.length,l.flatMap fun x=>[ofNat x.1,ofNat x.2.onLeft,ofNat x.2.onRight]⟩))).2)->Q (.ref p) H':=k
   have lq:=zx pp
   have l12:=wm S
   refine⟨_,rfl,x,C.cOutcome,dx,_,_,rfl,ex,T.c_Outcome,T.n_Outcome_refusal,ka _ _,rfl,_,rfl,qP (fun hh=>?_) (fun hh=>?_)⟩
   . obtain⟨_,e⟩:=w1 hh
     rw[e] at k
     exact⟨_,rfl,x,C.cOutcome,dx,_,_,rfl,ex,T.c_Outcome,T.n_Outcome_refusal,ka _ _,(by show 1<=sizeLine;decide),fun y hy=>k _ y (s1.trans (Same.new hy)) (s1.free hy) zf⟩
   . obtain⟨l,e1,e2,e3,e4⟩:=w2 hh
     rw[e4] at k
     have k:∀ H' p,Same H H'->H p=none->IL H' p (ofNat (qo s).2.length::(qo s).2.flatMap fun m=>[ofNat m.cell.number,ofNat m.l,ofNat m.r])->Q (.ref p) H':=fun H' p s' hp e'=>k H' p s' hp (by
      rw[<-e3,List.length_map,List.flatMap_map] at e'
      exact e')
     refine⟨_,rfl,x,C.cOutcome,dx,_,_,rfl,ex,T.c_Outcome,T.n_Outcome_merged,xp _ _,p,_,rfl,.inl (SqL.of rp),(by show 1<=sizeLine;decide),fun t ht=>?_⟩
     have s2:=Same.new (o:=.lst [.int (((qs.map V.ref).length:Nat):Int)]) ht
     refine⟨_,rfl,x,C.cOutcome,dx,_,_,rfl,s2 _ _ ex,T.c_Outcome,T.n_Outcome_merged,xp _ _,p,rfl,⟨_,SqL.of (s2 _ _ rp)⟩,jD (K:=K) (a:=p) (xs:=qs.map V.ref)
      (fun i σ H'=>(∃ v3,σ=[some (.ref B.b),some (.ref x),some (.ref t),v3])/\Same H1 H'/\IL H' t (ofNat (qo s).2.length::((qo s).2.take i).flatMap fun m=>[ofNat m.cell.number,ofNat m.l,ofNat m.r]))
      ⟨⟨none,rfl⟩,s2,(by rw[IL,zf,List.length_map,lq];rfl)⟩ (fun i σ H' _ h=>SqL.of (h.2.1 _ _ rp)) ?_ ?_⟩
     . rintro i y σ H' hi ⟨⟨v3,rfl⟩,s3,e3'⟩
       obtain⟨q,hq,rfl⟩:=qL hi
       obtain⟨mm,hm1,dxm,a,exm,dxc,tq,ec,et⟩:=zN pp hq
       have hil:i<12:=by
        have:=(List.getElem?_eq_some_iff.mp hm1).1
        omega
       have exm':=s3 _ _ exm
       refine⟨_,rfl,.inl ⟨rfl,_,SqL.of e3'⟩,_,rfl,q,C.cMergedCell,dxm,_,_,rfl,exm',T.c_MergedCell,T.n_MergedCell_cell,vc _ _ _,a,C.cCell,dxc,_,_,rfl,s3 _ _ ec,T.c_Cell,T.n_Cell_number,zK _ _ _,_,rfl,q,C.cMergedCell,dxm,_,_,rfl,exm',T.c_MergedCell,T.n_MergedCell_on_left,ZY _ _ _,_,rfl,q,C.cMergedCell,dxm,_,_,rfl,exm',T.c_MergedCell,T.n_MergedCell_on_right,uU _ _ _,(by show 3<=sizeLine;decide),fun u hu'=>?_⟩
       have s4:=Same.new (o:=.lst [.int (mm.cell.number:Nat),.int (mm.l:Nat),.int (mm.r:Nat)]) hu'
       have hfl:(((qo s).2.take i).flatMap fun m=>[ofNat m.cell.number,ofNat m.l,ofNat m.r]).length<=36:=by
        have:=jl (f:=fun m:MC=>[ofNat m.cell.number,ofNat m.l,ofNat m.r]) (k:=3) (l:=(qo s).2.take i) (fun x _=>by simp)
        rw[List.length_take] at this
        omega
       refine⟨t,u,_,_,rfl,rfl,s4 _ _ e3',zf,(by simp only[List.length_map,List.length_cons,List.length_nil];exact qN (by omega)),?_⟩
       refine⟨⟨_,rfl⟩,fun b o e=>?_,?_⟩
       . rw[zh (zg e ht)]
         exact s4 _ _ (s3 b o e)
       . rw[IL,zf,zP hm1,List.flatMap_append]
         simp[ofNat]
     . rintro σ H' ⟨⟨v3,rfl⟩,s3,e3'⟩
       rw[List.length_map,lq,List.take_length] at e3'
       exact⟨_,rfl,k H' t (s1.trans s3) (s1.free ht) e3'⟩
end
end Tb
end
section
namespace Tb
open PySem PySem.Spec PyProof.Rows L2
open Vanbki (nats ofNat markNat numbers)
structure uk (C:Ad) (H G:Hp) (B:Bk) (ch:Chs) (s:Vanbki.State):Prop where
 bk:∃ dx,H B.b=some (.ins C.cBooks dx (qF B.lb B.ds B.dc))
 sd:H B.ds=some (.dK [(Sum.inl 1,.ref B.a1),(Sum.inl 2,.ref B.a2)])
 s1:∃ dx,H B.a1=some (.ins C.cSide dx (j3 B.l1 s.nextLeft))
 s2:∃ dx,H B.a2=some (.ins C.cSide dx (j3 B.l2 s.nextRight))
 c0:∃ as,RL G B.lb as/\CellsAt C G as s.base
 c1:∃ as,RL H B.l1 as/\CellsAt C G as s.left
 c2:∃ as,RL H B.l2 as/\CellsAt C G as s.right
 dc:H B.dc=some (.dT (chV ch))
 gh:Same G H
 fr:∀ a,a∈B.muts->G a=none
 ne:B.muts.Nodup
def wA (B:Bk) (n:Int) (a l:Addr):Bk:=if n=1 then { B with a1:=a,l1:=l } else { B with a2:=a,l2:=l }
section
variable {C:Ad}{H G:Hp}{B:Bk}{ch:Chs}{s:Vanbki.State}
theorem BooksAt.tracked (h:BooksAt C H G B ch s):∀ a,a∈B.muts->∃ o,H a=some o:=by
 intro a ha
 obtain⟨dx,e0⟩:=h.bk
 obtain⟨dx1,e1⟩:=h.s1
 obtain⟨dx2,e2⟩:=h.s2
 obtain⟨as1,f1,_⟩:=h.c1
 obtain⟨as2,f2,_⟩:=h.c2
 simp only[Bk.muts,List.mem_cons,List.not_mem_nil,or_false] at ha
 rcases ha with rfl | rfl | rfl | rfl | rfl | rfl | rfl
 . exact⟨_,e0⟩
 . exact⟨_,h.sd⟩
 . exact⟨_,e1⟩
 . exact⟨_,f1⟩
 . exact⟨_,e2⟩
 . exact⟨_,f2⟩
 . exact⟨_,h.dc⟩
theorem BooksAt.notNew (h:BooksAt C H G B ch s) {a:Addr} (ha:H a=none):¬a∈B.muts:=fun m=>by
 obtain⟨o,e⟩:=h.tracked a m
 rw[ha] at e
 cases e
theorem yA (B:Bk) (n:Int):zZ B n∈B.muts:=by
 unfold zZ Bk.muts
 split <;> simp
theorem QS (B:Bk) (n:Int):zT B n∈B.muts:=by
 unfold zT Bk.muts
 split <;> simp
theorem KA (h:B.muts.Nodup) (n:Int):zZ B n≠zT B n:=by
 unfold zZ zT
 simp only[Bk.muts,List.nodup_cons,List.mem_cons,List.not_mem_nil,or_false,not_or] at h
 obtain⟨h1,h2,h3,h4,h5,h6,h7⟩:=h
 split
 . exact fun e=>h3.1 e
 . exact fun e=>h5.1 e
theorem Qb (h:BooksAt C H G B ch s) {n:Int}{H' G':Hp}{a l:Addr}{as:List Addr}{d:Vanbki.Doc}{k:Nat} (hn:Vanbki.noSide n=false)
 (keep:∀ b o,H b=some o->b≠B.ds->b≠zZ B n->b≠zT B n->H' b=some o) (hds:H' B.ds=some (.dK [(Sum.inl 1,.ref (wA B n a l).a1),(Sum.inl 2,.ref (wA B n a l).a2)]))
 (ha:∃ dx,H' a=some (.ins C.cSide dx (j3 l k))) (hl:RL H' l as) (gg:Same G G') (gh:Same G' H') (gf:∀ b,b∈B.muts->G' b=none) (ga:G' a=none) (gl:G' l=none)
 (a0:a=zZ B n∨H a=none) (l0:l=zT B n∨H l=none) (al:a≠l) (cells:CellsAt C G' as d):uk C H' G' (wA B n a l) ch (Vanbki.setSide s n d k):=by
 have ne:=h.ne
 have tr:=h.tracked
 have hds':=hds
 simp only[Bk.muts,List.nodup_cons,List.mem_cons,List.not_mem_nil,or_false,not_or] at ne tr gf
 obtain⟨⟨n1,n2,n3,n4,n5,n6⟩,⟨n7,n8,n9,n10,n11⟩,⟨n12,n13,n14,n15⟩,⟨n16,n17,n18⟩,⟨n19,n20⟩,n21,_⟩:=ne
 have fresh:∀ {x m:Addr},H x=none->(∃ o,H m=some o)->m≠x:=fun hx ⟨o,e⟩ z=>by
  rw[z,hx] at e
  cases e
 obtain⟨dxb,eb⟩:=h.bk
 obtain⟨dx1,e1⟩:=h.s1
 obtain⟨dx2,e2⟩:=h.s2
 obtain⟨as0,f0,c0⟩:=h.c0
 obtain⟨as1,f1,c1⟩:=h.c1
 obtain⟨as2,f2,c2⟩:=h.c2
 have hdc:=h.dc
 have hcl:∀ {as:List Addr}{d:Vanbki.Doc},CellsAt C G as d->CellsAt C G' as d:=fun r=>r.mono gg
 rcases jz hn with rfl | rfl
 . simp only[zZ,zT,if_true] at keep a0 l0
   have A:∀ m,(∃ o,H m=some o)->m≠B.a1->m≠a:=fun m hm h1=>by
    rcases a0 with z | z
    . rw[z];exact h1
    . exact fresh z hm
   have L:∀ m,(∃ o,H m=some o)->m≠B.l1->m≠l:=fun m hm h1=>by
    rcases l0 with z | z
    . rw[z];exact h1
    . exact fresh z hm
   refine⟨⟨dxb,?_⟩,hds,ha,⟨dx2,?_⟩,⟨as0,gg _ _ f0,hcl c0⟩,⟨as,hl,cells⟩,⟨as2,?_,hcl c2⟩,?_,gh,?_,?_⟩
   . exact keep _ _ eb n1 n2 n3
   . exact keep _ _ e2 (Ne.symm n9) (Ne.symm n13) (Ne.symm n16)
   . exact keep _ _ f2 (Ne.symm n10) (Ne.symm n14) (Ne.symm n17)
   . exact keep _ _ hdc (Ne.symm n11) (Ne.symm n15) (Ne.symm n18)
   . intro b hb
     simp only[wA,if_true,Bk.muts,List.mem_cons,List.not_mem_nil,or_false] at hb
     rcases hb with rfl | rfl | rfl | rfl | rfl | rfl | rfl
     . exact gf _ (.inl rfl)
     . exact gf _ (.inr (.inl rfl))
     . exact ga
     . exact gl
     . exact gf _ (.inr (.inr (.inr (.inr (.inl rfl)))))
     . exact gf _ (.inr (.inr (.inr (.inr (.inr (.inl rfl))))))
     . exact gf _ (.inr (.inr (.inr (.inr (.inr (.inr rfl))))))
   . simp only[wA,if_true,Bk.muts,List.nodup_cons,List.mem_cons,List.not_mem_nil,or_false,not_or,not_false_eq_true,and_true,List.nodup_nil]
     refine⟨⟨n1,A _ ⟨_,eb⟩ n2,L _ ⟨_,eb⟩ n3,n4,n5,n6⟩,⟨A _ ⟨_,h.sd⟩ n7,L _ ⟨_,h.sd⟩ n8,n9,n10,n11⟩,⟨al,Ne.symm (A _ ⟨_,e2⟩ (Ne.symm n13)),Ne.symm (A _ ⟨_,f2⟩ (Ne.symm n14)),Ne.symm (A _ ⟨_,hdc⟩ (Ne.symm n15))⟩,⟨Ne.symm (L _ ⟨_,e2⟩ (Ne.symm n16)),Ne.symm (L _ ⟨_,f2⟩ (Ne.symm n17)),Ne.symm (L _ ⟨_,hdc⟩ (Ne.symm n18))⟩,⟨n19,n20⟩,n21⟩
 . have t21:¬((2:Int)=1):=by decide
   simp only[zZ,zT,t21,if_false] at keep a0 l0
   have A:∀ m,(∃ o,H m=some o)->m≠B.a2->m≠a:=fun m hm h1=>by
    rcases a0 with z | z
    . rw[z];exact h1
    . exact fresh z hm
   have L:∀ m,(∃ o,H m=some o)->m≠B.l2->m≠l:=fun m hm h1=>by
    rcases l0 with z | z
    . rw[z];exact h1
    . exact fresh z hm
   refine⟨⟨dxb,?_⟩,hds,⟨dx1,?_⟩,ha,⟨as0,gg _ _ f0,hcl c0⟩,⟨as1,?_,hcl c1⟩,⟨as,hl,cells⟩,?_,gh,?_,?_⟩
   . exact keep _ _ eb n1 n4 n5
   . exact keep _ _ e1 (Ne.symm n7) n13 n14
   . exact keep _ _ f1 (Ne.symm n8) n16 n17
   . exact keep _ _ hdc (Ne.symm n11) (Ne.symm n20) (Ne.symm n21)
   . intro b hb
     simp only[wA,t21,if_false,Bk.muts,List.mem_cons,List.not_mem_nil,or_false] at hb
     rcases hb with rfl | rfl | rfl | rfl | rfl | rfl | rfl
     . exact gf _ (.inl rfl)
     . exact gf _ (.inr (.inl rfl))
     . exact gf _ (.inr (.inr (.inl rfl)))
     . exact gf _ (.inr (.inr (.inr (.inl rfl))))
     . exact ga
     . exact gl
     . exact gf _ (.inr (.inr (.inr (.inr (.inr (.inr rfl))))))
   . simp only[wA,t21,if_false,Bk.muts,List.nodup_cons,List.mem_cons,List.not_mem_nil,or_false,not_or,not_false_eq_true,and_true,List.nodup_nil]
     refine⟨⟨n1,n2,n3,A _ ⟨_,eb⟩ n4,L _ ⟨_,eb⟩ n5,n6⟩,⟨n7,n8,A _ ⟨_,h.sd⟩ n9,L _ ⟨_,h.sd⟩ n10,n11⟩,⟨n12,A _ ⟨_,e1⟩ n13,L _ ⟨_,e1⟩ n14,n15⟩,⟨A _ ⟨_,f1⟩ n16,L _ ⟨_,f1⟩ n17,n18⟩,⟨al,Ne.symm (A _ ⟨_,hdc⟩ (Ne.symm n20))⟩,Ne.symm (L _ ⟨_,hdc⟩ (Ne.symm n21))⟩
theorem JR (h:BooksAt C H G B ch s) {n:Int}{H' G':Hp}{a l:Addr} (keep:∀ b o,H b=some o->b≠B.ds->b≠zZ B n->b≠zT B n->H' b=some o) (gg:Same G G') (a0:a=zZ B n∨H a=none) (l0:l=zT B n∨H l=none)
 (nw:∀ b o,G' b=some o->G b=some o∨H b=none):Fr H G B H' G' (wA B n a l) where
 b:=by unfold wA;split <;> rfl
 kept:=fun b o e m=>keep b o e (fun z=>m (by rw[z];simp[Bk.muts])) (fun z=>m (z▸yA B n)) (fun z=>m (z▸QS B n))
 grow:=gg
 newM:=fun b hb=>by
  have mA:=yA B n
  have mL:=QS B n
  have key:b=a∨b=l∨b∈B.muts:=by
   unfold wA at hb
   split at hb <;> simp only[Bk.muts,List.mem_cons,List.not_mem_nil,or_false] at hb ⊢ <;> rcases hb with z | z | z | z | z | z | z <;> simp[z]
  rcases key with z | z | z
  . rcases a0 with y | y
    . exact .inl (by rw[z,y];exact mA)
    . exact .inr (by rw[z];exact y)
  . rcases l0 with y | y
    . exact .inl (by rw[z,y];exact mL)
    . exact .inr (by rw[z];exact y)
  . exact .inl z
 newG:=nw
theorem KB (B:Bk) (n:Int):wA B n (zZ B n) (zT B n)=B:=by
 unfold wA zZ zT
 split <;> rfl
end
def PostEdit (C:Ad) (H G:Hp) (B:Bk) (ch:Chs) (s:Vanbki.State) (r:Vanbki.State × Vanbki.Answer) (Q:VK):Prop :=
 (r.2.number<0->r.1=s->∀ H',Same H H'->Q (.int r.2.number) H')/\(0<=r.2.number->∀ H' G' B',uk C H' G' B' ch r.1->Fr H G B H' G' B'->Q (.int r.2.number) H')
theorem PostEdit.no {C:Ad}{H G:Hp}{B:Bk}{ch:Chs}{s:Vanbki.State}{r:Vanbki.State × Vanbki.Answer}{Q:VK} (h:PostEdit C H G B ch s r Q) {n:Int} (e:r=(s,⟨n,[]⟩)) (hn:n<0) {H':Hp} (k:Same H H'):Q (.int n) H':=by
 subst e
 exact h.1 hn rfl H' k
theorem PostEdit.yes {C:Ad}{H G:Hp}{B:Bk}{ch:Chs}{s t:Vanbki.State}{r:Vanbki.State × Vanbki.Answer}{Q:VK} (h:PostEdit C H G B ch s r Q) {n:Int} (e:r=(t,⟨n,[]⟩)) (hn:0<=n) {H' G':Hp}{B':Bk} (b:uk C H' G' B' ch t) (k:Fr H G B H' G' B'):Q (.int n) H':=by
 subst e
 exact h.2 hn H' G' B' b k
theorem qG {s:Vanbki.State}{side:Int}{own:List (Bool × Int)}{d:Vanbki.Doc}{k:Nat}{a n:Int} (h:Vanbki.first ((Vanbki.noSide side,-8)::own)=some n):Vanbki.edit s side own d k a=(s,⟨n,[]⟩):=by
 unfold Vanbki.edit
 rw[h]
theorem yV {s:Vanbki.State}{side:Int}{own:List (Bool × Int)}{d:Vanbki.Doc}{k:Nat}{a:Int} (h:Vanbki.first ((Vanbki.noSide side,-8)::own)=none):Vanbki.edit s side own d k a=(Vanbki.setSide s side d k,⟨a,[]⟩):=by
 unfold Vanbki.edit
 rw[h]
theorem qt {c:Bool}{n:Int}{r:List (Bool × Int)} (h:c=true):Vanbki.first ((c,n)::r)=some n:=by
 unfold Vanbki.first
 rw[if_pos h]
theorem zC {c:Bool}{n:Int}{r:List (Bool × Int)} (h:c=false):Vanbki.first ((c,n)::r)=Vanbki.first r:=by
 rw[Vanbki.first,h,if_neg Bool.false_ne_true]
theorem QT {C:Ad}{H G:Hp}{y:Addr}{o:HO} (g:Same G H) (hy:H y=none):Same G (upd G y o)/\∀ b u,(upd G y o) b=some u->G b=some u∨H b=none:=by
 refine⟨Same.new (g.free hy),fun b u e=>?_⟩
 by_cases h:b=y
 . exact .inr (by rw[h];exact hy)
 . rw[zh h] at e
   exact .inl e
theorem yW {C:Ad}{H1:Hp}{x dx q:Addr}{xs:List V}{k:Int} (nx:H1 x=none) (nd:H1 dx=none) (ne:dx≠x) (hq:(upd (upd H1 dx (.own x)) x (.ins C.cSide dx [])) q=none) :
 H1 q=none/\q≠x/\Same H1 (upd (upd (upd (upd H1 dx (.own x)) x (.ins C.cSide dx [])) q (.lst xs)) x (.ins C.cSide dx (j3 q k)))/\(upd (upd (upd (upd H1 dx (.own x)) x (.ins C.cSide dx [])) q (.lst xs)) x (.ins C.cSide dx (j3 q k))) q=some (.lst xs):=by
 have qx:q≠x:=fun e=>by rw[e,zf] at hq;cases hq
 have qd:q≠dx:=fun e=>by rw[e,zh ne,zf] at hq;cases hq
 have q0:H1 q=none:=by rw[zh qx,zh qd] at hq;exact hq
 refine⟨q0,qx,fun b o e=>?_,?_⟩
 . rw[zh (zg e nx),zh (zg e q0),zh (zg e nx),zh (zg e nd)]
   exact e
 . rw[zh qx,zf]
def y9 (C:Ad):Sp:=fun vs H Q _=>∃ (b dx lb ds dc:Addr) (as:List Addr) (d:Vanbki.Doc),vs=[.ref b]/\H b=some (.ins C.cBooks dx (qF lb ds dc))/\RL H lb as/\CellsAt C H as d/\d.length<=1000 /\
 ∀ H' x dx' q,Same H H'->H x=none->H q=none->q≠x->H' x=some (.ins C.cSide dx' (j3 q ((Vanbki.greatest (numbers d):Int)+1)))->RL H' q as->Q (.ref x) H'
def Qc (s:Vanbki.State) (n a:Int):Int:=if Vanbki.noSide n=true then -8 else if Vanbki.hasI (Vanbki.sideDoc s n) a=true then 0 else -1
theorem jT (s:Vanbki.State) (n a:Int):(Vanbki.noSide n=true/\Qc s n a=-8)∨(Vanbki.noSide n=false/\Vanbki.hasI (Vanbki.sideDoc s n) a=false/\Qc s n a=-1)∨(Vanbki.noSide n=false/\Vanbki.hasI (Vanbki.sideDoc s n) a=true/\Qc s n a=0):=by
 unfold Qc
 cases Vanbki.noSide n <;> cases Vanbki.hasI (Vanbki.sideDoc s n) a <;> simp
def q_ (C:Ad):Sp:=fun vs H Q _=>∃ G B ch s n m,vs=[.ref (Bk.b B),.int n,.int m]/\BooksAt C H G B ch s/\∀ H',Same H H'->Q (.int (Qc s n m)) H'
def Qe (C:Ad):Sp:=fun vs H Q _=>∃ G B ch s n,vs=[.ref (Bk.b B),.int n]/\BooksAt C H G B ch s/\PostEdit C H G B ch s (Vanbki.sideEdit s (.copy n)) Q
def uZ (C:Ad):Sp:=fun vs H Q _=>∃ G B ch s n,vs=[.ref (Bk.b B),.int n]/\BooksAt C H G B ch s/\PostEdit C H G B ch s (Vanbki.sideEdit s (.reset n)) Q
section
variable {P:Program}{w:World}{K:PySem.W.Frag}{mg:Str->Option Value}{base:Heap}{C:Ad}{f:Addr}{fd:FuncData}
theorem Jy {f1:Addr}{fd1:FuncData}{f2:Addr}{fd2:FuncData} (F:Fun K "copy_of_base" "copy_of_base" kX f fd) (T:Txt K mg C) (D_Side:Cdf P w K mg base "Side" 1 ["self","cells","next_number"] (jw C) C.cSide f1 fd1) (D_number_above:Def P w K mg base "number_above" 2 ["cells"] (kq C) f2 fd2):z_ P w K mg base CX0 3 f fd ["books"] (y9 C):=by
 refine F.ok Jo (fun vs H Q E h=>?_) (fun cdv A outer s H vs Q E hr h=>?_)
 . obtain⟨b,dx,lb,ds,dc,as,d,rfl,_⟩:=h
   rfl
 . obtain⟨b,dx,lb,ds,dc,as,d,rfl,eb,rl,hc,hz,k⟩:=h
   refine⟨_,(zj (zo (qw D_Side (hr.mono (by decide)) (za (zn (pv 0) rfl) (za (zk D_number_above (hr.mono (by decide)) (za (zn (pv 0) rfl) zi)) zi))))),?_⟩
   refine⟨_,rfl,b,C.cBooks,dx,_,_,rfl,eb,T.c_Books,T.n_Books_base_cells,qZ _ _ _,_,rfl,b,C.cBooks,dx,_,_,rfl,eb,T.c_Books,T.n_Books_base_cells,qZ _ _ _,lb,as,d,rfl,rl,hc,hz,fun H1 s1=>?_⟩
   have m:=ab3 (C:=C) (H1:=H1) (Q:=Q) (l:=lb) (xs:=as.map V.ref) (k:=(Vanbki.greatest (numbers d):Int)+1) (s1 _ _ rl) fun x dx' q H2 nx nq qx s2 e2 e3=>k H2 x dx' q (s1.trans s2) (s1.free nx) (s1.free nq) qx e2 e3
   exact m
theorem Zi {f1:Addr}{fd1:FuncData} (F:Fun K "refusal_of_cell" "refusal_of_cell" jO f fd) (T:Txt K mg C) (D_place_of:Def P w K mg base "place_of" 1 ["cells","number"] (jq C) f1 fd1):z_ P w K mg base CX0 2 f fd ["books","side","number"] (q_ C):=by
 refine F.ok Ze (fun vs H Q E h=>?_) (fun cdv A outer s H vs Q E hr h=>?_)
 . obtain⟨G,B,ch,s,n,m,rfl,_⟩:=h
   rfl
 . obtain⟨G,B,ch,s,n,m,rfl,hb,k⟩:=h
   have hu:=jR hr
   refine⟨_,(ze (zI (qJ (vt hu (pv 1) (zn (pv 0) rfl))) (zj (zo (pgi T.g_NO_SIDE))) zw)
    (ze (zI (qJ (jJ (zk D_place_of (hr.mono (by decide)) (za (zn (qk hu (zn (pv 0) rfl) (pv 1) (fun _ _=>rfl)) rfl) (za (pv 2) zi))))) (zj (zo (pgi T.g_NO_CELL))) zw)
    (zj (zo (pgi T.g_NO_REFUSAL))))),?_⟩
   unfold Qc at k
   obtain⟨dxb,eb⟩:=hb.bk
   refine⟨_,rfl,_,rfl,B.b,C.cBooks,dxb,_,_,rfl,eb,T.c_Books,T.n_Books_sides,zJ _ _ _,B.ds,_,rfl,yU hb.sd n,_,rfl,?_⟩
   rw[vy]
   cases hn:Vanbki.noSide n with
   | true =>
    rw[hn] at k
    exact zM (k H (Same.refl _))
   | false =>
    rw[hn,if_neg Bool.false_ne_true] at k
    obtain⟨as,rS,cS,_⟩:=hb.dS n
    obtain⟨dxs,eS⟩:=hb.sS n
    refine zE ?_
    refine⟨_,rfl,B.b,C.cBooks,dxb,_,_,rfl,eb,T.c_Books,T.n_Books_sides,zJ _ _ _,_,rfl,B.ds,_,rfl,jc hb.sd hn,zZ B n,C.cSide,dxs,_,_,rfl,eS,T.c_Side,T.n_Side_cells,zU _ _,_,rfl,zT B n,as,_,_,rfl,rS,cS,fun H1 s1=>?_⟩
    have k1:=k H1 s1
    rw[kC] at k1
    cases hp:jH (Vanbki.sideDoc s n) m with
    | none =>
     rw[hp] at k1
     exact⟨_,rfl,zM k1⟩
    | some i =>
     rw[hp] at k1
     exact⟨_,rfl,zE k1⟩
theorem YB {f1:Addr}{fd1:FuncData} (F:Fun K "copy_side" "copy_side" xa f fd) (T:Txt K mg C) (D_Side:Cdf P w K mg base "Side" 1 ["self","cells","next_number"] (jw C) C.cSide f1 fd1):z_ P w K mg base CX0 3 f fd ["books","side"] (Qe C):=by
 refine F.ok sc_copy_side (fun vs H Q E h=>?_) (fun cdv A outer s H vs Q E hr h=>?_)
 . obtain⟨G,B,ch,s,n,rfl,_⟩:=h
   rfl
 . obtain⟨G,B,ch,s,n,rfl,hb,k⟩:=h
   have hu:=jR hr
   refine⟨_,(ze (zI (qJ (vt hu (pv 1) (zn (pv 0) rfl))) (zj (zo (pgi T.g_NO_SIDE))) zw)
    (ze (zu (i:=2) sc_copy_side.nd rfl (Or.inl rfl) (qk hu (zn (pv 0) rfl) (jQ (zz qT (pv 1) (pgi T.g_RIGHT) (zF _)) (pgi T.g_LEFT) (pgi T.g_RIGHT)) (fun _ _=>rfl)))
    (ze (ZQ hu (zn (pv 0) rfl) (pv 1) (qw D_Side (hr.mono (by decide)) (za (zn (pv 2) rfl) (za (zn (pv 2) rfl) zi))) rfl)
    (zj (zo zH))))),?_⟩
   obtain⟨dxb,eb⟩:=hb.bk
   refine⟨_,rfl,_,rfl,B.b,C.cBooks,dxb,_,_,rfl,eb,T.c_Books,T.n_Books_sides,zJ _ _ _,B.ds,_,rfl,yU hb.sd n,_,rfl,?_⟩
   rw[vy]
   cases hn:Vanbki.noSide n with
   | true=>exact zM (k.no (qG (qt hn)) (by decide) (Same.refl _))
   | false =>
    refine zE ?_
    have h3:Vanbki.noSide (3 - n)=false:=by
     rcases jz hn with rfl | rfl <;> rfl
    obtain⟨as,rS,cS,gS⟩:=hb.dS (3 - n)
    obtain⟨dxs,eS⟩:=hb.sS (3 - n)
    have dg:DGet H B.ds (.int (3 - n)) (some (.ref (zZ B (3 - n)))):=jc hb.sd h3
    have rest:KY (Y9 (fun σ H Q'=>Q' (V.ref (zZ B (3 - n))) H) (wq 2)) (KY (ace (yj K (qC 0) "sides") (qC 1) (wt C.cSide (jw C) [] E0 (qD (yj K (qC 2) "cells") (qD (yj K (qC 2) "next_number") xL)))) (Y7 (tC (.int 0)))) { nx:=fun _ H'=>Q .non H',rt:=Q } [some (.ref B.b),some (.int n),none] H:=by
     refine⟨_,rfl,zZ B (3 - n),C.cSide,dxs,_,_,rfl,eS,T.c_Side,T.n_Side_cells,zU _ _,_,rfl,zZ B (3 - n),C.cSide,dxs,_,_,rfl,eS,T.c_Side,T.n_Side_next_number,Km _ _,?_⟩
     intro x dx nx nd ne
     refine⟨x,dx,zT B (3 - n),as.map V.ref,_,rfl,zf,(by rw[zh (zg rS nx),zh (zg rS nd)];exact rS),fun q hq=>⟨rfl,?_⟩⟩
     obtain⟨nq,qx,s2,e3⟩:=yW (C:=C) (xs:=as.map V.ref) (k:=(Vanbki.sideNext s (3 - n):Nat)) nx nd ne hq
     generalize hH2:upd (upd (upd (upd H dx (.own x)) x (.ins C.cSide dx [])) q (.lst (as.map V.ref))) x (.ins C.cSide dx (j3 q (Vanbki.sideNext s (3 - n):Nat)))=H2 at s2 e3 ⊢
     have e2:H2 x=some (.ins C.cSide dx (j3 q (Vanbki.sideNext s (3 - n):Nat))):=by rw[<-hH2];exact zf
     have sd2:=s2 _ _ hb.sd
     refine⟨_,rfl,B.b,C.cBooks,dxb,_,_,rfl,s2 _ _ eb,T.c_Books,T.n_Books_sides,zJ _ _ _,_,rfl,B.ds,_,rfl,DPut.k (k:=Sum.inl n) sd2 (by show 2<sizeLine;decide),?_⟩
     have xds:x≠B.ds:=Ne.symm (zg hb.sd nx)
     have qds:q≠B.ds:=Ne.symm (zg hb.sd nq)
     have keep:∀ b o,H b=some o->b≠B.ds->b≠zZ B n->b≠zT B n->upd H2 B.ds (.dK (yk [(Sum.inl 1,.ref B.a1),(Sum.inl 2,.ref B.a2)] (Sum.inl n) (.ref x))) b=some o:=fun b o e h1 _ _=>by
      rw[zh h1]
      exact s2 _ _ e
     refine k.yes (yV (by rw[zC hn];rfl)) (by decide) (Qb (a:=x) (l:=q) hb hn keep ?_ ⟨dx,?_⟩ (as:=as) ?_ (Same.refl G) ?_ hb.fr (hb.gh.free nx) (hb.gh.free nq) (.inr nx) (.inr nq) (Ne.symm qx) gS) (JR hb keep (Same.refl _) (.inr nx) (.inr nq) fun b o e=>.inl e)
     . rw[zf]
       rcases jz hn with rfl | rfl <;> rfl
     . rw[zh xds]
       exact e2
     . rw[RL,zh qds]
       exact e3
     . intro b o e
       rw[zh (zg e (hb.fr _ (by simp[Bk.muts])))]
       exact s2 _ _ (hb.gh _ _ e)
    rcases jz hn with rfl | rfl
    . refine⟨_,rfl,B.b,C.cBooks,dxb,_,_,rfl,eb,T.c_Books,T.n_Books_sides,zJ _ _ _,_,rfl,rfl,_,rfl,zE ⟨B.ds,_,rfl,dg,rest⟩⟩
    . refine⟨_,rfl,B.b,C.cBooks,dxb,_,_,rfl,eb,T.c_Books,T.n_Books_sides,zJ _ _ _,_,rfl,rfl,_,rfl,zM ⟨B.ds,_,rfl,dg,rest⟩⟩
theorem V8 {f1:Addr}{fd1:FuncData} (F:Fun K "reset_side" "reset_side" yo f fd) (T:Txt K mg C) (D_copy_of_base:Def P w K mg base "copy_of_base" 3 ["books"] (y9 C) f1 fd1):z_ P w K mg base CX0 4 f fd ["books","side"] (uZ C):=by
 refine F.ok V0 (fun vs H Q E h=>?_) (fun cdv A outer s H vs Q E hr h=>?_)
 . obtain⟨G,B,ch,s,n,rfl,_⟩:=h
   rfl
 . obtain⟨G,B,ch,s,n,rfl,hb,k⟩:=h
   have hu:=jR hr
   refine⟨_,(ze (zI (qJ (vt hu (pv 1) (zn (pv 0) rfl))) (zj (zo (pgi T.g_NO_SIDE))) zw)
    (ze (ZQ hu (zn (pv 0) rfl) (pv 1) (zk D_copy_of_base (hr.mono (by decide)) (za (pv 0) zi)) rfl)
    (zj (zo zH)))),?_⟩
   obtain⟨dxb,eb⟩:=hb.bk
   refine⟨_,rfl,_,rfl,B.b,C.cBooks,dxb,_,_,rfl,eb,T.c_Books,T.n_Books_sides,zJ _ _ _,B.ds,_,rfl,yU hb.sd n,_,rfl,?_⟩
   rw[vy]
   cases hn:Vanbki.noSide n with
   | true=>exact zM (k.no (qG (qt hn)) (by decide) (Same.refl _))
   | false =>
    refine zE ?_
    obtain⟨as0,r0,c0,g0⟩:=hb.d0
    have z0:=hb.ok.b.len
    refine⟨_,rfl,B.b,dxb,B.lb,B.ds,B.dc,as0,s.base,rfl,eb,r0,c0,(by omega),fun H2 x dx q s2 nx nq qx e2 e3=>?_⟩
    have sd2:=s2 _ _ hb.sd
    refine⟨_,rfl,B.b,C.cBooks,dxb,_,_,rfl,s2 _ _ eb,T.c_Books,T.n_Books_sides,zJ _ _ _,_,rfl,B.ds,_,rfl,DPut.k (k:=Sum.inl n) sd2 (by show 2<sizeLine;decide),?_⟩
    have xds:x≠B.ds:=Ne.symm (zg hb.sd nx)
    have qds:q≠B.ds:=Ne.symm (zg hb.sd nq)
    have keep:∀ b o,H b=some o->b≠B.ds->b≠zZ B n->b≠zT B n->upd H2 B.ds (.dK (yk [(Sum.inl 1,.ref B.a1),(Sum.inl 2,.ref B.a2)] (Sum.inl n) (.ref x))) b=some o:=fun b o e h1 _ _=>by
     rw[zh h1]
     exact s2 _ _ e
    refine k.yes (yV (by rw[zC hn];rfl)) (by decide) (Qb (a:=x) (l:=q) hb hn keep ?_ ⟨dx,?_⟩ (as:=as0) ?_ (Same.refl G) ?_ hb.fr (hb.gh.free nx) (hb.gh.free nq) (.inr nx) (.inr nq) (Ne.symm qx) g0) (JR hb keep (Same.refl _) (.inr nx) (.inr nq) fun b o e=>.inl e)
    . rw[zf]
      rcases jz hn with rfl | rfl <;> rfl
    . rw[zh xds,e2]
      rfl
    . rw[RL,zh qds]
      exact e3
    . intro b o e
      rw[zh (zg e (hb.fr _ (by simp[Bk.muts])))]
      exact s2 _ _ (hb.gh _ _ e)
end
end Tb
end
section
namespace Tb
open PySem PySem.Spec PyProof.Rows L2
open Vanbki (nats ofNat markNat numbers)
section
variable {C:Ad}{H G:Hp}{B:Bk}{ch:Chs}{s:Vanbki.State}
theorem Qg (hb:BooksAt C H G B ch s) {n:Int} (hn:Vanbki.noSide n=false) {H4 H' G':Hp}{as:List Addr}{d:Vanbki.Doc}{k:Nat} (s4:Same H H4) (gg:Same G G') (g4:Same G' H4) (nw:∀ b o,G' b=some o->G b=some o∨H b=none) (cells:CellsAt C G' as d)
 (p1:∀ b,b≠zZ B n->b≠zT B n->H' b=H4 b) (p2:RL H' (zT B n) as) (p3:∃ dx,H' (zZ B n)=some (.ins C.cSide dx (j3 (zT B n) k))):uk C H' G' B ch (Vanbki.setSide s n d k)/\Fr H G B H' G' B:=by
 have gf:∀ b,b∈B.muts->G' b=none:=fun b m=>by
  cases e:G' b with
  | none=>rfl
  | some o =>
   rcases nw b o e with z | z
   . rw[hb.fr b m] at z
     cases z
   . exact absurd m (hb.notNew z)
 have mA:=yA B n
 have mL:=QS B n
 have keep:∀ b o,H b=some o->b≠B.ds->b≠zZ B n->b≠zT B n->H' b=some o:=fun b o e _ h2 h3=>by
  rw[p1 b h2 h3]
  exact s4 _ _ e
 have ne:=hb.ne
 have dsA:B.ds≠zZ B n/\B.ds≠zT B n:=by
  simp only[Bk.muts,List.nodup_cons,List.mem_cons,List.not_mem_nil,or_false,not_or] at ne
  unfold zZ zT
  split
  . exact⟨ne.2.1.1,ne.2.1.2.1⟩
  . exact⟨ne.2.1.2.2.1,ne.2.1.2.2.2.1⟩
 have h1:=Qb (a:=zZ B n) (l:=zT B n) hb hn keep (by rw[KB,p1 _ dsA.1 dsA.2];exact s4 _ _ hb.sd) p3 p2 gg (fun b o e=>by
  have b1:b≠zZ B n:=fun z=>by rw[z,gf _ mA] at e;cases e
  have b2:b≠zT B n:=fun z=>by rw[z,gf _ mL] at e;cases e
  rw[p1 b b1 b2]
  exact g4 _ _ e) gf (gf _ mA) (gf _ mL) (.inl rfl) (.inl rfl) (KA hb.ne n) cells
 have h2:=JR (a:=zZ B n) (l:=zT B n) (H':=H') hb keep gg (.inl rfl) (.inl rfl) nw
 rw[KB] at h1 h2
 exact⟨h1,h2⟩
end
theorem abl {α:Type}{l:List α}{i:Nat}{c:α} (h:l[i]?=some c):l.set i c=l:=by
 obtain⟨hi,e⟩:=List.getElem?_eq_some_iff.mp h
 rw[<-e]
 exact List.set_getElem_self hi
theorem vV {row:List Int} (h:Vanbki.bytes row=true):nats (Vanbki.textOf row)=row:=by
 unfold nats Vanbki.textOf
 rw[List.map_map]
 have:∀ x,x∈row->(ofNat ∘ Int.toNat) x=x:=fun x hx=>by
  have:=(List.all_eq_true.mp h) x hx
  simp only[Bool.and_eq_true,decide_eq_true_eq] at this
  show ((x.toNat:Nat):Int)=x
  omega
 exact (List.map_congr_left this).trans (List.map_id' row)
theorem Qh (row:List Int):jh [row]=if Vanbki.bytes row=true then (if Vanbki.tooLong row=true then -5 else 0) else -4:=by
 unfold jh
 simp
theorem Qi {d:Vanbki.Doc}{a:Int}{i:Nat} (nd:(numbers d).Nodup) (h:yg d a=some i) (c:Vanbki.Cell):Vanbki.putBehind d a.toNat c=d.take i++c::d.drop i/\i<=d.length/\(a == 0 || Vanbki.hasI d a)=true:=by
 unfold yg at h
 by_cases ha:a=0
 . rw[if_pos ha] at h
   cases h
   subst ha
   exact⟨wG,Nat.zero_le _,by simp⟩
 . rw[if_neg ha] at h
   cases e:jH d a with
   | none=>rw[e] at h;cases h
   | some j =>
    rw[e] at h
    cases h
    obtain⟨c',h1,h2,h3,h4,h5⟩:=jm e
    have hj:=xI e
    exact⟨Zp nd (by omega) h4,hj,by rw[kC,e];simp⟩
theorem Qj {d:Vanbki.Doc}{a:Int} (h:yg d a=none):(a == 0 || Vanbki.hasI d a)=false:=by
 unfold yg at h
 by_cases ha:a=0
 . rw[if_pos ha] at h
   cases h
 . rw[if_neg ha] at h
   rw[kC]
   cases e:jH d a with
   | none=>simp[ha]
   | some j=>rw[e] at h;cases h
def J9 (C:Ad):Sp:=fun vs H Q _=>∃ G B ch s n a t row,vs=[.ref (Bk.b B),.int n,.int a,.ref t]/\BooksAt C H G B ch s/\IL G t row/\row.length<=16000/\PostEdit C H G B ch s (Vanbki.sideEdit s (.new n a row)) Q
def u_ (C:Ad):Sp:=fun vs H Q _=>∃ G B ch s n a t row,vs=[.ref (Bk.b B),.int n,.int a,.ref t]/\BooksAt C H G B ch s/\IL G t row/\row.length<=16000/\PostEdit C H G B ch s (Vanbki.sideEdit s (.write n a row)) Q
def Qk (C:Ad):Sp:=fun vs H Q _=>∃ G B ch s n a b,vs=[.ref (Bk.b B),.int n,.int a,.int b]/\BooksAt C H G B ch s/\PostEdit C H G B ch s (Vanbki.sideEdit s (.move n a b)) Q
def Ql (C:Ad):Sp:=fun vs H Q _=>∃ G B ch s n a,vs=[.ref (Bk.b B),.int n,.int a]/\BooksAt C H G B ch s/\PostEdit C H G B ch s (Vanbki.sideEdit s (.drop n a)) Q
def Qm (C:Ad):Sp:=fun vs H Q _=>∃ G B ch s n a b,vs=[.ref (Bk.b B),.int n,.int a,.int b]/\BooksAt C H G B ch s/\PostEdit C H G B ch s (Vanbki.sideEdit s (.hide n a b)) Q
section
variable {P:Program}{w:World}{K:PySem.W.Frag}{mg:Str->Option Value}{base:Heap}{C:Ad}{f:Addr}{fd:FuncData}
theorem XH {f1:Addr}{fd1:FuncData}{f2:Addr}{fd2:FuncData}{f3:Addr}{fd3:FuncData} (F:Fun K "new_cell" "new_cell" wd f fd) (T:Txt K mg C) (D_place_behind:Def P w K mg base "place_behind" 2 ["cells","after"] (y6 C) f1 fd1) (D_refusal_of_texts:Def P w K mg base "refusal_of_texts" 2 ["texts"] (je) f2 fd2) (D_Cell:Cdf P w K mg base "Cell" 1 ["self","number","mark","text"] (qS C) C.cCell f3 fd3):z_ P w K mg base CX0 3 f fd ["books","side","after","text"] (J9 C):=by
 refine F.ok sc_new_cell (fun vs H Q E h=>?_) (fun cdv A outer s H vs Q E hr h=>?_)
 . obtain⟨G,B,ch,s,n,a,t,row,rfl,_⟩:=h
   rfl
 . obtain⟨G,B,ch,s,n,a,t,row,rfl,hb,ht,hz,k⟩:=h
   have hu:=jR hr
   refine⟨_,(ze (zI (qJ (vt hu (pv 1) (zn (pv 0) rfl))) (zj (zo (pgi T.g_NO_SIDE))) zw)
    (ze (zu (i:=4) sc_new_cell.nd rfl (Or.inl rfl) (qk hu (zn (pv 0) rfl) (pv 1) (fun _ _=>rfl)))
    (ze (zu (i:=5) sc_new_cell.nd rfl (Or.inl rfl) (zk D_place_behind (hr.mono (by decide)) (za (zn (pv 4) rfl) (za (pv 2) zi))))
    (ze (zI (qJ (jJ (pv 5))) (zj (zo (pgi T.g_NO_FIT_AFTER))) zw)
    (ze (zu (i:=6) sc_new_cell.nd rfl (Or.inl rfl) (zk D_refusal_of_texts (hr.mono (by decide)) (za (qb (za (pv 3) zi)) zi)))
    (ze (zI (zz yM (pv 6) (pgi T.g_NO_REFUSAL) (zF _)) (zj (zo (pv 6))) zw)
    (ze (zI (zz ab_ (zW qY (by rfl) T.b_len qX (za (zn (pv 4) rfl) zi)) (pgi T.g_MOST_CELLS) (zF _)) (zj (zo (pgi T.g_TOO_MANY_CELLS))) zw)
    (ze (zu (i:=7) sc_new_cell.nd rfl (Or.inl rfl) (zn (pv 4) rfl))
    (ze (zI (zz J1 (pv 7) (pgi T.g_GREATEST_NUMBER) (zF _)) (zj (zo (pgi T.g_NUMBERS_USED_UP))) zw)
    (ze (qA (jL PySem.F.plainAttrs_list PySem.F.slot_list_insert PySem.F.type_list_insert VM (zn (pv 4) rfl) (za (pv 5) (za (qw D_Cell (hr.mono (by decide)) (za (pv 7) (za zH (za (pv 3) zi)))) zi))))
    (ze (qK (pv 4) (jK w4 (pv 7) zH) rfl)
    (zj (zo (pv 7)))))))))))))),?_⟩
   obtain⟨dxb,eb⟩:=hb.bk
   have S:=hb.ok
   refine⟨_,rfl,_,rfl,B.b,C.cBooks,dxb,_,_,rfl,eb,T.c_Books,T.n_Books_sides,zJ _ _ _,B.ds,_,rfl,yU hb.sd n,_,rfl,?_⟩
   rw[vy]
   cases hn:Vanbki.noSide n with
   | true=>exact zM (k.no (qG (qt hn)) (by decide) (Same.refl _))
   | false =>
    refine zE ?_
    obtain⟨as,rS,cS,gS⟩:=hb.dS n
    obtain⟨dxs,eS⟩:=hb.sS n
    have D:=qa S n
    have hlen:=zx cS
    have zd:=D.len
    refine⟨_,rfl,B.b,C.cBooks,dxb,_,_,rfl,eb,T.c_Books,T.n_Books_sides,zJ _ _ _,_,rfl,B.ds,_,rfl,jc hb.sd hn,?_⟩
    refine⟨_,rfl,zZ B n,C.cSide,dxs,_,_,rfl,eS,T.c_Side,T.n_Side_cells,zU _ _,_,rfl,zT B n,as,_,_,rfl,rS,cS,fun H1 s1=>?_⟩
    cases hp:yg (Vanbki.sideDoc s n) a with
    | none =>
     refine⟨_,rfl,_,rfl,zM (k.no (qG ?_) (by decide) s1)⟩
     rw[zC hn,qt (by rw[Qj hp];rfl)]
    | some i =>
     obtain⟨b1,b2,b3⟩:=Qi D.nd hp ⟨Vanbki.sideNext s n,false,Vanbki.textOf row⟩
     refine⟨_,rfl,_,rfl,zE ?_⟩
     refine⟨_,rfl,(by show 1<=sizeLine;decide),fun u hu'=>?_⟩
     have s2:=s1.trans (Same.new (o:=.lst [.ref t]) hu')
     refine⟨u,[t],[row],rfl,zf,.cons (s2 _ _ (hb.gh _ _ ht)) .nil,(by show 1<=16000;decide),(by intro t' ht';rw[List.mem_singleton.mp ht'];exact hz),fun H2 s3=>?_⟩
     have s03:=s2.trans s3
     have f2:(!(a == 0 || Vanbki.hasI (Vanbki.sideDoc s n) a))=false:=by rw[b3];rfl
     have rt:=Qh row
     refine⟨_,rfl,rfl,_,rfl,qP (fun hh=>⟨_,rfl,?_⟩) (fun hh=>?_)⟩
     . cases hb1:Vanbki.bytes row with
       | false =>
        rw[rt,hb1,if_neg Bool.false_ne_true]
        refine k.no (qG ?_) (by decide) s03
        rw[zC hn,zC f2,qt (by rw[hb1];rfl)]
       | true =>
        cases hb2:Vanbki.tooLong row with
        | false =>
         rw[rt,hb1,hb2] at hh
         exact absurd rfl hh
        | true =>
         rw[rt,hb1,hb2,if_pos rfl,if_pos rfl]
         refine k.no (qG ?_) (by decide) s03
         rw[zC hn,zC f2,zC (by rw[hb1];rfl),qt hb2]
     . have hb1:Vanbki.bytes row=true:=by
        cases e:Vanbki.bytes row with
        | true=>rfl
        | false=>rw[rt,e,if_neg Bool.false_ne_true] at hh;exact absurd hh (by decide)
       have hb2:Vanbki.tooLong row=false:=by
        cases e:Vanbki.tooLong row with
        | false=>rfl
        | true=>rw[rt,hb1,e,if_pos rfl,if_pos rfl] at hh;exact absurd hh (by decide)
       have f3:(!Vanbki.bytes row)=false:=by rw[hb1];rfl
       have eS3:=s03 _ _ eS
       have rS3:=s03 _ _ rS
       refine⟨_,rfl,zZ B n,C.cSide,dxs,_,_,rfl,eS3,T.c_Side,T.n_Side_cells,zU _ _,zT B n,_,rfl,.inl (SqL.of rS3),_,_,rfl,rfl,_,rfl,?_⟩
       by_cases h12:12<=(Vanbki.sideDoc s n).length
       . rw[decide_eq_true (by rw[List.length_map,hlen];omega)]
         refine zM (k.no (qG ?_) (by decide) s03)
         rw[zC hn,zC f2,zC f3,zC hb2,qt (show decide (Vanbki.CELLS<=(Vanbki.sideDoc s n).length)=true from decide_eq_true h12)]
       . rw[decide_eq_false (by rw[List.length_map,hlen];omega)]
         refine zE ?_
         have f4:decide (Vanbki.CELLS<=(Vanbki.sideDoc s n).length)=false:=decide_eq_false h12
         refine⟨_,rfl,zZ B n,C.cSide,dxs,_,_,rfl,eS3,T.c_Side,T.n_Side_next_number,Km _ _,?_⟩
         refine⟨_,rfl,_,_,rfl,rfl,_,rfl,?_⟩
         by_cases h99:99<Vanbki.sideNext s n
         . rw[decide_eq_true (by omega)]
           refine zM (k.no (qG ?_) (by decide) s03)
           rw[zC hn,zC f2,zC f3,zC hb2,zC f4,qt (by simpa using h99)]
         . rw[decide_eq_false (by omega)]
           refine zE ?_
           have f5:decide (99<Vanbki.sideNext s n)=false:=by simpa using h99
           refine⟨_,rfl,zZ B n,C.cSide,dxs,_,_,rfl,eS3,T.c_Side,T.n_Side_cells,zU _ _,.inl ⟨rfl,_,SqL.of rS3⟩,_,rfl,_,rfl,_,rfl,?_⟩
           intro y dy ny nd ne
           refine⟨y,dy,_,_,_,rfl,zf,rfl,?_⟩
           have s4':=jx (c:=C.cCell) (fs:=kb (Vanbki.sideNext s n:Nat) 0 t) ny nd
           have s4:=s03.trans s4'
           have y0:=s03.free ny
           refine⟨zT B n,_,i,_,rfl,rfl,s4' _ _ rS3,(by rw[List.length_map,hlen];exact b2),(by rw[List.length_map,hlen];exact qU (by omega)),?_⟩
           have mA:=yA B n
           have nAL:=KA hb.ne n
           refine⟨_,rfl,_,_,rfl,rfl,_,rfl,zZ B n,C.cSide,dxs,_,rfl,(by rw[zh nAL];exact s4 _ _ eS),T.c_Side,T.n_Side_next_number,(by show 2<1000;decide),_,rfl,?_⟩
           obtain⟨g1,g2⟩:=QT (C:=C) (o:=.ins C.cCell dy (kb (Vanbki.sideNext s n:Nat) 0 t)) hb.gh y0
           obtain⟨q1,q2⟩:=Qg hb hn (H4:=upd (upd (upd H2 dy (.own y)) y (.ins C.cCell dy [])) y (.ins C.cCell dy (kb (Vanbki.sideNext s n:Nat) 0 t)))
            (H':=upd (upd (upd (upd (upd H2 dy (.own y)) y (.ins C.cCell dy [])) y (.ins C.cCell dy (kb (Vanbki.sideNext s n:Nat) 0 t))) (zT B n) (.lst ((as.map V.ref).take i++.ref y::(as.map V.ref).drop i))) (zZ B n) (.ins C.cSide dxs (j3 (zT B n) ((Vanbki.sideNext s n:Nat)+1))))
            (as:=as.take i++y::as.drop i) (d:=(Vanbki.sideDoc s n).take i++⟨Vanbki.sideNext s n,false,Vanbki.textOf row⟩::(Vanbki.sideDoc s n).drop i) (k:=Vanbki.sideNext s n+1) s4 g1 (fun b o e=>by
             by_cases hby:b=y
             . rw[hby,zf] at e
               rw[hby,zf]
               exact e
             . rw[zh hby] at e
               exact s4 _ _ (hb.gh _ _ e)) g2
            (zQ (jo _ (gS.mono g1)) (.cons ⟨dy,t,zf,by rw[vV hb1];exact g1 _ _ ht⟩ (jp _ (gS.mono g1))))
            (fun b h1 h2=>by rw[zh h1,zh h2]) (by rw[RL,zh (Ne.symm nAL),zf];simp) ⟨dxs,by rw[zf];rfl⟩
           refine k.yes (yV ?_ |>.trans ?_) (by show (0:Int)<=(Vanbki.sideNext s n:Nat);omega) q1 q2
           . rw[zC hn,zC f2,zC f3,zC hb2,zC f4,zC f5]
             rfl
           . rw[b1]
             rfl
theorem YC {f1:Addr}{fd1:FuncData}{f2:Addr}{fd2:FuncData} (F:Fun K "drop_cell" "drop_cell" xi f fd) (T:Txt K mg C) (D_refusal_of_cell:Def P w K mg base "refusal_of_cell" 2 ["books","side","number"] (q_ C) f1 fd1) (D_place_of:Def P w K mg base "place_of" 1 ["cells","number"] (jq C) f2 fd2):z_ P w K mg base CX0 3 f fd ["books","side","number"] (Ql C):=by
 refine F.ok sc_drop_cell (fun vs H Q E h=>?_) (fun cdv A outer s H vs Q E hr h=>?_)
 . obtain⟨G,B,ch,s,n,a,rfl,_⟩:=h
   rfl
 . obtain⟨G,B,ch,s,n,a,rfl,hb,k⟩:=h
   have hu:=jR hr
   refine⟨_,(ze (zu (i:=3) sc_drop_cell.nd rfl (Or.inl rfl) (zk D_refusal_of_cell (hr.mono (by decide)) (za (pv 0) (za (pv 1) (za (pv 2) zi)))))
    (ze (zI (zz yM (pv 3) (pgi T.g_NO_REFUSAL) (zF _)) (zj (zo (pv 3))) zw)
    (ze (zu (i:=4) sc_drop_cell.nd rfl (Or.inl rfl) (zn (qk hu (zn (pv 0) rfl) (pv 1) (fun _ _=>rfl)) rfl))
    (ze (qA (jL PySem.F.plainAttrs_list PySem.F.slot_list_pop PySem.F.type_list_pop aaR (pv 4) (za (zk D_place_of (hr.mono (by decide)) (za (pv 4) (za (pv 2) zi))) zi)))
    (zj (zo zH)))))),?_⟩
   obtain⟨dxb,eb⟩:=hb.bk
   have S:=hb.ok
   refine⟨_,rfl,_,rfl,_,rfl,G,B,ch,s,n,a,rfl,hb,fun H1 s1=>?_⟩
   refine⟨_,rfl,rfl,_,rfl,qP (fun hh=>⟨_,rfl,?_⟩) (fun hh=>?_)⟩
   . rcases jT s n a with ⟨hn,e⟩ | ⟨hn,h1,e⟩ | ⟨hn,h1,e⟩
     . exact k.no (n:=Qc s n a) (by rw[e];exact qG (qt hn)) (by rw[e];decide) s1
     . exact k.no (n:=Qc s n a) (by rw[e];exact qG (by rw[zC hn,qt (by rw[h1];rfl)])) (by rw[e];decide) s1
     . exact absurd e hh
   . obtain⟨hn,h1⟩:Vanbki.noSide n=false/\Vanbki.hasI (Vanbki.sideDoc s n) a=true:=by
      rcases jT s n a with ⟨hn,e⟩ | ⟨hn,h1,e⟩ | ⟨hn,h1,e⟩
      . rw[e] at hh;exact absurd hh (by decide)
      . rw[e] at hh;exact absurd hh (by decide)
      . exact⟨hn,h1⟩
     have f1:(!Vanbki.hasI (Vanbki.sideDoc s n) a)=false:=by rw[h1];rfl
     obtain⟨as,rS,cS,gS⟩:=hb.dS n
     obtain⟨dxs,eS⟩:=hb.sS n
     have D:=qa S n
     have hlen:=zx cS
     have zd:=D.len
     have eb1:=s1 _ _ eb
     refine⟨_,rfl,B.b,C.cBooks,dxb,_,_,rfl,eb1,T.c_Books,T.n_Books_sides,zJ _ _ _,_,rfl,B.ds,_,rfl,jc (s1 _ _ hb.sd) hn,zZ B n,C.cSide,dxs,_,_,rfl,s1 _ _ eS,T.c_Side,T.n_Side_cells,zU _ _,?_⟩
     rw[kC] at h1
     obtain⟨i,hp⟩:=Option.isSome_iff_exists.mp h1
     obtain⟨c,i1,i2,i3,i4,i5⟩:=jm hp
     have hil:=xI hp
     obtain⟨ai,hai⟩:∃ ai,as[i]?=some ai:=⟨_,List.getElem?_eq_getElem (by omega)⟩
     refine⟨_,rfl,.inl ⟨rfl,_,SqL.of (s1 _ _ rS)⟩,_,rfl,_,rfl,zT B n,as,_,_,rfl,s1 _ _ rS,cS.mono s1,fun H2 s2=>?_⟩
     have s02:=s1.trans s2
     rw[hp]
     refine⟨zT B n,_,_,i,.ref ai,rfl,rfl,s02 _ _ rS,(by omega),(by omega),?_,(by rw[List.getElem?_map,hai];rfl),?_⟩
     . have e:=Yc (n:=(as.map V.ref).length) (i:=((i:Nat):Int)) (j:=i) (by
        unfold ixN
        rw[if_pos (by omega),if_pos (by rw[List.length_map];omega)]
        simp)
       exact e.1
     . obtain⟨q1,q2⟩:=Qg hb hn (H4:=H2) (G':=G) (H':=upd H2 (zT B n) (.lst ((as.map V.ref).eraseIdx i))) (as:=as.take i++as.drop (i+1)) (d:=(Vanbki.sideDoc s n).take i++(Vanbki.sideDoc s n).drop (i+1)) (k:=Vanbki.sideNext s n) s02 (Same.refl _) (hb.gh.trans s02) (fun b o e=>.inl e)
        (zQ (jo _ gS) (jp _ gS)) (fun b h1 h2=>by rw[zh h2]) (by rw[RL,zf,List.eraseIdx_eq_take_drop_succ];simp) ⟨dxs,by rw[zh (KA hb.ne n)];exact s02 _ _ eS⟩
       refine k.yes (yV ?_ |>.trans ?_) (by decide) q1 q2
       . rw[zC hn,zC f1]
         rfl
       . rw[xB D.nd i4]
theorem V9 {f1:Addr}{fd1:FuncData}{f2:Addr}{fd2:FuncData}{f3:Addr}{fd3:FuncData}{f4:Addr}{fd4:FuncData} (F:Fun K "write_cell" "write_cell" yt f fd) (T:Txt K mg C) (D_refusal_of_cell:Def P w K mg base "refusal_of_cell" 2 ["books","side","number"] (q_ C) f1 fd1) (D_refusal_of_texts:Def P w K mg base "refusal_of_texts" 2 ["texts"] (je) f2 fd2) (D_place_of:Def P w K mg base "place_of" 1 ["cells","number"] (jq C) f3 fd3) (D_Cell:Cdf P w K mg base "Cell" 1 ["self","number","mark","text"] (qS C) C.cCell f4 fd4):z_ P w K mg base CX0 3 f fd ["books","side","number","text"] (u_ C):=by
 refine F.ok sc_write_cell (fun vs H Q E h=>?_) (fun cdv A outer s H vs Q E hr h=>?_)
 . obtain⟨G,B,ch,s,n,a,t,row,rfl,_⟩:=h
   rfl
 . obtain⟨G,B,ch,s,n,a,t,row,rfl,hb,ht,hz,k⟩:=h
   have hu:=jR hr
   refine⟨_,(ze (zu (i:=4) sc_write_cell.nd rfl (Or.inl rfl) (zk D_refusal_of_cell (hr.mono (by decide)) (za (pv 0) (za (pv 1) (za (pv 2) zi)))))
    (ze (zI (zz yM (pv 4) (pgi T.g_NO_REFUSAL) (zF _)) (zj (zo (pv 4))) zw)
    (ze (zu (i:=4) sc_write_cell.nd rfl (Or.inl rfl) (zk D_refusal_of_texts (hr.mono (by decide)) (za (qb (za (pv 3) zi)) zi)))
    (ze (zI (zz yM (pv 4) (pgi T.g_NO_REFUSAL) (zF _)) (zj (zo (pv 4))) zw)
    (ze (zu (i:=5) sc_write_cell.nd rfl (Or.inl rfl) (zn (qk hu (zn (pv 0) rfl) (pv 1) (fun _ _=>rfl)) rfl))
    (ze (zu (i:=6) sc_write_cell.nd rfl (Or.inl rfl) (zk D_place_of (hr.mono (by decide)) (za (pv 5) (za (pv 2) zi))))
    (ze (zI (zz (wV hr.units) (zn (qy qj (pv 5) (pv 6) (fun _ _=>rfl)) rfl) (pv 3) (zF _)) (zj (zo (pgi T.g_NOTHING_CHANGES))) zw)
    (ze (aaG (qw D_Cell (hr.mono (by decide)) (za (pv 2) (za (zn (qy qj (pv 5) (pv 6) (fun _ _=>rfl)) rfl) (za (pv 3) zi)))) (aaF (pv 5) (pv 6) Xl))
    (zj (zo zH)))))))))),?_⟩
   obtain⟨dxb,eb⟩:=hb.bk
   have S:=hb.ok
   refine⟨_,rfl,_,rfl,_,rfl,G,B,ch,s,n,a,rfl,hb,fun H1 s1=>?_⟩
   refine⟨_,rfl,rfl,_,rfl,qP (fun hh=>⟨_,rfl,?_⟩) (fun hh=>?_)⟩
   . rcases jT s n a with ⟨hn,e⟩ | ⟨hn,h1,e⟩ | ⟨hn,h1,e⟩
     . exact k.no (n:=Qc s n a) (by rw[e];exact qG (qt hn)) (by rw[e];decide) s1
     . exact k.no (n:=Qc s n a) (by rw[e];exact qG (by rw[zC hn,qt (by rw[h1];rfl)])) (by rw[e];decide) s1
     . exact absurd e hh
   . obtain⟨hn,h1⟩:Vanbki.noSide n=false/\Vanbki.hasI (Vanbki.sideDoc s n) a=true:=by
      rcases jT s n a with ⟨hn,e⟩ | ⟨hn,h1,e⟩ | ⟨hn,h1,e⟩
      . rw[e] at hh;exact absurd hh (by decide)
      . rw[e] at hh;exact absurd hh (by decide)
      . exact⟨hn,h1⟩
     have f1:(!Vanbki.hasI (Vanbki.sideDoc s n) a)=false:=by rw[h1];rfl
     refine⟨_,rfl,(by show 1<=sizeLine;decide),fun u hu'=>?_⟩
     have s2:=s1.trans (Same.new (o:=.lst [.ref t]) hu')
     refine⟨u,[t],[row],rfl,zf,.cons (s2 _ _ (hb.gh _ _ ht)) .nil,(by show 1<=16000;decide),(by intro t' ht';rw[List.mem_singleton.mp ht'];exact hz),fun H2 s3=>?_⟩
     have s03:=s2.trans s3
     have rt:=Qh row
     refine⟨_,rfl,rfl,_,rfl,qP (fun hh=>⟨_,rfl,?_⟩) (fun hh=>?_)⟩
     . cases hb1:Vanbki.bytes row with
       | false =>
        rw[rt,hb1,if_neg Bool.false_ne_true]
        refine k.no (qG ?_) (by decide) s03
        rw[zC hn,zC f1,qt (by rw[hb1];rfl)]
       | true =>
        cases hb2:Vanbki.tooLong row with
        | false =>
         rw[rt,hb1,hb2] at hh
         exact absurd rfl hh
        | true =>
         rw[rt,hb1,hb2,if_pos rfl,if_pos rfl]
         refine k.no (qG ?_) (by decide) s03
         rw[zC hn,zC f1,zC (by rw[hb1];rfl),qt hb2]
     . have hb1:Vanbki.bytes row=true:=by
        cases e:Vanbki.bytes row with
        | true=>rfl
        | false=>rw[rt,e,if_neg Bool.false_ne_true] at hh;exact absurd hh (by decide)
       have hb2:Vanbki.tooLong row=false:=by
        cases e:Vanbki.tooLong row with
        | false=>rfl
        | true=>rw[rt,hb1,e,if_pos rfl,if_pos rfl] at hh;exact absurd hh (by decide)
       have f3:(!Vanbki.bytes row)=false:=by rw[hb1];rfl
       obtain⟨as,rS,cS,gS⟩:=hb.dS n
       obtain⟨dxs,eS⟩:=hb.sS n
       have D:=qa S n
       have hlen:=zx cS
       have zd:=D.len
       have eb3:=s03 _ _ eb
       have rS3:=s03 _ _ rS
       refine⟨_,rfl,B.b,C.cBooks,dxb,_,_,rfl,eb3,T.c_Books,T.n_Books_sides,zJ _ _ _,_,rfl,B.ds,_,rfl,jc (s03 _ _ hb.sd) hn,zZ B n,C.cSide,dxs,_,_,rfl,s03 _ _ eS,T.c_Side,T.n_Side_cells,zU _ _,?_⟩
       rw[kC] at h1
       obtain⟨i,hp⟩:=Option.isSome_iff_exists.mp h1
       obtain⟨c,i1,i2,i3,i4,i5⟩:=jm hp
       have hil:=xI hp
       obtain⟨ai,hai⟩:∃ ai,as[i]?=some ai:=⟨_,List.getElem?_eq_getElem (by omega)⟩
       obtain⟨c',hc',hca⟩:=zN gS hai
       rw[i1] at hc'
       cases hc'
       refine⟨_,rfl,_,rfl,zT B n,as,_,_,rfl,rS3,cS.mono s03,fun H4 s4=>?_⟩
       have s04:=s03.trans s4
       have rS4:=s04 _ _ rS
       rw[hp]
       obtain⟨dxc,tq,ec,et⟩:=hca.mono (hb.gh.trans s04)
       have hat:atI (as.map V.ref) ((i:Nat):Int)=some (.ref ai):=q5 (by rw[List.getElem?_map,hai];rfl)
       have hc1:Vanbki.changed1 (Vanbki.sideDoc s n) a.toNat (fun c=>{ c with text:=Vanbki.textOf row })=(Vanbki.sideDoc s n).set i { c with text:=Vanbki.textOf row }:=yC D.nd i4 i1
       refine⟨_,rfl,_,rfl,zT B n,_,_,_,rfl,rfl,SqL.of rS4,hat,ai,C.cCell,dxc,_,_,rfl,ec,T.c_Cell,T.n_Cell_text,zV _ _ _,_,rfl,_,_,vU et,vU (s04 _ _ (hb.gh _ _ ht)),qh _,qh _,_,rfl,?_⟩
       rw[vP]
       have same:((Vanbki.changed1 (Vanbki.sideDoc s n) a.toNat (fun c=>{ c with text:=Vanbki.textOf row })) == Vanbki.sideDoc s n)=decide (nats c.text=row):=by
        rw[hc1]
        by_cases hx:nats c.text=row
        . rw[decide_eq_true hx]
          have:Vanbki.textOf row=c.text:=kP (by rw[vV hb1,hx])
          rw[this]
          rw[beq_iff_eq]
          exact abl i1
        . rw[decide_eq_false hx]
          rw[beq_eq_false_iff_ne]
          intro z
          apply hx
          have h1:((Vanbki.sideDoc s n).set i { c with text:=Vanbki.textOf row })[i]?=some { c with text:=Vanbki.textOf row }:=List.getElem?_set_self hil
          rw[z,i1] at h1
          have h2:=Option.some.inj h1
          have h3:c.text=Vanbki.textOf row:=congrArg Vanbki.Cell.text h2
          rw[h3,vV hb1]
       by_cases hx:nats c.text=row
       . rw[decide_eq_true hx]
         refine zM (k.no (qG ?_) (by decide) s04)
         rw[zC hn,zC f1,zC f3,zC hb2,qt (by rw[same,decide_eq_true hx])]
       . rw[decide_eq_false hx]
         refine zE ?_
         refine⟨_,rfl,_,rfl,_,rfl,zT B n,_,_,_,rfl,rfl,SqL.of rS4,hat,ai,C.cCell,dxc,_,_,rfl,ec,T.c_Cell,T.n_Cell_mark,qz _ _ _,_,rfl,?_⟩
         intro y dy ny nd ne
         refine⟨y,dy,_,_,_,rfl,zf,rfl,?_⟩
         have s5':=jx (c:=C.cCell) (fs:=kb a (markNat c.hidden:Nat) t) ny nd
         have s5:=s04.trans s5'
         have y0:=s04.free ny
         refine⟨_,rfl,_,rfl,zT B n,_,_,i,rfl,rfl,s5 _ _ rS,(by unfold ixN;rw[if_pos (by omega),if_pos (by rw[List.length_map];omega)];simp),?_⟩
         obtain⟨g1,g2⟩:=QT (C:=C) (o:=.ins C.cCell dy (kb a (markNat c.hidden:Nat) t)) hb.gh y0
         obtain⟨q1,q2⟩:=Qg hb hn (H4:=upd (upd (upd H4 dy (.own y)) y (.ins C.cCell dy [])) y (.ins C.cCell dy (kb a (markNat c.hidden:Nat) t)))
          (H':=upd (upd (upd (upd H4 dy (.own y)) y (.ins C.cCell dy [])) y (.ins C.cCell dy (kb a (markNat c.hidden:Nat) t))) (zT B n) (.lst ((as.map V.ref).set i (.ref y))))
          (as:=as.set i y) (d:=(Vanbki.sideDoc s n).set i { c with text:=Vanbki.textOf row }) (k:=Vanbki.sideNext s n) s5 g1 (fun b o e=>by
           by_cases hby:b=y
           . rw[hby,zf] at e
             rw[hby,zf]
             exact e
           . rw[zh hby] at e
             exact s5 _ _ (hb.gh _ _ e)) g2
          (Zf ⟨dy,t,by rw[zf,<-i2],by rw[vV hb1];exact g1 _ _ ht⟩ i (gS.mono g1))
          (fun b h1 h2=>by rw[zh h2]) (by rw[RL,zf,List.map_set]) ⟨dxs,by rw[zh (KA hb.ne n)];exact s5 _ _ eS⟩
         refine k.yes (yV ?_ |>.trans ?_) (by decide) q1 q2
         . rw[zC hn,zC f1,zC f3,zC hb2,zC (by rw[same,decide_eq_false hx])]
           rfl
         . rw[hc1]
end
end Tb
end
section
namespace Tb
open PySem PySem.Spec PyProof.Rows L2
open Vanbki (nats ofNat markNat numbers)
theorem VO {P R G:Prop} (h1:(P->R)->G) (h2:P->R):G:=h1 h2
def KC (as:List Addr) (i:Nat):List (Option V):=(as.take i).map (fun a=>some (V.ref a))++none::(as.drop (i+1)).map (fun a=>some (V.ref a))
theorem aac {as:List Addr}{i:Nat} (h:i<as.length):(KC as i).length=(as.map V.ref).length:=by
 unfold KC
 simp
 omega
theorem WH (as:List Addr) (i:Nat):(KC as i).filterMap id=(as.take i++as.drop (i+1)).map V.ref:=by
 have key:∀ l:List Addr,(l.map fun a=>some (V.ref a)).filterMap id=l.map V.ref:=fun l=>by
  induction l with
  | nil=>rfl
  | cons x l ih=>simp[ih]
 unfold KC
 rw[List.filterMap_append,List.filterMap_cons_none rfl,key,key,List.map_append]
theorem abm {as:List Addr}{i j:Nat}{a:Addr}{y:Option V} (h:i<as.length) (ha:as[j]?=some a) (hy:(KC as i)[j]?=some y):y=if j=i then none else some (.ref a):=by
 unfold KC at hy
 by_cases h1:j<i
 . rw[List.getElem?_append_left (by simp;omega),List.getElem?_map,List.getElem?_take_of_lt h1,ha] at hy
   rw[if_neg (by omega)]
   exact (Option.some.inj hy).symm
 . rw[List.getElem?_append_right (by simp;omega)] at hy
   have e:j - ((as.take i).map fun a=>some (V.ref a)).length=j - i:=by simp;omega
   rw[e] at hy
   by_cases h2:j=i
   . subst h2
     rw[Nat.sub_self] at hy
     rw[if_pos rfl]
     exact (Option.some.inj hy).symm
   . obtain⟨k,rfl⟩:∃ k,j=i+1+k:=⟨j - (i+1),by omega⟩
     have e2:i+1+k - i=k+1:=by omega
     rw[e2,List.getElem?_cons_succ,List.getElem?_map,List.getElem?_drop,ha] at hy
     rw[if_neg h2]
     exact (Option.some.inj hy).symm
theorem YD {d:Vanbki.Doc}{a:Int} (b:Int) (h:0<=a):Vanbki.hasI (Vanbki.dropped d a.toNat) b=(Vanbki.hasI d b && !(b == a)):=by
 have hn:numbers (Vanbki.dropped d a.toNat)=(numbers d).filter fun n=>n != a.toNat:=by
  unfold numbers Vanbki.dropped
  rw[List.filter_map]
  rfl
 unfold Vanbki.hasI
 rw[xr,xr,hn]
 by_cases h0:0<=b
 . rw[decide_eq_true h0,Bool.true_and,Bool.true_and]
   by_cases hba:b=a
   . subst hba
     simp
   . have e1:(b == a)=false:=by simpa using hba
     have e2:b.toNat≠a.toNat:=by omega
     rw[e1,Bool.not_false,Bool.and_true]
     exact decide_eq_decide.mpr (by rw[List.mem_filter];simp[e2])
 . rw[decide_eq_false h0]
   rfl
theorem abn {d:Vanbki.Doc}{i j:Nat}{c c':Vanbki.Cell}{a:Int} (nd:(numbers d).Nodup) (hi:d[i]?=some c) (e:(c.number:Int)=a) (hj:d[j]?=some c'):(c'.number:Int)=a ↔ j=i:=by
 constructor
 . intro e'
   have h1:(numbers d)[i]?=some c.number:=by unfold numbers;rw[List.getElem?_map,hi];rfl
   have h2:(numbers d)[j]?=some c'.number:=by unfold numbers;rw[List.getElem?_map,hj];rfl
   have:c.number=c'.number:=by omega
   rw[this] at h1
   exact ((List.getElem?_inj (List.getElem?_eq_some_iff.mp h2).1 nd).mp (h2.trans h1.symm))
 . intro e'
   subst e'
   rw[hi] at hj
   cases hj
   exact e
section
variable {P:Program}{w:World}{K:PySem.W.Frag}{mg:Str->Option Value}{base:Heap}{C:Ad}{f:Addr}{fd:FuncData}
theorem YE {f1:Addr}{fd1:FuncData}{f2:Addr}{fd2:FuncData}{f3:Addr}{fd3:FuncData} (F:Fun K "hide_cell" "hide_cell" xj f fd) (T:Txt K mg C) (D_refusal_of_cell:Def P w K mg base "refusal_of_cell" 2 ["books","side","number"] (q_ C) f1 fd1) (D_place_of:Def P w K mg base "place_of" 1 ["cells","number"] (jq C) f2 fd2) (D_Cell:Cdf P w K mg base "Cell" 1 ["self","number","mark","text"] (qS C) C.cCell f3 fd3):z_ P w K mg base CX0 3 f fd ["books","side","number","mark"] (Qm C):=by
 refine F.ok sc_hide_cell (fun vs H Q E h=>?_) (fun cdv A outer s H vs Q E hr h=>?_)
 . obtain⟨G,B,ch,s,n,a,m,rfl,_⟩:=h
   rfl
 . obtain⟨G,B,ch,s,n,a,m,rfl,hb,k⟩:=h
   have hu:=jR hr
   refine⟨_,(ze (zu (i:=4) sc_hide_cell.nd rfl (Or.inl rfl) (zk D_refusal_of_cell (hr.mono (by decide)) (za (pv 0) (za (pv 1) (za (pv 2) zi)))))
    (ze (zI (zz yM (pv 4) (pgi T.g_NO_REFUSAL) (zF _)) (zj (zo (pv 4))) zw)
    (ze (zI (Y6 (zz yM (pv 3) zH (zF _)) (JM (zz yM (pv 3) zH (zF _)))).pt (zj (zo (pgi T.g_NO_MARK))) zw)
    (ze (zu (i:=5) sc_hide_cell.nd rfl (Or.inl rfl) (zn (qk hu (zn (pv 0) rfl) (pv 1) (fun _ _=>rfl)) rfl))
    (ze (zu (i:=6) sc_hide_cell.nd rfl (Or.inl rfl) (zk D_place_of (hr.mono (by decide)) (za (pv 5) (za (pv 2) zi))))
    (ze (zI (zz qT (zn (qy qj (pv 5) (pv 6) (fun _ _=>rfl)) rfl) (pv 3) (zF _)) (zj (zo (pgi T.g_NOTHING_CHANGES))) zw)
    (ze (aaG (qw D_Cell (hr.mono (by decide)) (za (pv 2) (za (pv 3) (za (zn (qy qj (pv 5) (pv 6) (fun _ _=>rfl)) rfl) zi)))) (aaF (pv 5) (pv 6) Xl))
    (zj (zo zH))))))))),?_⟩
   obtain⟨dxb,eb⟩:=hb.bk
   have S:=hb.ok
   refine⟨_,rfl,_,rfl,_,rfl,G,B,ch,s,n,a,rfl,hb,fun H1 s1=>?_⟩
   refine⟨_,rfl,rfl,_,rfl,qP (fun hh=>⟨_,rfl,?_⟩) (fun hh=>?_)⟩
   . rcases jT s n a with ⟨hn,e⟩ | ⟨hn,h1,e⟩ | ⟨hn,h1,e⟩
     . exact k.no (n:=Qc s n a) (by rw[e];exact qG (qt hn)) (by rw[e];decide) s1
     . exact k.no (n:=Qc s n a) (by rw[e];exact qG (by rw[zC hn,qt (by rw[h1];rfl)])) (by rw[e];decide) s1
     . exact absurd e hh
   . obtain⟨hn,h1⟩:Vanbki.noSide n=false/\Vanbki.hasI (Vanbki.sideDoc s n) a=true:=by
      rcases jT s n a with ⟨hn,e⟩ | ⟨hn,h1,e⟩ | ⟨hn,h1,e⟩
      . rw[e] at hh;exact absurd hh (by decide)
      . rw[e] at hh;exact absurd hh (by decide)
      . exact⟨hn,h1⟩
     have f1:(!Vanbki.hasI (Vanbki.sideDoc s n) a)=false:=by rw[h1];rfl
     refine⟨_,rfl,rfl,_,rfl,?_⟩
     apply VO (P:=m=0∨m=1)
     . intro rest
       by_cases h0:m=0
       . rw[decide_eq_true (by rw[h0])]
         exact zE (rest (.inl h0))
       . have e0:¬(V.int m=V.int 0):=fun e=>h0 (by injection e)
         rw[decide_eq_false e0]
         refine zM ⟨_,rfl,rfl,_,rfl,?_⟩
         by_cases h1:m=1
         . rw[decide_eq_true (by rw[h1])]
           exact zE (rest (.inr h1))
         . have e1:¬(V.int m=V.int 1):=fun e=>h1 (by injection e)
           rw[decide_eq_false e1]
           refine zM (k.no (qG ?_) (by decide) s1)
           rw[zC hn,zC f1,qt (by simp[h0,h1])]
     . intro hm
       have f2:(!(m == 0 || m == 1))=false:=by
        rcases hm with rfl | rfl <;> rfl
       obtain⟨as,rS,cS,gS⟩:=hb.dS n
       obtain⟨dxs,eS⟩:=hb.sS n
       have D:=qa S n
       have hlen:=zx cS
       have zd:=D.len
       have eb1:=s1 _ _ eb
       have rS1:=s1 _ _ rS
       refine⟨_,rfl,B.b,C.cBooks,dxb,_,_,rfl,eb1,T.c_Books,T.n_Books_sides,zJ _ _ _,_,rfl,B.ds,_,rfl,jc (s1 _ _ hb.sd) hn,zZ B n,C.cSide,dxs,_,_,rfl,s1 _ _ eS,T.c_Side,T.n_Side_cells,zU _ _,?_⟩
       rw[kC] at h1
       obtain⟨i,hp⟩:=Option.isSome_iff_exists.mp h1
       obtain⟨c,i1,i2,i3,i4,i5⟩:=jm hp
       have hil:=xI hp
       obtain⟨ai,hai⟩:∃ ai,as[i]?=some ai:=⟨_,List.getElem?_eq_getElem (by omega)⟩
       obtain⟨c',hc',hca⟩:=zN gS hai
       rw[i1] at hc'
       cases hc'
       refine⟨_,rfl,_,rfl,zT B n,as,_,_,rfl,rS1,cS.mono s1,fun H4 s4=>?_⟩
       have s04:=s1.trans s4
       have rS4:=s04 _ _ rS
       rw[hp]
       obtain⟨dxc,tq,ecG,etG⟩:=hca
       have ec:=s04 _ _ (hb.gh _ _ ecG)
       have hat:atI (as.map V.ref) ((i:Nat):Int)=some (.ref ai):=q5 (by rw[List.getElem?_map,hai];rfl)
       have hc1:Vanbki.changed1 (Vanbki.sideDoc s n) a.toNat (fun c=>{ c with hidden:=m == 1 })=(Vanbki.sideDoc s n).set i { c with hidden:=m == 1 }:=yC D.nd i4 i1
       have hmk:((markNat c.hidden:Nat):Int)=m ↔ (c.hidden=(m == 1)):=by
        rcases hm with rfl | rfl <;> cases c.hidden <;> decide
       refine⟨_,rfl,_,rfl,zT B n,_,_,_,rfl,rfl,SqL.of rS4,hat,ai,C.cCell,dxc,_,_,rfl,ec,T.c_Cell,T.n_Cell_mark,qz _ _ _,_,rfl,rfl,_,rfl,?_⟩
       have same:((Vanbki.changed1 (Vanbki.sideDoc s n) a.toNat (fun c=>{ c with hidden:=m == 1 })) == Vanbki.sideDoc s n)=decide (((markNat c.hidden:Nat):Int)=m):=by
        rw[hc1]
        by_cases hx:((markNat c.hidden:Nat):Int)=m
        . rw[decide_eq_true hx]
          rw[<-hmk.mp hx]
          rw[beq_iff_eq]
          exact abl i1
        . rw[decide_eq_false hx]
          rw[beq_eq_false_iff_ne]
          intro z
          apply hx
          have h1:((Vanbki.sideDoc s n).set i { c with hidden:=m == 1 })[i]?=some { c with hidden:=m == 1 }:=List.getElem?_set_self hil
          rw[z,i1] at h1
          have h2:=Option.some.inj h1
          exact hmk.mpr (congrArg Vanbki.Cell.hidden h2)
       have hdec:decide (V.int ((markNat c.hidden:Nat):Int)=V.int m)=decide (((markNat c.hidden:Nat):Int)=m):=decide_eq_decide.mpr ⟨fun e=>by injection e,fun e=>by rw[e]⟩
       rw[hdec]
       by_cases hx:((markNat c.hidden:Nat):Int)=m
       . rw[decide_eq_true hx]
         refine zM (k.no (qG ?_) (by decide) s04)
         rw[zC hn,zC f1,zC f2,qt (by rw[same,decide_eq_true hx])]
       . rw[decide_eq_false hx]
         refine zE ?_
         refine⟨_,rfl,_,rfl,_,rfl,_,rfl,zT B n,_,_,_,rfl,rfl,SqL.of rS4,hat,ai,C.cCell,dxc,_,_,rfl,ec,T.c_Cell,T.n_Cell_text,zV _ _ _,?_⟩
         intro y dy ny nd ne
         refine⟨y,dy,_,_,_,rfl,zf,rfl,?_⟩
         have s5':=jx (c:=C.cCell) (fs:=kb a m tq) ny nd
         have s5:=s04.trans s5'
         have y0:=s04.free ny
         refine⟨_,rfl,_,rfl,zT B n,_,_,i,rfl,rfl,s5 _ _ rS,(by unfold ixN;rw[if_pos (by omega),if_pos (by rw[List.length_map];omega)];simp),?_⟩
         obtain⟨g1,g2⟩:=QT (C:=C) (o:=.ins C.cCell dy (kb a m tq)) hb.gh y0
         obtain⟨q1,q2⟩:=Qg hb hn (H4:=upd (upd (upd H4 dy (.own y)) y (.ins C.cCell dy [])) y (.ins C.cCell dy (kb a m tq)))
          (H':=upd (upd (upd (upd H4 dy (.own y)) y (.ins C.cCell dy [])) y (.ins C.cCell dy (kb a m tq))) (zT B n) (.lst ((as.map V.ref).set i (.ref y))))
          (as:=as.set i y) (d:=(Vanbki.sideDoc s n).set i { c with hidden:=m == 1 }) (k:=Vanbki.sideNext s n) s5 g1 (fun b o e=>by
           by_cases hby:b=y
           . rw[hby,zf] at e
             rw[hby,zf]
             exact e
           . rw[zh hby] at e
             exact s5 _ _ (hb.gh _ _ e)) g2
          (Zf ⟨dy,tq,by rw[zf,<-i2];rcases hm with rfl | rfl <;> rfl,g1 _ _ etG⟩ i (gS.mono g1))
          (fun b h1 h2=>by rw[zh h2]) (by rw[RL,zf,List.map_set]) ⟨dxs,by rw[zh (KA hb.ne n)];exact s5 _ _ eS⟩
         refine k.yes (yV ?_ |>.trans ?_) (by decide) q1 q2
         . rw[zC hn,zC f1,zC f2,zC (by rw[same,decide_eq_false hx])]
           rfl
         . rw[hc1]
theorem YF {f1:Addr}{fd1:FuncData}{f2:Addr}{fd2:FuncData}{f3:Addr}{fd3:FuncData} (F:Fun K "move_cell" "move_cell" xh f fd) (T:Txt K mg C) (D_refusal_of_cell:Def P w K mg base "refusal_of_cell" 2 ["books","side","number"] (q_ C) f1 fd1) (D_place_of:Def P w K mg base "place_of" 1 ["cells","number"] (jq C) f2 fd2) (D_place_behind:Def P w K mg base "place_behind" 2 ["cells","after"] (y6 C) f3 fd3):z_ P w K mg base CX0 3 f fd ["books","side","number","after"] (Qk C):=by
 refine F.ok sc_move_cell (fun vs H Q E h=>?_) (fun cdv A outer s H vs Q E hr h=>?_)
 . obtain⟨G,B,ch,s,n,a,b,rfl,_⟩:=h
   rfl
 . obtain⟨G,B,ch,s,n,a,b,rfl,hb,k⟩:=h
   have hu:=jR hr
   refine⟨_,(ze (zu (i:=4) sc_move_cell.nd rfl (Or.inl rfl) (zk D_refusal_of_cell (hr.mono (by decide)) (za (pv 0) (za (pv 1) (za (pv 2) zi)))))
    (ze (zI (zz yM (pv 4) (pgi T.g_NO_REFUSAL) (zF _)) (zj (zo (pv 4))) zw)
    (ze (zu (i:=5) sc_move_cell.nd rfl (Or.inl rfl) (qk hu (zn (pv 0) rfl) (pv 1) (fun _ _=>rfl)))
    (ze (zu (i:=6) sc_move_cell.nd rfl (Or.inl rfl) (zk D_place_of (hr.mono (by decide)) (za (zn (pv 5) rfl) (za (pv 2) zi))))
    (ze (vR (i:=7) rfl sc_move_cell.nd rfl rfl (y_ rfl rfl rfl rfl) (qi (zn (pv 5) rfl)) (qE (own:=[("cell",8)]) (by kernel_rfl)) (fun _ _ _ _ _=>(zS (i:=8) sc_move_cell.nd rfl (Or.inl rfl))) (fun _ _ _ _ _=>w6 (zz yM (jM (K:=K) rfl (pv 8) rfl) (pv 2) (zF _))) (fun _ _ _ _ _=>(pv 8)))
    (ze (zu (i:=9) sc_move_cell.nd rfl (Or.inl rfl) (zk D_place_behind (hr.mono (by decide)) (za (pv 7) (za (pv 3) zi))))
    (ze (zI (qJ (jJ (pv 9))) (zj (zo (pgi T.g_NO_FIT_AFTER))) zw)
    (ze (zI (zz qT (pv 9) (pv 6) (zF _)) (zj (zo (pgi T.g_NOTHING_CHANGES))) zw)
    (ze (qA (jL PySem.F.plainAttrs_list PySem.F.slot_list_insert PySem.F.type_list_insert VM (pv 7) (za (pv 9) (za (qy qj (zn (pv 5) rfl) (pv 6) (fun _ _=>rfl)) zi))))
    (ze (qK (pv 5) (pv 7) rfl)
    (zj (zo zH)))))))))))),?_⟩
   obtain⟨dxb,eb⟩:=hb.bk
   have S:=hb.ok
   refine⟨_,rfl,_,rfl,_,rfl,G,B,ch,s,n,a,rfl,hb,fun H1 s1=>?_⟩
   refine⟨_,rfl,rfl,_,rfl,qP (fun hh=>⟨_,rfl,?_⟩) (fun hh=>?_)⟩
   . rcases jT s n a with ⟨hn,e⟩ | ⟨hn,h1,e⟩ | ⟨hn,h1,e⟩
     . exact k.no (n:=Qc s n a) (by rw[e];exact qG (qt hn)) (by rw[e];decide) s1
     . exact k.no (n:=Qc s n a) (by rw[e];exact qG (by rw[zC hn,qt (by rw[h1];rfl)])) (by rw[e];decide) s1
     . exact absurd e hh
   . obtain⟨hn,h1⟩:Vanbki.noSide n=false/\Vanbki.hasI (Vanbki.sideDoc s n) a=true:=by
      rcases jT s n a with ⟨hn,e⟩ | ⟨hn,h1,e⟩ | ⟨hn,h1,e⟩
      . rw[e] at hh;exact absurd hh (by decide)
      . rw[e] at hh;exact absurd hh (by decide)
      . exact⟨hn,h1⟩
     have f1:(!Vanbki.hasI (Vanbki.sideDoc s n) a)=false:=by rw[h1];rfl
     obtain⟨as,rS,cS,gS⟩:=hb.dS n
     obtain⟨dxs,eS⟩:=hb.sS n
     have D:=qa S n
     have hlen:=zx cS
     have zd:=D.len
     have eb1:=s1 _ _ eb
     have rS1:=s1 _ _ rS
     have eS1:=s1 _ _ eS
     refine⟨_,rfl,B.b,C.cBooks,dxb,_,_,rfl,eb1,T.c_Books,T.n_Books_sides,zJ _ _ _,_,rfl,B.ds,_,rfl,jc (s1 _ _ hb.sd) hn,?_⟩
     rw[kC] at h1
     obtain⟨i,hp⟩:=Option.isSome_iff_exists.mp h1
     obtain⟨c,i1,i2,i3,i4,i5⟩:=jm hp
     have hil:=xI hp
     obtain⟨ai,hai⟩:∃ ai,as[i]?=some ai:=⟨_,List.getElem?_eq_getElem (by omega)⟩
     refine⟨_,rfl,zZ B n,C.cSide,dxs,_,_,rfl,eS1,T.c_Side,T.n_Side_cells,zU _ _,_,rfl,zT B n,as,_,_,rfl,rS1,cS.mono s1,fun H2 s2=>?_⟩
     have s02:=s1.trans s2
     rw[hp]
     have rS2:=s02 _ _ rS
     have eS2:=s02 _ _ eS
     refine⟨_,rfl,zZ B n,C.cSide,dxs,_,_,rfl,eS2,T.c_Side,T.n_Side_cells,zU _ _,zT B n,rfl,⟨_,SqL.of rS2⟩,fun L hL=>?_⟩
     have uniq:∀ (j:Nat) (c':Vanbki.Cell),(Vanbki.sideDoc s n)[j]?=some c'->((c'.number:Int)=a ↔ j=i):=fun j c' hj=>abn D.nd i1 i2 hj
     refine J5 (K:=K) (xs:=as.map V.ref) (KC as i) (aac (by omega)) (SqL.of rS2) hL (by rw[List.length_map];exact qU (by omega)) (fun j x y H' P' N hj hy s3 hP hN=>?_) (fun H3 s3 e3=>?_)
     . obtain⟨aj,haj,rfl⟩:=qL hj
       obtain⟨c',hc',hca⟩:=zN gS haj
       obtain⟨dxc,tq,ec,et⟩:=hca.mono (hb.gh.trans (s02.trans s3))
       have ey:=abm (by omega) haj hy
       refine⟨rfl,_,rfl,aj,C.cCell,dxc,_,_,rfl,ec,T.c_Cell,T.n_Cell_number,zK _ _ _,_,rfl,rfl,_,rfl,?_⟩
       by_cases hji:j=i
       . rw[decide_eq_true (by rw[(uniq j c' hc').mpr hji])]
         rw[if_pos hji] at ey
         exact zE (hN ey _ (Same.refl _))
       . rw[decide_eq_false (fun z=>hji ((uniq j c' hc').mp (by injection z)))]
         rw[if_neg hji] at ey
         exact zM ⟨_,rfl,hP _ ey _ (Same.refl _)⟩
     rw[WH] at e3
     have s03:=s02.trans s3
     have cO:CellsAt C G (as.take i++as.drop (i+1)) ((Vanbki.sideDoc s n).take i++(Vanbki.sideDoc s n).drop (i+1)):=zQ (jo _ gS) (jp _ gS)
     have dd:=xB D.nd i4
     have L0:=s02.free hL
     refine⟨_,rfl,_,rfl,L,_,_,_,rfl,e3,cO.mono (hb.gh.trans s03),fun H4 s4=>?_⟩
     have s04:=s03.trans s4
     generalize hd':(Vanbki.sideDoc s n).take i++(Vanbki.sideDoc s n).drop (i+1)=d' at cO dd ⊢
     have ndd:(numbers d').Nodup:=by
      rw[<-dd]
      exact (List.Sublist.map _ List.filter_sublist).nodup D.nd
     have lenD:d'.length=(Vanbki.sideDoc s n).length - 1:=by
      rw[<-hd',List.length_append,List.length_take,List.length_drop]
      omega
     have hfind:Vanbki.find (Vanbki.sideDoc s n) a.toNat=some c:=by
      unfold vi at i3
      rw[if_pos i5] at i3
      exact i3
     have hcount:Vanbki.hasI d' b=(Vanbki.hasI (Vanbki.sideDoc s n) b && !(b == a)):=by
      rw[<-dd]
      exact YD _ i5
     cases hq:yg d' b with
     | none =>
      refine⟨_,rfl,_,rfl,zM (k.no (qG ?_) (by decide) s04)⟩
      have h2:=Qj hq
      rw[hcount] at h2
      rw[zC hn,zC f1,qt ?_]
      revert h2
      cases (b == 0) <;> cases Vanbki.hasI (Vanbki.sideDoc s n) b <;> cases (b == a) <;> decide
     | some j =>
      obtain⟨b1,b2,b3⟩:=Qi ndd hq c
      have f2:(!(b == 0 || Vanbki.hasI (Vanbki.sideDoc s n) b) || b == a)=false:=by
       rw[hcount] at b3
       by_cases hba:b=a
       . exfalso
         subst hba
         have:b≠0:=fun z=>by
          have:=(D.num c (List.mem_of_getElem? i1)).1
          omega
         simp[this] at b3
       . have:(b == a)=false:=by simpa using hba
         rw[this] at b3 ⊢
         rw[Bool.not_false,Bool.and_true] at b3
         rw[b3]
         rfl
      have same:((match Vanbki.find (Vanbki.sideDoc s n) a.toNat with | some c=>Vanbki.putBehind (Vanbki.dropped (Vanbki.sideDoc s n) a.toNat) b.toNat c | none=>Vanbki.sideDoc s n) == Vanbki.sideDoc s n)=decide (j=i):=by
       rw[hfind,dd]
       show (Vanbki.putBehind d' b.toNat c == _)=_
       rw[b1]
       have ms:=X_ D.nd i1 (j:=j) (by omega)
       rw[hd'] at ms
       by_cases hx:j=i
       . rw[decide_eq_true hx,beq_iff_eq]
         exact ms.mpr hx
       . rw[decide_eq_false hx,beq_eq_false_iff_ne]
         exact fun z=>hx (ms.mp z)
      refine⟨_,rfl,_,rfl,zE ⟨_,rfl,_,rfl,rfl,_,rfl,?_⟩⟩
      have hdec:decide (ab2 (some j)=ab2 (some i))=decide (j=i):=decide_eq_decide.mpr ⟨fun e=>by have e:V.int ((j:Nat):Int)=V.int ((i:Nat):Int):=e;injection e with e;omega,fun e=>by rw[e]⟩
      rw[hdec]
      by_cases hx:j=i
      . rw[decide_eq_true hx]
        refine zM (k.no (qG ?_) (by decide) s04)
        rw[zC hn,zC f1,zC f2]
        exact qt (same.trans (decide_eq_true hx))
      . rw[decide_eq_false hx]
        refine zE ?_
        have e4:=s4 _ _ e3
        have eS4:=s04 _ _ eS
        have hat:atI (as.map V.ref) ((i:Nat):Int)=some (.ref ai):=q5 (by rw[List.getElem?_map,hai];rfl)
        have lenA:(as.take i++as.drop (i+1)).length=d'.length:=zx cO
        refine⟨_,rfl,.inl ⟨rfl,_,SqL.of e4⟩,_,rfl,_,rfl,zZ B n,C.cSide,dxs,_,_,rfl,eS4,T.c_Side,T.n_Side_cells,zU _ _,_,rfl,zT B n,_,_,_,rfl,rfl,SqL.of (s04 _ _ rS),hat,?_⟩
        refine⟨L,_,j,_,rfl,rfl,e4,(by rw[List.length_map,lenA];exact b2),(by rw[List.length_map,lenA];exact qU (by omega)),?_⟩
        have AL:zZ B n≠L:=zg eS L0
        refine⟨_,rfl,_,rfl,zZ B n,C.cSide,dxs,_,rfl,(by rw[zh AL];exact eS4),T.c_Side,T.n_Side_cells,(by show 2<1000;decide),?_⟩
        have hc:CellsAt C G ((as.take i++as.drop (i+1)).take j++ai::(as.take i++as.drop (i+1)).drop j) (d'.take j++c::d'.drop j):=by
         obtain⟨c',hc',hca⟩:=zN gS hai
         rw[i1] at hc'
         cases hc'
         exact zQ (jo _ cO) (.cons hca (jp _ cO))
        have keep:∀ x o,H x=some o->x≠B.ds->x≠zZ B n->x≠zT B n->(upd (upd H4 L (.lst (((as.take i++as.drop (i+1)).map V.ref).take j++.ref ai::((as.take i++as.drop (i+1)).map V.ref).drop j))) (zZ B n) (.ins C.cSide dxs (j3 L (Vanbki.sideNext s n)))) x=some o:=fun x o e h1 h2 h3=>by
         rw[zh h2,zh (zg e L0)]
         exact s04 _ _ e
        have dsA:B.ds≠zZ B n:=by
         have ne:=hb.ne
         simp only[Bk.muts,List.nodup_cons,List.mem_cons,List.not_mem_nil,or_false,not_or] at ne
         unfold zZ
         split
         . exact ne.2.1.1
         . exact ne.2.1.2.2.1
        have r1:=Qb (a:=zZ B n) (l:=L) hb hn keep (by
         rw[zh dsA,zh (zg hb.sd L0),s04 _ _ hb.sd]
         rcases jz hn with rfl | rfl <;> rfl) ⟨dxs,zf⟩ (as:=(as.take i++as.drop (i+1)).take j++ai::(as.take i++as.drop (i+1)).drop j) (by rw[RL,zh (Ne.symm AL),zf];simp) (Same.refl G) (fun x o e=>by
         have h1:x≠zZ B n:=fun z=>by rw[z,hb.fr _ (yA B n)] at e;cases e
         rw[zh h1,zh (zg (hb.gh _ _ e) L0)]
         exact s04 _ _ (hb.gh _ _ e)) hb.fr (hb.fr _ (yA B n)) (hb.gh.free L0) (.inl rfl) (.inr L0) AL hc
        have r2:=JR (a:=zZ B n) (l:=L) hb keep (Same.refl G) (.inl rfl) (.inr L0) fun x o e=>.inl e
        refine k.yes (yV ?_ |>.trans ?_) (by decide) r1 r2
        . rw[zC hn,zC f1,zC f2]
          exact zC (same.trans (decide_eq_false hx))
        . rw[hfind,dd,<-b1]
end
end Tb
end
section
namespace Tb
open PySem PySem.Spec PyProof.Rows L2
open Vanbki (nats ofNat markNat numbers)
def wB:Sp:=fun vs H Q _=>∃ a row,vs=[.ref a]/\IL H a row/\row.length<=16000/\(jW row=none->∀ H',Same H H'->Q .non H') /\
 (∀ ts,jW row=some ts->ts.length<=row.length->(∀ t,t∈ts->t.length<=row.length)->∀ H' p as,Same H H'->H p=none->RL H' p as->Paired (fun x t=>H x=none/\IL H' x t) as ts->Q (.ref p) H')
def PostDone (C:Ad) (H G:Hp) (B:Bk) (r:Vanbki.State × Vanbki.Answer) (Q:VK):Prop:=∀ H' G' B' ch',BooksAt C H' G' B' ch' r.1->Fr H G B H' G' B'->Q (.int r.2.number) H'
theorem Fr.same {H G H':Hp}{B:Bk} (s:Same H H'):Fr H G B H' G B:=⟨rfl,fun a o e _=>s _ _ e,Same.refl _,fun a h=>.inl h,fun a o e=>.inl e⟩
theorem PostDone.no {C:Ad}{H G:Hp}{B:Bk}{ch:Chs}{s:Vanbki.State}{r:Vanbki.State × Vanbki.Answer}{Q:VK} (h:PostDone C H G B r Q) (hb:BooksAt C H G B ch s) {n:Int} (e:r=(s,⟨n,[]⟩)) {H':Hp} (k:Same H H'):Q (.int n) H':=by
 subst e
 exact h H' G B ch (hb.mono k) (Fr.same k)
theorem KD {s:Vanbki.State} (h:s.choices=[]):Xy [] s:=⟨List.nodup_nil,fun x hx=>(nomatch hx),fun k n=>by unfold yR Vanbki.choiceOf;rw[h];rfl⟩
section
variable {C:Ad}{H G:Hp}{B:Bk}{ch:Chs}{s:Vanbki.State}
theorem aad (hb:BooksAt C H G B ch s) {H2 H':Hp} (s2:Same H H2) {lb ds x1 q1 x2 q2 dc:Addr}{as:List Addr}{d:Vanbki.Doc}{k:Nat} (hlb:H lb=none) (rl:RL H2 lb as) (cells:CellsAt C (zY G H H2) as d)
 (keep:∀ y o,H2 y=some o->y≠B.b->H' y=some o) (eb:∃ dx,H' B.b=some (.ins C.cBooks dx (qF lb ds dc))) (eds:H' ds=some (.dK [(Sum.inl 1,.ref x1),(Sum.inl 2,.ref x2)]))
 (e1:∃ dx,H' x1=some (.ins C.cSide dx (j3 q1 k))) (r1:RL H' q1 as) (e2:∃ dx,H' x2=some (.ins C.cSide dx (j3 q2 k))) (r2:RL H' q2 as) (edc:H' dc=some (.dT (chV [])))
 (nds:H2 ds=none) (nx1:H2 x1=none) (nq1:H2 q1=none) (nx2:H2 x2=none) (nq2:H2 q2=none) (ndc:H2 dc=none) (x12:x1≠x2) (q12:q1≠q2) {t:Vanbki.State} (ht:t=⟨d,d,d,k,k,[]⟩) (ok:qu t) :
 BooksAt C H' (zY G H H2) ⟨B.b,lb,ds,x1,q1,x2,q2,dc⟩ [] t/\Fr H G B H' (zY G H H2) ⟨B.b,lb,ds,x1,q1,x2,q2,dc⟩:=by
 subst ht
 obtain⟨dxb,eb0⟩:=hb.bk
 have mb:B.b∈B.muts:=by simp[Bk.muts]
 have gr:=qO hb.gh s2
 have Gb:zY G H H2 B.b=none:=gr.free (hb.fr _ mb) eb0
 have bH2:=s2 _ _ eb0
 obtain⟨dxb',eb⟩:=eb
 obtain⟨dx1,e1⟩:=e1
 obtain⟨dx2,e2⟩:=e2
 have nb:∀ {y:Addr},H2 y=none->B.b≠y:=fun hy z=>by rw[<-z,bH2] at hy;cases hy
 have hh:∀ {y z:Addr}{o u:HO},H' y=some o->H' z=some u->o≠u->y≠z:=fun h1 h2 h3 e=>by
  rw[e,h2] at h1
  exact h3 (Option.some.inj h1).symm
 refine⟨⟨⟨dxb',eb⟩,eds,⟨dx1,e1⟩,⟨dx2,e2⟩,⟨as,by rw[RL,qV hb.gh hlb];exact rl,cells⟩,⟨as,r1,cells⟩,⟨as,r2,cells⟩,edc,KD rfl,?_,?_,?_,ok⟩,rfl,?_,gr.gf,?_,gr.nw⟩
 . intro y o e
   exact keep y o (gr.fh _ _ e) (fun z=>by rw[z,Gb] at e;cases e)
 . intro y hy
   simp only[Bk.muts,List.mem_cons,List.not_mem_nil,or_false] at hy
   rcases hy with rfl | rfl | rfl | rfl | rfl | rfl | rfl
   . exact Gb
   . exact gr.fh.free nds
   . exact gr.fh.free nx1
   . exact gr.fh.free nq1
   . exact gr.fh.free nx2
   . exact gr.fh.free nq2
   . exact gr.fh.free ndc
 . simp only[Bk.muts,List.nodup_cons,List.mem_cons,List.not_mem_nil,or_false,not_or,not_false_eq_true,and_true,List.nodup_nil]
   refine⟨⟨nb nds,nb nx1,nb nq1,nb nx2,nb nq2,nb ndc⟩,⟨hh eds e1 (by simp),hh eds r1 (by simp),hh eds e2 (by simp),hh eds r2 (by simp),hh eds edc (by simp)⟩,⟨hh e1 r1 (by simp),x12,hh e1 r2 (by simp),hh e1 edc (by simp)⟩,⟨hh r1 e2 (by simp),q12,hh r1 edc (by simp)⟩,⟨hh e2 r2 (by simp),hh e2 edc (by simp)⟩,hh r2 edc (by simp)⟩
 . intro y o e m
   exact keep y o (s2 _ _ e) (fun z=>m (z▸mb))
 . intro y hy
   simp only[Bk.muts,List.mem_cons,List.not_mem_nil,or_false] at hy
   rcases hy with rfl | rfl | rfl | rfl | rfl | rfl | rfl
   . exact .inl mb
   . exact .inr (s2.free nds)
   . exact .inr (s2.free nx1)
   . exact .inr (s2.free nq1)
   . exact .inr (s2.free nx2)
   . exact .inr (s2.free nq2)
   . exact .inr (s2.free ndc)
end
theorem abo {K:PySem.W.Frag}{a:Addr}{k:Nat}{xs:List V}{g:TG}{te:TE}{vs:List Nat}{σ:L2.St}{H1:Hp}{D:Addr}{Qd:Hp->Prop} (R:Nat->V->Hp->Prop) (mono:∀ i y F F',Same F F'->R i y F->R i y F') (hx:SqL K H1 a xs) (hD:H1 D=none) (hz:xs.length<sizeLine)
 (hs:∀ (i:Nat) (x:V) (H':Hp) (X:Addr) (P:V->Hp->Prop),xs[i]?=some x->Same H1 H'->(∃ o,H' D=some o)->H' X=none->(∀ y H4,Same H' H4->R i y (minus H4 D)->P y H4) ->
  g (.ref X) (qQ σ vs) (upd H' X (.tup [.int ((i+k:Nat):Int),x])) fun σ2 H2=>qQ σ2 vs=qQ σ vs/\te σ2 H2 P)
 (hd:∀ H' ys,Same H1 H'->H' D=some (.lst ys)->ys.length=xs.length->(∀ i y,ys[i]?=some y->R i y (minus H' D))->Qd H') :
 ∃ W:Nat->Nat->Hp->Prop,(∃ m,W 0 m (upd H1 D (.lst [])))/\∀ i m H,W i m H ->
  ((aa5 K a k).stop i H/\Qd H)∨((aa5 K a k).go i H/\∃ Nx:Hp->Prop,(∀ H',Nx H'->∃ m',m'<m/\W (i+1) m' H')/\∀ x H',(aa5 K a k).yld i H x H'->g x (qQ σ vs) H' fun σ2 H2=>qQ σ2 vs=qQ σ vs/\Ka σ2 H2 fun b H3 =>
   if b=true then te σ2 H3 fun y H4=>∃ acc,H4 D=some (.lst acc)/\acc.length<sizeLine/\Nx (upd H4 D (.lst (acc++[y]))) else Nx H3):=by
 refine⟨fun i m H=>m=xs.length - i/\i<=xs.length/\(Same H1 H/\∃ ys,H D=some (.lst ys)/\ys.length=i/\∀ j y,ys[j]?=some y->R j y (minus H D)),⟨xs.length,by simp,Nat.zero_le _,Same.new hD,[],zf,rfl,fun j y h=>by simp at h⟩,?_⟩
 rintro i m H ⟨rfl,hi,s,ys,e,hl,hr⟩
 have q:=s.seq hx
 by_cases hlt:i<xs.length
 . have hx':xs[i]?=some xs[i]:=List.getElem?_eq_getElem hlt
   refine .inr ⟨⟨xs,_,q,hx'⟩,fun H'=>Same H1 H'/\∃ zs,H' D=some (.lst zs)/\zs.length=i+1/\∀ j z,zs[j]?=some z->R j z (minus H' D),fun H' p'=>⟨xs.length - (i+1),by omega,rfl,hlt,p'⟩,fun v H' y=>?_⟩
   obtain⟨X,x,rfl,hX,rfl,y1⟩:=y
   have h1:=y1 xs q
   simp only[Ka,if_true]
   refine hs i x H X _ h1 s ⟨_,e⟩ hX fun y H4 s4 r4=>⟨ys,s4 _ _ e,by omega,fun b o q=>?_,ys++[y],zf,by simp[hl],fun j z hj=>?_⟩
   . rw[zh (zg q hD)]
     exact s4 _ _ (s b o q)
   . rw[xO]
     by_cases hji:j<ys.length
     . rw[List.getElem?_append_left hji] at hj
       exact mono j z _ _ (Same.both s4) (hr j z hj)
     . have hjl:j<(ys++[y]).length:=(List.getElem?_eq_some_iff.mp hj).1
       have ej:j=ys.length:=by simp at hjl;omega
       subst ej
       rw[List.getElem?_append_right (Nat.le_refl _)] at hj
       simp at hj
       subst hj
       rw[hl]
       exact r4
 . have e':i=xs.length:=by omega
   subst e'
   exact .inl ⟨⟨xs,q,Nat.le_refl _⟩,hd H ys s e hl hr⟩
section
variable {P:Program}{w:World}{K:PySem.W.Frag}{mg:Str->Option Value}{base:Heap}{C:Ad}{f:Addr}{fd:FuncData}
theorem Jz (F:Fun K "texts_of_row" "texts_of_row" kY f fd) (T:Txt K mg C):z_ P w K mg base CX0 1 f fd ["row"] (wB):=by
 refine F.ok sc_texts_of_row (fun vs H Q E h=>?_) (fun cdv A outer s H vs Q E hr h=>?_)
 . obtain⟨a,row,rfl,_⟩:=h
   rfl
 . obtain⟨a,row,rfl,ha,hz,k1,k2⟩:=h
   refine⟨_,(ze (zu (i:=1) sc_texts_of_row.nd rfl (Or.inl rfl) (qb zi))
    (ze (zu (i:=2) sc_texts_of_row.nd rfl (Or.inl rfl) zH)
    (ze (K6 PassesOwn.never (zz K8 (pv 2) (zW qY (by rfl) T.b_len qX (za (pv 0) zi)) (zF _)) (ze (zu (i:=3) sc_texts_of_row.nd rfl (Or.inl rfl) (jK w4 (pv 2) zH))
    (ze (zu (i:=4) sc_texts_of_row.nd rfl (Or.inl rfl) (jK w4 (pv 3) (qy qj (pv 0) (pv 2) (fun _ _=>rfl))))
    (ze (zI (aaC (zz K8 (pv 4) (pv 3) (zF _)) (Wf (zz J1 (pv 4) (zW qY (by rfl) T.b_len qX (za (pv 0) zi)) (zF _)))).pt (zj (zo wS)) zw)
    (ze (qA (jL PySem.F.plainAttrs_list PySem.F.slot_list_append PySem.F.type_list_append ji (pv 1) (za (vQ yY (pv 0) (jY (pv 3)) (jY (pv 4))) zi)))
    (zj (zu (i:=2) sc_texts_of_row.nd rfl (Or.inl rfl) (pv 4))))))))
    (zj (zo (pv 1)))))),?_⟩
   refine⟨Nat.zero_le _,fun p hp=>?_⟩
   refine⟨fun μ σ H'=>∃ i:Nat,μ=row.length - i/\i<=row.length/\(∃ v3 v4,σ=[some (.ref a),some (.ref p),some (.int (i:Nat)),v3,v4])/\Same H H'/\∃ as ts,RL H' p as/\Paired (fun x t=>H x=none/\x≠p/\IL H' x t) as ts/\ts.length<=i/\(∀ t,t∈ts->t.length<=row.length)/\jW row=(jW (row.drop i)).map fun l=>ts++l,
    ⟨row.length,0,rfl,Nat.zero_le _,⟨none,none,rfl⟩,Same.new hp,[],[],zf,.nil,Nat.zero_le _,fun t h=>(nomatch h),by simp⟩,?_⟩
   rintro μ σ H' ⟨i,rfl,hi,⟨v3,v4,rfl⟩,s1,as,ts,hr,hpa,hts,hbig,htx⟩
   have ha':=s1 _ _ ha
   have lts:=zx hpa
   refine⟨_,rfl,_,rfl,a,_,rfl,.inl (SqL.of ha'),_,_,rfl,rfl,_,rfl,?_⟩
   by_cases hlt:i<row.length
   . rw[decide_eq_true (by rw[List.length_map];omega)]
     refine zM ?_
     obtain⟨n,hn⟩:∃ n,row[i]?=some n:=⟨_,List.getElem?_eq_getElem hlt⟩
     have hdrop:row.drop i=n::row.drop (i+1):=by
      rw[List.drop_eq_getElem_cons hlt]
      congr 1
      rw[List.getElem?_eq_getElem hlt] at hn
      exact Option.some.inj hn
     have ht2:=V_ n (row.drop (i+1))
     rw[<-hdrop,List.length_drop] at ht2
     refine⟨_,fun σ' H' h=>h,_,rfl,_,_,rfl,rfl,?_⟩
     refine⟨_,rfl,_,rfl,_,rfl,a,_,_,_,rfl,rfl,SqL.of ha',q5 (by rw[List.getElem?_map,hn];rfl),_,_,rfl,rfl,?_⟩
     refine⟨_,rfl,_,rfl,_,_,rfl,rfl,_,rfl,?_⟩
     by_cases h1:n<0
     . rw[decide_eq_true (by omega)]
       refine zM (zM ?_)
       rw[if_pos (.inl h1)] at ht2
       rw[ht2] at htx
       exact k1 htx H' s1
     . rw[decide_eq_false (by omega)]
       refine zE ⟨_,rfl,_,rfl,a,_,rfl,.inl (SqL.of ha'),_,_,rfl,rfl,_,rfl,?_⟩
       by_cases h2:((row.length - (i+1):Nat):Int)<n
       . rw[decide_eq_true (by rw[List.length_map];omega)]
         refine zM ?_
         rw[if_pos (.inr h2)] at ht2
         rw[ht2] at htx
         exact k1 htx H' s1
       . rw[decide_eq_false (by rw[List.length_map];omega)]
         refine zE ?_
         rw[if_neg (by omega)] at ht2
         obtain⟨m,rfl⟩:∃ m:Nat,n=(m:Int):=⟨n.toNat,by omega⟩
         rw[Int.toNat_natCast,List.drop_drop] at ht2
         refine⟨_,rfl,.inl ⟨rfl,_,SqL.of hr⟩,_,rfl,_,rfl,_,rfl,_,rfl,_,rfl,a,_,rfl,SqL.of ha',fun q hq=>?_⟩
         have ecut:uF (row.map V.int) (some ((i:Nat)+1:Int)) (some ((i:Nat)+1+(m:Nat):Int))=((row.drop (i+1)).take m).map V.int:=by
          have:=ZZ (xs:=row.map V.int) (i:=i+1) (j:=i+1+m) (by rw[List.length_map];omega) (by rw[List.length_map];omega)
          rw[show i+1+m - (i+1)=m by omega] at this
          rw[List.map_take,List.map_drop,<-this]
          rfl
         have qp:q≠p:=Ne.symm (zg hr hq)
         refine⟨p,_,_,rfl,rfl,(by rw[zh (Ne.symm qp)];exact hr),(by rw[List.length_map];exact qU (by omega)),?_⟩
         rw[ecut]
         refine⟨_,rfl,row.length - (i+1+m),by omega,i+1+m,rfl,by omega,⟨_,_,rfl⟩,fun b o e=>?_,as++[q],ts++[(row.drop (i+1)).take m],?_,?_,?_,?_,?_⟩
         . rw[zh (zg e hp),zh (zg (s1 _ _ e) hq)]
           exact s1 _ _ e
         . rw[RL,zf,List.map_append]
           rfl
         . refine ja (zG hpa fun x t r=>⟨r.1,r.2.1,?_⟩) ⟨s1.free hq,qp,?_⟩
           . rw[IL,zh r.2.1,zh (zg r.2.2 hq)]
             exact r.2.2
           . rw[IL,zh qp,zf]
         . rw[List.length_append]
           show ts.length+1<=_
           omega
         . intro t ht
           rcases List.mem_append.mp ht with z | z
           . exact hbig t z
           . rw[List.mem_singleton.mp z,List.length_take,List.length_drop]
             omega
         . rw[htx,ht2,Option.map_map]
           congr 1
           funext l
           simp
   . rw[decide_eq_false (by rw[List.length_map];omega)]
     refine zE ?_
     have e:i=row.length:=by omega
     rw[e,List.drop_length,X4] at htx
     refine⟨_,rfl,k2 ts (by rw[htx];simp) (by omega) hbig H' p as s1 hp hr (zG hpa fun _ _ r=>⟨r.1,r.2.2⟩)⟩
end
end Tb
end
section
namespace Tb
open PySem PySem.Spec PyProof.Rows L2
open Vanbki (nats ofNat markNat numbers)
def jb (ts:List (List Int)):Vanbki.Doc:=ts.zipIdx.map fun x=>⟨x.2+1,false,Vanbki.textOf x.1⟩
theorem vW (ts:List (List Int)):(jb ts).length=ts.length:=by simp[jb]
theorem Zj {ts:List (List Int)}{i:Nat}{t:List Int} (h:ts[i]?=some t):(jb ts)[i]?=some ⟨i+1,false,Vanbki.textOf t⟩:=by
 simp[jb,h]
theorem XI (ts:List (List Int)):Vanbki.greatest (numbers (jb ts))=ts.length:=by
 by_cases h:ts=[]
 . subst h
   rfl
 . have hl:0<ts.length:=List.length_pos_iff.mpr h
   refine J0 ?_ fun z hz=>?_
   . obtain⟨t,ht⟩:∃ t,ts[ts.length - 1]?=some t:=⟨_,List.getElem?_eq_getElem (by omega)⟩
     have h1:=List.mem_of_getElem? (Zj ht)
     have h2:ts.length - 1+1∈numbers (jb ts):=List.mem_map.mpr ⟨_,h1,rfl⟩
     rwa [show ts.length - 1+1=ts.length by omega] at h2
   . obtain⟨c,hc,rfl⟩:=List.mem_map.mp hz
     obtain⟨i,hi,e⟩:=List.mem_iff_getElem.mp hc
     rw[vW] at hi
     have h1:=Zj (ts:=ts) (i:=i) (List.getElem?_eq_getElem hi)
     have h2:(jb ts)[i]?=some c:=by rw[List.getElem?_eq_getElem (by rw[vW];exact hi),e]
     rw[h1] at h2
     rw[<-Option.some.inj h2]
     show i+1<=ts.length
     omega
theorem Ja {s:Vanbki.State}{row:List Int} (h:jW row=none):Vanbki.doBase s row=(s,⟨-15,[]⟩):=by
 unfold Vanbki.doBase
 rw[show Vanbki.textsOf (row.length+1) row=none from h]
theorem VP {s:Vanbki.State}{row:List Int}{ts:List (List Int)} (h:jW row=some ts) (hr:jh ts≠0):Vanbki.doBase s row=(s,⟨jh ts,[]⟩):=by
 unfold Vanbki.doBase
 rw[show Vanbki.textsOf (row.length+1) row=some ts from h]
 unfold jh at hr ⊢
 cases h1:ts.all Vanbki.bytes with
 | false =>
  simp only[h1,Bool.not_false]
  rw[qt rfl]
  rfl
 | true =>
  rw[h1,if_pos rfl] at hr
  cases h2:ts.any Vanbki.tooLong with
  | false=>rw[h2] at hr;exact absurd rfl hr
  | true =>
   simp only[h1,Bool.not_true]
   rw[zC rfl,qt h2]
   simp[h2]
theorem xG {ts:List (List Int)} (hr:jh ts=0):ts.all Vanbki.bytes=true/\ts.any Vanbki.tooLong=false:=by
 unfold jh at hr
 cases h1:ts.all Vanbki.bytes with
 | false=>rw[h1,if_neg Bool.false_ne_true] at hr;exact absurd hr (by decide)
 | true =>
  cases h2:ts.any Vanbki.tooLong with
  | true=>rw[h1,h2,if_pos rfl,if_pos rfl] at hr;exact absurd hr (by decide)
  | false=>exact⟨rfl,rfl⟩
theorem Jb {s:Vanbki.State}{row:List Int}{ts:List (List Int)} (h:jW row=some ts) (hr:jh ts=0) (hl:12<ts.length):Vanbki.doBase s row=(s,⟨-6,[]⟩):=by
 obtain⟨h1,h2⟩:=xG hr
 unfold Vanbki.doBase
 rw[show Vanbki.textsOf (row.length+1) row=some ts from h]
 simp only[h1,h2,Bool.not_true]
 rw[zC rfl,zC rfl,qt (show decide (Vanbki.CELLS<ts.length)=true from decide_eq_true hl)]
theorem KF {s:Vanbki.State}{row:List Int}{ts:List (List Int)} (h:jW row=some ts) (hr:jh ts=0) (hl:¬12<ts.length):Vanbki.doBase s row=(⟨jb ts,jb ts,jb ts,ts.length+1,ts.length+1,[]⟩,⟨(ts.length:Nat),[]⟩):=by
 obtain⟨h1,h2⟩:=xG hr
 unfold Vanbki.doBase
 rw[show Vanbki.textsOf (row.length+1) row=some ts from h]
 simp only[h1,h2,Bool.not_true]
 rw[zC rfl,zC rfl,zC (show decide (Vanbki.CELLS<ts.length)=false from decide_eq_false hl)]
 show (_,_)=_
 have:=vW ts
 unfold jb at this ⊢
 rw[this]
 rfl
section
variable {C:Ad}{H G:Hp}{B:Bk}{ch:Chs}{s:Vanbki.State}
theorem Uf (hb:BooksAt C H G B ch s) {Hc H5:Hp} (s2:Same H Hc) {lb p x1 q1 x2 q2 dc dxb dx1 dx2 ds0 dc0:Addr}{as:List Addr}{d:Vanbki.Doc}{k:Nat} (hlb:H lb=none) (rl:RL Hc lb as) (cells:CellsAt C (zY G H Hc) as d)
 (np:(upd Hc B.b (.ins C.cBooks dxb (qF lb ds0 dc0))) p=none) (s5:Same (upd (upd Hc B.b (.ins C.cBooks dxb (qF lb ds0 dc0))) p (.dK [])) H5)
 (nx1:(upd (upd Hc B.b (.ins C.cBooks dxb (qF lb ds0 dc0))) p (.dK [])) x1=none) (nq1:(upd (upd Hc B.b (.ins C.cBooks dxb (qF lb ds0 dc0))) p (.dK [])) q1=none)
 (nx2:(upd (upd Hc B.b (.ins C.cBooks dxb (qF lb ds0 dc0))) p (.dK [])) x2=none) (nq2:(upd (upd Hc B.b (.ins C.cBooks dxb (qF lb ds0 dc0))) p (.dK [])) q2=none)
 (e1:H5 x1=some (.ins C.cSide dx1 (j3 q1 k))) (r1:RL H5 q1 as) (e2:H5 x2=some (.ins C.cSide dx2 (j3 q2 k))) (r2:RL H5 q2 as)
 (ndc:(upd (upd H5 p (.dK [(Sum.inl 1,.ref x1),(Sum.inl 2,.ref x2)])) B.b (.ins C.cBooks dxb (qF lb p dc0))) dc=none) (x12:x1≠x2) (q12:q1≠q2) {t:Vanbki.State} (ht:t=⟨d,d,d,k,k,[]⟩) (ok:qu t) :
 BooksAt C (upd (upd (upd (upd H5 p (.dK [(Sum.inl 1,.ref x1),(Sum.inl 2,.ref x2)])) B.b (.ins C.cBooks dxb (qF lb p dc0))) dc (.dT [])) B.b (.ins C.cBooks dxb (qF lb p dc))) (zY G H Hc) ⟨B.b,lb,p,x1,q1,x2,q2,dc⟩ [] t
 /\Fr H G B (upd (upd (upd (upd H5 p (.dK [(Sum.inl 1,.ref x1),(Sum.inl 2,.ref x2)])) B.b (.ins C.cBooks dxb (qF lb p dc0))) dc (.dT [])) B.b (.ins C.cBooks dxb (qF lb p dc))) (zY G H Hc) ⟨B.b,lb,p,x1,q1,x2,q2,dc⟩:=by
 have pb:p≠B.b:=fun z=>by rw[z,zf] at np;cases np
 have np':Hc p=none:=by rw[zh pb] at np;exact np
 have out:∀ {y:Addr},(upd (upd Hc B.b (.ins C.cBooks dxb (qF lb ds0 dc0))) p (.dK [])) y=none->y≠p/\y≠B.b/\Hc y=none:=fun {y} h=>by
  have h1:y≠p:=fun z=>by rw[z,zf] at h;cases h
  rw[zh h1] at h
  have h2:y≠B.b:=fun z=>by rw[z,zf] at h;cases h
  rw[zh h2] at h
  exact⟨h1,h2,h⟩
 obtain⟨a1,a2,a3⟩:=out nx1
 obtain⟨b1,b2,b3⟩:=out nq1
 obtain⟨c1,c2,c3⟩:=out nx2
 obtain⟨d1,d2,d3⟩:=out nq2
 have h1:dc≠B.b:=fun z=>by rw[z,zf] at ndc;cases ndc
 rw[zh h1] at ndc
 have h2:dc≠p:=fun z=>by rw[z,zf] at ndc;cases ndc
 rw[zh h2] at ndc
 have ndcc:Hc dc=none:=by
  have:=s5.free ndc
  rw[zh h2,zh h1] at this
  exact this
 have val:∀ {y:Addr}{o:HO},y≠B.b->y≠p->H5 y=some o->(upd (upd (upd (upd H5 p (.dK [(Sum.inl 1,.ref x1),(Sum.inl 2,.ref x2)])) B.b (.ins C.cBooks dxb (qF lb p dc0))) dc (.dT [])) B.b (.ins C.cBooks dxb (qF lb p dc))) y=some o:=fun {y o} hb1 hp1 e=>by
  rw[zh hb1,zh (zg e ndc),zh hb1,zh hp1]
  exact e
 refine aad hb s2 hlb rl cells (fun y o e hy=>?_) ⟨dxb,zf⟩ ?_ ⟨dx1,val a2 a1 e1⟩ (val b2 b1 r1) ⟨dx2,val c2 c1 e2⟩ (val d2 d1 r2) ?_ np' a3 b3 c3 d3 ndcc x12 q12 ht ok
 . have yp:y≠p:=zg e np'
   exact val hy yp (s5 _ _ (by rw[zh yp,zh hy];exact e))
 . rw[zh pb,zh (Ne.symm h2),zh pb,zf]
 . rw[zh h1,zf]
   rfl
end
def Jc (C:Ad):Sp:=fun vs H Q _=>∃ G B ch s a row,vs=[.ref (Bk.b B),.ref a]/\BooksAt C H G B ch s/\IL H a row/\row.length<=16000/\PostDone C H G B (Vanbki.doBase s row) Q
section
variable {P:Program}{w:World}{K:PySem.W.Frag}{mg:Str->Option Value}{base:Heap}{C:Ad}{f:Addr}{fd:FuncData}
theorem XJ {f1:Addr}{fd1:FuncData}{f2:Addr}{fd2:FuncData}{f3:Addr}{fd3:FuncData}{f4:Addr}{fd4:FuncData} (F:Fun K "set_base" "set_base" wb f fd) (T:Txt K mg C) (D_texts_of_row:Def P w K mg base "texts_of_row" 1 ["row"] (wB) f1 fd1) (D_refusal_of_texts:Def P w K mg base "refusal_of_texts" 2 ["texts"] (je) f2 fd2) (D_Cell:Cdf P w K mg base "Cell" 1 ["self","number","mark","text"] (qS C) C.cCell f3 fd3) (D_copy_of_base:Def P w K mg base "copy_of_base" 3 ["books"] (y9 C) f4 fd4):z_ P w K mg base CX0 4 f fd ["books","row"] (Jc C):=by
 refine F.ok sc_set_base (fun vs H Q E h=>?_) (fun cdv A outer s H vs Q E hr h=>?_)
 . obtain⟨G,B,ch,s,a,row,rfl,_⟩:=h
   rfl
 . obtain⟨G,B,ch,s,a,row,rfl,hb,ha,hz,k⟩:=h
   have hu:=jR hr
   refine⟨_,(ze (zu (i:=2) sc_set_base.nd rfl (Or.inl rfl) (zk D_texts_of_row (hr.mono (by decide)) (za (pv 1) zi)))
    (ze (zI (qJ (jJ (pv 2))) (zj (zo (pgi T.g_ROW_NOT_WHOLE))) zw)
    (ze (zu (i:=3) sc_set_base.nd rfl (Or.inl rfl) (zk D_refusal_of_texts (hr.mono (by decide)) (za (pv 2) zi)))
    (ze (zI (zz yM (pv 3) (pgi T.g_NO_REFUSAL) (zF _)) (zj (zo (pv 3))) zw)
    (ze (zI (zz J1 (zW qY (by rfl) T.b_len qX (za (pv 2) zi)) (pgi T.g_MOST_CELLS) (zF _)) (zj (zo (pgi T.g_TOO_MANY_CELLS))) zw)
    (ze (qK (pv 0) (w_ rfl sc_set_base.nd (aa7 T.b_enumerate (pv 2) zH) (qE (own:=[("number",4),("text",5)]) (by kernel_rfl)) (fun _ _ _ _ _=>(Ua (K:=K) (n:=2) rfl rfl (kf (zS (i:=4) sc_set_base.nd rfl (Or.inl rfl)) (kf (zS (i:=5) sc_set_base.nd rfl (Or.inl rfl)) ZJ)))) (fun _ _ _ _ _=>km) (fun _ _ _ _ _=>(qw D_Cell (hr.mono (by decide)) (za (pv 4) (za zH (za (pv 5) zi)))))) rfl)
    (ze (qK (pv 0) (ZS (kS (pgi T.g_LEFT) (zk D_copy_of_base (hr.mono (by decide)) (za (pv 0) zi)) (kS (pgi T.g_RIGHT) (zk D_copy_of_base (hr.mono (by decide)) (za (pv 0) zi)) ZR)) rfl rfl (by simp) (by decide)) rfl)
    (ze (qK (pv 0) u4 rfl)
    (zj (zo (zW qY (by rfl) T.b_len qX (za (pv 2) zi)))))))))))),?_⟩
   obtain⟨dxb,eb⟩:=hb.bk
   have S:=hb.ok
   refine⟨_,rfl,a,row,rfl,ha,hz,fun hN H1 s1=>?_,fun ts hts hlen hbig H1 p as s1 hp rp pp=>?_⟩
   . exact⟨_,rfl,_,rfl,zM (k.no hb (Ja hN) s1)⟩
   . refine⟨_,rfl,_,rfl,zE ?_⟩
     have lp:=zx pp
     refine⟨_,rfl,p,as,ts,rfl,rp,zG pp (fun _ _ r=>r.2),(by omega),(fun t ht=>Nat.le_trans (hbig t ht) hz),fun H2 s2=>?_⟩
     have s02:=s1.trans s2
     refine⟨_,rfl,rfl,_,rfl,qP (fun hh=>⟨_,rfl,?_⟩) (fun hh=>?_)⟩
     . exact k.no hb (VP hts hh) s02
     . refine⟨_,rfl,p,_,rfl,.inl (SqL.of (s2 _ _ rp)),_,_,rfl,rfl,_,rfl,?_⟩
       by_cases h12:12<ts.length
       . rw[decide_eq_true (by rw[List.length_map];omega)]
         exact zM (k.no hb (Jb hts hh h12) s02)
       . rw[decide_eq_false (by rw[List.length_map];omega)]
         refine zE ?_
         obtain⟨hby,_⟩:=xG hh
         refine⟨_,rfl,p,_,1,rfl,rfl,(by decide),SqL.of (s2 _ _ rp),fun D hD=>?_⟩
         have D0:=s02.free hD
         refine abo (K:=K) (xs:=as.map V.ref) (fun i y F=>∃ x dx q,y=.ref x/\H x=none/\as[i]?=some q/\F x=some (.ins C.cCell dx (kb ((i+1:Nat):Int) 0 q))) (fun i y F F' sF ⟨x,dx,q,h1,h2,h3,h4⟩=>⟨x,dx,q,h1,h2,h3,sF _ _ h4⟩) (SqL.of (s2 _ _ rp)) hD (by rw[List.length_map];exact qU (by omega)) (fun i x H' X P' hi s3 hDo hX hP=>?_) (fun H3 ys s3 e3 hyl hr'=>?_)
         . obtain⟨q,hq,rfl⟩:=qL hi
           refine⟨X,_,rfl,SqT.of zf,rfl,_,_,rfl,_,_,rfl,rfl,rfl,_,rfl,_,rfl,?_⟩
           intro y dy ny nd ne
           refine⟨y,dy,_,_,_,rfl,zf,rfl,?_⟩
           have s5:=jx (c:=C.cCell) (fs:=kb ((i+1:Nat):Int) 0 q) ny nd
           have yD:y≠D:=fun z=>by
            obtain⟨ob,hob⟩:=hDo
            have:=Same.new (o:=.tup [.int ((i+1:Nat):Int),.ref q]) hX _ _ hob
            rw[<-z,ny] at this
            cases this
           refine hP _ _ ((Same.new hX).trans s5) ⟨y,dy,q,rfl,(s02.trans (s3.trans (Same.new hX))).free ny,hq,?_⟩
           rw[qI yD,zf]
         . have s03:=s02.trans s3
           have gr:=qO hb.gh s03
           obtain⟨cs,rfl,pc⟩:=yz (R:=CellAt C (zY G H H3)) (ys:=ys) (bs:=jb ts) (by rw[hyl,List.length_map,vW,lp]) fun i y b hy hbd=>by
            obtain⟨x,dx,q,h1,h2,h3,h4⟩:=hr' i y hy
            obtain⟨t,ht,hq0,hqt⟩:=zN pp h3
            rw[Zj ht] at hbd
            cases hbd
            have xD:x≠D:=fun z=>by rw[z,jv] at h4;cases h4
            rw[qI xD] at h4
            refine⟨x,h1,dx,q,?_,?_⟩
            . rw[qV hb.gh h2]
              exact h4
            . rw[IL,qV hb.gh hq0,vV ((List.all_eq_true.mp hby) t (List.mem_of_getElem? ht))]
              exact s3 _ _ (s2 _ _ hqt)
           have e3:RL H3 D cs:=e3
           have ok:qu (Vanbki.doBase s row).1:=xH S (.base row)
           rw[KF hts hh h12] at ok k
           have eb3:=s03 _ _ eb
           have Db:D≠B.b:=Ne.symm (zg eb D0)
           refine⟨_,rfl,B.b,C.cBooks,dxb,_,rfl,eb3,T.c_Books,T.n_Books_base_cells,(by show 3<1000;decide),fun pd npd=>?_⟩
           have npd:(upd H3 B.b (.ins C.cBooks dxb (qF D B.ds B.dc))) pd=none:=npd
           have pdb:pd≠B.b:=fun z=>by rw[z,zf] at npd;cases npd
           have pdD:pd≠D:=fun z=>by rw[z,zh Db,e3] at npd;cases npd
           generalize hH4:upd (upd H3 B.b (.ins C.cBooks dxb (qF D B.ds B.dc))) pd (.dK [])=H4
           have hH4':upd (upd H3 B.b (.ins C.cBooks dxb (xK "base_cells" (.ref D) (qF B.lb B.ds B.dc)))) pd (.dK [])=H4:=hH4
           rw[hH4']
           have eb4:H4 B.b=some (.ins C.cBooks dxb (qF D B.ds B.dc)):=by rw[<-hH4,zh (Ne.symm pdb),zf]
           have eD4:RL H4 D cs:=by rw[<-hH4,RL,zh (Ne.symm pdD),zh Db];exact e3
           have keep4:∀ y o,H3 y=some o->y≠B.b->H4 y=some o:=fun y o e hy=>by
            have yp:y≠pd:=fun z=>by rw[z] at e;rw[zh pdb,e] at npd;cases npd
            rw[<-hH4,zh yp,zh hy]
            exact e
           have Gb:zY G H H3 B.b=none:=gr.free (hb.fr _ (by simp[Bk.muts])) eb
           have cells4:CellsAt C H4 cs (jb ts):=zG pc fun x c ⟨dx,q,h1,h2⟩=>⟨dx,q,keep4 _ _ (gr.fh _ _ h1) (fun z=>by rw[z,Gb] at h1;cases h1),keep4 _ _ (gr.fh _ _ h2) (fun z=>by rw[z] at h2;rw[IL,Gb] at h2;cases h2)⟩
           have lz:(jb ts).length<=1000:=by rw[vW];omega
           have ek:((Vanbki.greatest (numbers (jb ts)):Int)+1)=((ts.length+1:Nat):Int):=by rw[XI];omega
           refine⟨_,rfl,B.b,dxb,D,B.ds,B.dc,cs,jb ts,rfl,eb4,eD4,cells4,lz,fun H5 x1 dx1 q1 s5 nx1 nq1 qx1 ex1 rx1=>?_⟩
           refine⟨_,rfl,B.b,dxb,D,B.ds,B.dc,cs,jb ts,rfl,s5 _ _ eb4,s5 _ _ eD4,cells4.mono s5,lz,fun H6 x2 dx2 q2 s6 nx2 nq2 qx2 ex2 rx2=>?_⟩
           rw[ek] at ex1 ex2
           have s46:=s5.trans s6
           refine⟨s46 _ _ (by rw[<-hH4,zf]),[(Sum.inl 1,.ref x1),(Sum.inl 2,.ref x2)],rfl,(by show 2<=15;decide),?_⟩
           refine⟨_,rfl,B.b,C.cBooks,dxb,_,rfl,(by rw[zh (Ne.symm pdb)];exact s46 _ _ eb4),T.c_Books,T.n_Books_sides,(by show 3<1000;decide),?_⟩
           intro dc ndc
           refine⟨_,rfl,B.b,C.cBooks,dxb,_,rfl,(by rw[zh (Ne.symm (fun z=>by rw[z,zf] at ndc;cases ndc)),zf]),T.c_Books,T.n_Books_choices,(by show 3<1000;decide),?_⟩
           subst hH4
           obtain⟨f1,f2⟩:=Uf hb s03 D0 e3 pc npd s46 nx1 nq1 (s5.free nx2) (s5.free nq2) (s6 _ _ ex1) (s6 _ _ rx1) ex2 rx2 ndc (zg ex1 nx2) (zg rx1 nq2) rfl ok
           have rp9:=f2.kept
           have q:=k _ _ _ _ f1 f2
           refine⟨_,rfl,p,as.map V.ref,rfl,.inl (SqL.of ?_),?_⟩
           . have h1:H3 p=some (.lst (as.map V.ref)):=s3 _ _ (s2 _ _ rp)
             have h0:p≠B.b:=Ne.symm (zg eb hp)
             have h2:p≠pd:=fun z=>by rw[z] at h1;rw[zh pdb,h1] at npd;cases npd
             have h6:H6 p=some (.lst (as.map V.ref)):=s46 _ _ (keep4 _ _ h1 h0)
             have h7:p≠dc:=fun z=>by
              rw[<-z,zh h0,zh h2,h6] at ndc
              cases ndc
             rw[zh h0,zh h7,zh h0,zh h2]
             exact h6
           . rw[List.length_map,lp]
             exact q
end
end Tb
end
section
namespace Tb
open PySem PySem.Spec PyProof.Rows L2
open Vanbki (nats ofNat markNat numbers)
theorem aae {d:Addr}{o:Obj}{kvs:List (List Key × V)}{g:TG}{tb:TS}{D:Y5}{σ:L2.St}{H:Hp} (Pv:Nat->L2.St->Hp->Prop) (h0:Pv 0 σ H) (hl:∀ i σ H,i<=kvs.length->Pv i σ H->H d=some (.frz o (.dT kvs)))
 (hs:∀ i k v σ H T q,kvs[i]?=some (k,v)->H T=none->H q=some (.tup (k.map kV))->Pv i σ H->g (.ref T) σ (upd H T (.tup [.ref q,v])) fun σ2 H2=>tb { D with nx:=Pv (i+1),ct:=Pv (i+1),bk:=D.nx } σ2 H2) (hd:∀ σ H,Pv kvs.length σ H->D.nx σ H) :
 ∃ W:Nat->Nat->L2.St->Hp->Prop,(∃ m,W 0 m σ H)/\∀ i m σ H,W i m σ H ->
  ((aa9 d o kvs).stop i H/\D.nx σ H)∨((aa9 d o kvs).go i H/\∃ N:L2.St->Hp->Prop,(∀ σ' H',N σ' H'->∃ m',m'<m/\W (i+1) m' σ' H')/\∀ x H',(aa9 d o kvs).yld i H x H'->g x σ H' fun σ2 H2=>tb { D with nx:=N,ct:=N,bk:=D.nx } σ2 H2):=by
 refine⟨fun i m σ H=>m=kvs.length - i/\i<=kvs.length/\Pv i σ H,⟨kvs.length,by simp,Nat.zero_le _,h0⟩,?_⟩
 rintro i m σ H ⟨rfl,hi,p⟩
 have q:=hl i σ H hi p
 by_cases hlt:i<kvs.length
 . refine .inr ⟨⟨q,hlt⟩,Pv (i+1),fun σ' H' p'=>⟨kvs.length - (i+1),by omega,rfl,hlt,p'⟩,fun x H' y=>?_⟩
   obtain⟨X,k,v,z,hk,rfl,hX,hz,rfl⟩:=y
   exact hs i k v σ _ X z hk hX hz p
 . have e:i=kvs.length:=by omega
   subst e
   exact .inl ⟨⟨q,Nat.le_refl _⟩,hd σ H p⟩
def xk (k:Nat):Nat:=if k=2 then 3 else if k=3 then 2 else k
def xc (c:Nat):Nat:=if c=1 then 2 else if c=2 then 1 else c
def swp (x:(Nat × Nat) × Nat):(Nat × Nat) × Nat:=((xk x.1.1,x.1.2),xc x.2)
theorem Ug (k:Nat):xk (xk k)=k:=by
 unfold xk
 by_cases h2:k=2
 . subst h2;rfl
 . by_cases h3:k=3
   . subst h3;rfl
   . rw[if_neg h2,if_neg h3,if_neg h2,if_neg h3]
theorem abp {a b:Nat} (h:xk a=xk b):a=b:=by rw[<-Ug a,h,Ug]
theorem XL (l:Chs):(l.map swp).map (fun x=>x.1)=(l.map fun x=>x.1).map fun x=>(xk x.1,x.2):=by
 rw[List.map_map,List.map_map]
 rfl
theorem j6 (x:(Nat × Nat) × Nat) (l:Chs) (k n:Nat):yR (x::l) k n=if x.1=(k,n) then x.2 else yR l k n:=by
 unfold yR
 by_cases h:x.1=(k,n)
 . rw[List.find?_cons_of_pos (by simpa using h),if_pos h]
 . rw[List.find?_cons_of_neg (by simpa using h),if_neg h]
theorem KG:∀ (l:Chs) (k n:Nat),yR (l.map swp) k n=xc (yR l (xk k) n)
 | [],k,n=>rfl
 | x::l,k,n=>by
  rw[List.map_cons,j6,j6,KG l k n]
  have:(swp x).1=(k,n) ↔ x.1=(xk k,n):=by
   show (xk x.1.1,x.1.2)=(k,n) ↔ _
   constructor
   . intro h
     injection h with h1 h2
     rw[<-h1,<-h2,Ug]
   . intro h
     rw[h]
     show (xk (xk k),n)=_
     rw[Ug]
  by_cases h:x.1=(xk k,n)
  . rw[if_pos h,if_pos (this.mpr h)]
    rfl
  . rw[if_neg h,if_neg (fun z=>h (this.mp z))]
theorem wn {α β:Type}{f:α->β}:∀ {l:List α},l.Nodup->(∀ x,x∈l->∀ y,y∈l->f x=f y->x=y)->(l.map f).Nodup
 | [],_,_=>List.nodup_nil
 | a::l,h,hf=>by
  obtain⟨h1,h2⟩:=List.nodup_cons.mp h
  rw[List.map_cons,List.nodup_cons]
  refine⟨fun z=>?_,wn h2 fun x hx y hy=>hf x (List.mem_cons_of_mem _ hx) y (List.mem_cons_of_mem _ hy)⟩
  obtain⟨b,hb,e⟩:=List.mem_map.mp z
  rw[hf b (List.mem_cons_of_mem _ hb) a (List.mem_cons_self ..) e] at hb
  exact h1 hb
theorem XM {ch:Chs}{s:Vanbki.State} (h:Xy ch s):ch.length<=500:=by
 have h1:=List.Nodup.length_le_of_subset (l₁:=(ch.map fun x=>x.1).map fun x=>x.1 * 100+x.2) (l₂:=List.range 500) ?_ ?_
 . simpa using h1
 . refine wn h.nd ?_
   intro x hx y hy e
   obtain⟨a,ha,rfl⟩:=List.mem_map.mp hx
   obtain⟨b,hb,rfl⟩:=List.mem_map.mp hy
   have:=h.rg a ha
   have:=h.rg b hb
   have e:a.1.1 * 100+a.1.2=b.1.1 * 100+b.1.2:=e
   exact Prod.ext (by omega) (by omega)
 . intro z hz
   obtain⟨x,hx,rfl⟩:=List.mem_map.mp hz
   obtain⟨a,ha,rfl⟩:=List.mem_map.mp hx
   have:=h.rg a ha
   exact List.mem_range.mpr (by show a.1.1 * 100+a.1.2<500;omega)
theorem abq {ch:Chs}{s:Vanbki.State} (h:Xy ch s):Xy (ch.map swp) (Vanbki.swapped s) where
 nd:=by
  rw[XL]
  refine wn h.nd ?_
  intro x _ y _ e
  injection e with e1 e2
  exact Prod.ext (abp e1) e2
 rg:=fun x hx=>by
  obtain⟨y,hy,rfl⟩:=List.mem_map.mp hx
  obtain⟨h1,h2,h3⟩:=h.rg y hy
  refine⟨?_,h2,?_⟩
  . show xk y.1.1<=4
    unfold xk
    split
    . omega
    . split <;> omega
  . show xc y.2<=3
    unfold xc
    split
    . omega
    . split <;> omega
 eq:=fun k n=>by
  rw[KG,h.eq]
  show xc (yR s.choices (xk k) n)=yR (s.choices.map swp) k n
  rw[KG]
def vX:Sp:=fun vs H Q _=>∃ d ch,vs=[.ref d]/\H d=some (.dT (chV ch))/\(ch.map fun x=>x.1).Nodup/\(∀ x,x∈ch->x.1.1<=4/\x.1.2<=99/\x.2<=3)/\ch.length<=500/\∀ H' p,Same H H'->H p=none->H' p=some (.dT (chV (ch.map swp)))->Q (.ref p) H'
def Z0 (C:Ad):Sp:=fun vs H Q _=>∃ G B ch s,vs=[.ref (Bk.b B)]/\BooksAt C H G B ch s/\PostDone C H G B (Vanbki.swapped s,⟨0,[]⟩) Q
theorem Uh (ch:Chs):(chV ch).length=ch.length:=by simp[chV]
theorem acR {ch:Chs}{i:Nat}{kk:List Key}{v:V} (h:(chV ch)[i]?=some (kk,v)):∃ x,ch[i]?=some x/\kk=[Sum.inl (x.1.1:Int),Sum.inl (x.1.2:Int)]/\v=.int (x.2:Nat):=by
 unfold chV at h
 rw[List.getElem?_map] at h
 cases e:ch[i]? with
 | none=>rw[e] at h;cases h
 | some x =>
  rw[e] at h
  have h:=Option.some.inj h
  injection h with h1 h2
  exact⟨x,rfl,h1.symm,h2.symm⟩
theorem abr {ch:Chs}{k n c:Nat} (h:¬(k,n)∈ch.map fun x=>x.1):yk (chV ch) [Sum.inl (k:Int),Sum.inl (n:Int)] (.int (c:Nat))=chV (ch++[((k,n),c)]):=by
 rw[XC]
 . unfold chV
   rw[List.map_append]
   rfl
 . intro z
   unfold chV at z
   rw[List.map_map] at z
   obtain⟨x,hx,e⟩:=List.mem_map.mp z
   have e:([Sum.inl (x.1.1:Int),Sum.inl (x.1.2:Int)]:List Key)=[Sum.inl (k:Int),Sum.inl (n:Int)]:=e
   injection e with e1 e2
   injection e2 with e2 e3
   injection e1 with e1
   injection e2 with e2
   exact h (List.mem_map.mpr ⟨x,hx,Prod.ext (by omega) (by omega)⟩)
theorem abt {k:Nat} (h:k<=4):atI (([0,1,3,2,4]:List Int).map V.int) ((k:Nat):Int)=some (.int (xk k:Nat)):=by
 refine q5 ?_
 match k,h with
 | 0,_=>rfl
 | 1,_=>rfl
 | 2,_=>rfl
 | 3,_=>rfl
 | 4,_=>rfl
 | k+5,h=>omega
theorem WI {k:Nat} (h:k<=3):atI (([0,2,1,3]:List Int).map V.int) ((k:Nat):Int)=some (.int (xc k:Nat)):=by
 refine q5 ?_
 match k,h with
 | 0,_=>rfl
 | 1,_=>rfl
 | 2,_=>rfl
 | 3,_=>rfl
 | k+4,h=>omega
section
variable {P:Program}{w:World}{K:PySem.W.Frag}{mg:Str->Option Value}{base:Heap}{C:Ad}{f:Addr}{fd:FuncData}
theorem ul (F:Fun K "exchanged_choices" "exchanged_choices" jd f fd) (T:Txt K mg C):z_ P w K mg base CX0 1 f fd ["choices"] (vX):=by
 refine F.ok sc_exchanged_choices (fun vs H Q E h=>?_) (fun cdv A outer s H vs Q E hr h=>?_)
 . obtain⟨d,ch,rfl,_⟩:=h
   rfl
 . obtain⟨d,ch,rfl,hd,hnd,hrg,hz,k⟩:=h
   have hu:=jR hr
   refine⟨_,(ze (zu (i:=1) sc_exchanged_choices.nd rfl (Or.inl rfl) u4)
    (ze (abR (kQ PassesOwn.never rfl (US (pv 0)) (Y8 rfl (kf (zS (i:=2) sc_exchanged_choices.nd rfl (Or.inl rfl)) (kf (zS (i:=3) sc_exchanged_choices.nd rfl (Or.inl rfl)) ZJ))) (zj (ZQ hu (pv 1) (yN (za (qy kR (ZI (v:=.ref C.aEXCHANGED_KINDS) rfl T.g_EXCHANGED_KINDS rfl) (qy kR (pv 2) zH (fun _ _=>rfl)) (fun _ _=>rfl)) (za (qy kR (pv 2) zH (fun _ _=>rfl)) zi))) (qy kR (ZI (v:=.ref C.aEXCHANGED_CHOICES) rfl T.g_EXCHANGED_CHOICES rfl) (pv 3) (fun _ _=>rfl)) rfl))))
    (zj (zo (pv 1))))),?_⟩
   intro e he
   have de:d≠e:=zg hd he
   refine⟨d,.dT (chV ch),(by rw[zh de];exact hd),trivial,fun od=>?_⟩
   have s0:∀ b o,H b=some o->b≠d->(upd (upd H e (.dT [])) d (.frz od (.dT (chV ch)))) b=some o:=fun b o eb hb=>by
    rw[zh hb,zh (zg eb he)]
    exact eb
   refine⟨_,rfl,d,od,chV ch,rfl,zf,aae (fun i σ H'=>(∃ v2 v3,σ=[some (.ref d),some (.ref e),v2,v3])/\H' d=some (.frz od (.dT (chV ch)))/\(∀ b o,H b=some o->b≠d->H' b=some o)/\H' e=some (.dT (chV ((ch.take i).map swp)))) ⟨⟨none,none,rfl⟩,zf,s0,(by rw[zh (Ne.symm de),zf];rfl)⟩ (fun i σ H' _ h=>h.2.1) ?_ ?_⟩
   . rintro i kk v σ H' X q hi hX hq ⟨⟨v2,v3,rfl⟩,h1,h2,h3⟩
     obtain⟨x,hx,rfl,rfl⟩:=acR hi
     obtain⟨g1,g2,g3⟩:=hrg x (List.mem_of_getElem? hx)
     have hix:i<ch.length:=(List.getElem?_eq_some_iff.mp hx).1
     have Xq:q≠X:=zg hq hX
     have Xe:e≠X:=zg h3 hX
     have Xd:d≠X:=zg h1 hX
     have hq':(upd H' X (.tup [.ref q,.int (x.2:Nat)])) q=some (.tup [.int (x.1.1:Nat),.int (x.1.2:Nat)]):=by rw[zh Xq];exact hq
     refine⟨X,_,rfl,SqT.of zf,rfl,_,_,rfl,_,_,rfl,rfl,?_⟩
     refine⟨_,rfl,C.aEXCHANGED_CHOICES,_,_,_,rfl,rfl,T.s_EXCHANGED_CHOICES _,WI g3,_,rfl,?_⟩
     refine⟨_,rfl,q,_,_,_,rfl,rfl,SqT.of hq',q5 (j:=0) rfl,C.aEXCHANGED_KINDS,_,_,_,rfl,rfl,T.s_EXCHANGED_KINDS _,abt g1,_,rfl,q,_,_,_,rfl,rfl,SqT.of hq',q5 (j:=1) rfl,(by show 2<=sizeLine;decide),fun t ht=>?_⟩
     have te:e≠t:=zg (by rw[zh Xe];exact h3) ht
     have td:d≠t:=zg (by rw[zh Xd];exact h1) ht
     refine⟨e,_,rfl,DPut.t (k:=[Sum.inl (xk x.1.1:Int),Sum.inl (x.1.2:Int)]) (by rw[zh te,zh Xe];exact h3) zf (by rw[Uh,List.length_map,List.length_take];exact qU (by omega)),⟨_,_,rfl⟩,?_,fun b o eb hb=>?_,?_⟩
     . rw[zh de,zh td,zh Xd]
       exact h1
     . have hb2:=h2 b o eb hb
       rw[zh (zg eb he),zh (zg (by rw[zh (zg hb2 hX)];exact hb2) ht),zh (zg hb2 hX)]
       exact hb2
     . rw[zf,abr ?_,zP hx,List.map_append]
       . rfl
       . rw[XL]
         intro z
         obtain⟨y,hy,ey⟩:=List.mem_map.mp z
         injection ey with e1 e2
         have hyx:y=x.1:=Prod.ext (abp e1) e2
         rw[hyx] at hy
         have nd:(((ch.take (i+1)).map fun x=>x.1)).Nodup:=((List.take_sublist (i+1) ch).map _).nodup hnd
         rw[zP hx,List.map_append,List.nodup_append] at nd
         exact nd.2.2 _ hy _ (List.mem_singleton.mpr rfl) rfl
   . rintro σ H' ⟨⟨v2,v3,rfl⟩,h1,h2,h3⟩
     refine⟨h1,_,rfl,k _ e (fun b o eb=>?_) he ?_⟩
     . by_cases hb:b=d
       . rw[hb,zf,<-eb,hb,hd]
       . rw[zh hb]
         exact h2 b o eb hb
     . rw[zh (Ne.symm de),h3]
       congr 4
       rw[show (chV ch).length=ch.length by simp[chV],List.take_length]
end
end Tb
end
section
namespace Tb
open PySem PySem.Spec PyProof.Rows L2
open Vanbki (nats ofNat markNat numbers)
def Z1 (C:Ad):Sp:=fun vs H Q _=>∃ p dx,vs=[.ref p]/\H p=some (.ins C.cBooks dx [])/\∀ H' G B,Bk.b B=p->BooksAt C H' G B [] Vanbki.start->(∀ a o,H a=some o->a≠p->H' a=some o)->(∀ a,a∈B.muts->a=p∨H a=none)->(∀ a o,G a=some o->H a=none)->Q .non H'
section
variable {P:Program}{w:World}{K:PySem.W.Frag}{mg:Str->Option Value}{base:Heap}{C:Ad}{f:Addr}{fd:FuncData}
theorem Va {f1:Addr}{fd1:FuncData} (F:Fun K "swap_sides" "swap_sides" yr f fd) (T:Txt K mg C) (D_exchanged_choices:Def P w K mg base "exchanged_choices" 1 ["choices"] (vX) f1 fd1):z_ P w K mg base CX0 2 f fd ["books"] (Z0 C):=by
 refine F.ok V1 (fun vs H Q E h=>?_) (fun cdv A outer s H vs Q E hr h=>?_)
 . obtain⟨G,B,ch,s,rfl,_⟩:=h
   rfl
 . obtain⟨G,B,ch,s,rfl,hb,k⟩:=h
   have hu:=jR hr
   refine⟨_,(ze (qK (pv 0) (ZS (kS (pgi T.g_LEFT) (qk hu (zn (pv 0) rfl) (pgi T.g_RIGHT) (fun _ _=>rfl)) (kS (pgi T.g_RIGHT) (qk hu (zn (pv 0) rfl) (pgi T.g_LEFT) (fun _ _=>rfl)) ZR)) rfl rfl (by simp) (by decide)) rfl)
    (ze (qK (pv 0) (zk D_exchanged_choices (hr.mono (by decide)) (za (zn (pv 0) rfl) zi)) rfl)
    (zj (zo zH)))),?_⟩
   obtain⟨dxb,eb⟩:=hb.bk
   obtain⟨dx1,e1⟩:=hb.s1
   obtain⟨dx2,e2⟩:=hb.s2
   obtain⟨as1,f1,c1⟩:=hb.c1
   obtain⟨as2,f2,c2⟩:=hb.c2
   have S:=hb.ok
   intro pd npd
   have s1:=Same.new (o:=.dK []) npd
   have pdb:B.b≠pd:=zg eb npd
   have d1:∀ {H1:Hp},H1 B.ds=some (.dK [(Sum.inl 1,.ref B.a1),(Sum.inl 2,.ref B.a2)])->DGet H1 B.ds (.int 1) (some (.ref B.a1)):=fun h=>Kr (.ref B.a1) (.ref B.a2)▸DGet.k (k:=Sum.inl 1) h
   have d2:∀ {H1:Hp},H1 B.ds=some (.dK [(Sum.inl 1,.ref B.a1),(Sum.inl 2,.ref B.a2)])->DGet H1 B.ds (.int 2) (some (.ref B.a2)):=fun h=>Ks (.ref B.a1) (.ref B.a2)▸DGet.k (k:=Sum.inl 2) h
   refine⟨_,rfl,B.b,C.cBooks,dxb,_,_,rfl,s1 _ _ eb,T.c_Books,T.n_Books_sides,zJ _ _ _,B.ds,_,rfl,d2 (s1 _ _ hb.sd),?_⟩
   refine⟨_,rfl,B.b,C.cBooks,dxb,_,_,rfl,s1 _ _ eb,T.c_Books,T.n_Books_sides,zJ _ _ _,B.ds,_,rfl,d1 (s1 _ _ hb.sd),?_⟩
   refine⟨zf,[(Sum.inl 1,.ref B.a2),(Sum.inl 2,.ref B.a1)],rfl,(by show 2<=15;decide),?_⟩
   refine⟨_,rfl,B.b,C.cBooks,dxb,_,rfl,(by rw[zh pdb];exact s1 _ _ eb),T.c_Books,T.n_Books_sides,(by show 3<1000;decide),?_⟩
   generalize hH2:upd (upd (upd H pd (.dK [])) pd (.dK (u5 [] [(Sum.inl 1,.ref B.a2),(Sum.inl 2,.ref B.a1)]))) B.b (.ins C.cBooks dxb (qF B.lb pd B.dc))=H2
   have hH2':upd (upd (upd H pd (.dK [])) pd (.dK (u5 [] [(Sum.inl 1,.ref B.a2),(Sum.inl 2,.ref B.a1)]))) B.b (.ins C.cBooks dxb (xK "sides" (.ref pd) (qF B.lb B.ds B.dc)))=H2:=hH2
   rw[hH2']
   have keep2:∀ y o,H y=some o->y≠B.b->H2 y=some o:=fun y o e hy=>by
    rw[<-hH2,zh hy,zh (zg e npd),zh (zg e npd)]
    exact e
   have eb2:H2 B.b=some (.ins C.cBooks dxb (qF B.lb pd B.dc)):=by rw[<-hH2,zf]
   have ed2:H2 pd=some (.dK [(Sum.inl 1,.ref B.a2),(Sum.inl 2,.ref B.a1)]):=by rw[<-hH2,zh (Ne.symm pdb),zf];rfl
   have ne:=hb.ne
   have fr:=hb.fr
   have nn:=hb.notNew (a:=pd) npd
   simp only[Bk.muts,List.nodup_cons,List.mem_cons,List.not_mem_nil,or_false,not_or] at ne nn
   obtain⟨⟨n1,n2,n3,n4,n5,n6⟩,⟨n7,n8,n9,n10,n11⟩,⟨n12,n13,n14,n15⟩,⟨n16,n17,n18⟩,⟨n19,n20⟩,n21,_⟩:=ne
   obtain⟨m1,m2,m3,m4,m5,m6,m7⟩:=nn
   refine⟨_,rfl,B.b,C.cBooks,dxb,_,_,rfl,eb2,T.c_Books,T.n_Books_choices,xE _ _ _,B.dc,ch,rfl,keep2 _ _ hb.dc (Ne.symm n6),hb.co.nd,hb.co.rg,XM hb.co,fun H3 dc s3 ndc e3=>?_⟩
   refine⟨_,rfl,B.b,C.cBooks,dxb,_,rfl,s3 _ _ eb2,T.c_Books,T.n_Books_choices,(by show 3<1000;decide),?_⟩
   have dcb:dc≠B.b:=fun z=>by rw[z,eb2] at ndc;cases ndc
   have dcp:pd≠dc:=zg ed2 ndc
   have ndc0:H dc=none:=by
    cases e:H dc with
    | none=>rfl
    | some o=>rw[keep2 _ _ e dcb] at ndc;cases ndc
   have keep3:∀ y o,H y=some o->y≠B.b->(upd H3 B.b (.ins C.cBooks dxb (qF B.lb pd dc))) y=some o:=fun y o e hy=>by
    rw[zh hy]
    exact s3 _ _ (keep2 y o e hy)
   have nn2:=hb.notNew (a:=dc) ndc0
   simp only[Bk.muts,List.mem_cons,List.not_mem_nil,or_false,not_or] at nn2
   obtain⟨o1,o2,o3,o4,o5,o6,o7⟩:=nn2
   refine k (upd H3 B.b (.ins C.cBooks dxb (qF B.lb pd dc))) G ⟨B.b,B.lb,pd,B.a2,B.l2,B.a1,B.l1,dc⟩ (ch.map swp) ⟨⟨dxb,zf⟩,?_,⟨dx2,keep3 _ _ e2 (Ne.symm n4)⟩,⟨dx1,keep3 _ _ e1 (Ne.symm n2)⟩,hb.c0,⟨as2,keep3 _ _ f2 (Ne.symm n5),c2⟩,⟨as1,keep3 _ _ f1 (Ne.symm n3),c1⟩,?_,abq hb.co,?_,?_,?_,xH S .swap⟩ ⟨rfl,?_,Same.refl _,?_,fun a o e=>.inl e⟩
   . rw[zh (Ne.symm pdb)]
     exact s3 _ _ ed2
   . rw[zh dcb]
     exact e3
   . intro y o e
     exact keep3 y o (hb.gh _ _ e) (fun z=>by rw[z,fr B.b (by simp[Bk.muts])] at e;cases e)
   . intro y hy
     simp only[Bk.muts,List.mem_cons,List.not_mem_nil,or_false] at hy
     rcases hy with rfl | rfl | rfl | rfl | rfl | rfl | rfl
     . exact fr _ (by simp[Bk.muts])
     . exact hb.gh.free npd
     . exact fr _ (by simp[Bk.muts])
     . exact fr _ (by simp[Bk.muts])
     . exact fr _ (by simp[Bk.muts])
     . exact fr _ (by simp[Bk.muts])
     . exact hb.gh.free ndc0
   . simp only[Bk.muts,List.nodup_cons,List.mem_cons,List.not_mem_nil,or_false,not_or,not_false_eq_true,and_true,List.nodup_nil]
     exact⟨⟨pdb,n4,n5,n2,n3,Ne.symm dcb⟩,⟨m5,m6,m3,m4,dcp⟩,⟨n19,Ne.symm n13,Ne.symm n16,Ne.symm o5⟩,⟨Ne.symm n14,Ne.symm n17,Ne.symm o6⟩,⟨n12,Ne.symm o3⟩,Ne.symm o4⟩
   . intro y o e m
     exact keep3 y o e (fun z=>m (by rw[z];simp[Bk.muts]))
   . intro y hy
     simp only[Bk.muts,List.mem_cons,List.not_mem_nil,or_false] at hy ⊢
     rcases hy with rfl | rfl | rfl | rfl | rfl | rfl | rfl
     . exact .inl (.inl rfl)
     . exact .inr npd
     . exact .inl (by simp)
     . exact .inl (by simp)
     . exact .inl (by simp)
     . exact .inl (by simp)
     . exact .inr ndc0
theorem Vb {f1:Addr}{fd1:FuncData} (F:Fun K "__init__" "Books.__init__" yl f fd) (T:Txt K mg C) (D_Side:Cdf P w K mg base "Side" 1 ["self","cells","next_number"] (jw C) C.cSide f1 fd1):z_ P w K mg base CX0 3 f fd ["self"] (Z1 C):=by
 refine F.ok K_ (fun vs H Q E h=>?_) (fun cdv A outer s H vs Q E hr h=>?_)
 . obtain⟨p,dx,rfl,_⟩:=h
   rfl
 . obtain⟨p,dx,rfl,hp,k⟩:=h
   refine⟨_,(ze (qK (pv 0) (qb zi) rfl)
    (ze (qK (pv 0) (ZS (kS (pgi T.g_LEFT) (qw D_Side (hr.mono (by decide)) (za (qb zi) (za zH zi))) (kS (pgi T.g_RIGHT) (qw D_Side (hr.mono (by decide)) (za (qb zi) (za zH zi))) ZR)) rfl rfl (by simp) (by decide)) rfl)
    (zj (qK (pv 0) u4 rfl)))),?_⟩
   refine⟨Nat.zero_le _,fun lb nlb=>?_⟩
   have pl:p≠lb:=zg hp nlb
   refine⟨_,rfl,p,C.cBooks,dx,_,rfl,(by rw[zh pl];exact hp),T.c_Books,T.n_Books_base_cells,(by show 0<1000;decide),?_⟩
   generalize hH2:upd (upd H lb (.lst [])) p (.ins C.cBooks dx [("base_cells",.ref lb)])=H2
   have hH2':upd (upd H lb (.lst [])) p (.ins C.cBooks dx (xK "base_cells" (.ref lb) []))=H2:=hH2
   rw[hH2']
   have keep2:∀ y o,H y=some o->y≠p->H2 y=some o:=fun y o e hy=>by
    rw[<-hH2,zh hy,zh (zg e nlb)]
    exact e
   have ep2:H2 p=some (.ins C.cBooks dx [("base_cells",.ref lb)]):=by rw[<-hH2,zf]
   have el2:H2 lb=some (.lst []):=by rw[<-hH2,zh (Ne.symm pl),zf]
   intro pd npd
   have s3:=Same.new (o:=.dK []) npd
   have pdp:pd≠p:=Ne.symm (zg ep2 npd)
   have pdl:lb≠pd:=zg el2 npd
   refine⟨Nat.zero_le _,fun m1 nm1=>?_⟩
   have s4:=s3.trans (Same.new (o:=.lst []) nm1)
   intro x1 dx1 nx1 nd1 ne1
   refine⟨x1,dx1,m1,[],_,rfl,zf,(by rw[zh (zg zf nx1),zh (zg zf nd1)];exact zf),fun q1 hq1=>⟨rfl,?_⟩⟩
   obtain⟨nq1,qx1,s5,eq5⟩:=yW (C:=C) (xs:=[]) (k:=1) nx1 nd1 ne1 hq1
   generalize hH5:upd (upd (upd (upd (upd (upd H2 pd (.dK [])) m1 (.lst [])) dx1 (.own x1)) x1 (.ins C.cSide dx1 [])) q1 (.lst [])) x1 (.ins C.cSide dx1 (j3 q1 1))=H5 at s5 eq5 ⊢
   have ex5:H5 x1=some (.ins C.cSide dx1 (j3 q1 1)):=by rw[<-hH5,zf]
   have s45:=s4.trans s5
   refine⟨Nat.zero_le _,fun m2 nm2=>?_⟩
   have s6:=s45.trans (Same.new (o:=.lst []) nm2)
   intro x2 dx2 nx2 nd2 ne2
   refine⟨x2,dx2,m2,[],_,rfl,zf,(by rw[zh (zg zf nx2),zh (zg zf nd2)];exact zf),fun q2 hq2=>⟨rfl,?_⟩⟩
   obtain⟨nq2,qx2,s7,eq7⟩:=yW (C:=C) (xs:=[]) (k:=1) nx2 nd2 ne2 hq2
   generalize hH7:upd (upd (upd (upd (upd H5 m2 (.lst [])) dx2 (.own x2)) x2 (.ins C.cSide dx2 [])) q2 (.lst [])) x2 (.ins C.cSide dx2 (j3 q2 1))=H7 at s7 eq7 ⊢
   have ex7:H7 x2=some (.ins C.cSide dx2 (j3 q2 1)):=by rw[<-hH7,zf]
   have s27:=s6.trans s7
   have s57:=(Same.new (o:=.lst []) nm2).trans s7
   have sP:Same (upd H2 pd (.dK [])) H7:=((Same.new nm1).trans s5).trans s57
   have ep7:=s27 _ _ ep2
   refine⟨sP _ _ zf,[(Sum.inl 1,.ref x1),(Sum.inl 2,.ref x2)],rfl,(by show 2<=15;decide),?_⟩
   refine⟨_,rfl,p,C.cBooks,dx,_,rfl,(by rw[zh (Ne.symm pdp)];exact ep7),T.c_Books,T.n_Books_sides,(by show 1<1000;decide),?_⟩
   intro dc ndc
   have ndc:(upd (upd H7 pd (.dK [(Sum.inl 1,.ref x1),(Sum.inl 2,.ref x2)])) p (.ins C.cBooks dx [("base_cells",.ref lb),("sides",.ref pd)])) dc=none:=ndc
   have dcp:dc≠p:=fun z=>by rw[z,zf] at ndc;cases ndc
   rw[zh dcp] at ndc
   have dcd:dc≠pd:=fun z=>by rw[z,zf] at ndc;cases ndc
   rw[zh dcd] at ndc
   refine⟨_,rfl,p,C.cBooks,dx,_,rfl,(by rw[zh (Ne.symm dcp),zf]),T.c_Books,T.n_Books_choices,(by show 2<1000;decide),?_⟩
   show Q .non (upd (upd (upd (upd H7 pd (.dK [(Sum.inl 1,.ref x1),(Sum.inl 2,.ref x2)])) p (.ins C.cBooks dx [("base_cells",.ref lb),("sides",.ref pd)])) dc (.dT [])) p (.ins C.cBooks dx (qF lb pd dc)))
   generalize hH':upd (upd (upd (upd H7 pd (.dK [(Sum.inl 1,.ref x1),(Sum.inl 2,.ref x2)])) p (.ins C.cBooks dx [("base_cells",.ref lb),("sides",.ref pd)])) dc (.dT [])) p (.ins C.cBooks dx (qF lb pd dc))=H'
   have val:∀ {y:Addr}{o:HO},H7 y=some o->y≠p->y≠pd->H' y=some o:=fun {y o} e h1 h2=>by
    rw[<-hH',zh h1,zh (zg e ndc),zh h1,zh h2]
    exact e
   have free:∀ {y:Addr},(upd H2 pd (.dK [])) y=none->y≠p/\y≠pd/\y≠lb/\H y=none:=fun {y} e=>by
    have h1:y≠pd:=fun z=>by rw[z,zf] at e;cases e
    rw[zh h1] at e
    have h2:y≠p:=fun z=>by rw[z,ep2] at e;cases e
    have h3:y≠lb:=fun z=>by rw[z,el2] at e;cases e
    rw[<-hH2,zh h2,zh h3] at e
    exact⟨h2,h1,h3,e⟩
   have a1:=free ((Same.new nm1).free nx1)
   have a2:=free ((Same.new nm1).free nq1)
   have a3:=free (((Same.new nm1).trans s5).free ((Same.new nm2).free nx2))
   have a4:=free (((Same.new nm1).trans s5).free ((Same.new nm2).free nq2))
   have a5:=free (sP.free ndc)
   have np0:H pd=none:=by
    cases e:H pd with
    | none=>rfl
    | some o=>rw[keep2 _ _ e pdp] at npd;cases npd
   have ex1:=val (s57 _ _ ex5) a1.1 a1.2.1
   have er1:=val (s57 _ _ eq5) a2.1 a2.2.1
   have ex2:=val ex7 a3.1 a3.2.1
   have er2:=val eq7 a4.1 a4.2.1
   have edc:H' dc=some (.dT []):=by rw[<-hH',zh dcp,zf]
   have epd:H' pd=some (.dK [(Sum.inl 1,.ref x1),(Sum.inl 2,.ref x2)]):=by rw[<-hH',zh pdp,zh (Ne.symm dcd),zh pdp,zf]
   have elb:H' lb=some (.lst []):=val (s27 _ _ el2) (Ne.symm pl) pdl
   have x12:x1≠x2:=zg (Same.new nm2 _ _ ex5) nx2
   have q12:q1≠q2:=zg (Same.new nm2 _ _ eq5) nq2
   have hh:∀ {y z:Addr}{o u:HO},H' y=some o->H' z=some u->o≠u->y≠z:=fun h1 h2 h3 e=>by
    rw[e,h2] at h1
    exact h3 (Option.some.inj h1).symm
   refine k H' (fun a=>if a=lb then some (.lst []) else none) ⟨p,lb,pd,x1,q1,x2,q2,dc⟩ rfl ⟨⟨dx,by rw[<-hH',zf]⟩,epd,⟨dx1,ex1⟩,⟨dx2,ex2⟩,⟨[],if_pos rfl,.nil⟩,⟨[],er1,.nil⟩,⟨[],er2,.nil⟩,edc,KD rfl,?_,?_,?_,W0⟩ ?_ ?_ ?_
   . intro y o e
     have e:(if y=lb then some (HO.lst []) else none)=some o:=e
     by_cases h:y=lb
     . rw[if_pos h] at e
       rw[h,elb]
       exact e
     . rw[if_neg h] at e
       cases e
   . intro y hy
     simp only[Bk.muts,List.mem_cons,List.not_mem_nil,or_false] at hy
     refine if_neg ?_
     rcases hy with rfl | rfl | rfl | rfl | rfl | rfl | rfl
     . exact pl
     . exact Ne.symm pdl
     . exact a1.2.2.1
     . exact a2.2.2.1
     . exact a3.2.2.1
     . exact a4.2.2.1
     . exact a5.2.2.1
   . simp only[Bk.muts,List.nodup_cons,List.mem_cons,List.not_mem_nil,or_false,not_or,not_false_eq_true,and_true,List.nodup_nil]
     refine⟨⟨Ne.symm pdp,Ne.symm a1.1,Ne.symm a2.1,Ne.symm a3.1,Ne.symm a4.1,Ne.symm dcp⟩,⟨hh epd ex1 (by simp),hh epd er1 (by simp),hh epd ex2 (by simp),hh epd er2 (by simp),hh epd edc (by simp)⟩,⟨hh ex1 er1 (by simp),x12,hh ex1 er2 (by simp),hh ex1 edc (by simp)⟩,⟨hh er1 ex2 (by simp),q12,hh er1 edc (by simp)⟩,⟨hh ex2 er2 (by simp),hh ex2 edc (by simp)⟩,hh er2 edc (by simp)⟩
   . intro y o e hy
     exact val (s27 _ _ (keep2 y o e hy)) hy (fun z=>by rw[z,np0] at e;cases e)
   . intro y hy
     simp only[Bk.muts,List.mem_cons,List.not_mem_nil,or_false] at hy
     rcases hy with rfl | rfl | rfl | rfl | rfl | rfl | rfl
     . exact .inl rfl
     . exact .inr np0
     . exact .inr a1.2.2.2
     . exact .inr a2.2.2.2
     . exact .inr a3.2.2.2
     . exact .inr a4.2.2.2
     . exact .inr a5.2.2.2
   . intro y o e
     have e:(if y=lb then some (HO.lst []) else none)=some o:=e
     by_cases h:y=lb
     . rw[h]
       exact nlb
     . rw[if_neg h] at e
       cases e
end
end Tb
end
section
namespace Tb
open PySem PySem.Spec PyProof.Rows L2
open Vanbki (nats ofNat markNat numbers)
def Jd (a b:Int):PyData:=.tuple (([a,b]:List Int).map PyData.int)
theorem Je (a b:Int):SeqAt.shaped (Jd a b)=true:=by rfl
theorem abu (a b c d:Int):PyData.eqv (Jd a b) (Jd c d)=(a == c && b == d):=by
 show PyData.eqvAll (([a,b]:List Int).map PyData.int) (([c,d]:List Int).map PyData.int)=_
 rw[wQ]
 by_cases h1:a=c <;> by_cases h2:b=d <;> simp[h1,h2]
def Jf (ch:Chs) (k n c:Nat):Chs:=if (k,n)∈ch.map (fun x=>x.1) then ch.map (fun x=>if x.1=(k,n) then (x.1,c) else x) else ch++[((k,n),c)]
theorem ab7 {ch:Chs}{k n c:Nat} (h:(k,n)∈ch.map fun x=>x.1):yk (chV ch) [Sum.inl (k:Int),Sum.inl (n:Int)] (.int (c:Nat))=chV (ch.map fun x=>if x.1=(k,n) then (x.1,c) else x):=by
 have key:∀ x:(Nat × Nat) × Nat,([Sum.inl (x.1.1:Int),Sum.inl (x.1.2:Int)]:List Key)=[Sum.inl (k:Int),Sum.inl (n:Int)] ↔ x.1=(k,n):=fun x=>by
  constructor
  . intro e
    injection e with e1 e2
    injection e2 with e2 e3
    injection e1 with e1
    injection e2 with e2
    exact Prod.ext (by omega) (by omega)
  . intro e
    rw[e]
 unfold yk
 rw[if_pos ?_]
 . unfold chV
   rw[List.map_map,List.map_map]
   refine List.map_congr_left fun x hx=>?_
   simp only[Function.comp]
   by_cases e:x.1=(k,n)
   . rw[if_pos e,if_pos ((key x).mpr e)]
   . rw[if_neg e,if_neg (fun z=>e ((key x).mp z))]
 . obtain⟨x,hx,e⟩:=List.mem_map.mp h
   refine List.any_eq_true.mpr ⟨_,List.mem_map.mpr ⟨x,hx,rfl⟩,?_⟩
   exact decide_eq_true ((key x).mpr e)
theorem ab8 (ch:Chs) (k n c:Nat):yk (chV ch) [Sum.inl (k:Int),Sum.inl (n:Int)] (.int (c:Nat))=chV (Jf ch k n c):=by
 unfold Jf
 by_cases h:(k,n)∈ch.map fun x=>x.1
 . rw[if_pos h]
   exact ab7 h
 . rw[if_neg h]
   exact abr h
theorem aaf (ch:Chs) (k n c:Nat):(ch.map fun x=>if x.1=(k,n) then (x.1,c) else x).map (fun x=>x.1)=ch.map fun x=>x.1:=by
 rw[List.map_map]
 refine List.map_congr_left fun x hx=>?_
 simp only[Function.comp]
 split <;> rfl
theorem QU (k n c:Nat) (k' n':Nat):∀ ch:Chs,(k,n)∈ch.map (fun x=>x.1)->yR (ch.map fun x=>if x.1=(k,n) then (x.1,c) else x) k' n'=if (k',n')=(k,n) then c else yR ch k' n'
 | [],h=>by simp at h
 | x::l,h=>by
  rw[List.map_cons,j6,j6]
  by_cases hx:x.1=(k,n)
  . simp only[hx,if_true]
    by_cases e:(k',n')=(k,n)
    . rw[if_pos e.symm,if_pos e]
    . rw[if_neg (fun z=>e z.symm),if_neg e,if_neg (fun z=>e z.symm)]
      by_cases hl:(k,n)∈l.map fun x=>x.1
      . rw[QU k n c k' n' l hl,if_neg e]
      . have:(l.map fun x=>if x.1=(k,n) then (x.1,c) else x)=l:=by
         rw[List.map_congr_left (g:=id),List.map_id]
         intro y hy
         rw[if_neg (fun z=>hl (List.mem_map.mpr ⟨y,hy,z⟩))]
         rfl
        rw[this]
  . have hl:(k,n)∈l.map fun x=>x.1:=by
     rcases List.mem_cons.mp h with z | z
     . exact absurd z.symm hx
     . exact z
    simp only[hx,if_false]
    rw[QU k n c k' n' l hl]
    by_cases e:(k',n')=(k,n)
    . rw[if_pos e,if_neg (fun z=>hx (z.trans e)),if_pos e]
    . rw[if_neg e,if_neg e]
theorem um (l m:Chs) (k n:Nat) (h:¬(k,n)∈l.map fun x=>x.1):yR (l++m) k n=yR m k n:=by
 induction l with
 | nil=>rfl
 | cons x l ih =>
  rw[List.map_cons,List.mem_cons,not_or] at h
  rw[List.cons_append,j6,if_neg (fun z=>h.1 z.symm),ih h.2]
theorem xS {l m:Chs}{k n:Nat} (h:¬(k,n)∈m.map fun x=>x.1):yR (l++m) k n=yR l k n:=by
 induction l with
 | nil =>
  rw[List.nil_append]
  have:=um m [] k n h
  rw[List.append_nil] at this
  exact this
 | cons x l ih=>rw[List.cons_append,j6,j6,ih]
theorem abv (ch:Chs) (k n c:Nat) (k' n':Nat):yR (Jf ch k n c) k' n'=if (k',n')=(k,n) then c else yR ch k' n':=by
 unfold Jf
 by_cases h:(k,n)∈ch.map fun x=>x.1
 . rw[if_pos h]
   exact QU k n c k' n' ch h
 . rw[if_neg h]
   by_cases e:(k',n')=(k,n)
   . rw[if_pos e]
     injection e with e1 e2
     subst e1 e2
     rw[um _ _ _ _ h,j6,if_pos rfl]
   . rw[if_neg e,xS (by simpa using e)]
theorem XN (l:Chs) (k n:Nat) (k' n':Nat):yR (l.filter fun x=>x.1 != (k,n)) k' n'=if (k',n')=(k,n) then 0 else yR l k' n':=by
 induction l with
 | nil =>
  show 0=_
  split <;> rfl
 | cons x l ih =>
  by_cases hx:x.1=(k,n)
  . rw[List.filter_cons_of_neg (by simpa using hx),ih,j6]
    by_cases e:(k',n')=(k,n)
    . rw[if_pos e,if_pos e]
    . rw[if_neg e,if_neg e,if_neg (fun z=>e (z.symm.trans hx))]
  . rw[List.filter_cons_of_pos (by simpa using hx),j6,j6,ih]
    by_cases e:(k',n')=(k,n)
    . rw[if_pos e,if_neg (fun z=>hx (z.trans e)),if_pos e]
    . rw[if_neg e,if_neg e]
theorem aag (s:Vanbki.State) (k n c:Nat) (k' n':Nat):Vanbki.choiceOf (Vanbki.chooseIn s k n c) k' n'=if (k',n')=(k,n) then c else Vanbki.choiceOf s k' n':=by
 show yR ((s.choices.filter fun x=>x.1 != (k,n))++(if c=0 then [] else [((k,n),c)])) k' n'=if (k',n')=(k,n) then c else yR s.choices k' n'
 by_cases e:(k',n')=(k,n)
 . rw[if_pos e]
   injection e with e1 e2
   subst e1 e2
   rw[um]
   . by_cases h:c=0
     . rw[if_pos h,h]
       rfl
     . rw[if_neg h,j6,if_pos rfl]
   . intro z
     obtain⟨x,hx,ex⟩:=List.mem_map.mp z
     have:=(List.mem_filter.mp hx).2
     simp[ex] at this
 . rw[if_neg e,xS,XN,if_neg e]
   by_cases h:c=0
   . simp[h]
   . rw[if_neg h]
     simpa using e
theorem abw {ch:Chs}{s:Vanbki.State} (h:Xy ch s) {k n c:Nat} (hk:k<=4) (hn:n<=99) (hc:c<=3):Xy (Jf ch k n c) (Vanbki.chooseIn s k n c) where
 nd:=by
  unfold Jf
  by_cases hh:(k,n)∈ch.map fun x=>x.1
  . rw[if_pos hh,aaf]
    exact h.nd
  . rw[if_neg hh,List.map_append,List.nodup_append]
    refine⟨h.nd,by simp,fun a ha b hb e=>?_⟩
    have hb:b=(k,n):=by simpa using hb
    rw[e,hb] at ha
    exact hh ha
 rg:=fun x hx=>by
  unfold Jf at hx
  by_cases hh:(k,n)∈ch.map fun x=>x.1
  . rw[if_pos hh] at hx
    obtain⟨y,hy,rfl⟩:=List.mem_map.mp hx
    obtain⟨h1,h2,h3⟩:=h.rg y hy
    split
    . exact⟨h1,h2,hc⟩
    . exact⟨h1,h2,h3⟩
  . rw[if_neg hh] at hx
    rcases List.mem_append.mp hx with z | z
    . exact h.rg x z
    . rw[List.mem_singleton.mp z]
      exact⟨hk,hn,hc⟩
 eq:=fun k' n'=>by rw[abv,aag,h.eq]
theorem BooksAt.setCh {C:Ad}{H G H1:Hp}{B:Bk}{ch ch':Chs}{s t:Vanbki.State} (hb:BooksAt C H G B ch s) (s1:Same H H1) (e:t={ s with choices:=t.choices }) (co:Xy ch' t) (ok:qu t):BooksAt C (upd H1 B.dc (.dT (chV ch'))) G B ch' t:=by
 have ne:=hb.ne
 simp only[Bk.muts,List.nodup_cons,List.mem_cons,List.not_mem_nil,or_false,not_or] at ne
 obtain⟨⟨n1,n2,n3,n4,n5,n6⟩,⟨n7,n8,n9,n10,n11⟩,⟨n12,n13,n14,n15⟩,⟨n16,n17,n18⟩,⟨n19,n20⟩,n21,_⟩:=ne
 obtain⟨dxb,eb⟩:=hb.bk
 obtain⟨dx1,e1⟩:=hb.s1
 obtain⟨dx2,e2⟩:=hb.s2
 obtain⟨as1,f1,c1⟩:=hb.c1
 obtain⟨as2,f2,c2⟩:=hb.c2
 have kp:∀ y o,H y=some o->y≠B.dc->(upd H1 B.dc (.dT (chV ch'))) y=some o:=fun y o ey hy=>by
  rw[zh hy]
  exact s1 _ _ ey
 generalize t.choices=cs at e
 subst e
 exact⟨⟨dxb,kp _ _ eb n6⟩,kp _ _ hb.sd n11,⟨dx1,kp _ _ e1 n15⟩,⟨dx2,kp _ _ e2 n20⟩,hb.c0,⟨as1,kp _ _ f1 n18,c1⟩,⟨as2,kp _ _ f2 n21,c2⟩,zf,co,fun y o ey=>kp y o (hb.gh _ _ ey) (fun z=>by rw[z,hb.fr B.dc (by simp[Bk.muts])] at ey;cases ey),hb.fr,hb.ne,ok⟩
theorem Fr.up {H G H1 H2 G':Hp}{B B':Bk} (f:Fr H G B H1 G' B') (s:Same H1 H2):Fr H G B H2 G' B':=⟨f.b,fun a o e m=>s _ _ (f.kept a o e m),f.grow,f.newM,f.newG⟩
theorem Fr.dc {H G H1:Hp}{B:Bk}{o:HO} (s:Same H H1):Fr H G B (upd H1 B.dc o) G B:=⟨rfl,fun a u e m=>by rw[zh (fun z=>m (by rw[z];simp[Bk.muts]))];exact s _ _ e,Same.refl _,fun a h=>.inl h,fun a u e=>.inl e⟩
theorem aah {l:List (Nat × Nat)}{k n:Int}:(l.map fun x=>Jd (x.1:Int) (x.2:Int)).any (fun e=>PyData.eqv e (Jd k n))=l.any fun x=>ofNat x.1 == k && ofNat x.2 == n:=by
 rw[List.any_map]
 congr 1
 funext x
 exact abu _ _ _ _
def VQ (C:Ad):Sp:=fun vs H Q _=>∃ G B ch s k n c,vs=[.ref (Bk.b B),.int k,.int n,.int c]/\BooksAt C H G B ch s/\PostDone C H G B (Vanbki.doChoose s k n c) Q
section
variable {P:Program}{w:World}{K:PySem.W.Frag}{mg:Str->Option Value}{base:Heap}{C:Ad}{f:Addr}{fd:FuncData}
theorem XO {H:Hp}{qs:List Addr}{l:List (Nat × Nat)} (h:Paired (vx H) qs l):uS K H (qs.map V.ref) (l.map fun x=>Jd (x.1:Int) (x.2:Int)):=by
 induction h with
 | nil=>exact .nil
 | cons r t ih=>exact .cons (.tup (SqT.of r) (.cons (.int _) (.cons (.int _) .nil))) ih
theorem aai {f1:Addr}{fd1:FuncData}{f2:Addr}{fd2:FuncData} (F:Fun K "choose" "choose" ZW f fd) (T:Txt K mg C) (D_count_without_choice:Def P w K mg base "count_without_choice" 7 ["books"] (jj C) f1 fd1) (D_conflicts_of:Def P w K mg base "conflicts_of" 6 ["books"] (kt C) f2 fd2):z_ P w K mg base CX0 8 f fd ["books","kind","number","choice"] (VQ C):=by
 refine F.ok UV (fun vs H Q E h=>?_) (fun cdv A outer s H vs Q E hr h=>?_)
 . obtain⟨G,B,ch,s,kd,n,c,rfl,_⟩:=h
   rfl
 . obtain⟨G,B,ch,s,kd,n,c,rfl,hb,k⟩:=h
   have hu:=jR hr
   refine⟨_,(ze (zI (zz (UR hr.units1) (yN (za (pv 1) (za (pv 2) zi))) (zk D_conflicts_of (hr.mono (by decide)) (za (pv 0) zi)) rfl) (zj (zo (pgi T.g_NO_SUCH_CONFLICT))) zw)
    (ze (zI (aaC (zz K8 (pv 3) (pgi T.g_NO_CHOICE) (zF _)) (Wf (zz J1 (pv 3) (pgi T.g_GREATEST_CHOICE) (zF _)))).pt (zj (zo (pgi T.g_CHOICE_OUTSIDE))) zw)
    (ze (ZQ hu (zn (pv 0) rfl) (yN (za (pv 1) (za (pv 2) zi))) (pv 3) rfl)
    (zj (zo (zk D_count_without_choice (hr.mono (by decide)) (za (pv 0) zi))))))),?_⟩
   obtain⟨dxb,eb⟩:=hb.bk
   have S:=hb.ok
   refine⟨_,rfl,_,rfl,(by show 2<=sizeLine;decide),fun t ht=>?_⟩
   have s1:=Same.new (o:=.tup [.int kd,.int n]) ht
   refine⟨_,rfl,G,B,ch,s,rfl,hb.mono s1,fun H2 p qs s2 np rp pp=>?_⟩
   have s02:=s1.trans s2
   refine⟨p,qs.map V.ref,(Vanbki.conflicts s).map (fun x=>Jd (x.1:Int) (x.2:Int)),Jd kd n,rfl,SqL.of rp,XO pp,.tup (SqT.of (s2 _ _ zf)) (.cons (.int _) (.cons (.int _) .nil)),Je _ _,(fun e he=>by obtain⟨x,_,rfl⟩:=List.mem_map.mp he;exact Je _ _),_,rfl,?_⟩
   simp only[if_true]
   rw[aah]
   have k:PostDone C H G B (if ((Vanbki.conflicts s).any fun x=>ofNat x.1 == kd && ofNat x.2 == n)=false then (s,⟨-9,[]⟩) else if (decide (0<=c) && decide (c<=3))=false then (s,⟨-10,[]⟩) else (Vanbki.chooseIn s kd.toNat n.toNat c.toNat,⟨ofNat (Vanbki.open_ (Vanbki.chooseIn s kd.toNat n.toNat c.toNat)),[]⟩)) Q:=k
   have okS:=xH S (.choose kd n c)
   have okS:qu (if ((Vanbki.conflicts s).any fun x=>ofNat x.1 == kd && ofNat x.2 == n)=false then (s,(⟨-9,[]⟩:Vanbki.Answer)) else if (decide (0<=c) && decide (c<=3))=false then (s,⟨-10,[]⟩) else (Vanbki.chooseIn s kd.toNat n.toNat c.toNat,⟨ofNat (Vanbki.open_ (Vanbki.chooseIn s kd.toNat n.toNat c.toNat)),[]⟩)).1:=okS
   cases hc:(Vanbki.conflicts s).any fun x=>ofNat x.1 == kd && ofNat x.2 == n with
   | false =>
    rw[hc,if_pos rfl] at k
    exact zM (k.no hb rfl s02)
   | true =>
    rw[hc,if_neg (by decide)] at k okS
    refine zE ?_
    obtain⟨x,hx,ex⟩:=List.any_eq_true.mp hc
    rw[Bool.and_eq_true,beq_iff_eq,beq_iff_eq] at ex
    obtain⟨rfl,rfl⟩:=ex
    obtain⟨x1,x2⟩:=Jj S hx
    have t1:(ofNat x.1).toNat=x.1:=Int.toNat_natCast _
    have t2:(ofNat x.2).toNat=x.2:=Int.toNat_natCast _
    rw[t1,t2] at k okS
    apply VO (P:=0<=c/\c<=3)
    . intro rest
      refine⟨_,rfl,_,_,rfl,rfl,_,rfl,?_⟩
      by_cases h1:c<0
      . rw[decide_eq_true (by omega)]
        rw[if_pos (by rw[decide_eq_false (by omega)];rfl)] at k
        exact zM (zM (k.no hb rfl s02))
      . rw[decide_eq_false (by omega)]
        refine zE ⟨_,rfl,_,_,rfl,rfl,_,rfl,?_⟩
        by_cases h2:3<c
        . rw[decide_eq_true (by omega)]
          rw[if_pos (by rw[decide_eq_false (show ¬c<=3 by omega),Bool.and_false])] at k
          exact zM (k.no hb rfl s02)
        . rw[decide_eq_false (by omega)]
          exact zE (rest ⟨by omega,by omega⟩)
    . rintro⟨c1,c2⟩
      obtain⟨m,rfl⟩:∃ m:Nat,c=(m:Int):=⟨c.toNat,by omega⟩
      rw[if_neg (by rw[decide_eq_true c1,decide_eq_true c2];decide),Int.toNat_natCast] at k okS
      refine⟨_,rfl,_,rfl,B.b,C.cBooks,dxb,_,_,rfl,s02 _ _ eb,T.c_Books,T.n_Books_choices,xE _ _ _,_,rfl,_,rfl,(by show 2<=sizeLine;decide),fun t2 ht2=>?_⟩
      have s3:=s02.trans (Same.new (o:=.tup [.int (ofNat x.1),.int (ofNat x.2)]) ht2)
      have hl:=XM hb.co
      refine⟨B.dc,_,rfl,DPut.t (k:=[Sum.inl (x.1:Int),Sum.inl (x.2:Int)]) (s3 _ _ hb.dc) zf (by rw[Uh];exact qU (by omega)),?_⟩
      rw[ab8]
      have hb3:=hb.setCh (ch':=Jf ch x.1 x.2 m) (t:=Vanbki.chooseIn s x.1 x.2 m) s3 rfl (abw hb.co x1 x2 (by omega)) okS
      refine⟨_,rfl,G,B,_,_,rfl,hb3,fun H4 s4=>?_⟩
      exact k H4 G B _ (hb3.mono s4) ((Fr.dc s3).up s4)
end
end Tb
end
section
namespace Tb
open PySem PySem.Spec PyProof.Rows L2
open Vanbki (nats ofNat markNat numbers)
theorem abx {C:Ad}{F:Hp}:∀ {qs:List Addr}{ms:List MC},Paired (MCAt C F) qs ms->∃ as,as.length=qs.length/\CellsAt C F as (ms.map fun m=>m.cell)/\∀ (i:Nat) (q:Addr),qs[i]?=some q->∃ a dx l r,as[i]?=some a/\F q=some (.ins C.cMergedCell dx (k9 a l r)):=by
 intro qs ms h
 induction h with
 | nil=>exact⟨[],rfl,.nil,fun i q h=>by simp at h⟩
 | @cons q m qs ms r t ih =>
  obtain⟨as,h1,h2,h3⟩:=ih
  obtain⟨dx,a,e1,e2⟩:=r
  refine⟨a::as,by simp[h1],.cons e2 h2,fun i q' hq=>?_⟩
  cases i with
  | zero =>
   simp at hq
   subst hq
   exact⟨a,dx,_,_,rfl,e1⟩
  | succ i =>
   obtain⟨a',dx',l',r',f1,f2⟩:=h3 i q' (by simpa using hq)
   exact⟨a',dx',l',r',by simpa using f1,f2⟩
def XQ (C:Ad):Sp:=fun vs H Q _=>∃ G B ch s,vs=[.ref (Bk.b B)]/\BooksAt C H G B ch s/\PostDone C H G B (Vanbki.step s .adopt) Q
section
variable {P:Program}{w:World}{K:PySem.W.Frag}{mg:Str->Option Value}{base:Heap}{C:Ad}{f:Addr}{fd:FuncData}
theorem aby {f1:Addr}{fd1:FuncData}{f2:Addr}{fd2:FuncData}{f3:Addr}{fd3:FuncData} (F:Fun K "adopt" "adopt" JQ f fd) (T:Txt K mg C) (D_merge_of:Def P w K mg base "merge_of" 8 ["books"] (xx C) f1 fd1) (D_number_above:Def P w K mg base "number_above" 2 ["cells"] (kq C) f2 fd2) (D_Side:Cdf P w K mg base "Side" 1 ["self","cells","next_number"] (jw C) C.cSide f3 fd3):z_ P w K mg base CX0 9 f fd ["books"] (XQ C):=by
 refine F.ok sc_adopt (fun vs H Q E h=>?_) (fun cdv A outer s H vs Q E hr h=>?_)
 . obtain⟨G,B,ch,s,rfl,_⟩:=h
   rfl
 . obtain⟨G,B,ch,s,rfl,hb,k⟩:=h
   have hu:=jR hr
   refine⟨_,(ze (zu (i:=1) sc_adopt.nd rfl (Or.inl rfl) (zk D_merge_of (hr.mono (by decide)) (za (pv 0) zi)))
    (ze (zI (zz yM (zn (pv 1) rfl) (pgi T.g_NO_REFUSAL) (zF _)) (zj (zo (zn (pv 1) rfl))) zw)
    (ze (vR (i:=2) rfl sc_adopt.nd rfl rfl (y_ rfl rfl rfl rfl) (qi (zn (pv 1) rfl)) (qE (own:=[("one",3)]) (by kernel_rfl)) (fun _ _ _ _ _=>(zS (i:=3) sc_adopt.nd rfl (Or.inl rfl))) (fun _ _ _ _ _=>km) (fun _ _ _ _ _=>(jM (K:=K) rfl (pv 3) rfl)))
    (ze (zu (i:=4) sc_adopt.nd rfl (Or.inl rfl) (zk D_number_above (hr.mono (by decide)) (za (jK yO (jK yO (pv 2) (zn (qk hu (zn (pv 0) rfl) (pgi T.g_LEFT) (fun _ _=>rfl)) rfl)) (zn (qk hu (zn (pv 0) rfl) (pgi T.g_RIGHT) (fun _ _=>rfl)) rfl)) zi)))
    (ze (qK (pv 0) (pv 2) rfl)
    (ze (qK (pv 0) (ZS (kS (pgi T.g_LEFT) (qw D_Side (hr.mono (by decide)) (za (pv 2) (za (pv 4) zi))) (kS (pgi T.g_RIGHT) (qw D_Side (hr.mono (by decide)) (za (pv 2) (za (pv 4) zi))) ZR)) rfl rfl (by simp) (by decide)) rfl)
    (ze (qK (pv 0) u4 rfl)
    (zj (zo (zW qY (by rfl) T.b_len qX (za (pv 2) zi))))))))))),?_⟩
   have S:=hb.ok
   refine⟨_,rfl,G,B,ch,s,rfl,hb,fun H1 x dx p qs F s1 gr ex rp pp=>?_⟩
   obtain⟨w1,w2⟩:=wk S (fun l=>(Vanbki.adopted s (Vanbki.docOf l),⟨ofNat l.length,[]⟩))
   have k:PostDone C H G B (Vanbki.withResult s (fun l=>(Vanbki.adopted s (Vanbki.docOf l),⟨ofNat l.length,[]⟩))) Q:=k
   have lq:=zx pp
   have l12:=wm S
   refine⟨_,rfl,x,C.cOutcome,dx,_,_,rfl,ex,T.c_Outcome,T.n_Outcome_refusal,ka _ _,rfl,_,rfl,qP (fun hh=>?_) (fun hh=>?_)⟩
   . obtain⟨_,e⟩:=w1 hh
     exact⟨_,rfl,x,C.cOutcome,dx,_,_,rfl,ex,T.c_Outcome,T.n_Outcome_refusal,ka _ _,k.no hb e s1⟩
   . obtain⟨l,e1,e2,e3,e4⟩:=w2 hh
     have okS:qu (Vanbki.withResult s (fun l=>(Vanbki.adopted s (Vanbki.docOf l),(⟨ofNat l.length,[]⟩:Vanbki.Answer)))).1:=xH S .adopt
     rw[e4] at k okS
     have ed:Vanbki.docOf l=(qo s).2.map fun m=>m.cell:=by rw[Vp,e3]
     have el:l.length=((qo s).2.map fun m=>m.cell).length:=by rw[<-ed];unfold Vanbki.docOf;rw[List.length_map]
     rw[ed,el] at k
     have okS:qu (Vanbki.adopted s (Vanbki.docOf l)):=okS
     rw[ed] at okS
     obtain⟨as,h1,h2,h3⟩:=abx pp
     have ld:((qo s).2.map fun m=>m.cell).length=as.length:=(zx h2).symm
     generalize hd:(qo s).2.map (fun m=>m.cell)=d at k okS h2 ld
     refine⟨_,rfl,x,C.cOutcome,dx,_,_,rfl,ex,T.c_Outcome,T.n_Outcome_merged,xp _ _,p,rfl,⟨_,SqL.of rp⟩,fun Dl hDl=>?_⟩
     have Dl0:=s1.free hDl
     refine Zg (K:=K) (xs:=qs.map V.ref) (as.map V.ref) (by rw[List.length_map,List.length_map,h1]) (SqL.of rp) hDl (by rw[List.length_map];exact qU (by omega)) (fun i y z H' P' hi hy s2 hP=>?_) (fun H2 s2 e2=>?_)
     . obtain⟨q,hq,rfl⟩:=qL hi
       obtain⟨a,hz,rfl⟩:=qL hy
       obtain⟨a',dx',l',r',f1,f2⟩:=h3 i q hq
       rw[hz] at f1
       cases f1
       exact⟨rfl,_,rfl,q,C.cMergedCell,dx',_,_,rfl,s2 _ _ (gr.fh _ _ f2),T.c_MergedCell,T.n_MergedCell_cell,vc _ _ _,hP H' (Same.refl _)⟩
     . have e2:RL H2 Dl as:=e2
       have s02:=s1.trans s2
       obtain⟨as1,r1,c1,_⟩:=hb.d1
       obtain⟨as2,r2,c2,_⟩:=hb.d2
       obtain⟨dxb,eb⟩:=hb.bk
       obtain⟨dx1,es1⟩:=hb.s1
       obtain⟨dx2,es2⟩:=hb.s2
       have z1:=S.l.len
       have z2:=S.r.len
       have l1:=zx c1
       have l2:=zx c2
       have d1:∀ {H1:Hp},H1 B.ds=some (.dK [(Sum.inl 1,.ref B.a1),(Sum.inl 2,.ref B.a2)])->DGet H1 B.ds (.int 1) (some (.ref B.a1)):=fun h=>Kr (.ref B.a1) (.ref B.a2)▸DGet.k (k:=Sum.inl 1) h
       have d2:∀ {H1:Hp},H1 B.ds=some (.dK [(Sum.inl 1,.ref B.a1),(Sum.inl 2,.ref B.a2)])->DGet H1 B.ds (.int 2) (some (.ref B.a2)):=fun h=>Ks (.ref B.a1) (.ref B.a2)▸DGet.k (k:=Sum.inl 2) h
       refine⟨_,rfl,_,rfl,B.b,C.cBooks,dxb,_,_,rfl,s02 _ _ eb,T.c_Books,T.n_Books_sides,zJ _ _ _,B.ds,_,rfl,d1 (s02 _ _ hb.sd),B.a1,C.cSide,dx1,_,_,rfl,s02 _ _ es1,T.c_Side,T.n_Side_cells,zU _ _,Dl,B.l1,_,_,rfl,rfl,e2,s02 _ _ r1,(by rw[List.length_map,List.length_map];exact qN (by omega)),fun p3 n3=>?_⟩
       have s3:=Same.new (o:=.lst (as.map V.ref++as1.map V.ref)) n3
       have s03:=s02.trans s3
       refine⟨_,rfl,B.b,C.cBooks,dxb,_,_,rfl,s03 _ _ eb,T.c_Books,T.n_Books_sides,zJ _ _ _,B.ds,_,rfl,d2 (s03 _ _ hb.sd),B.a2,C.cSide,dx2,_,_,rfl,s03 _ _ es2,T.c_Side,T.n_Side_cells,zU _ _,p3,B.l2,_,_,rfl,rfl,zf,s03 _ _ r2,(by rw[List.length_append,List.length_map,List.length_map,List.length_map];exact qN (by omega)),fun p4 n4=>?_⟩
       have s4:=Same.new (o:=.lst ((as.map V.ref++as1.map V.ref)++as2.map V.ref)) n4
       have s04:=s03.trans s4
       have cF4:=h2.mono ((gr.fh.trans s2).trans (s3.trans s4))
       refine⟨p4,as++as1++as2,d++s.left++s.right,rfl,(by rw[RL,zf];simp),zQ (zQ cF4 (c1.mono s04)) (c2.mono s04),(by simp only[List.length_append];omega),fun H5 s5=>?_⟩
       have etop:((Vanbki.greatest (numbers (d++s.left++s.right)):Int)+1)=((Vanbki.greatest (numbers d++numbers s.left++numbers s.right)+1:Nat):Int):=by
        unfold numbers
        rw[List.map_append,List.map_append]
        push_cast
        rfl
       rw[etop]
       generalize hkk:Vanbki.greatest (numbers d++numbers s.left++numbers s.right)+1=kk
       have hst:Vanbki.adopted s d=⟨d,d,d,kk,kk,[]⟩:=by
        unfold Vanbki.adopted
        rw[hkk]
       rw[hst] at k okS
       have s05:=s04.trans s5
       have e5:RL H5 Dl as:=s5 _ _ (s4 _ _ (s3 _ _ e2))
       have eb5:=s05 _ _ eb
       have Db:Dl≠B.b:=Ne.symm (zg eb Dl0)
       have pc:CellsAt C (zY G H H5) as d:=h2.mono (gr.part hb.gh (Same.refl _) (s2.trans (s3.trans (s4.trans s5))))
       refine⟨_,rfl,_,rfl,B.b,C.cBooks,dxb,_,rfl,eb5,T.c_Books,T.n_Books_base_cells,(by show 3<1000;decide),fun pd npd=>?_⟩
       have npd:(upd H5 B.b (.ins C.cBooks dxb (qF Dl B.ds B.dc))) pd=none:=npd
       have pdb:pd≠B.b:=fun z=>by rw[z,zf] at npd;cases npd
       have pdD:pd≠Dl:=fun z=>by rw[z,zh Db,e5] at npd;cases npd
       generalize hH6:upd (upd H5 B.b (.ins C.cBooks dxb (qF Dl B.ds B.dc))) pd (.dK [])=H6
       have hH6':upd (upd H5 B.b (.ins C.cBooks dxb (xK "base_cells" (.ref Dl) (qF B.lb B.ds B.dc)))) pd (.dK [])=H6:=hH6
       rw[hH6']
       have eb6:H6 B.b=some (.ins C.cBooks dxb (qF Dl B.ds B.dc)):=by rw[<-hH6,zh (Ne.symm pdb),zf]
       have eD6:RL H6 Dl as:=by rw[<-hH6,RL,zh (Ne.symm pdD),zh Db];exact e5
       refine⟨_,rfl,_,rfl,?_⟩
       intro x1 dy1 nx1 nd1 ne1
       refine⟨x1,dy1,Dl,as.map V.ref,_,rfl,zf,(by rw[zh (zg eD6 nx1),zh (zg eD6 nd1)];exact eD6),fun q1 hq1=>⟨rfl,?_⟩⟩
       obtain⟨nq1,qx1,s7,eq7⟩:=yW (C:=C) (xs:=as.map V.ref) (k:=(kk:Nat)) nx1 nd1 ne1 hq1
       generalize hH7:upd (upd (upd (upd H6 dy1 (.own x1)) x1 (.ins C.cSide dy1 [])) q1 (.lst (as.map V.ref))) x1 (.ins C.cSide dy1 (j3 q1 (kk:Nat)))=H7 at s7 eq7 ⊢
       have ex7:H7 x1=some (.ins C.cSide dy1 (j3 q1 (kk:Nat))):=by rw[<-hH7,zf]
       refine⟨_,rfl,_,rfl,?_⟩
       intro x2 dy2 nx2 nd2 ne2
       have eD7:=s7 _ _ eD6
       refine⟨x2,dy2,Dl,as.map V.ref,_,rfl,zf,(by rw[zh (zg eD7 nx2),zh (zg eD7 nd2)];exact eD7),fun q2 hq2=>⟨rfl,?_⟩⟩
       obtain⟨nq2,qx2,s8,eq8⟩:=yW (C:=C) (xs:=as.map V.ref) (k:=(kk:Nat)) nx2 nd2 ne2 hq2
       generalize hH8:upd (upd (upd (upd H7 dy2 (.own x2)) x2 (.ins C.cSide dy2 [])) q2 (.lst (as.map V.ref))) x2 (.ins C.cSide dy2 (j3 q2 (kk:Nat)))=H8 at s8 eq8 ⊢
       have ex8:H8 x2=some (.ins C.cSide dy2 (j3 q2 (kk:Nat))):=by rw[<-hH8,zf]
       have s68:=s7.trans s8
       refine⟨s68 _ _ (by rw[<-hH6,zf]),[(Sum.inl 1,.ref x1),(Sum.inl 2,.ref x2)],rfl,(by show 2<=15;decide),?_⟩
       refine⟨_,rfl,B.b,C.cBooks,dxb,_,rfl,(by rw[zh (Ne.symm pdb)];exact s68 _ _ eb6),T.c_Books,T.n_Books_sides,(by show 3<1000;decide),?_⟩
       intro dc ndc
       refine⟨_,rfl,B.b,C.cBooks,dxb,_,rfl,(by rw[zh (Ne.symm (fun z=>by rw[z,zf] at ndc;cases ndc)),zf]),T.c_Books,T.n_Books_choices,(by show 3<1000;decide),?_⟩
       subst hH6
       obtain⟨f1,f2⟩:=Uf hb s05 Dl0 e5 pc npd s68 nx1 nq1 (s7.free nx2) (s7.free nq2) (s8 _ _ ex7) (s8 _ _ eq7) ex8 eq8 ndc (zg ex7 nx2) (zg eq7 nq2) rfl okS
       have q:=k _ _ _ _ f1 f2
       refine⟨_,rfl,Dl,as.map V.ref,rfl,.inl (SqL.of ?_),?_⟩
       . have h7:Dl≠dc:=fun z=>by
          rw[<-z,zh Db,zh (Ne.symm pdD),s8 _ _ eD7] at ndc
          cases ndc
         rw[zh Db,zh h7,zh Db,zh (Ne.symm pdD)]
         exact s8 _ _ eD7
       . rw[List.length_map,<-ld]
         exact q
end
end Tb
end
section
namespace Tb
open PySem PySem.Spec PyProof.Rows L2
open Vanbki (nats ofNat markNat numbers)
def zy:Vanbki.Call->Nat × List Int × List Int
 | .base t=>(0,[],t)
 | .new d a t=>(1,[d,a],t)
 | .write d n t=>(2,[d,n],t)
 | .move d n a=>(3,[d,n,a],[])
 | .drop d n=>(4,[d,n],[])
 | .hide d n m=>(5,[d,n,m],[])
 | .copy d=>(6,[d],[])
 | .reset d=>(7,[d],[])
 | .swap=>(8,[],[])
 | .document w=>(9,[w],[])
 | .changes d=>(10,[d],[])
 | .change d n=>(11,[d,n],[])
 | .conflicts=>(12,[],[])
 | .choose k n c=>(13,[k,n,c],[])
 | .merged=>(14,[],[])
 | .origins=>(15,[],[])
 | .adopt=>(16,[],[])
theorem VR:∀ {l:List (Bool × Int)}{n:Int},Vanbki.first l=some n->∃ x,x∈l/\x.2=n
 | [],n,h=>by cases h
 | (c,m)::r,n,h=>by
  unfold Vanbki.first at h
  split at h
  . cases h
    exact⟨_,List.mem_cons_self ..,rfl⟩
  . obtain⟨x,hx,e⟩:=VR h
    exact⟨x,List.mem_cons_of_mem _ hx,e⟩
theorem jA {s:Vanbki.State}{side:Int}{own:List (Bool × Int)}{d:Vanbki.Doc}{k:Nat}{a:Int} (ho:∀ x,x∈own->x.2<0) (h:0<=(Vanbki.edit s side own d k a).2.number):(Vanbki.edit s side own d k a).1.choices=[]:=by
 unfold Vanbki.edit at h ⊢
 cases e:Vanbki.first ((Vanbki.noSide side,-8)::own) with
 | none =>
  show (Vanbki.setSide s side d k).choices=[]
  unfold Vanbki.setSide
  split <;> rfl
 | some n =>
  rw[e] at h
  have h:0<=n:=h
  obtain⟨x,hx,rfl⟩:=VR e
  rcases List.mem_cons.mp hx with z | z
  . rw[z] at h
    exact absurd h (by show ¬((0:Int)<=-8);decide)
  . have:=ho x z
    omega
theorem QV {s:Vanbki.State}{c:Vanbki.Call} (hc:1<=(zy c).1/\(zy c).1<=7) (h:0<=(Vanbki.sideEdit s c).2.number):(Vanbki.sideEdit s c).1.choices=[]:=by
 cases c with
 | new d a t=>exact jA (by intro x hx;simp only[List.mem_cons,List.not_mem_nil,or_false] at hx;rcases hx with rfl | rfl | rfl | rfl | rfl <;> (show _<_;simp)) h
 | write d a t=>exact jA (by intro x hx;simp only[List.mem_cons,List.not_mem_nil,or_false] at hx;rcases hx with rfl | rfl | rfl | rfl <;> (show _<_;simp)) h
 | move d a t=>exact jA (by intro x hx;simp only[List.mem_cons,List.not_mem_nil,or_false] at hx;rcases hx with rfl | rfl | rfl <;> (show _<_;simp)) h
 | drop d a=>exact jA (by intro x hx;simp only[List.mem_cons,List.not_mem_nil,or_false] at hx;rcases hx with rfl;(show _<_;simp)) h
 | hide d a t=>exact jA (by intro x hx;simp only[List.mem_cons,List.not_mem_nil,or_false] at hx;rcases hx with rfl | rfl | rfl <;> (show _<_;simp)) h
 | copy d=>exact jA (by intro x hx;cases hx) h
 | reset d=>exact jA (by intro x hx;cases hx) h
 | base _=>exact absurd hc (by simp[zy])
 | _=>exact absurd hc (by simp[zy])
theorem XR {C:Ad}{H' G':Hp}{B':Bk}{ch:Chs}{t:Vanbki.State}{dc dx:Addr} (h:uk C H' G' B' ch t) (ndc:H' dc=none) (hc:t.choices=[]) (ok:qu t) :
 BooksAt C (upd (upd H' dc (.dT [])) B'.b (.ins C.cBooks dx (qF B'.lb B'.ds dc))) G' { B' with dc:=dc } [] t:=by
 have ne:=h.ne
 simp only[Bk.muts,List.nodup_cons,List.mem_cons,List.not_mem_nil,or_false,not_or] at ne
 obtain⟨⟨n1,n2,n3,n4,n5,n6⟩,⟨n7,n8,n9,n10,n11⟩,⟨n12,n13,n14,n15⟩,⟨n16,n17,n18⟩,⟨n19,n20⟩,n21,_⟩:=ne
 obtain⟨dxb,eb⟩:=h.bk
 obtain⟨dx1,e1⟩:=h.s1
 obtain⟨dx2,e2⟩:=h.s2
 obtain⟨as1,f1,c1⟩:=h.c1
 obtain⟨as2,f2,c2⟩:=h.c2
 have kp:∀ y o,H' y=some o->y≠B'.b->(upd (upd H' dc (.dT [])) B'.b (.ins C.cBooks dx (qF B'.lb B'.ds dc))) y=some o:=fun y o ey hy=>by
  rw[zh hy,zh (zg ey ndc)]
  exact ey
 have dcb:dc≠B'.b:=Ne.symm (zg eb ndc)
 refine⟨⟨dx,zf⟩,kp _ _ h.sd (Ne.symm n1),⟨dx1,kp _ _ e1 (Ne.symm n2)⟩,⟨dx2,kp _ _ e2 (Ne.symm n4)⟩,h.c0,⟨as1,kp _ _ f1 (Ne.symm n3),c1⟩,⟨as2,kp _ _ f2 (Ne.symm n5),c2⟩,(by rw[zh dcb,zf];rfl),KD hc,fun y o ey=>kp y o (h.gh _ _ ey) (fun z=>by rw[z,h.fr B'.b (by simp[Bk.muts])] at ey;cases ey),?_,?_,ok⟩
 . intro y hy
   simp only[Bk.muts,List.mem_cons,List.not_mem_nil,or_false] at hy
   rcases hy with rfl | rfl | rfl | rfl | rfl | rfl | rfl
   . exact h.fr _ (by simp[Bk.muts])
   . exact h.fr _ (by simp[Bk.muts])
   . exact h.fr _ (by simp[Bk.muts])
   . exact h.fr _ (by simp[Bk.muts])
   . exact h.fr _ (by simp[Bk.muts])
   . exact h.fr _ (by simp[Bk.muts])
   . exact h.gh.free ndc
 . simp only[Bk.muts,List.nodup_cons,List.mem_cons,List.not_mem_nil,or_false,not_or,not_false_eq_true,and_true,List.nodup_nil]
   exact⟨⟨n1,n2,n3,n4,n5,Ne.symm dcb⟩,⟨n7,n8,n9,n10,zg h.sd ndc⟩,⟨n12,n13,n14,zg e1 ndc⟩,⟨n16,n17,zg f1 ndc⟩,⟨n19,zg e2 ndc⟩,zg f2 ndc⟩
theorem WJ {H G H' G':Hp}{B B':Bk}{dc:Addr}{o:HO} (h:Fr H G B H' G' B') (ndc:H' dc=none):Fr H G B (upd (upd H' dc (.dT [])) B'.b o) G' { B' with dc:=dc } where
 b:=h.b
 kept:=fun a u e m=>by
  have h1:a≠B'.b:=fun z=>m (by rw[z,h.b];simp[Bk.muts])
  have h2:=h.kept a u e m
  rw[zh h1,zh (zg h2 ndc)]
  exact h2
 grow:=h.grow
 newM:=fun a ha=>by
  have key:a∈B'.muts∨a=dc:=by
   simp only[Bk.muts,List.mem_cons,List.not_mem_nil,or_false] at ha ⊢
   rcases ha with z | z | z | z | z | z | z <;> simp[z]
  rcases key with z | z
  . exact h.newM a z
  . subst z
    by_cases m:a∈B.muts
    . exact .inl m
    . refine .inr ?_
      cases e:H a with
      | none=>rfl
      | some u=>rw[h.kept a u e m] at ndc;cases ndc
 newG:=h.newG
def xy (C:Ad):Sp:=fun vs H Q _=>∃ G B ch s c wl rl,vs=[.ref (Bk.b B),.int ((zy c).1:Nat),.ref wl,.ref rl]/\(1<=(zy c).1/\(zy c).1<=7)/\BooksAt C H G B ch s/\IL H wl (zy c).2.1/\IL G rl (zy c).2.2/\(zy c).2.2.length<=16000/\PostEdit C H G B ch s (Vanbki.sideEdit s c) Q
def uo (C:Ad):Sp:=fun vs H Q _=>∃ G B ch s c wl rl,vs=[.ref (Bk.b B),.int ((zy c).1:Nat),.ref wl,.ref rl]/\(1<=(zy c).1/\(zy c).1<=7)/\BooksAt C H G B ch s/\IL H wl (zy c).2.1/\IL G rl (zy c).2.2/\(zy c).2.2.length<=16000/\PostDone C H G B (Vanbki.step s c) Q
def xz (C:Ad):Sp:=fun vs H Q _=>∃ G B ch s c wl,vs=[.ref (Bk.b B),.int ((zy c).1:Nat),.ref wl]/\(9<=(zy c).1/\(zy c).1<=15/\(zy c).1≠13)/\BooksAt C H G B ch s/\IL H wl (zy c).2.1/\∀ H' p,Same H H'->H p=none->IL H' p (enc (Vanbki.step s c).2)->Q (.ref p) H'
def wo (C:Ad):Sp:=fun vs H Q _=>∃ G B ch s c wl rl,vs=[.ref (Bk.b B),.int ((zy c).1:Nat),.ref wl,.ref rl]/\BooksAt C H G B ch s/\IL H wl (zy c).2.1/\IL G rl (zy c).2.2/\(zy c).2.2.length<=16000 /\
 ∀ H' G' B' ch' p,BooksAt C H' G' B' ch' (Vanbki.step s c).1->Fr H G B H' G' B'->(∀ a o,H a=some o->¬a∈B.muts->a≠p)->IL H' p (enc (Vanbki.step s c).2)->Q (.ref p) H'
theorem vz (s:Vanbki.State) (side:Int) (own:List (Bool × Int)) (d:Vanbki.Doc) (k:Nat) (a:Int):(Vanbki.edit s side own d k a).2.more=[]:=by
 unfold Vanbki.edit
 cases Vanbki.first ((Vanbki.noSide side,-8)::own) <;> rfl
theorem acS {s:Vanbki.State}{c:Vanbki.Call} (hc:(zy c).1<=8∨(zy c).1=13∨(zy c).1=16):(Vanbki.step s c).2.more=[]:=by
 cases c with
 | base t =>
  show (Vanbki.doBase s t).2.more=[]
  cases h:jW t with
  | none=>rw[Ja h]
  | some ts =>
   by_cases h1:jh ts=0
   . by_cases h2:12<ts.length
     . rw[Jb h h1 h2]
     . rw[KF h h1 h2]
   . rw[VP h h1]
 | new d a t=>exact vz ..
 | write d a t=>exact vz ..
 | move d a t=>exact vz ..
 | drop d a=>exact vz ..
 | hide d a t=>exact vz ..
 | copy d=>exact vz ..
 | reset d=>exact vz ..
 | swap=>rfl
 | choose k n c =>
  show (Vanbki.doChoose s k n c).2.more=[]
  unfold Vanbki.doChoose
  split
  . rfl
  . split <;> rfl
 | adopt =>
  show (Vanbki.withResult s _).2.more=[]
  unfold Vanbki.withResult
  cases Vanbki.result s with
  | none=>rfl
  | some l =>
   show (if Vanbki.tooGreat l=true then _ else _:Vanbki.State × Vanbki.Answer).2.more=[]
   split <;> rfl
 | _=>exact absurd hc (by simp[zy])
theorem vA {s:Vanbki.State}{c:Vanbki.Call} (hc:9<=(zy c).1/\(zy c).1<=15/\(zy c).1≠13):Vanbki.step s c=(s,(Vanbki.step s c).2):=by
 have wr:∀ g:List (Nat × Vanbki.Item)->Vanbki.Answer,Vanbki.withResult s (fun l=>(s,g l))=(s,(Vanbki.withResult s (fun l=>(s,g l))).2):=fun g=>by
  unfold Vanbki.withResult
  cases Vanbki.result s with
  | none=>rfl
  | some l =>
   show (if Vanbki.tooGreat l=true then _ else _)=(s,(if Vanbki.tooGreat l=true then _ else _:Vanbki.State × Vanbki.Answer).2)
   split <;> rfl
 cases c with
 | document w =>
  show (if w=0 then _ else _)=(s,(if w=0 then _ else _:Vanbki.State × Vanbki.Answer).2)
  split
  . rfl
  . split <;> rfl
 | changes d =>
  unfold Vanbki.step Vanbki.withSide
  dsimp only
  split <;> rfl
 | change d n =>
  unfold Vanbki.step Vanbki.withSide
  dsimp only
  split
  . rfl
  . split
    . rfl
    . split <;> rfl
 | conflicts=>rfl
 | merged=>exact wr _
 | origins=>exact wr _
 | _=>exact absurd hc (by simp[zy])
theorem BooksAt.other {C:Ad}{H G:Hp}{B:Bk}{ch:Chs}{s:Vanbki.State}{q:Addr}{o:HO} (h:BooksAt C H G B ch s) (hq:¬q∈B.muts) (hg:G q=none):BooksAt C (upd H q o) G B ch s:=by
 obtain⟨dxb,eb⟩:=h.bk
 obtain⟨dx1,e1⟩:=h.s1
 obtain⟨dx2,e2⟩:=h.s2
 obtain⟨as1,f1,c1⟩:=h.c1
 obtain⟨as2,f2,c2⟩:=h.c2
 have kp:∀ y u,H y=some u->y∈B.muts->(upd H q o) y=some u:=fun y u e m=>by
  rw[zh (fun z:y=q=>hq (z▸m))]
  exact e
 refine⟨⟨dxb,kp _ _ eb (by simp[Bk.muts])⟩,kp _ _ h.sd (by simp[Bk.muts]),⟨dx1,kp _ _ e1 (by simp[Bk.muts])⟩,⟨dx2,kp _ _ e2 (by simp[Bk.muts])⟩,h.c0,⟨as1,kp _ _ f1 (by simp[Bk.muts]),c1⟩,⟨as2,kp _ _ f2 (by simp[Bk.muts]),c2⟩,kp _ _ h.dc (by simp[Bk.muts]),h.co,fun y u e=>?_,h.fr,h.ne,h.ok⟩
 rw[zh (fun z=>by rw[z,hg] at e;cases e)]
 exact h.gh _ _ e
section
variable {P:Program}{w:World}{K:PySem.W.Frag}{mg:Str->Option Value}{base:Heap}{C:Ad}{f:Addr}{fd:FuncData}
theorem Qn {f1:Addr}{fd1:FuncData}{f2:Addr}{fd2:FuncData}{f3:Addr}{fd3:FuncData}{f4:Addr}{fd4:FuncData}{f5:Addr}{fd5:FuncData}{f6:Addr}{fd6:FuncData}{f7:Addr}{fd7:FuncData} (F:Fun K "answer_on_side" "answer_on_side" k7 f fd) (T:Txt K mg C) (D_reset_side:Def P w K mg base "reset_side" 4 ["books","side"] (uZ C) f1 fd1) (D_new_cell:Def P w K mg base "new_cell" 3 ["books","side","after","text"] (J9 C) f2 fd2) (D_write_cell:Def P w K mg base "write_cell" 3 ["books","side","number","text"] (u_ C) f3 fd3) (D_move_cell:Def P w K mg base "move_cell" 3 ["books","side","number","after"] (Qk C) f4 fd4) (D_drop_cell:Def P w K mg base "drop_cell" 3 ["books","side","number"] (Ql C) f5 fd5) (D_hide_cell:Def P w K mg base "hide_cell" 3 ["books","side","number","mark"] (Qm C) f6 fd6) (D_copy_side:Def P w K mg base "copy_side" 3 ["books","side"] (Qe C) f7 fd7):z_ P w K mg base CX0 5 f fd ["books","call","wholes","row"] (xy C):=by
 refine F.ok sc_answer_on_side (fun vs H Q E h=>?_) (fun cdv A outer s H vs Q E hr h=>?_)
 . obtain⟨G,B,ch,s,c,wl,rl,rfl,_⟩:=h
   rfl
 . obtain⟨G,B,ch,s,c,wl,rl,rfl,hc,hb,hw,hrl,hz,k⟩:=h
   refine⟨_,(ze (zu (i:=4) sc_answer_on_side.nd rfl (Or.inl rfl) (qy qj (pv 2) zH (fun _ _=>rfl)))
    (ze (zI (zz qT (pv 1) (pgi T.g_NEW_merge) (zF _)) (zj (zo (zk D_new_cell (hr.mono (by decide)) (za (pv 0) (za (pv 4) (za (qy qj (pv 2) zH (fun _ _=>rfl)) (za (pv 3) zi))))))) zw)
    (ze (zI (zz qT (pv 1) (pgi T.g_WRITE) (zF _)) (zj (zo (zk D_write_cell (hr.mono (by decide)) (za (pv 0) (za (pv 4) (za (qy qj (pv 2) zH (fun _ _=>rfl)) (za (pv 3) zi))))))) zw)
    (ze (zI (zz qT (pv 1) (pgi T.g_MOVE) (zF _)) (zj (zo (zk D_move_cell (hr.mono (by decide)) (za (pv 0) (za (pv 4) (za (qy qj (pv 2) zH (fun _ _=>rfl)) (za (qy qj (pv 2) zH (fun _ _=>rfl)) zi))))))) zw)
    (ze (zI (zz qT (pv 1) (pgi T.g_DROP) (zF _)) (zj (zo (zk D_drop_cell (hr.mono (by decide)) (za (pv 0) (za (pv 4) (za (qy qj (pv 2) zH (fun _ _=>rfl)) zi)))))) zw)
    (ze (zI (zz qT (pv 1) (pgi T.g_HIDE) (zF _)) (zj (zo (zk D_hide_cell (hr.mono (by decide)) (za (pv 0) (za (pv 4) (za (qy qj (pv 2) zH (fun _ _=>rfl)) (za (qy qj (pv 2) zH (fun _ _=>rfl)) zi))))))) zw)
    (ze (zI (zz qT (pv 1) (pgi T.g_COPY) (zF _)) (zj (zo (zk D_copy_side (hr.mono (by decide)) (za (pv 0) (za (pv 4) zi))))) zw)
    (zj (zo (zk D_reset_side (hr.mono (by decide)) (za (pv 0) (za (pv 4) zi)))))))))))),?_⟩
   have t0:∀ {x:Int}{l:List Int},atI ((x::l).map V.int) 0=some (.int x):=q5 (j:=0) rfl
   have t1:∀ {x y:Int}{l:List Int},atI ((x::y::l).map V.int) 1=some (.int y):=q5 (j:=1) rfl
   have t2:∀ {x y z:Int}{l:List Int},atI ((x::y::z::l).map V.int) 2=some (.int z):=q5 (j:=2) rfl
   cases c with
   | new d a t =>
    refine⟨_,rfl,wl,_,_,_,rfl,rfl,SqL.of hw,t0,?_⟩
    refine⟨_,rfl,rfl,_,rfl,zM ?_⟩
    exact⟨_,rfl,_,rfl,_,rfl,wl,_,_,_,rfl,rfl,SqL.of hw,t1,_,rfl,G,B,ch,s,d,a,rl,t,rfl,hb,hrl,hz,k⟩
   | write d a t =>
    refine⟨_,rfl,wl,_,_,_,rfl,rfl,SqL.of hw,t0,?_⟩
    refine⟨_,rfl,rfl,_,rfl,zE ?_⟩
    refine⟨_,rfl,rfl,_,rfl,zM ?_⟩
    exact⟨_,rfl,_,rfl,_,rfl,wl,_,_,_,rfl,rfl,SqL.of hw,t1,_,rfl,G,B,ch,s,d,a,rl,t,rfl,hb,hrl,hz,k⟩
   | move d a b =>
    refine⟨_,rfl,wl,_,_,_,rfl,rfl,SqL.of hw,t0,?_⟩
    refine⟨_,rfl,rfl,_,rfl,zE ?_⟩
    refine⟨_,rfl,rfl,_,rfl,zE ?_⟩
    refine⟨_,rfl,rfl,_,rfl,zM ?_⟩
    exact⟨_,rfl,_,rfl,_,rfl,wl,_,_,_,rfl,rfl,SqL.of hw,t1,_,rfl,wl,_,_,_,rfl,rfl,SqL.of hw,t2,G,B,ch,s,d,a,b,rfl,hb,k⟩
   | drop d a =>
    refine⟨_,rfl,wl,_,_,_,rfl,rfl,SqL.of hw,t0,?_⟩
    refine⟨_,rfl,rfl,_,rfl,zE ?_⟩
    refine⟨_,rfl,rfl,_,rfl,zE ?_⟩
    refine⟨_,rfl,rfl,_,rfl,zE ?_⟩
    refine⟨_,rfl,rfl,_,rfl,zM ?_⟩
    exact⟨_,rfl,_,rfl,_,rfl,wl,_,_,_,rfl,rfl,SqL.of hw,t1,G,B,ch,s,d,a,rfl,hb,k⟩
   | hide d a b =>
    refine⟨_,rfl,wl,_,_,_,rfl,rfl,SqL.of hw,t0,?_⟩
    refine⟨_,rfl,rfl,_,rfl,zE ?_⟩
    refine⟨_,rfl,rfl,_,rfl,zE ?_⟩
    refine⟨_,rfl,rfl,_,rfl,zE ?_⟩
    refine⟨_,rfl,rfl,_,rfl,zE ?_⟩
    refine⟨_,rfl,rfl,_,rfl,zM ?_⟩
    exact⟨_,rfl,_,rfl,_,rfl,wl,_,_,_,rfl,rfl,SqL.of hw,t1,_,rfl,wl,_,_,_,rfl,rfl,SqL.of hw,t2,G,B,ch,s,d,a,b,rfl,hb,k⟩
   | copy d =>
    refine⟨_,rfl,wl,_,_,_,rfl,rfl,SqL.of hw,t0,?_⟩
    refine⟨_,rfl,rfl,_,rfl,zE ?_⟩
    refine⟨_,rfl,rfl,_,rfl,zE ?_⟩
    refine⟨_,rfl,rfl,_,rfl,zE ?_⟩
    refine⟨_,rfl,rfl,_,rfl,zE ?_⟩
    refine⟨_,rfl,rfl,_,rfl,zE ?_⟩
    refine⟨_,rfl,rfl,_,rfl,zM ?_⟩
    exact⟨_,rfl,_,rfl,G,B,ch,s,d,rfl,hb,k⟩
   | reset d =>
    refine⟨_,rfl,wl,_,_,_,rfl,rfl,SqL.of hw,t0,?_⟩
    refine⟨_,rfl,rfl,_,rfl,zE ?_⟩
    refine⟨_,rfl,rfl,_,rfl,zE ?_⟩
    refine⟨_,rfl,rfl,_,rfl,zE ?_⟩
    refine⟨_,rfl,rfl,_,rfl,zE ?_⟩
    refine⟨_,rfl,rfl,_,rfl,zE ?_⟩
    refine⟨_,rfl,rfl,_,rfl,zE ?_⟩
    exact⟨_,rfl,_,rfl,G,B,ch,s,d,rfl,hb,k⟩
   | base _=>exact absurd hc (by simp[zy])
   | _=>exact absurd hc (by simp[zy])
theorem KH {f1:Addr}{fd1:FuncData} (F:Fun K "edited_side" "edited_side" vI f fd) (T:Txt K mg C) (D_answer_on_side:Def P w K mg base "answer_on_side" 5 ["books","call","wholes","row"] (xy C) f1 fd1):z_ P w K mg base CX0 6 f fd ["books","call","wholes","row"] (uo C):=by
 refine F.ok sc_edited_side (fun vs H Q E h=>?_) (fun cdv A outer s H vs Q E hr h=>?_)
 . obtain⟨G,B,ch,s,c,wl,rl,rfl,_⟩:=h
   rfl
 . obtain⟨G,B,ch,s,c,wl,rl,rfl,hc,hb,hw,hrl,hz,k⟩:=h
   refine⟨_,(ze (zu (i:=4) sc_edited_side.nd rfl (Or.inl rfl) (zk D_answer_on_side (hr.mono (by decide)) (za (pv 0) (za (pv 1) (za (pv 2) (za (pv 3) zi))))))
    (ze (zI (zz ab_ (pv 4) zH (zF _)) (zj (qK (pv 0) u4 rfl)) zw)
    (zj (zo (pv 4))))),?_⟩
   have ec:Vanbki.step s c=Vanbki.sideEdit s c:=by
    cases c <;> first | rfl | exact absurd hc (by simp[zy])
   have S:qu (Vanbki.sideEdit s c).1:=by rw[<-ec];exact xH hb.ok c
   rw[ec] at k
   refine⟨_,rfl,_,rfl,_,rfl,_,rfl,G,B,ch,s,c,wl,rl,rfl,hc,hb,hw,hrl,hz,fun hn he H1 s1=>?_,fun hn H1 G1 B1 h1 f1=>?_⟩
   . refine⟨_,rfl,_,_,rfl,rfl,_,rfl,?_⟩
     rw[decide_eq_false (by omega)]
     refine zE ⟨_,rfl,?_⟩
     exact k H1 G B ch (by rw[he];exact hb.mono s1) (Fr.same s1)
   . refine⟨_,rfl,_,_,rfl,rfl,_,rfl,?_⟩
     rw[decide_eq_true (by omega)]
     refine zM ?_
     intro dc ndc
     obtain⟨dxb,eb⟩:=h1.bk
     have fb:=f1.b
     have bb:(upd H1 dc (.dT [])) B.b=some (.ins C.cBooks dxb (qF B1.lb B1.ds B1.dc)):=by
      rw[<-fb,zh (zg eb ndc)]
      exact eb
     refine⟨_,rfl,B.b,C.cBooks,dxb,_,rfl,bb,T.c_Books,T.n_Books_choices,(by show 3<1000;decide),_,rfl,?_⟩
     have q:=k _ _ _ _ (XR (dx:=dxb) h1 ndc (QV hc hn) S) (WJ f1 ndc)
     rw[fb] at q
     exact q
theorem Qo {f1:Addr}{fd1:FuncData}{f2:Addr}{fd2:FuncData}{f3:Addr}{fd3:FuncData}{f4:Addr}{fd4:FuncData}{f5:Addr}{fd5:FuncData}{f6:Addr}{fd6:FuncData} (F:Fun K "answer_telling" "answer_telling" k8 f fd) (T:Txt K mg C) (D_tell_origins:Def P w K mg base "tell_origins" 9 ["books"] (wz C) f1 fd1) (D_tell_document:Def P w K mg base "tell_document" 2 ["books","which"] (xQ C) f2 fd2) (D_tell_changes:Def P w K mg base "tell_changes" 3 ["books","side"] (wx C) f3 fd3) (D_tell_change:Def P w K mg base "tell_change" 4 ["books","side","number"] (uc C) f4 fd4) (D_tell_conflicts:Def P w K mg base "tell_conflicts" 7 ["books"] (xt C) f5 fd5) (D_tell_merged:Def P w K mg base "tell_merged" 9 ["books"] (uj C) f6 fd6):z_ P w K mg base CX0 10 f fd ["books","call","wholes"] (xz C):=by
 refine F.ok ZX (fun vs H Q E h=>?_) (fun cdv A outer s H vs Q E hr h=>?_)
 . obtain⟨G,B,ch,s,c,wl,rfl,_⟩:=h
   rfl
 . obtain⟨G,B,ch,s,c,wl,rfl,hc,hb,hw,k⟩:=h
   refine⟨_,(ze (zI (zz qT (pv 1) (pgi T.g_DOCUMENT) (zF _)) (zj (zo (zk D_tell_document (hr.mono (by decide)) (za (pv 0) (za (qy qj (pv 2) zH (fun _ _=>rfl)) zi))))) zw)
    (ze (zI (zz qT (pv 1) (pgi T.g_CHANGES) (zF _)) (zj (zo (zk D_tell_changes (hr.mono (by decide)) (za (pv 0) (za (qy qj (pv 2) zH (fun _ _=>rfl)) zi))))) zw)
    (ze (zI (zz qT (pv 1) (pgi T.g_CHANGE) (zF _)) (zj (zo (zk D_tell_change (hr.mono (by decide)) (za (pv 0) (za (qy qj (pv 2) zH (fun _ _=>rfl)) (za (qy qj (pv 2) zH (fun _ _=>rfl)) zi)))))) zw)
    (ze (zI (zz qT (pv 1) (pgi T.g_CONFLICTS) (zF _)) (zj (zo (zk D_tell_conflicts (hr.mono (by decide)) (za (pv 0) zi)))) zw)
    (ze (zI (zz qT (pv 1) (pgi T.g_MERGED) (zF _)) (zj (zo (zk D_tell_merged (hr.mono (by decide)) (za (pv 0) zi)))) zw)
    (zj (zo (zk D_tell_origins (hr.mono (by decide)) (za (pv 0) zi))))))))),?_⟩
   have t0:∀ {x:Int}{l:List Int},atI ((x::l).map V.int) 0=some (.int x):=q5 (j:=0) rfl
   have t1:∀ {x y:Int}{l:List Int},atI ((x::y::l).map V.int) 1=some (.int y):=q5 (j:=1) rfl
   cases c with
   | document d =>
    refine⟨_,rfl,rfl,_,rfl,zM ?_⟩
    exact⟨_,rfl,_,rfl,wl,_,_,_,rfl,rfl,SqL.of hw,t0,G,B,ch,s,d,rfl,hb,k⟩
   | changes d =>
    refine⟨_,rfl,rfl,_,rfl,zE ?_⟩
    refine⟨_,rfl,rfl,_,rfl,zM ?_⟩
    exact⟨_,rfl,_,rfl,wl,_,_,_,rfl,rfl,SqL.of hw,t0,G,B,ch,s,d,rfl,hb,k⟩
   | change d n =>
    refine⟨_,rfl,rfl,_,rfl,zE ?_⟩
    refine⟨_,rfl,rfl,_,rfl,zE ?_⟩
    refine⟨_,rfl,rfl,_,rfl,zM ?_⟩
    exact⟨_,rfl,_,rfl,wl,_,_,_,rfl,rfl,SqL.of hw,t0,_,rfl,wl,_,_,_,rfl,rfl,SqL.of hw,t1,G,B,ch,s,d,n,rfl,hb,k⟩
   | conflicts =>
    refine⟨_,rfl,rfl,_,rfl,zE ?_⟩
    refine⟨_,rfl,rfl,_,rfl,zE ?_⟩
    refine⟨_,rfl,rfl,_,rfl,zE ?_⟩
    refine⟨_,rfl,rfl,_,rfl,zM ?_⟩
    exact⟨_,rfl,G,B,ch,s,rfl,hb,k⟩
   | merged =>
    refine⟨_,rfl,rfl,_,rfl,zE ?_⟩
    refine⟨_,rfl,rfl,_,rfl,zE ?_⟩
    refine⟨_,rfl,rfl,_,rfl,zE ?_⟩
    refine⟨_,rfl,rfl,_,rfl,zE ?_⟩
    refine⟨_,rfl,rfl,_,rfl,zM ?_⟩
    exact⟨_,rfl,G,B,ch,s,rfl,hb,k⟩
   | origins =>
    refine⟨_,rfl,rfl,_,rfl,zE ?_⟩
    refine⟨_,rfl,rfl,_,rfl,zE ?_⟩
    refine⟨_,rfl,rfl,_,rfl,zE ?_⟩
    refine⟨_,rfl,rfl,_,rfl,zE ?_⟩
    refine⟨_,rfl,rfl,_,rfl,zE ?_⟩
    exact⟨_,rfl,G,B,ch,s,rfl,hb,k⟩
   | _=>exact absurd hc (by simp[zy])
theorem YG {f1:Addr}{fd1:FuncData}{f2:Addr}{fd2:FuncData}{f3:Addr}{fd3:FuncData}{f4:Addr}{fd4:FuncData}{f5:Addr}{fd5:FuncData}{f6:Addr}{fd6:FuncData} (F:Fun K "answer_of" "answer_of" xn f fd) (T:Txt K mg C) (D_answer_telling:Def P w K mg base "answer_telling" 10 ["books","call","wholes"] (xz C) f1 fd1) (D_adopt:Def P w K mg base "adopt" 9 ["books"] (XQ C) f2 fd2) (D_set_base:Def P w K mg base "set_base" 4 ["books","row"] (Jc C) f3 fd3) (D_edited_side:Def P w K mg base "edited_side" 6 ["books","call","wholes","row"] (uo C) f4 fd4) (D_swap_sides:Def P w K mg base "swap_sides" 2 ["books"] (Z0 C) f5 fd5) (D_choose:Def P w K mg base "choose" 8 ["books","kind","number","choice"] (VQ C) f6 fd6):z_ P w K mg base CX0 11 f fd ["books","call","wholes","row"] (wo C):=by
 refine F.ok Yq (fun vs H Q E h=>?_) (fun cdv A outer s H vs Q E hr h=>?_)
 . obtain⟨G,B,ch,s,c,wl,rl,rfl,_⟩:=h
   rfl
 . obtain⟨G,B,ch,s,c,wl,rl,rfl,hb,hw,hrl,hz,k⟩:=h
   refine⟨_,(ze (zI (zz qT (pv 1) (pgi T.g_BASE) (zF _)) (zj (zo (qb (za (zk D_set_base (hr.mono (by decide)) (za (pv 0) (za (pv 3) zi))) zi)))) zw)
    (ze (zI (zz Xh (pv 1) (pgi T.g_RESET) (zF _)) (zj (zo (qb (za (zk D_edited_side (hr.mono (by decide)) (za (pv 0) (za (pv 1) (za (pv 2) (za (pv 3) zi))))) zi)))) zw)
    (ze (zI (zz qT (pv 1) (pgi T.g_SWAP) (zF _)) (zj (zo (qb (za (zk D_swap_sides (hr.mono (by decide)) (za (pv 0) zi)) zi)))) zw)
    (ze (zI (zz qT (pv 1) (pgi T.g_CHOOSE) (zF _)) (zj (zo (qb (za (zk D_choose (hr.mono (by decide)) (za (pv 0) (za (qy qj (pv 2) zH (fun _ _=>rfl)) (za (qy qj (pv 2) zH (fun _ _=>rfl)) (za (qy qj (pv 2) zH (fun _ _=>rfl)) zi))))) zi)))) zw)
    (ze (zI (zz Xh (pv 1) (pgi T.g_ORIGINS) (zF _)) (zj (zo (zk D_answer_telling (hr.mono (by decide)) (za (pv 0) (za (pv 1) (za (pv 2) zi)))))) zw)
    (zj (zo (qb (za (zk D_adopt (hr.mono (by decide)) (za (pv 0) zi)) zi))))))))),?_⟩
   have t0:∀ {x:Int}{l:List Int},atI ((x::l).map V.int) 0=some (.int x):=q5 (j:=0) rfl
   have t1:∀ {x y:Int}{l:List Int},atI ((x::y::l).map V.int) 1=some (.int y):=q5 (j:=1) rfl
   have t2:∀ {x y z:Int}{l:List Int},atI ((x::y::z::l).map V.int) 2=some (.int z):=q5 (j:=2) rfl
   have one:((zy c).1<=8∨(zy c).1=13∨(zy c).1=16)->PostDone C H G B (Vanbki.step s c) (fun v H1=>1<=sizeLine/\∀ p,H1 p=none->Q (.ref p) (upd H1 p (.lst [v]))):=fun hc H1 G1 B1 ch1 h1 f1=>⟨(by decide),fun p hp=>by
    refine k _ G1 B1 ch1 p (h1.mono (Same.new hp)) (f1.up (Same.new hp)) (fun a o e m z=>?_) ?_
    . rw[z] at e m
      rw[f1.kept p o e m] at hp
      cases hp
    . rw[IL,zf,enc,acS hc]
      rfl⟩
   have tell:(9<=(zy c).1/\(zy c).1<=15/\(zy c).1≠13)->Vanbki.step s c=(s,(Vanbki.step s c).2)->∀ H' p,Same H H'->H p=none->IL H' p (enc (Vanbki.step s c).2)->Q (.ref p) H':=fun hc e H1 p s1 hp hi=>by
    refine k H1 G B ch p (by rw[e];exact hb.mono s1) (Fr.same s1) (fun a o ea _ z=>?_) hi
    rw[z,hp] at ea
    cases ea
   cases c with
   | base t =>
    refine⟨_,rfl,rfl,_,rfl,zM ?_⟩
    exact⟨_,rfl,_,rfl,G,B,ch,s,rl,t,rfl,hb,hb.gh _ _ hrl,hz,one (by simp[zy])⟩
   | swap =>
    refine⟨_,rfl,rfl,_,rfl,zE ?_⟩
    refine⟨_,rfl,_,_,rfl,rfl,_,rfl,zE ?_⟩
    refine⟨_,rfl,rfl,_,rfl,zM ?_⟩
    exact⟨_,rfl,G,B,ch,s,rfl,hb,one (by simp[zy])⟩
   | choose d n m =>
    refine⟨_,rfl,rfl,_,rfl,zE ?_⟩
    refine⟨_,rfl,_,_,rfl,rfl,_,rfl,zE ?_⟩
    refine⟨_,rfl,rfl,_,rfl,zE ?_⟩
    refine⟨_,rfl,rfl,_,rfl,zM ?_⟩
    exact⟨_,rfl,_,rfl,wl,_,_,_,rfl,rfl,SqL.of hw,t0,_,rfl,wl,_,_,_,rfl,rfl,SqL.of hw,t1,_,rfl,wl,_,_,_,rfl,rfl,SqL.of hw,t2,G,B,ch,s,d,n,m,rfl,hb,one (by simp[zy])⟩
   | adopt =>
    refine⟨_,rfl,rfl,_,rfl,zE ?_⟩
    refine⟨_,rfl,_,_,rfl,rfl,_,rfl,zE ?_⟩
    refine⟨_,rfl,rfl,_,rfl,zE ?_⟩
    refine⟨_,rfl,rfl,_,rfl,zE ?_⟩
    refine⟨_,rfl,_,_,rfl,rfl,_,rfl,zE ?_⟩
    exact⟨_,rfl,G,B,ch,s,rfl,hb,one (by simp[zy])⟩
   | document d =>
    refine⟨_,rfl,rfl,_,rfl,zE ?_⟩
    refine⟨_,rfl,_,_,rfl,rfl,_,rfl,zE ?_⟩
    refine⟨_,rfl,rfl,_,rfl,zE ?_⟩
    refine⟨_,rfl,rfl,_,rfl,zE ?_⟩
    refine⟨_,rfl,_,_,rfl,rfl,_,rfl,zM ?_⟩
    exact⟨_,rfl,_,rfl,_,rfl,G,B,ch,s,_,wl,rfl,by simp[zy],hb,hw,tell (by simp[zy]) (vA (by simp[zy]))⟩
   | changes d =>
    refine⟨_,rfl,rfl,_,rfl,zE ?_⟩
    refine⟨_,rfl,_,_,rfl,rfl,_,rfl,zE ?_⟩
    refine⟨_,rfl,rfl,_,rfl,zE ?_⟩
    refine⟨_,rfl,rfl,_,rfl,zE ?_⟩
    refine⟨_,rfl,_,_,rfl,rfl,_,rfl,zM ?_⟩
    exact⟨_,rfl,_,rfl,_,rfl,G,B,ch,s,_,wl,rfl,by simp[zy],hb,hw,tell (by simp[zy]) (vA (by simp[zy]))⟩
   | change d n =>
    refine⟨_,rfl,rfl,_,rfl,zE ?_⟩
    refine⟨_,rfl,_,_,rfl,rfl,_,rfl,zE ?_⟩
    refine⟨_,rfl,rfl,_,rfl,zE ?_⟩
    refine⟨_,rfl,rfl,_,rfl,zE ?_⟩
    refine⟨_,rfl,_,_,rfl,rfl,_,rfl,zM ?_⟩
    exact⟨_,rfl,_,rfl,_,rfl,G,B,ch,s,_,wl,rfl,by simp[zy],hb,hw,tell (by simp[zy]) (vA (by simp[zy]))⟩
   | conflicts =>
    refine⟨_,rfl,rfl,_,rfl,zE ?_⟩
    refine⟨_,rfl,_,_,rfl,rfl,_,rfl,zE ?_⟩
    refine⟨_,rfl,rfl,_,rfl,zE ?_⟩
    refine⟨_,rfl,rfl,_,rfl,zE ?_⟩
    refine⟨_,rfl,_,_,rfl,rfl,_,rfl,zM ?_⟩
    exact⟨_,rfl,_,rfl,_,rfl,G,B,ch,s,_,wl,rfl,by simp[zy],hb,hw,tell (by simp[zy]) (vA (by simp[zy]))⟩
   | merged =>
    refine⟨_,rfl,rfl,_,rfl,zE ?_⟩
    refine⟨_,rfl,_,_,rfl,rfl,_,rfl,zE ?_⟩
    refine⟨_,rfl,rfl,_,rfl,zE ?_⟩
    refine⟨_,rfl,rfl,_,rfl,zE ?_⟩
    refine⟨_,rfl,_,_,rfl,rfl,_,rfl,zM ?_⟩
    exact⟨_,rfl,_,rfl,_,rfl,G,B,ch,s,_,wl,rfl,by simp[zy],hb,hw,tell (by simp[zy]) (vA (by simp[zy]))⟩
   | origins =>
    refine⟨_,rfl,rfl,_,rfl,zE ?_⟩
    refine⟨_,rfl,_,_,rfl,rfl,_,rfl,zE ?_⟩
    refine⟨_,rfl,rfl,_,rfl,zE ?_⟩
    refine⟨_,rfl,rfl,_,rfl,zE ?_⟩
    refine⟨_,rfl,_,_,rfl,rfl,_,rfl,zM ?_⟩
    exact⟨_,rfl,_,rfl,_,rfl,G,B,ch,s,_,wl,rfl,by simp[zy],hb,hw,tell (by simp[zy]) (vA (by simp[zy]))⟩
   | new d a t =>
    refine⟨_,rfl,rfl,_,rfl,zE ?_⟩
    refine⟨_,rfl,_,_,rfl,rfl,_,rfl,zM ?_⟩
    exact⟨_,rfl,_,rfl,_,rfl,_,rfl,G,B,ch,s,_,wl,rl,rfl,by simp[zy],hb,hw,hrl,hz,one (by simp[zy])⟩
   | write d a t =>
    refine⟨_,rfl,rfl,_,rfl,zE ?_⟩
    refine⟨_,rfl,_,_,rfl,rfl,_,rfl,zM ?_⟩
    exact⟨_,rfl,_,rfl,_,rfl,_,rfl,G,B,ch,s,_,wl,rl,rfl,by simp[zy],hb,hw,hrl,hz,one (by simp[zy])⟩
   | move d a t =>
    refine⟨_,rfl,rfl,_,rfl,zE ?_⟩
    refine⟨_,rfl,_,_,rfl,rfl,_,rfl,zM ?_⟩
    exact⟨_,rfl,_,rfl,_,rfl,_,rfl,G,B,ch,s,_,wl,rl,rfl,by simp[zy],hb,hw,hrl,hz,one (by simp[zy])⟩
   | drop d a =>
    refine⟨_,rfl,rfl,_,rfl,zE ?_⟩
    refine⟨_,rfl,_,_,rfl,rfl,_,rfl,zM ?_⟩
    exact⟨_,rfl,_,rfl,_,rfl,_,rfl,G,B,ch,s,_,wl,rl,rfl,by simp[zy],hb,hw,hrl,hz,one (by simp[zy])⟩
   | hide d a t =>
    refine⟨_,rfl,rfl,_,rfl,zE ?_⟩
    refine⟨_,rfl,_,_,rfl,rfl,_,rfl,zM ?_⟩
    exact⟨_,rfl,_,rfl,_,rfl,_,rfl,G,B,ch,s,_,wl,rl,rfl,by simp[zy],hb,hw,hrl,hz,one (by simp[zy])⟩
   | copy d =>
    refine⟨_,rfl,rfl,_,rfl,zE ?_⟩
    refine⟨_,rfl,_,_,rfl,rfl,_,rfl,zM ?_⟩
    exact⟨_,rfl,_,rfl,_,rfl,_,rfl,G,B,ch,s,_,wl,rl,rfl,by simp[zy],hb,hw,hrl,hz,one (by simp[zy])⟩
   | reset d =>
    refine⟨_,rfl,rfl,_,rfl,zE ?_⟩
    refine⟨_,rfl,_,_,rfl,rfl,_,rfl,zM ?_⟩
    exact⟨_,rfl,_,rfl,_,rfl,_,rfl,G,B,ch,s,_,wl,rl,rfl,by simp[zy],hb,hw,hrl,hz,one (by simp[zy])⟩
end
end Tb
end
section
namespace Tb
open PySem PySem.Spec PyProof.Rows L2
open Vanbki (nats ofNat markNat numbers)
def ya (k:Vanbki.Call):List Int:=((zy k).1:Int)::((zy k).2.1++(if (zy k).1<=2 then ((zy k).2.2.length:Int)::(zy k).2.2 else []))
theorem JA {l:List α} (h:l.length=1):∃ x,l=[x]:=List.length_eq_one_iff.mp h
theorem WK:∀ {l:List α},l.length=2->∃ x y,l=[x,y]
 | [x,y],_=>⟨x,y,rfl⟩
theorem WL:∀ {l:List α},l.length=3->∃ x y z,l=[x,y,z]
 | [x,y,z],_=>⟨x,y,z,rfl⟩
structure adj (c:List (List Int)) (k:Vanbki.Call):Prop where
 of:VanbkiNeutral.callOf c=some k
 put:PyFlat.put1 c=ya k
 wh:wholesT[(zy k).1]?=some (zy k).2.1.length
 rw:rowsT[(zy k).1]?=some (if (zy k).1<=2 then 1 else 0)
 no:2<(zy k).1->(zy k).2.2=[]
theorem WM {c:List (List Int)} (h:PyFlat.okCall PyVanbki.shape c):∃ k,adj c k:=by
 obtain⟨p,a,xs,rfl,hs⟩:=h
 obtain⟨i,rfl,hi,hw,hr⟩:=X5 hs
 have e0:∀ {l:List Int},PyFlat.put1 [l]=l:=fun {l}=>by simp[PyFlat.put1,PyFlat.putRows]
 match i,hi,hw,hr with
 | 0,_,hw,hr =>
  obtain rfl:=List.length_eq_zero_iff.mp (Option.some.inj hw).symm
  obtain⟨t,rfl⟩:=JA (Option.some.inj hr).symm
  exact⟨.base t,rfl,by simp[PyFlat.put1,PyFlat.putRows,PyFlat.putRow,ya,zy],rfl,rfl,fun h=>absurd h (by simp[zy])⟩
 | 1,_,hw,hr =>
  obtain⟨x,y,rfl⟩:=WK (Option.some.inj hw).symm
  obtain⟨t,rfl⟩:=JA (Option.some.inj hr).symm
  exact⟨.new x y t,rfl,by simp[PyFlat.put1,PyFlat.putRows,PyFlat.putRow,ya,zy],rfl,rfl,fun h=>absurd h (by simp[zy])⟩
 | 2,_,hw,hr =>
  obtain⟨x,y,rfl⟩:=WK (Option.some.inj hw).symm
  obtain⟨t,rfl⟩:=JA (Option.some.inj hr).symm
  exact⟨.write x y t,rfl,by simp[PyFlat.put1,PyFlat.putRows,PyFlat.putRow,ya,zy],rfl,rfl,fun h=>absurd h (by simp[zy])⟩
 | 3,_,hw,hr =>
  obtain⟨x,y,z,rfl⟩:=WL (Option.some.inj hw).symm
  obtain rfl:=List.length_eq_zero_iff.mp (Option.some.inj hr).symm
  exact⟨.move x y z,rfl,by simp[e0,ya,zy],rfl,rfl,fun _=>rfl⟩
 | 4,_,hw,hr =>
  obtain⟨x,y,rfl⟩:=WK (Option.some.inj hw).symm
  obtain rfl:=List.length_eq_zero_iff.mp (Option.some.inj hr).symm
  exact⟨.drop x y,rfl,by simp[e0,ya,zy],rfl,rfl,fun _=>rfl⟩
 | 5,_,hw,hr =>
  obtain⟨x,y,z,rfl⟩:=WL (Option.some.inj hw).symm
  obtain rfl:=List.length_eq_zero_iff.mp (Option.some.inj hr).symm
  exact⟨.hide x y z,rfl,by simp[e0,ya,zy],rfl,rfl,fun _=>rfl⟩
 | 6,_,hw,hr =>
  obtain⟨x,rfl⟩:=JA (Option.some.inj hw).symm
  obtain rfl:=List.length_eq_zero_iff.mp (Option.some.inj hr).symm
  exact⟨.copy x,rfl,by simp[e0,ya,zy],rfl,rfl,fun _=>rfl⟩
 | 7,_,hw,hr =>
  obtain⟨x,rfl⟩:=JA (Option.some.inj hw).symm
  obtain rfl:=List.length_eq_zero_iff.mp (Option.some.inj hr).symm
  exact⟨.reset x,rfl,by simp[e0,ya,zy],rfl,rfl,fun _=>rfl⟩
 | 8,_,hw,hr =>
  obtain rfl:=List.length_eq_zero_iff.mp (Option.some.inj hw).symm
  obtain rfl:=List.length_eq_zero_iff.mp (Option.some.inj hr).symm
  exact⟨.swap,rfl,by simp[e0,ya,zy],rfl,rfl,fun _=>rfl⟩
 | 9,_,hw,hr =>
  obtain⟨x,rfl⟩:=JA (Option.some.inj hw).symm
  obtain rfl:=List.length_eq_zero_iff.mp (Option.some.inj hr).symm
  exact⟨.document x,rfl,by simp[e0,ya,zy],rfl,rfl,fun _=>rfl⟩
 | 10,_,hw,hr =>
  obtain⟨x,rfl⟩:=JA (Option.some.inj hw).symm
  obtain rfl:=List.length_eq_zero_iff.mp (Option.some.inj hr).symm
  exact⟨.changes x,rfl,by simp[e0,ya,zy],rfl,rfl,fun _=>rfl⟩
 | 11,_,hw,hr =>
  obtain⟨x,y,rfl⟩:=WK (Option.some.inj hw).symm
  obtain rfl:=List.length_eq_zero_iff.mp (Option.some.inj hr).symm
  exact⟨.change x y,rfl,by simp[e0,ya,zy],rfl,rfl,fun _=>rfl⟩
 | 12,_,hw,hr =>
  obtain rfl:=List.length_eq_zero_iff.mp (Option.some.inj hw).symm
  obtain rfl:=List.length_eq_zero_iff.mp (Option.some.inj hr).symm
  exact⟨.conflicts,rfl,by simp[e0,ya,zy],rfl,rfl,fun _=>rfl⟩
 | 13,_,hw,hr =>
  obtain⟨x,y,z,rfl⟩:=WL (Option.some.inj hw).symm
  obtain rfl:=List.length_eq_zero_iff.mp (Option.some.inj hr).symm
  exact⟨.choose x y z,rfl,by simp[e0,ya,zy],rfl,rfl,fun _=>rfl⟩
 | 14,_,hw,hr =>
  obtain rfl:=List.length_eq_zero_iff.mp (Option.some.inj hw).symm
  obtain rfl:=List.length_eq_zero_iff.mp (Option.some.inj hr).symm
  exact⟨.merged,rfl,by simp[e0,ya,zy],rfl,rfl,fun _=>rfl⟩
 | 15,_,hw,hr =>
  obtain rfl:=List.length_eq_zero_iff.mp (Option.some.inj hw).symm
  obtain rfl:=List.length_eq_zero_iff.mp (Option.some.inj hr).symm
  exact⟨.origins,rfl,by simp[e0,ya,zy],rfl,rfl,fun _=>rfl⟩
 | 16,_,hw,hr =>
  obtain rfl:=List.length_eq_zero_iff.mp (Option.some.inj hw).symm
  obtain rfl:=List.length_eq_zero_iff.mp (Option.some.inj hr).symm
  exact⟨.adopt,rfl,by simp[e0,ya,zy],rfl,rfl,fun _=>rfl⟩
 | i+17,hi,_,_=>omega
theorem Zk:∀ (cs ds:List (List (List Int))),PyFlat.put (cs++ds)=PyFlat.put cs++PyFlat.put ds
 | [],ds=>rfl
 | c::cs,ds=>by
  rw[List.cons_append,PyFlat.put,PyFlat.put,Zk cs ds,List.append_assoc]
def ku (s:Vanbki.State) (cs:List (List (List Int))):Vanbki.State:=cs.foldl (fun s c=>(VanbkiNeutral.step s c).1) s
theorem Jg (c:List (List Int)):∀ (cs:List (List (List Int))) (s:Vanbki.State),PyFlat.played VanbkiNeutral.step s (cs++[c])=PyFlat.played VanbkiNeutral.step s cs++[(VanbkiNeutral.step (ku s cs) c).2]
 | [],s=>rfl
 | d::cs,s=>by
  rw[List.cons_append,PyFlat.played,PyFlat.played,Jg c cs]
  rfl
theorem YH (s:Vanbki.State) (cs:List (List (List Int))) (c:List (List Int)):ku s (cs++[c])=(VanbkiNeutral.step (ku s cs) c).1:=by
 unfold ku
 rw[List.foldl_append]
 rfl
theorem aaj (l:List (List Int)) (a:List Int):PyFlat.told (l++[a])=PyFlat.told l++((a.length:Int)::a):=by
 unfold PyFlat.told
 rw[List.flatMap_append]
 simp
theorem Ui {s:Vanbki.State}{c:List (List Int)}{k:Vanbki.Call} (h:VanbkiNeutral.callOf c=some k):VanbkiNeutral.step s c=((Vanbki.step s k).1,enc (Vanbki.step s k).2):=by
 unfold VanbkiNeutral.step
 rw[h]
 rfl
theorem BooksAt.addG {C:Ad}{H G:Hp}{B:Bk}{ch:Chs}{s:Vanbki.State}{q:Addr}{o:HO} (h:BooksAt C H G B ch s) (e:H q=some o) (hq:¬q∈B.muts) (hg:G q=none):BooksAt C H (upd G q o) B ch s:=by
 have sg:Same G (upd G q o):=Same.new hg
 obtain⟨as0,f0,c0⟩:=h.c0
 obtain⟨as1,f1,c1⟩:=h.c1
 obtain⟨as2,f2,c2⟩:=h.c2
 refine⟨h.bk,h.sd,h.s1,h.s2,⟨as0,sg _ _ f0,c0.mono sg⟩,⟨as1,f1,c1.mono sg⟩,⟨as2,f2,c2.mono sg⟩,h.dc,h.co,fun y u ey=>?_,fun y hy=>?_,h.ne,h.ok⟩
 . by_cases z:y=q
   . rw[z,zf] at ey
     rw[z,e,<-ey]
   . rw[zh z] at ey
     exact h.gh _ _ ey
 . rw[zh (fun z:y=q=>hq (z▸hy))]
   exact h.fr y hy
theorem acf {l A ws T:List Int}{x:Int} (h:l=A++x::(ws++T)):(l.map V.int)[A.length]?=some (.int x)/\uF (l.map V.int) (some ((A.length:Nat)+1:Int)) (some ((A.length:Nat)+1+(ws.length:Nat):Int))=ws.map V.int/\A.length+1+ws.length<=l.length:=by
 have hlen:A.length+1+ws.length<=l.length:=by
  rw[h]
  simp only[List.length_append,List.length_cons]
  omega
 refine⟨?_,?_,hlen⟩
 . rw[List.getElem?_map,h,List.getElem?_append_right (Nat.le_refl _),Nat.sub_self]
   rfl
 . have:=ZZ (xs:=l.map V.int) (i:=A.length+1) (j:=A.length+1+ws.length) (by rw[List.length_map];omega) (by rw[List.length_map];omega)
   rw[show A.length+1+ws.length - (A.length+1)=ws.length by omega] at this
   refine Eq.trans ?_ (this.trans ?_)
   . rfl
   . rw[<-List.map_drop,<-List.map_take]
     congr 1
     have e:l=(A++[x])++(ws++T):=by rw[h];simp
     rw[e,List.drop_left' (by simp),List.take_left' rfl]
theorem aak {i n:Nat} (h:wholesT[i]?=some n):atI (([0,2,2,3,2,3,1,1,0,1,1,2,0,3,0,0,0]:List Int).map V.int) ((i:Nat):Int)=some (.int (n:Nat)):=by
 refine q5 ?_
 show ((wholesT.map fun n:Nat=>(n:Int)).map V.int)[i]?=_
 rw[List.map_map,List.getElem?_map,h]
 rfl
theorem ab9 {i n:Nat} (h:rowsT[i]?=some n):atI (([1,1,1,0,0,0,0,0,0,0,0,0,0,0,0,0,0]:List Int).map V.int) ((i:Nat):Int)=some (.int (n:Nat)):=by
 refine q5 ?_
 show ((rowsT.map fun n:Nat=>(n:Int)).map V.int)[i]?=_
 rw[List.map_map,List.getElem?_map,h]
 rfl
def Zl (K:PySem.W.Frag):Sp:=fun vs H Q _=>∃ a l,vs=[.ref a]/\SqL K H a (l.map V.int)/\l.length<=16000/\PyVanbki.answers_asked l=true/\∀ H' p,IL H' p (PyVanbki.answers l)->Q (.ref p) H'
section
variable {P:Program}{w:World}{K:PySem.W.Frag}{mg:Str->Option Value}{base:Heap}{C:Ad}{f:Addr}{fd:FuncData}
theorem WN {f1:Addr}{fd1:FuncData}{f2:Addr}{fd2:FuncData} (F:Fun K "answers" "answers" uA f fd) (T:Txt K mg C) (D_Books:Cdf P w K mg base "Books" 3 ["self"] (Z1 C) C.cBooks f1 fd1) (D_answer_of:Def P w K mg base "answer_of" 11 ["books","call","wholes","row"] (wo C) f2 fd2):z_ P w K mg base CX0 12 f fd ["calls"] (Zl K):=by
 refine F.ok sc_answers (fun vs H Q E h=>?_) (fun cdv A outer s H vs Q E hr h=>?_)
 . obtain⟨a,l,rfl,_⟩:=h
   rfl
 . obtain⟨a,l,rfl,hs,hz,hask,k⟩:=h
   refine⟨_,(ze (zu (i:=1) sc_answers.nd rfl (Or.inl rfl) (UO D_Books (hr.mono (by decide))))
    (ze (zu (i:=2) sc_answers.nd rfl (Or.inl rfl) (qb zi))
    (ze (zu (i:=3) sc_answers.nd rfl (Or.inl rfl) zH)
    (ze (K6 PassesOwn.never (zz K8 (pv 3) (zW qY (by rfl) T.b_len qX (za (pv 0) zi)) (zF _)) (ze (zu (i:=4) sc_answers.nd rfl (Or.inl rfl) (qy qj (pv 0) (pv 3) (fun _ _=>rfl)))
    (ze (zu (i:=5) sc_answers.nd rfl (Or.inl rfl) (jK w4 (pv 3) zH))
    (ze (zu (i:=3) sc_answers.nd rfl (Or.inl rfl) (jK w4 (pv 5) (qy kR (ZI (v:=.ref C.aWHOLES) rfl T.g_WHOLES rfl) (pv 4) (fun _ _=>rfl))))
    (ze (zu (i:=6) sc_answers.nd rfl (Or.inl rfl) (vQ yY (pv 0) (jY (pv 5)) (jY (pv 3))))
    (ze (zu (i:=7) sc_answers.nd rfl (Or.inl rfl) (qb zi))
    (ze (zI (zz qT (qy kR (ZI (v:=.ref C.aROWS) rfl T.g_ROWS rfl) (pv 4) (fun _ _=>rfl)) zH (zF _)) (ze (zu (i:=5) sc_answers.nd rfl (Or.inl rfl) (jK w4 (pv 3) zH))
    (ze (zu (i:=3) sc_answers.nd rfl (Or.inl rfl) (jK w4 (pv 5) (qy qj (pv 0) (pv 3) (fun _ _=>rfl))))
    (zj (zu (i:=7) sc_answers.nd rfl (Or.inl rfl) (vQ yY (pv 0) (jY (pv 5)) (jY (pv 3))))))) zw)
    (ze (zu (i:=8) sc_answers.nd rfl (Or.inl rfl) (zk D_answer_of (hr.mono (by decide)) (za (pv 1) (za (pv 4) (za (pv 6) (za (pv 7) zi))))))
    (ze (qA (jL PySem.F.plainAttrs_list PySem.F.slot_list_append PySem.F.type_list_append ji (pv 2) (za (zW qY (by rfl) T.b_len qX (za (pv 8) zi)) zi)))
    (zj (qA (jL PySem.F.plainAttrs_list PySem.F.slot_list_extend PySem.F.type_list_extend jE (pv 2) (za (pv 8) zi)))))))))))))
    (zj (zo (pv 2))))))),?_⟩
   obtain⟨cs,hcs,h400⟩:∃ cs,PyVanbki.calls l=some cs/\cs.length<=400:=by
    unfold PyVanbki.answers_asked at hask
    cases e:PyVanbki.calls l with
    | none=>rw[e] at hask;cases hask
    | some cs =>
     rw[e] at hask
     have hask:(PyFlat.atMost 400 cs && VanbkiNeutral.asked cs)=true:=hask
     rw[Bool.and_eq_true] at hask
     exact⟨cs,rfl,of_decide_eq_true hask.1⟩
   obtain⟨hput,hok⟩:=W4 hcs
   have hans:PyVanbki.answers l=PyFlat.told (PyFlat.played VanbkiNeutral.step VanbkiNeutral.start cs):=by
    unfold PyVanbki.answers
    rw[hcs]
   rw[hans] at k
   intro b dx nb nd ne
   refine⟨b,dx,rfl,zf,fun H1 G B hB hb0 kp nM nG=>⟨rfl,?_⟩⟩
   refine⟨Nat.zero_le _,fun q hq=>?_⟩
   have s01:Same H H1:=fun y o e=>kp y o (by rw[zh (zg e nb),zh (zg e nd)];exact e) (zg e nb)
   have Hq:H q=none:=s01.free hq
   refine⟨fun μ σ H'=>∃ done rest,cs=done++rest/\μ=rest.length/\(∃ v4 v5 v6 v7 v8,σ=[some (.ref a),some (.ref b),some (.ref q),some (.int ((PyFlat.put done).length:Nat)),v4,v5,v6,v7,v8])/\Same H H'/\IL H' q (PyFlat.told (PyFlat.played VanbkiNeutral.step VanbkiNeutral.start done))/\(PyFlat.told (PyFlat.played VanbkiNeutral.step VanbkiNeutral.start done)).length<=2438 * done.length /\
    ∃ G B ch,Bk.b B=b/\BooksAt C H' G B ch (ku VanbkiNeutral.start done)/\¬q∈B.muts/\G q=none/\∀ y,y∈B.muts->H y=none,
    ⟨cs.length,[],cs,rfl,rfl,⟨none,none,none,none,none,rfl⟩,s01.trans (Same.new hq),zf,Nat.zero_le _,G,B,[],hB,hb0.mono (Same.new hq),hb0.notNew hq,hb0.gh.free hq,fun y hy=>?_⟩,?_⟩
   . rcases nM y hy with z | z
     . rw[z]
       exact nb
     . have h1:y≠b:=fun e=>by rw[e,zf] at z;cases z
       rw[zh h1] at z
       have h2:y≠dx:=fun e=>by rw[e,zf] at z;cases z
       rw[zh h2] at z
       exact z
   . rintro μ σ H' ⟨done,rest,hcs',rfl,⟨v4,v5,v6,v7,v8,rfl⟩,s1,et,ht,G,B,ch,rfl,hb,qm,qg,mH⟩
     have hs':=s1.seq hs
     have hl:l=PyFlat.put done++PyFlat.put rest:=by rw[<-hput,hcs',Zk]
     refine⟨_,rfl,_,rfl,a,_,rfl,.inl hs',_,_,rfl,rfl,_,rfl,?_⟩
     cases rest with
     | nil =>
      rw[List.append_nil] at hcs'
      subst hcs'
      have hll:l.length=(PyFlat.put cs).length:=by rw[hl];simp[PyFlat.put]
      rw[decide_eq_false (by rw[List.length_map,hll];omega)]
      exact zE ⟨_,rfl,k H' q et⟩
     | cons c rest =>
      obtain⟨kc,hk⟩:=WM (hok c (by rw[hcs'];simp))
      have hl2:l=PyFlat.put done++(ya kc++PyFlat.put rest):=by rw[hl,PyFlat.put,hk.put]
      obtain⟨p1,p2,p3⟩:=acf (l:=l) (A:=PyFlat.put done) (x:=((zy kc).1:Int)) (ws:=(zy kc).2.1) (T:=(if (zy kc).1<=2 then ((zy kc).2.2.length:Int)::(zy kc).2.2 else [])++PyFlat.put rest) (by rw[hl2];simp[ya])
      rw[decide_eq_true (by rw[List.length_map];omega)]
      refine zM ?_
      refine⟨_,fun σ' H' h=>h,?_⟩
      refine⟨_,rfl,_,rfl,a,_,_,_,rfl,rfl,hs',q5 p1,?_⟩
      refine⟨_,rfl,_,_,rfl,rfl,?_⟩
      refine⟨_,rfl,_,rfl,C.aWHOLES,_,_,_,rfl,rfl,T.s_WHOLES _,aak hk.wh,_,_,rfl,rfl,?_⟩
      refine⟨_,rfl,_,rfl,_,rfl,_,rfl,_,rfl,a,_,rfl,hs',fun wl nwl=>?_⟩
      rw[p2]
      refine⟨Nat.zero_le _,fun r0 nr0=>?_⟩
      refine⟨_,rfl,C.aROWS,_,_,_,rfl,rfl,T.s_ROWS _,ab9 hk.rw,rfl,_,rfl,?_⟩
      have hq0:∀ {y:Addr},H' y=none->q≠y:=fun hy=>zg et hy
      have hdl:done.length<400:=by
       rw[hcs',List.length_append,List.length_cons] at h400
       omega
      have hcs2:cs=(done++[c])++rest:=by rw[hcs'];simp
      have hput2:PyFlat.put (done++[c])=PyFlat.put done++ya kc:=by
       rw[Zk,PyFlat.put,hk.put]
       simp[PyFlat.put]
      have hrow:(zy kc).2.2.length<=16000:=by
       by_cases h2:(zy kc).1<=2
       . have:=congrArg List.length hl2
         rw[ya,if_pos h2] at this
         simp only[List.length_append,List.length_cons] at this
         omega
       . rw[hk.no (by omega)]
         exact Nat.zero_le _
      have hmore:=Um hb.ok kc
      have henc:(enc (Vanbki.step (ku VanbkiNeutral.start done) kc).2).length<=2437:=by
       show (Vanbki.step (ku VanbkiNeutral.start done) kc).2.more.length+1<=2437
       omega
      have htold:PyFlat.told (PyFlat.played VanbkiNeutral.step VanbkiNeutral.start (done++[c]))=PyFlat.told (PyFlat.played VanbkiNeutral.step VanbkiNeutral.start done)++(((enc (Vanbki.step (ku VanbkiNeutral.start done) kc).2).length:Int)::enc (Vanbki.step (ku VanbkiNeutral.start done) kc).2):=by
       rw[Jg,aaj,Ui hk.of]
      have hst:ku VanbkiNeutral.start (done++[c])=(Vanbki.step (ku VanbkiNeutral.start done) kc).1:=by rw[YH,Ui hk.of]
      have tail:∀ (D:Y5) (H5:Hp) (rl:Addr) (v5:Option V) (pl:Int),pl=((PyFlat.put (done++[c])).length:Nat)->Same H' H5->IL H5 wl (zy kc).2.1->IL H5 rl (zy kc).2.2->H' rl=none ->
       (∀ σ' H6,(∃ m',m'<(c::rest).length/\∃ done rest,cs=done++rest/\m'=rest.length/\(∃ v4 v5 v6 v7 v8,σ'=[some (.ref a),some (.ref B.b),some (.ref q),some (.int ((PyFlat.put done).length:Nat)),v4,v5,v6,v7,v8])/\Same H H6/\IL H6 q (PyFlat.told (PyFlat.played VanbkiNeutral.step VanbkiNeutral.start done))/\(PyFlat.told (PyFlat.played VanbkiNeutral.step VanbkiNeutral.start done)).length<=2438 * done.length /\
        ∃ G B' ch,Bk.b B'=B.b/\BooksAt C H6 G B' ch (ku VanbkiNeutral.start done)/\¬q∈B'.muts/\G q=none/\∀ y,y∈B'.muts->H y=none)->D.nx σ' H6) ->
       KY (Y9 (W_ (wo C) [] E0 (qD (qC 1) (qD (qC 4) (qD (qC 6) (qD (qC 7) xL))))) (wq 8)) (KY (WU (tBM K "list" Yf (qC 2) (qD (tCB (ab0 K) (qD (qC 8) xL)) xL))) (WU (tBM K "list" U1 (qC 2) (qD (qC 8) xL)))) D [some (.ref a),some (.ref B.b),some (.ref q),some (.int pl),some (.int ((zy kc).1:Nat)),v5,some (.ref wl),some (.ref rl),v8] H5:=by
       intro D H5 rl v5 pl hpl s5 hwl hrl nrl hD
       have ql:=hq0 nrl
       have hb5:BooksAt C H5 (upd G rl (.lst ((zy kc).2.2.map V.int))) B ch _:=(hb.mono s5).addG hrl (hb.notNew nrl) (hb.gh.free nrl)
       refine⟨_,rfl,_,rfl,_,rfl,_,rfl,_,B,ch,_,kc,wl,rl,rfl,hb5,hwl,zf,hrow,fun H6 G6 B6 ch6 p h6 f6 np ep=>?_⟩
       have et5:=s5 _ _ et
       have et6:=f6.kept q _ et5 qm
       have qp:q≠p:=np q _ et5 qm
       have qm6:¬q∈B6.muts:=fun z=>by
        rcases f6.newM q z with z | z
        . exact qm z
        . rw[et5] at z;cases z
       have qg6:G6 q=none:=by
        cases e:G6 q with
        | none=>rfl
        | some o =>
         rcases f6.newG q o e with z | z
         . rw[zh ql,qg] at z;cases z
         . rw[et5] at z;cases z
       refine⟨_,rfl,.inl ⟨rfl,_,SqL.of et6⟩,_,rfl,p,_,rfl,.inl (SqL.of ep),q,_,_,rfl,rfl,et6,(by rw[List.length_map];exact qU (by omega)),?_⟩
       refine⟨_,rfl,.inl ⟨rfl,_,SqL.of zf⟩,_,rfl,q,p,_,_,rfl,rfl,zf,(by rw[zh (Ne.symm qp)];exact ep),(by rw[List.length_append,List.length_map,List.length_map];show _+1+_<=_;exact qN (by omega)),?_⟩
       refine hD _ _ ⟨rest.length,(by rw[List.length_cons];omega),done++[c],rest,hcs2,rfl,⟨_,_,_,_,_,by rw[<-hpl];rfl⟩,fun y o e=>?_,?_,?_,G6,B6,ch6,f6.b,?_,qm6,qg6,fun y hy=>?_⟩
       . have yq:y≠q:=zg e Hq
         rw[zh yq,zh yq]
         exact f6.kept y o (s5 _ _ (s1 _ _ e)) (fun m=>by rw[mH y m] at e;cases e)
       . rw[IL,zf,htold]
         simp
       . rw[htold,List.length_append,List.length_cons,List.length_append]
         show _<=2438 * (done.length+1)
         omega
       . rw[hst]
         exact (h6.other qm6 qg6).other qm6 qg6
       . rcases f6.newM y hy with z | z
         . exact mH y z
         . exact (s1.trans s5).free z
      have s2:=Same.new (o:=.lst ((zy kc).2.1.map V.int)) nwl
      have s3:=s2.trans (Same.new (o:=.lst []) nr0)
      have ewl:IL (upd (upd H' wl (.lst ((zy kc).2.1.map V.int))) r0 (.lst [])) wl (zy kc).2.1:=Same.new nr0 _ _ zf
      by_cases h2:(zy kc).1<=2
      . obtain⟨r1,r2,r3⟩:=acf (l:=l) (A:=PyFlat.put done++((zy kc).1:Int)::(zy kc).2.1) (x:=((zy kc).2.2.length:Int)) (ws:=(zy kc).2.2) (T:=PyFlat.put rest) (by rw[hl2,ya,if_pos h2];simp)
        have eA:(PyFlat.put done++((zy kc).1:Int)::(zy kc).2.1).length=(PyFlat.put done).length+1+(zy kc).2.1.length:=by
         simp only[List.length_append,List.length_cons]
         omega
        rw[if_pos h2]
        refine zM ?_
        have r1':atI (l.map V.int) ((((PyFlat.put done).length:Nat):Int)+1+(((zy kc).2.1.length:Nat):Int))=some (.int ((zy kc).2.2.length:Int)):=by
         have h:=q5 r1
         rw[eA] at h
         exact h
        have r2':uF (l.map V.int) (some ((((PyFlat.put done).length:Nat):Int)+1+(((zy kc).2.1.length:Nat):Int)+1)) (some ((((PyFlat.put done).length:Nat):Int)+1+(((zy kc).2.1.length:Nat):Int)+1+(((zy kc).2.2.length:Nat):Int)))=(zy kc).2.2.map V.int:=by
         have h:=r2
         rw[eA] at h
         exact h
        have hs3:=s3.seq hs'
        refine⟨_,rfl,_,_,rfl,rfl,?_⟩
        refine⟨_,rfl,_,rfl,_,rfl,a,_,_,_,rfl,rfl,hs3,r1',_,_,rfl,rfl,?_⟩
        refine⟨_,rfl,_,rfl,_,rfl,_,rfl,_,rfl,a,_,rfl,hs3,fun rl nrl=>?_⟩
        rw[r2']
        refine tail _ _ rl _ _ ?_ (s3.trans (Same.new nrl)) (Same.new nrl _ _ ewl) zf (s3.free nrl) fun σ' H6 h=>h
        rw[hput2,List.length_append,ya,if_pos h2]
        simp
        omega
      . rw[if_neg h2]
        refine zE ?_
        refine tail _ _ r0 _ _ ?_ s3 ewl (by rw[hk.no (by omega)];exact zf) (s2.free nr0) fun σ' H6 h=>h
        rw[hput2,List.length_append,ya,if_neg h2]
        simp
        omega
end
end Tb
end
section
namespace Tb
open PySem PySem.Spec PyProof.Rows L2
abbrev fn0 (x q:Str) (st:Stmt) (kV doc pm:Value) (an:Option Addr) (cdv ct:Value):FuncData:=PySem.W.fnOf x q (w8 st) (x5 st) (zt st) .none kV doc pm an cdv ct
def Bd (x q:Str) (st:Stmt) (ps:List Str):Prop:=∀ (kV doc pm:Value) (an:Option Addr) (cdv ct:Value) (us:List Value),us.length=ps.length->bindArgs (fn0 x q st kV doc pm an cdv ct) ⟨us,[]⟩=pure (ps.zip us)
def DefIn (K:PySem.W.Frag) (mg:Str->Option Value) (x:Str) (st:Stmt) (ps:List Str):Prop:=∃ f fd,mg x=some (.ref f)/\PySem.W.keepIn K (.ref f)=true/\Binds K fd ps []/\Fun K x x st f fd/\∀ (s:Shared) (us:List Value),us.length=ps.length->BindsTo s fd ⟨us,[]⟩ (ps.zip us)
def ClsIn (K:PySem.W.Frag) (mg:Str->Option Value) (x q:Str) (c:Addr) (st:Stmt) (ps:List Str):Prop:=∃ f fd,mg x=some (.ref c)/\Mk K c f/\Binds K fd ps []/\Fun K "__init__" q st f fd
def zX (mg:Str->Option Value) (x:Str) (v:Int):Prop:=∃ t,mg x=some (Value.int v t)
def XS (K:PySem.W.Frag) (mg:Str->Option Value) (x:Str) (l:List Int):Prop:=∃ a,mg x=some (.ref a)/\∀ H,SqT K H a (l.map V.int)
section
variable {P:Program}{w:World}{K:PySem.W.Frag}{h base:Heap}{mg:Str->Option Value}{x q:Str}{st:Stmt}{ps:List Str}{f c:Addr}{od an:Option Addr}{osl:Array (Option Value)}{oc kV doc pm cdv ct:Value}{Goal:Prop}{sp:Sp}{k:Nat}
theorem DefIn.to (I:DefIn K mg x st ps) (ok:∀ {f:Addr}{fd:FuncData},Fun K x x st f fd->z_ P w K mg base CX0 k f fd ps sp):∃ f fd,Def P w K mg base x k ps sp f fd :=
 let ⟨f,fd,m,kp,b,F,_⟩:=I
 ⟨f,fd,m,kp,b,ok F⟩
theorem ClsIn.to (I:ClsIn K mg x q c st ps) (ok:∀ {f:Addr}{fd:FuncData},Fun K "__init__" q st f fd->z_ P w K mg base CX0 k f fd ps sp):∃ f fd,Cdf P w K mg base x k ps sp c f fd :=
 let ⟨f,fd,m,mk,b,F⟩:=I
 ⟨f,fd,m,mk,b,ok F⟩
theorem zA (X:K.In h) (G:h.Ns mainGlobals mg) (hb:Bd x x st ps) (a:PySem.W.nsIn K mainGlobals x=some (some (.ref f))) (l:K.lookup f=some ⟨oc,od,.func (PySem.W.fnOf x x (w8 st) (x5 st) (zt st) .none kV doc pm an cdv ct),osl⟩)
 (cd:PySem.W.codeIn K cdv x=true) (k:PySem.W.keepIn K (.ref f)=true) (next:DefIn K mg x st ps->Goal):Goal :=
 have F:=aa0 (st:=st) l cd k
 next ⟨f,_,PySem.W.mg_of X G a,k,F.binds hb,F,fun s us hu=>.of_eq (hb kV doc pm an cdv ct us hu)⟩
theorem zD (x:Str) (v:Int) {t:Tok} (X:K.In h) (G:h.Ns mainGlobals mg) (a:PySem.W.nsIn K mainGlobals x=some (some (.int v t))) (next:zX mg x v->Goal):Goal:=next ⟨t,PySem.W.mg_of X G a⟩
theorem vh (x:Str) (X:K.In h) (G:h.Ns mainGlobals mg) (a:PySem.W.nsIn K mainGlobals x=some none) (next:mg x=none->Goal):Goal:=next (PySem.W.mg_none_of X G a)
theorem Qp (x:Str) (v:List Int) {o:Obj}{its:Array Value}{n:Nat} (X:K.In h) (G:h.Ns mainGlobals mg) (a:PySem.W.nsIn K mainGlobals x=some (some (.ref f))) (l:K.lookup f=some o) (hc:o.cls=.type "tuple") (hd:o.data=.seq its n) (hz:its.size<=sizeLine) (hv:Vals (v.map V.int) its.toList) (next:XS K mg x v->Goal):Goal:=next ⟨f,PySem.W.mg_of X G a,fun H=>.inr ⟨o,its,n,l,hc,hd,hz,hv⟩⟩
theorem xT (X:K.In h) (G:h.Ns mainGlobals mg) (hb:Bd "__init__" q st ps) (a:PySem.W.nsIn K mainGlobals x=some (some (.ref c))) (mk:PySem.W.makesIn K c=true) (kc:PySem.W.keepIn K (.ref c)=true) (ai:PySem.W.findIn K (.ref c) "__init__"=some (some (.ref f))) (fi:PySem.W.isFn K (.ref f)=true)
 (l:K.lookup f=some ⟨oc,od,.func (PySem.W.fnOf "__init__" q (w8 st) (x5 st) (zt st) .none kV doc pm an cdv ct),osl⟩) (cd:PySem.W.codeIn K cdv q=true) (k:PySem.W.keepIn K (.ref f)=true)
 (pg:PySem.W.plainGet K c Str.empty=true) (hd:PySem.W.hasDictIn K c=true) (po:PySem.W.plainOver K c=true) (sa:PySem.W.findIn K (.ref c) "__setattr__"=some (some (.builtin "object.__setattr__"))) (next:ClsIn K mg x q c st ps->Cls K c->Goal):Goal :=
 have F:=aa0 (st:=st) l cd k
 next ⟨f,_,PySem.W.mg_of X G a,⟨mk,ai,fi,kc⟩,F.binds hb,F⟩ ⟨pg,hd,po,sa⟩
theorem jf (x:Str) (d:Cls K c) (a:PySem.W.findIn K (.ref c) x=some none) (next:NoAttr K c x->Goal):Goal:=next a
end
theorem YI:Bd "__init__" "Side.__init__" x9 ["self","cells","next_number"]:=fun _ _ _ _ _ _ us hl=>match us,hl with | [_,_,_],_=>rfl
theorem Vc:Bd "__init__" "Books.__init__" yl ["self"]:=fun _ _ _ _ _ _ us hl=>match us,hl with | [_],_=>rfl
theorem Vd:Bd "numbers_of" "numbers_of" yn ["cells"]:=fun _ _ _ _ _ _ us hl=>match us,hl with | [_],_=>rfl
theorem JB:Bd "number_above" "number_above" kW ["cells"]:=fun _ _ _ _ _ _ us hl=>match us,hl with | [_],_=>rfl
theorem YJ:Bd "__init__" "Cell.__init__" x8 ["self","number","mark","text"]:=fun _ _ _ _ _ _ us hl=>match us,hl with | [_,_,_,_],_=>rfl
theorem Zm:Bd "__init__" "MergedCell.__init__" jN ["self","cell","on_left","on_right"]:=fun _ _ _ _ _ _ us hl=>match us,hl with | [_,_,_,_],_=>rfl
theorem XT:Bd "numbered" "numbered" we ["books","merged"]:=fun _ _ _ _ _ _ us hl=>match us,hl with | [_,_],_=>rfl
theorem YK:Bd "too_great" "too_great" xm ["merged"]:=fun _ _ _ _ _ _ us hl=>match us,hl with | [_],_=>rfl
theorem JC:Bd "__init__" "Outcome.__init__" kT ["self","refusal","merged"]:=fun _ _ _ _ _ _ us hl=>match us,hl with | [_,_,_],_=>rfl
theorem XU:Bd "place_of" "place_of" wa ["cells","number"]:=fun _ _ _ _ _ _ us hl=>match us,hl with | [_,_],_=>rfl
theorem WO:Bd "cell_of" "cell_of" uy ["cells","number"]:=fun _ _ _ _ _ _ us hl=>match us,hl with | [_,_],_=>rfl
theorem aal:Bd "agreed" "agreed" ZU ["base","left","right"]:=fun _ _ _ _ _ _ us hl=>match us,hl with | [_,_,_],_=>rfl
theorem XV:Bd "lines_of" "lines_of" wc ["text"]:=fun _ _ _ _ _ _ us hl=>match us,hl with | [_],_=>rfl
theorem uJ:Bd "common_beginning" "common_beginning" jt ["lines","others","most"]:=fun _ _ _ _ _ _ us hl=>match us,hl with | [_,_,_],_=>rfl
theorem KI:Bd "__init__" "Change.__init__" vC ["self","begin","end","new_lines"]:=fun _ _ _ _ _ _ us hl=>match us,hl with | [_,_,_,_],_=>rfl
theorem YL:Bd "change_of" "change_of" xb ["base_text","side_text"]:=fun _ _ _ _ _ _ us hl=>match us,hl with | [_,_],_=>rfl
theorem WP:Bd "text_of" "text_of" uz ["lines"]:=fun _ _ _ _ _ _ us hl=>match us,hl with | [_],_=>rfl
theorem Qq:Bd "text_with_both" "text_with_both" jZ ["base_text","first","second"]:=fun _ _ _ _ _ _ us hl=>match us,hl with | [_,_,_],_=>rfl
theorem KJ:Bd "merged_text" "merged_text" vD ["base_text","left_text","right_text"]:=fun _ _ _ _ _ _ us hl=>match us,hl with | [_,_,_],_=>rfl
theorem YM:Bd "unchanged" "unchanged" xf ["base_cell","cell"]:=fun _ _ _ _ _ _ us hl=>match us,hl with | [_,_],_=>rfl
theorem KK:Bd "conflict_at" "conflict_at" vE ["base_cell","left","right"]:=fun _ _ _ _ _ _ us hl=>match us,hl with | [_,_,_],_=>rfl
theorem JD:Bd "agreed_order" "agreed_order" kZ ["orders"]:=fun _ _ _ _ _ _ us hl=>match us,hl with | [_],_=>rfl
theorem QW:Bd "common_orders" "common_orders" kn ["books"]:=fun _ _ _ _ _ _ us hl=>match us,hl with | [_],_=>rfl
theorem JE:Bd "conflicts_of" "conflicts_of" k_ ["books"]:=fun _ _ _ _ _ _ us hl=>match us,hl with | [_],_=>rfl
theorem YN:Bd "choice_of" "choice_of" xg ["books","conflict"]:=fun _ _ _ _ _ _ us hl=>match us,hl with | [_,_],_=>rfl
theorem xU:Bd "count_without_choice" "count_without_choice" qR ["books"]:=fun _ _ _ _ _ _ us hl=>match us,hl with | [_],_=>rfl
theorem Ve:Bd "loose_cell" "loose_cell" yx ["books","side","cell"]:=fun _ _ _ _ _ _ us hl=>match us,hl with | [_,_,_],_=>rfl
theorem KL:Bd "loose_cells" "loose_cells" vG ["books","side","common"]:=fun _ _ _ _ _ _ us hl=>match us,hl with | [_,_,_],_=>rfl
theorem YO:Bd "sort_keys" "sort_keys" xl ["cells","base_numbers"]:=fun _ _ _ _ _ _ us hl=>match us,hl with | [_,_],_=>rfl
theorem Qr:Bd "loose_together" "loose_together" k5 ["left","right","base_numbers"]:=fun _ _ _ _ _ _ us hl=>match us,hl with | [_,_,_],_=>rfl
theorem aam:Bd "chosen" "chosen" ZV ["choice","base","left","right"]:=fun _ _ _ _ _ _ us hl=>match us,hl with | [_,_,_,_],_=>rfl
theorem JF:Bd "merged_order" "merged_order" v9 ["books","orders"]:=fun _ _ _ _ _ _ us hl=>match us,hl with | [_,_],_=>rfl
theorem wE:Bd "merged_common_cell" "merged_common_cell" j9 ["books","number"]:=fun _ _ _ _ _ _ us hl=>match us,hl with | [_,_],_=>rfl
theorem Qs:Bd "cells_in_order" "cells_in_order" k6 ["books"]:=fun _ _ _ _ _ _ us hl=>match us,hl with | [_],_=>rfl
theorem XW:Bd "merge_of" "merge_of" wf ["books"]:=fun _ _ _ _ _ _ us hl=>match us,hl with | [_],_=>rfl
theorem JG:Bd "tell_origins" "tell_origins" va ["books"]:=fun _ _ _ _ _ _ us hl=>match us,hl with | [_],_=>rfl
theorem Vf:Bd "tell_cells" "tell_cells" yu ["cells"]:=fun _ _ _ _ _ _ us hl=>match us,hl with | [_],_=>rfl
theorem QX:Bd "tell_document" "tell_document" ko ["books","which"]:=fun _ _ _ _ _ _ us hl=>match us,hl with | [_,_],_=>rfl
theorem Vg:Bd "difference" "difference" yw ["base_cell","cell"]:=fun _ _ _ _ _ _ us hl=>match us,hl with | [_,_],_=>rfl
theorem uK:Bd "in_another_order" "in_another_order" ju ["base_numbers","side_numbers"]:=fun _ _ _ _ _ _ us hl=>match us,hl with | [_,_],_=>rfl
theorem JH:Bd "tell_changes" "tell_changes" v0 ["books","side"]:=fun _ _ _ _ _ _ us hl=>match us,hl with | [_,_],_=>rfl
theorem KM:Bd "tell_change" "tell_change" vF ["books","side","number"]:=fun _ _ _ _ _ _ us hl=>match us,hl with | [_,_,_],_=>rfl
theorem Qt:Bd "tell_conflicts" "tell_conflicts" j_ ["books"]:=fun _ _ _ _ _ _ us hl=>match us,hl with | [_],_=>rfl
theorem KN:Bd "tell_merged" "tell_merged" vH ["books"]:=fun _ _ _ _ _ _ us hl=>match us,hl with | [_],_=>rfl
theorem Qu:Bd "answer_telling" "answer_telling" k8 ["books","call","wholes"]:=fun _ _ _ _ _ _ us hl=>match us,hl with | [_,_,_],_=>rfl
theorem abz:Bd "adopt" "adopt" JQ ["books"]:=fun _ _ _ _ _ _ us hl=>match us,hl with | [_],_=>rfl
theorem JI:Bd "texts_of_row" "texts_of_row" kY ["row"]:=fun _ _ _ _ _ _ us hl=>match us,hl with | [_],_=>rfl
theorem Vh:Bd "only_bytes" "only_bytes" ym ["text"]:=fun _ _ _ _ _ _ us hl=>match us,hl with | [_],_=>rfl
theorem uL:Bd "refusal_of_texts" "refusal_of_texts" js ["texts"]:=fun _ _ _ _ _ _ us hl=>match us,hl with | [_],_=>rfl
theorem JJ:Bd "copy_of_base" "copy_of_base" kX ["books"]:=fun _ _ _ _ _ _ us hl=>match us,hl with | [_],_=>rfl
theorem XX:Bd "set_base" "set_base" wb ["books","row"]:=fun _ _ _ _ _ _ us hl=>match us,hl with | [_,_],_=>rfl
theorem Vi:Bd "reset_side" "reset_side" yo ["books","side"]:=fun _ _ _ _ _ _ us hl=>match us,hl with | [_,_],_=>rfl
theorem JK:Bd "place_behind" "place_behind" kU ["cells","after"]:=fun _ _ _ _ _ _ us hl=>match us,hl with | [_,_],_=>rfl
theorem XY:Bd "new_cell" "new_cell" wd ["books","side","after","text"]:=fun _ _ _ _ _ _ us hl=>match us,hl with | [_,_,_,_],_=>rfl
theorem Zn:Bd "refusal_of_cell" "refusal_of_cell" jO ["books","side","number"]:=fun _ _ _ _ _ _ us hl=>match us,hl with | [_,_,_],_=>rfl
theorem Vj:Bd "write_cell" "write_cell" yt ["books","side","number","text"]:=fun _ _ _ _ _ _ us hl=>match us,hl with | [_,_,_,_],_=>rfl
theorem YQ:Bd "move_cell" "move_cell" xh ["books","side","number","after"]:=fun _ _ _ _ _ _ us hl=>match us,hl with | [_,_,_,_],_=>rfl
theorem YR:Bd "drop_cell" "drop_cell" xi ["books","side","number"]:=fun _ _ _ _ _ _ us hl=>match us,hl with | [_,_,_],_=>rfl
theorem YS:Bd "hide_cell" "hide_cell" xj ["books","side","number","mark"]:=fun _ _ _ _ _ _ us hl=>match us,hl with | [_,_,_,_],_=>rfl
theorem YT:Bd "copy_side" "copy_side" xa ["books","side"]:=fun _ _ _ _ _ _ us hl=>match us,hl with | [_,_],_=>rfl
theorem Qv:Bd "answer_on_side" "answer_on_side" k7 ["books","call","wholes","row"]:=fun _ _ _ _ _ _ us hl=>match us,hl with | [_,_,_,_],_=>rfl
theorem KO:Bd "edited_side" "edited_side" vI ["books","call","wholes","row"]:=fun _ _ _ _ _ _ us hl=>match us,hl with | [_,_,_,_],_=>rfl
theorem uq:Bd "exchanged_choices" "exchanged_choices" jd ["choices"]:=fun _ _ _ _ _ _ us hl=>match us,hl with | [_],_=>rfl
theorem Vk:Bd "swap_sides" "swap_sides" yr ["books"]:=fun _ _ _ _ _ _ us hl=>match us,hl with | [_],_=>rfl
theorem aan:Bd "choose" "choose" ZW ["books","kind","number","choice"]:=fun _ _ _ _ _ _ us hl=>match us,hl with | [_,_,_,_],_=>rfl
theorem YU:Bd "answer_of" "answer_of" xn ["books","call","wholes","row"]:=fun _ _ _ _ _ _ us hl=>match us,hl with | [_,_,_,_],_=>rfl
theorem WQ:Bd "answers" "answers" uA ["calls"]:=fun _ _ _ _ _ _ us hl=>match us,hl with | [_],_=>rfl
theorem acT {P:Program}{w:World}{K:PySem.W.Frag}{mg:Str->Option Value}{fa cCell cSide cBooks cChange cMergedCell cOutcome:Addr} (hfa:mg "answers"=some (.ref fa))
 (iCell:ClsIn K mg "Cell" "Cell.__init__" cCell x8 ["self","number","mark","text"]) (dCell:Cls K cCell) (nCell_number:NoAttr K cCell "number") (nCell_mark:NoAttr K cCell "mark") (nCell_text:NoAttr K cCell "text")
 (iSide:ClsIn K mg "Side" "Side.__init__" cSide x9 ["self","cells","next_number"]) (dSide:Cls K cSide) (nSide_cells:NoAttr K cSide "cells") (nSide_next_number:NoAttr K cSide "next_number")
 (iBooks:ClsIn K mg "Books" "Books.__init__" cBooks yl ["self"]) (dBooks:Cls K cBooks) (nBooks_base_cells:NoAttr K cBooks "base_cells") (nBooks_sides:NoAttr K cBooks "sides") (nBooks_choices:NoAttr K cBooks "choices")
 (iChange:ClsIn K mg "Change" "Change.__init__" cChange vC ["self","begin","end","new_lines"]) (dChange:Cls K cChange) (nChange_begin:NoAttr K cChange "begin") (nChange_end:NoAttr K cChange "end") (nChange_new_lines:NoAttr K cChange "new_lines")
 (iMergedCell:ClsIn K mg "MergedCell" "MergedCell.__init__" cMergedCell jN ["self","cell","on_left","on_right"]) (dMergedCell:Cls K cMergedCell) (nMergedCell_cell:NoAttr K cMergedCell "cell") (nMergedCell_on_left:NoAttr K cMergedCell "on_left") (nMergedCell_on_right:NoAttr K cMergedCell "on_right")
 (iOutcome:ClsIn K mg "Outcome" "Outcome.__init__" cOutcome kT ["self","refusal","merged"]) (dOutcome:Cls K cOutcome) (nOutcome_refusal:NoAttr K cOutcome "refusal") (nOutcome_merged:NoAttr K cOutcome "merged")
 (g_NO_REFUSAL:zX mg "NO_REFUSAL" 0)
 (g_NO_CELL:zX mg "NO_CELL" (-1))
 (g_NO_FIT_AFTER:zX mg "NO_FIT_AFTER" (-2))
 (g_NO_BYTE:zX mg "NO_BYTE" (-4))
 (g_TEXT_TOO_LONG:zX mg "TEXT_TOO_LONG" (-5))
 (g_TOO_MANY_CELLS:zX mg "TOO_MANY_CELLS" (-6))
 (g_NOTHING_CHANGES:zX mg "NOTHING_CHANGES" (-7))
 (g_NO_SIDE:zX mg "NO_SIDE" (-8))
 (g_NO_SUCH_CONFLICT:zX mg "NO_SUCH_CONFLICT" (-9))
 (g_CHOICE_OUTSIDE:zX mg "CHOICE_OUTSIDE" (-10))
 (g_CHOICE_MISSING:zX mg "CHOICE_MISSING" (-11))
 (g_TOO_GREAT:zX mg "TOO_GREAT" (-12))
 (g_ROW_NOT_WHOLE:zX mg "ROW_NOT_WHOLE" (-15))
 (g_NUMBERS_USED_UP:zX mg "NUMBERS_USED_UP" (-16))
 (g_NO_MARK:zX mg "NO_MARK" (-18))
 (g_NO_DOCUMENT:zX mg "NO_DOCUMENT" (-19))
 (g_GREATEST_BYTE:zX mg "GREATEST_BYTE" 255)
 (g_MOST_BYTES:zX mg "MOST_BYTES" 200)
 (g_MOST_CELLS:zX mg "MOST_CELLS" 12)
 (g_GREATEST_NUMBER:zX mg "GREATEST_NUMBER" 99)
 (g_LEFT:zX mg "LEFT" 1)
 (g_RIGHT:zX mg "RIGHT" 2)
 (g_NO_CHOICE:zX mg "NO_CHOICE" 0)
 (g_BASE_CHOICE:zX mg "BASE_CHOICE" 3)
 (g_GREATEST_CHOICE:zX mg "GREATEST_CHOICE" 3)
 (g_NO_CONFLICT:zX mg "NO_CONFLICT" 0)
 (g_TEXT_CONFLICT:zX mg "TEXT_CONFLICT" 1)
 (g_LEFT_HAS_NOT:zX mg "LEFT_HAS_NOT" 2)
 (g_RIGHT_HAS_NOT:zX mg "RIGHT_HAS_NOT" 3)
 (g_ORDER_CONFLICT:zX mg "ORDER_CONFLICT" 4)
 (g_LINE_END:zX mg "LINE_END" 10)
 (g_BASE_DOCUMENT:zX mg "BASE_DOCUMENT" 0)
 (g_UNCHANGED:zX mg "UNCHANGED" 0)
 (g_DROPPED:zX mg "DROPPED" 1)
 (g_NEW_telling:zX mg "NEW_telling" 2)
 (g_TEXT_DIFFERS:zX mg "TEXT_DIFFERS" 3)
 (g_MARK_DIFFERS:zX mg "MARK_DIFFERS" 4)
 (g_BOTH_DIFFER:zX mg "BOTH_DIFFER" 5)
 (g_FRONT:zX mg "FRONT" 0)
 (g_BASE:zX mg "BASE" 0)
 (g_NEW_merge:zX mg "NEW_merge" 1)
 (g_WRITE:zX mg "WRITE" 2)
 (g_MOVE:zX mg "MOVE" 3)
 (g_DROP:zX mg "DROP" 4)
 (g_HIDE:zX mg "HIDE" 5)
 (g_COPY:zX mg "COPY" 6)
 (g_RESET:zX mg "RESET" 7)
 (g_SWAP:zX mg "SWAP" 8)
 (g_DOCUMENT:zX mg "DOCUMENT" 9)
 (g_CHANGES:zX mg "CHANGES" 10)
 (g_CHANGE:zX mg "CHANGE" 11)
 (g_CONFLICTS:zX mg "CONFLICTS" 12)
 (g_CHOOSE:zX mg "CHOOSE" 13)
 (g_MERGED:zX mg "MERGED" 14)
 (g_ORIGINS:zX mg "ORIGINS" 15)
 (t_EXCHANGED_KINDS:XS K mg "EXCHANGED_KINDS" [0,1,3,2,4])
 (t_EXCHANGED_CHOICES:XS K mg "EXCHANGED_CHOICES" [0,2,1,3])
 (t_WHOLES:XS K mg "WHOLES" [0,2,2,3,2,3,1,1,0,1,1,2,0,3,0,0,0])
 (t_ROWS:XS K mg "ROWS" [1,1,1,0,0,0,0,0,0,0,0,0,0,0,0,0,0])
 (b_len:mg "len"=none)
 (b_all:mg "all"=none)
 (b_any:mg "any"=none)
 (b_max:mg "max"=none)
 (b_min:mg "min"=none)
 (b_list:mg "list"=none)
 (b_reversed:mg "reversed"=none)
 (b_enumerate:mg "enumerate"=none)
 (b_zip:mg "zip"=none)
 (I_numbers_of:DefIn K mg "numbers_of" yn ["cells"])
 (I_number_above:DefIn K mg "number_above" kW ["cells"])
 (I_numbered:DefIn K mg "numbered" we ["books","merged"])
 (I_too_great:DefIn K mg "too_great" xm ["merged"])
 (I_place_of:DefIn K mg "place_of" wa ["cells","number"])
 (I_cell_of:DefIn K mg "cell_of" uy ["cells","number"])
 (I_agreed:DefIn K mg "agreed" ZU ["base","left","right"])
 (I_lines_of:DefIn K mg "lines_of" wc ["text"])
 (I_common_beginning:DefIn K mg "common_beginning" jt ["lines","others","most"])
 (I_change_of:DefIn K mg "change_of" xb ["base_text","side_text"])
 (I_text_of:DefIn K mg "text_of" uz ["lines"])
 (I_text_with_both:DefIn K mg "text_with_both" jZ ["base_text","first","second"])
 (I_merged_text:DefIn K mg "merged_text" vD ["base_text","left_text","right_text"])
 (I_unchanged:DefIn K mg "unchanged" xf ["base_cell","cell"])
 (I_conflict_at:DefIn K mg "conflict_at" vE ["base_cell","left","right"])
 (I_agreed_order:DefIn K mg "agreed_order" kZ ["orders"])
 (I_common_orders:DefIn K mg "common_orders" kn ["books"])
 (I_conflicts_of:DefIn K mg "conflicts_of" k_ ["books"])
 (I_choice_of:DefIn K mg "choice_of" xg ["books","conflict"])
 (I_count_without_choice:DefIn K mg "count_without_choice" qR ["books"])
 (I_loose_cell:DefIn K mg "loose_cell" yx ["books","side","cell"])
 (I_loose_cells:DefIn K mg "loose_cells" vG ["books","side","common"])
 (I_sort_keys:DefIn K mg "sort_keys" xl ["cells","base_numbers"])
 (I_loose_together:DefIn K mg "loose_together" k5 ["left","right","base_numbers"])
 (I_chosen:DefIn K mg "chosen" ZV ["choice","base","left","right"])
 (I_merged_order:DefIn K mg "merged_order" v9 ["books","orders"])
 (I_merged_common_cell:DefIn K mg "merged_common_cell" j9 ["books","number"])
 (I_cells_in_order:DefIn K mg "cells_in_order" k6 ["books"])
 (I_merge_of:DefIn K mg "merge_of" wf ["books"])
 (I_tell_origins:DefIn K mg "tell_origins" va ["books"])
 (I_tell_cells:DefIn K mg "tell_cells" yu ["cells"])
 (I_tell_document:DefIn K mg "tell_document" ko ["books","which"])
 (I_difference:DefIn K mg "difference" yw ["base_cell","cell"])
 (I_in_another_order:DefIn K mg "in_another_order" ju ["base_numbers","side_numbers"])
 (I_tell_changes:DefIn K mg "tell_changes" v0 ["books","side"])
 (I_tell_change:DefIn K mg "tell_change" vF ["books","side","number"])
 (I_tell_conflicts:DefIn K mg "tell_conflicts" j_ ["books"])
 (I_tell_merged:DefIn K mg "tell_merged" vH ["books"])
 (I_answer_telling:DefIn K mg "answer_telling" k8 ["books","call","wholes"])
 (I_adopt:DefIn K mg "adopt" JQ ["books"])
 (I_texts_of_row:DefIn K mg "texts_of_row" kY ["row"])
 (I_only_bytes:DefIn K mg "only_bytes" ym ["text"])
 (I_refusal_of_texts:DefIn K mg "refusal_of_texts" js ["texts"])
 (I_copy_of_base:DefIn K mg "copy_of_base" kX ["books"])
 (I_set_base:DefIn K mg "set_base" wb ["books","row"])
 (I_reset_side:DefIn K mg "reset_side" yo ["books","side"])
 (I_place_behind:DefIn K mg "place_behind" kU ["cells","after"])
 (I_new_cell:DefIn K mg "new_cell" wd ["books","side","after","text"])
 (I_refusal_of_cell:DefIn K mg "refusal_of_cell" jO ["books","side","number"])
 (I_write_cell:DefIn K mg "write_cell" yt ["books","side","number","text"])
 (I_move_cell:DefIn K mg "move_cell" xh ["books","side","number","after"])
 (I_drop_cell:DefIn K mg "drop_cell" xi ["books","side","number"])
 (I_hide_cell:DefIn K mg "hide_cell" xj ["books","side","number","mark"])
 (I_copy_side:DefIn K mg "copy_side" xa ["books","side"])
 (I_answer_on_side:DefIn K mg "answer_on_side" k7 ["books","call","wholes","row"])
 (I_edited_side:DefIn K mg "edited_side" vI ["books","call","wholes","row"])
 (I_exchanged_choices:DefIn K mg "exchanged_choices" jd ["choices"])
 (I_swap_sides:DefIn K mg "swap_sides" yr ["books"])
 (I_choose:DefIn K mg "choose" ZW ["books","kind","number","choice"])
 (I_answer_of:DefIn K mg "answer_of" xn ["books","call","wholes","row"])
 (I_answers:DefIn K mg "answers" uA ["calls"])
:∃ fd:FuncData,(∀ (s:Shared) (us:List Value),us.length=(["calls"]:List Str).length->BindsTo s fd ⟨us,[]⟩ ((["calls"]:List Str).zip us))/\∀ base:Heap,K.In base->base.Ns mainGlobals mg->z_ P w K mg base CX0 12 fa fd ["calls"] (Zl K):=by
 obtain⟨aEXCHANGED_KINDS,hEXCHANGED_KINDS,zEXCHANGED_KINDS⟩:=t_EXCHANGED_KINDS
 obtain⟨aEXCHANGED_CHOICES,hEXCHANGED_CHOICES,zEXCHANGED_CHOICES⟩:=t_EXCHANGED_CHOICES
 obtain⟨aWHOLES,hWHOLES,zWHOLES⟩:=t_WHOLES
 obtain⟨aROWS,hROWS,zROWS⟩:=t_ROWS
 have T:Txt K mg ⟨cCell,cSide,cBooks,cChange,cMergedCell,cOutcome,aEXCHANGED_KINDS,aEXCHANGED_CHOICES,aWHOLES,aROWS⟩:=⟨dCell,nCell_number,nCell_mark,nCell_text,dSide,nSide_cells,nSide_next_number,dBooks,nBooks_base_cells,nBooks_sides,nBooks_choices,dChange,nChange_begin,nChange_end,nChange_new_lines,dMergedCell,nMergedCell_cell,nMergedCell_on_left,nMergedCell_on_right,dOutcome,nOutcome_refusal,nOutcome_merged,g_NO_REFUSAL,g_NO_CELL,g_NO_FIT_AFTER,g_NO_BYTE,g_TEXT_TOO_LONG,g_TOO_MANY_CELLS,g_NOTHING_CHANGES,g_NO_SIDE,g_NO_SUCH_CONFLICT,g_CHOICE_OUTSIDE,g_CHOICE_MISSING,g_TOO_GREAT,g_ROW_NOT_WHOLE,g_NUMBERS_USED_UP,g_NO_MARK,g_NO_DOCUMENT,g_GREATEST_BYTE,g_MOST_BYTES,g_MOST_CELLS,g_GREATEST_NUMBER,g_LEFT,g_RIGHT,g_NO_CHOICE,g_BASE_CHOICE,g_GREATEST_CHOICE,g_NO_CONFLICT,g_TEXT_CONFLICT,g_LEFT_HAS_NOT,g_RIGHT_HAS_NOT,g_ORDER_CONFLICT,g_LINE_END,g_BASE_DOCUMENT,g_UNCHANGED,g_DROPPED,g_NEW_telling,g_TEXT_DIFFERS,g_MARK_DIFFERS,g_BOTH_DIFFER,g_FRONT,g_BASE,g_NEW_merge,g_WRITE,g_MOVE,g_DROP,g_HIDE,g_COPY,g_RESET,g_SWAP,g_DOCUMENT,g_CHANGES,g_CHANGE,g_CONFLICTS,g_CHOOSE,g_MERGED,g_ORIGINS,hEXCHANGED_KINDS,zEXCHANGED_KINDS,hEXCHANGED_CHOICES,zEXCHANGED_CHOICES,hWHOLES,zWHOLES,hROWS,zROWS,b_len,b_all,b_any,b_max,b_min,b_list,b_reversed,b_enumerate,b_zip⟩
 obtain⟨f,fd,hm,_,_,F,hb⟩:=I_answers
 have e:fa=f:=by
  have:=hfa.symm.trans hm
  injection this with this
  injection this
 subst e
 refine⟨fd,hb,fun base _ _=>?_⟩
 obtain⟨_,_,D_Side⟩:=iSide.to fun F=>Yt (P:=P) (w:=w) (base:=base) F T
 obtain⟨_,_,D_Books⟩:=iBooks.to fun F=>Vb (P:=P) (w:=w) (base:=base) F T D_Side
 obtain⟨_,_,D_numbers_of⟩:=I_numbers_of.to fun F=>V4 (P:=P) (w:=w) (base:=base) F T
 obtain⟨_,_,D_number_above⟩:=I_number_above.to fun F=>Js (P:=P) (w:=w) (base:=base) F T D_numbers_of
 obtain⟨_,_,D_Cell⟩:=iCell.to fun F=>Ys (P:=P) (w:=w) (base:=base) F T
 obtain⟨_,_,D_MergedCell⟩:=iMergedCell.to fun F=>Zh (P:=P) (w:=w) (base:=base) F T
 obtain⟨_,_,D_numbered⟩:=I_numbered.to fun F=>XF (P:=P) (w:=w) (base:=base) F T D_numbers_of D_number_above D_Cell D_MergedCell
 obtain⟨_,_,D_too_great⟩:=I_too_great.to fun F=>YA (P:=P) (w:=w) (base:=base) F T
 obtain⟨_,_,D_Outcome⟩:=iOutcome.to fun F=>Jq (P:=P) (w:=w) (base:=base) F T
 obtain⟨_,_,D_place_of⟩:=I_place_of.to fun F=>Xz (P:=P) (w:=w) (base:=base) F T
 obtain⟨_,_,D_cell_of⟩:=I_cell_of.to fun F=>Wz (P:=P) (w:=w) (base:=base) F T D_place_of
 obtain⟨_,_,D_agreed⟩:=I_agreed.to fun F=>UX (P:=P) (w:=w) (base:=base) F T
 obtain⟨_,_,D_lines_of⟩:=I_lines_of.to fun F=>XB (P:=P) (w:=w) (base:=base) F T
 obtain⟨_,_,D_common_beginning⟩:=I_common_beginning.to fun F=>uH (P:=P) (w:=w) (base:=base) F T
 obtain⟨_,_,D_Change⟩:=iChange.to fun F=>Kn (P:=P) (w:=w) (base:=base) F T
 obtain⟨_,_,D_change_of⟩:=I_change_of.to fun F=>Yu (P:=P) (w:=w) (base:=base) F T D_lines_of D_common_beginning D_Change
 obtain⟨_,_,D_text_of⟩:=I_text_of.to fun F=>WA (P:=P) (w:=w) (base:=base) F T
 obtain⟨_,_,D_text_with_both⟩:=I_text_with_both.to fun F=>Q0 (P:=P) (w:=w) (base:=base) F T D_lines_of D_text_of
 obtain⟨_,_,D_merged_text⟩:=I_merged_text.to fun F=>Kq (P:=P) (w:=w) (base:=base) F T D_agreed D_change_of D_text_with_both
 obtain⟨_,_,D_unchanged⟩:=I_unchanged.to fun F=>Yw (P:=P) (w:=w) (base:=base) F T
 obtain⟨_,_,D_conflict_at⟩:=I_conflict_at.to fun F=>Kt (P:=P) (w:=w) (base:=base) F T D_merged_text D_unchanged
 obtain⟨_,_,D_agreed_order⟩:=I_agreed_order.to fun F=>Jt (P:=P) (w:=w) (base:=base) F T D_agreed
 obtain⟨_,_,D_common_orders⟩:=I_common_orders.to fun F=>QP (P:=P) (w:=w) (base:=base) F T D_numbers_of
 obtain⟨_,_,D_conflicts_of⟩:=I_conflicts_of.to fun F=>Ju (P:=P) (w:=w) (base:=base) F T D_cell_of D_conflict_at D_agreed_order D_common_orders
 obtain⟨_,_,D_choice_of⟩:=I_choice_of.to fun F=>Yx (P:=P) (w:=w) (base:=base) F T
 obtain⟨_,_,D_count_without_choice⟩:=I_count_without_choice.to fun F=>xR (P:=P) (w:=w) (base:=base) F T D_conflicts_of D_choice_of
 obtain⟨_,_,D_loose_cell⟩:=I_loose_cell.to fun F=>V7 (P:=P) (w:=w) (base:=base) F T D_cell_of D_choice_of
 obtain⟨_,_,D_loose_cells⟩:=I_loose_cells.to fun F=>Kw (P:=P) (w:=w) (base:=base) F T D_loose_cell
 obtain⟨_,_,D_sort_keys⟩:=I_sort_keys.to fun F=>Yy (P:=P) (w:=w) (base:=base) F T
 obtain⟨_,_,D_loose_together⟩:=I_loose_together.to fun F=>Q7 (P:=P) (w:=w) (base:=base) F T D_sort_keys D_MergedCell
 obtain⟨_,_,D_chosen⟩:=I_chosen.to fun F=>UY (P:=P) (w:=w) (base:=base) F T
 obtain⟨_,_,D_merged_order⟩:=I_merged_order.to fun F=>Jw (P:=P) (w:=w) (base:=base) F T D_agreed_order D_chosen D_choice_of
 obtain⟨_,_,D_merged_common_cell⟩:=I_merged_common_cell.to fun F=>wD (P:=P) (w:=w) (base:=base) F T D_cell_of D_merged_text D_MergedCell D_chosen D_Cell D_choice_of
 obtain⟨_,_,D_cells_in_order⟩:=I_cells_in_order.to fun F=>Q8 (P:=P) (w:=w) (base:=base) F T D_common_orders D_numbers_of D_loose_cells D_loose_together D_merged_order D_merged_common_cell
 obtain⟨_,_,D_merge_of⟩:=I_merge_of.to fun F=>XG (P:=P) (w:=w) (base:=base) F T D_numbered D_too_great D_Outcome D_count_without_choice D_cells_in_order
 obtain⟨_,_,D_tell_origins⟩:=I_tell_origins.to fun F=>Jx (P:=P) (w:=w) (base:=base) F T D_merge_of
 obtain⟨_,_,D_tell_cells⟩:=I_tell_cells.to fun F=>V5 (P:=P) (w:=w) (base:=base) F T
 obtain⟨_,_,D_tell_document⟩:=I_tell_document.to fun F=>QQ (P:=P) (w:=w) (base:=base) F T D_tell_cells
 obtain⟨_,_,D_difference⟩:=I_difference.to fun F=>V6 (P:=P) (w:=w) (base:=base) F T
 obtain⟨_,_,D_in_another_order⟩:=I_in_another_order.to fun F=>uI (P:=P) (w:=w) (base:=base) F T
 obtain⟨_,_,D_tell_changes⟩:=I_tell_changes.to fun F=>Jv (P:=P) (w:=w) (base:=base) F T D_numbers_of D_difference D_in_another_order D_cell_of
 obtain⟨_,_,D_tell_change⟩:=I_tell_change.to fun F=>Kv (P:=P) (w:=w) (base:=base) F T D_cell_of D_change_of
 obtain⟨_,_,D_tell_conflicts⟩:=I_tell_conflicts.to fun F=>Q2 (P:=P) (w:=w) (base:=base) F T D_conflicts_of D_choice_of
 obtain⟨_,_,D_tell_merged⟩:=I_tell_merged.to fun F=>Kz (P:=P) (w:=w) (base:=base) F T D_merge_of D_tell_cells
 obtain⟨_,_,D_answer_telling⟩:=I_answer_telling.to fun F=>Qo (P:=P) (w:=w) (base:=base) F T D_tell_origins D_tell_document D_tell_changes D_tell_change D_tell_conflicts D_tell_merged
 obtain⟨_,_,D_adopt⟩:=I_adopt.to fun F=>aby (P:=P) (w:=w) (base:=base) F T D_merge_of D_number_above D_Side
 obtain⟨_,_,D_texts_of_row⟩:=I_texts_of_row.to fun F=>Jz (P:=P) (w:=w) (base:=base) F T
 obtain⟨_,_,D_only_bytes⟩:=I_only_bytes.to fun F=>V3 (P:=P) (w:=w) (base:=base) F T
 obtain⟨_,_,D_refusal_of_texts⟩:=I_refusal_of_texts.to fun F=>uG (P:=P) (w:=w) (base:=base) F T D_only_bytes
 obtain⟨_,_,D_copy_of_base⟩:=I_copy_of_base.to fun F=>Jy (P:=P) (w:=w) (base:=base) F T D_Side D_number_above
 obtain⟨_,_,D_set_base⟩:=I_set_base.to fun F=>XJ (P:=P) (w:=w) (base:=base) F T D_texts_of_row D_refusal_of_texts D_Cell D_copy_of_base
 obtain⟨_,_,D_reset_side⟩:=I_reset_side.to fun F=>V8 (P:=P) (w:=w) (base:=base) F T D_copy_of_base
 obtain⟨_,_,D_place_behind⟩:=I_place_behind.to fun F=>Jr (P:=P) (w:=w) (base:=base) F T D_place_of
 obtain⟨_,_,D_new_cell⟩:=I_new_cell.to fun F=>XH (P:=P) (w:=w) (base:=base) F T D_place_behind D_refusal_of_texts D_Cell
 obtain⟨_,_,D_refusal_of_cell⟩:=I_refusal_of_cell.to fun F=>Zi (P:=P) (w:=w) (base:=base) F T D_place_of
 obtain⟨_,_,D_write_cell⟩:=I_write_cell.to fun F=>V9 (P:=P) (w:=w) (base:=base) F T D_refusal_of_cell D_refusal_of_texts D_place_of D_Cell
 obtain⟨_,_,D_move_cell⟩:=I_move_cell.to fun F=>YF (P:=P) (w:=w) (base:=base) F T D_refusal_of_cell D_place_of D_place_behind
 obtain⟨_,_,D_drop_cell⟩:=I_drop_cell.to fun F=>YC (P:=P) (w:=w) (base:=base) F T D_refusal_of_cell D_place_of
 obtain⟨_,_,D_hide_cell⟩:=I_hide_cell.to fun F=>YE (P:=P) (w:=w) (base:=base) F T D_refusal_of_cell D_place_of D_Cell
 obtain⟨_,_,D_copy_side⟩:=I_copy_side.to fun F=>YB (P:=P) (w:=w) (base:=base) F T D_Side
 obtain⟨_,_,D_answer_on_side⟩:=I_answer_on_side.to fun F=>Qn (P:=P) (w:=w) (base:=base) F T D_reset_side D_new_cell D_write_cell D_move_cell D_drop_cell D_hide_cell D_copy_side
 obtain⟨_,_,D_edited_side⟩:=I_edited_side.to fun F=>KH (P:=P) (w:=w) (base:=base) F T D_answer_on_side
 obtain⟨_,_,D_exchanged_choices⟩:=I_exchanged_choices.to fun F=>ul (P:=P) (w:=w) (base:=base) F T
 obtain⟨_,_,D_swap_sides⟩:=I_swap_sides.to fun F=>Va (P:=P) (w:=w) (base:=base) F T D_exchanged_choices
 obtain⟨_,_,D_choose⟩:=I_choose.to fun F=>aai (P:=P) (w:=w) (base:=base) F T D_count_without_choice D_conflicts_of
 obtain⟨_,_,D_answer_of⟩:=I_answer_of.to fun F=>YG (P:=P) (w:=w) (base:=base) F T D_answer_telling D_adopt D_set_base D_edited_side D_swap_sides D_choose
 exact WN F T D_Books D_answer_of
end Tb
end
section
open PySem PySem.W PyProof.Rows
set_option maxRecDepth 100000 in
set_option maxHeartbeats 0 in
theorem PySem.Challenge.cw_twobooks_s01_answers_holds : PySem.Challenge.rw_twobooks_s01_answers.Holds := by
 w_on; k_headS; (case hw => exact ⟨[.list [.int 12]], by decide +kernel, by decide +kernel⟩)
 k_fillS
 refine L2.Wp (r := PySem.Challenge.rw_twobooks_s01_answers) (k := 12) (CX := L2.CX0) (ps := ["calls"]) (sp := Tb.Zl) (by decide +kernel) rfl rfl ⟨rfl, by decide, by decide⟩ (fun w h Y => PySem.W.kIn_of Y) ?F ?S (fun _ _ _ _ z => z)
 case F =>
  intro w mg fa h Y KX G hmg
  refine Tb.xT (x := "Cell") KX G Tb.YJ (by k_is) (by k_is) (by k_is) (by k_is) (by k_is) (by k_is) (by k_is) (by k_is) (by k_is) (by k_is) (by k_is) (by k_is) fun z1 z2 => ?_
  refine Tb.jf "number" z2 (by k_is) fun z3 => ?_
  refine Tb.jf "mark" z2 (by k_is) fun z4 => ?_
  refine Tb.jf "text" z2 (by k_is) fun z5 => ?_
  refine Tb.xT (x := "Side") KX G Tb.YI (by k_is) (by k_is) (by k_is) (by k_is) (by k_is) (by k_is) (by k_is) (by k_is) (by k_is) (by k_is) (by k_is) (by k_is) fun z6 z7 => ?_
  refine Tb.jf "cells" z7 (by k_is) fun z8 => ?_
  refine Tb.jf "next_number" z7 (by k_is) fun z9 => ?_
  refine Tb.xT (x := "Books") KX G Tb.Vc (by k_is) (by k_is) (by k_is) (by k_is) (by k_is) (by k_is) (by k_is) (by k_is) (by k_is) (by k_is) (by k_is) (by k_is) fun z10 z11 => ?_
  refine Tb.jf "base_cells" z11 (by k_is) fun z12 => ?_
  refine Tb.jf "sides" z11 (by k_is) fun z13 => ?_
  refine Tb.jf "choices" z11 (by k_is) fun z14 => ?_
  refine Tb.xT (x := "Change") KX G Tb.KI (by k_is) (by k_is) (by k_is) (by k_is) (by k_is) (by k_is) (by k_is) (by k_is) (by k_is) (by k_is) (by k_is) (by k_is) fun z15 z16 => ?_
  refine Tb.jf "begin" z16 (by k_is) fun z17 => ?_
  refine Tb.jf "end" z16 (by k_is) fun z18 => ?_
  refine Tb.jf "new_lines" z16 (by k_is) fun z19 => ?_
  refine Tb.xT (x := "MergedCell") KX G Tb.Zm (by k_is) (by k_is) (by k_is) (by k_is) (by k_is) (by k_is) (by k_is) (by k_is) (by k_is) (by k_is) (by k_is) (by k_is) fun z20 z21 => ?_
  refine Tb.jf "cell" z21 (by k_is) fun z22 => ?_
  refine Tb.jf "on_left" z21 (by k_is) fun z23 => ?_
  refine Tb.jf "on_right" z21 (by k_is) fun z24 => ?_
  refine Tb.xT (x := "Outcome") KX G Tb.JC (by k_is) (by k_is) (by k_is) (by k_is) (by k_is) (by k_is) (by k_is) (by k_is) (by k_is) (by k_is) (by k_is) (by k_is) fun z25 z26 => ?_
  refine Tb.jf "refusal" z26 (by k_is) fun z27 => ?_
  refine Tb.jf "merged" z26 (by k_is) fun z28 => ?_
  refine Tb.zD "NO_REFUSAL" 0 KX G (by k_is) fun z29 => ?_
  refine Tb.zD "NO_CELL" (-1) KX G (by k_is) fun z30 => ?_
  refine Tb.zD "NO_FIT_AFTER" (-2) KX G (by k_is) fun z31 => ?_
  refine Tb.zD "NO_BYTE" (-4) KX G (by k_is) fun z32 => ?_
  refine Tb.zD "TEXT_TOO_LONG" (-5) KX G (by k_is) fun z33 => ?_
  refine Tb.zD "TOO_MANY_CELLS" (-6) KX G (by k_is) fun z34 => ?_
  refine Tb.zD "NOTHING_CHANGES" (-7) KX G (by k_is) fun z35 => ?_
  refine Tb.zD "NO_SIDE" (-8) KX G (by k_is) fun z36 => ?_
  refine Tb.zD "NO_SUCH_CONFLICT" (-9) KX G (by k_is) fun z37 => ?_
  refine Tb.zD "CHOICE_OUTSIDE" (-10) KX G (by k_is) fun z38 => ?_
  refine Tb.zD "CHOICE_MISSING" (-11) KX G (by k_is) fun z39 => ?_
  refine Tb.zD "TOO_GREAT" (-12) KX G (by k_is) fun z40 => ?_
  refine Tb.zD "ROW_NOT_WHOLE" (-15) KX G (by k_is) fun z41 => ?_
  refine Tb.zD "NUMBERS_USED_UP" (-16) KX G (by k_is) fun z42 => ?_
  refine Tb.zD "NO_MARK" (-18) KX G (by k_is) fun z43 => ?_
  refine Tb.zD "NO_DOCUMENT" (-19) KX G (by k_is) fun z44 => ?_
  refine Tb.zD "GREATEST_BYTE" 255 KX G (by k_is) fun z45 => ?_
  refine Tb.zD "MOST_BYTES" 200 KX G (by k_is) fun z46 => ?_
  refine Tb.zD "MOST_CELLS" 12 KX G (by k_is) fun z47 => ?_
  refine Tb.zD "GREATEST_NUMBER" 99 KX G (by k_is) fun z48 => ?_
  refine Tb.zD "LEFT" 1 KX G (by k_is) fun z49 => ?_
  refine Tb.zD "RIGHT" 2 KX G (by k_is) fun z50 => ?_
  refine Tb.zD "NO_CHOICE" 0 KX G (by k_is) fun z51 => ?_
  refine Tb.zD "BASE_CHOICE" 3 KX G (by k_is) fun z52 => ?_
  refine Tb.zD "GREATEST_CHOICE" 3 KX G (by k_is) fun z53 => ?_
  refine Tb.zD "NO_CONFLICT" 0 KX G (by k_is) fun z54 => ?_
  refine Tb.zD "TEXT_CONFLICT" 1 KX G (by k_is) fun z55 => ?_
  refine Tb.zD "LEFT_HAS_NOT" 2 KX G (by k_is) fun z56 => ?_
  refine Tb.zD "RIGHT_HAS_NOT" 3 KX G (by k_is) fun z57 => ?_
  refine Tb.zD "ORDER_CONFLICT" 4 KX G (by k_is) fun z58 => ?_
  refine Tb.zD "LINE_END" 10 KX G (by k_is) fun z59 => ?_
  refine Tb.zD "BASE_DOCUMENT" 0 KX G (by k_is) fun z60 => ?_
  refine Tb.zD "UNCHANGED" 0 KX G (by k_is) fun z61 => ?_
  refine Tb.zD "DROPPED" 1 KX G (by k_is) fun z62 => ?_
  refine Tb.zD "NEW_telling" 2 KX G (by k_is) fun z63 => ?_
  refine Tb.zD "TEXT_DIFFERS" 3 KX G (by k_is) fun z64 => ?_
  refine Tb.zD "MARK_DIFFERS" 4 KX G (by k_is) fun z65 => ?_
  refine Tb.zD "BOTH_DIFFER" 5 KX G (by k_is) fun z66 => ?_
  refine Tb.zD "FRONT" 0 KX G (by k_is) fun z67 => ?_
  refine Tb.zD "BASE" 0 KX G (by k_is) fun z68 => ?_
  refine Tb.zD "NEW_merge" 1 KX G (by k_is) fun z69 => ?_
  refine Tb.zD "WRITE" 2 KX G (by k_is) fun z70 => ?_
  refine Tb.zD "MOVE" 3 KX G (by k_is) fun z71 => ?_
  refine Tb.zD "DROP" 4 KX G (by k_is) fun z72 => ?_
  refine Tb.zD "HIDE" 5 KX G (by k_is) fun z73 => ?_
  refine Tb.zD "COPY" 6 KX G (by k_is) fun z74 => ?_
  refine Tb.zD "RESET" 7 KX G (by k_is) fun z75 => ?_
  refine Tb.zD "SWAP" 8 KX G (by k_is) fun z76 => ?_
  refine Tb.zD "DOCUMENT" 9 KX G (by k_is) fun z77 => ?_
  refine Tb.zD "CHANGES" 10 KX G (by k_is) fun z78 => ?_
  refine Tb.zD "CHANGE" 11 KX G (by k_is) fun z79 => ?_
  refine Tb.zD "CONFLICTS" 12 KX G (by k_is) fun z80 => ?_
  refine Tb.zD "CHOOSE" 13 KX G (by k_is) fun z81 => ?_
  refine Tb.zD "MERGED" 14 KX G (by k_is) fun z82 => ?_
  refine Tb.zD "ORIGINS" 15 KX G (by k_is) fun z83 => ?_
  refine Tb.Qp "EXCHANGED_KINDS" [0, 1, 3, 2, 4] KX G (by k_is) (by k_is) rfl rfl (by decide +kernel) (by repeat (first | exact .nil | refine .cons ⟨_, rfl⟩ ?_)) fun z84 => ?_
  refine Tb.Qp "EXCHANGED_CHOICES" [0, 2, 1, 3] KX G (by k_is) (by k_is) rfl rfl (by decide +kernel) (by repeat (first | exact .nil | refine .cons ⟨_, rfl⟩ ?_)) fun z85 => ?_
  refine Tb.Qp "WHOLES" [0, 2, 2, 3, 2, 3, 1, 1, 0, 1, 1, 2, 0, 3, 0, 0, 0] KX G (by k_is) (by k_is) rfl rfl (by decide +kernel) (by repeat (first | exact .nil | refine .cons ⟨_, rfl⟩ ?_)) fun z86 => ?_
  refine Tb.Qp "ROWS" [1, 1, 1, 0, 0, 0, 0, 0, 0, 0, 0, 0, 0, 0, 0, 0, 0] KX G (by k_is) (by k_is) rfl rfl (by decide +kernel) (by repeat (first | exact .nil | refine .cons ⟨_, rfl⟩ ?_)) fun z87 => ?_
  refine Tb.vh "len" KX G (by k_is) fun z88 => ?_
  refine Tb.vh "all" KX G (by k_is) fun z89 => ?_
  refine Tb.vh "any" KX G (by k_is) fun z90 => ?_
  refine Tb.vh "max" KX G (by k_is) fun z91 => ?_
  refine Tb.vh "min" KX G (by k_is) fun z92 => ?_
  refine Tb.vh "list" KX G (by k_is) fun z93 => ?_
  refine Tb.vh "reversed" KX G (by k_is) fun z94 => ?_
  refine Tb.vh "enumerate" KX G (by k_is) fun z95 => ?_
  refine Tb.vh "zip" KX G (by k_is) fun z96 => ?_
  refine Tb.zA KX G Tb.Vd (by k_is) (by k_is) (by k_is) (by k_is) fun z97 => ?_
  refine Tb.zA KX G Tb.JB (by k_is) (by k_is) (by k_is) (by k_is) fun z98 => ?_
  refine Tb.zA KX G Tb.XT (by k_is) (by k_is) (by k_is) (by k_is) fun z99 => ?_
  refine Tb.zA KX G Tb.YK (by k_is) (by k_is) (by k_is) (by k_is) fun z100 => ?_
  refine Tb.zA KX G Tb.XU (by k_is) (by k_is) (by k_is) (by k_is) fun z101 => ?_
  refine Tb.zA KX G Tb.WO (by k_is) (by k_is) (by k_is) (by k_is) fun z102 => ?_
  refine Tb.zA KX G Tb.aal (by k_is) (by k_is) (by k_is) (by k_is) fun z103 => ?_
  refine Tb.zA KX G Tb.XV (by k_is) (by k_is) (by k_is) (by k_is) fun z104 => ?_
  refine Tb.zA KX G Tb.uJ (by k_is) (by k_is) (by k_is) (by k_is) fun z105 => ?_
  refine Tb.zA KX G Tb.YL (by k_is) (by k_is) (by k_is) (by k_is) fun z106 => ?_
  refine Tb.zA KX G Tb.WP (by k_is) (by k_is) (by k_is) (by k_is) fun z107 => ?_
  refine Tb.zA KX G Tb.Qq (by k_is) (by k_is) (by k_is) (by k_is) fun z108 => ?_
  refine Tb.zA KX G Tb.KJ (by k_is) (by k_is) (by k_is) (by k_is) fun z109 => ?_
  refine Tb.zA KX G Tb.YM (by k_is) (by k_is) (by k_is) (by k_is) fun z110 => ?_
  refine Tb.zA KX G Tb.KK (by k_is) (by k_is) (by k_is) (by k_is) fun z111 => ?_
  refine Tb.zA KX G Tb.JD (by k_is) (by k_is) (by k_is) (by k_is) fun z112 => ?_
  refine Tb.zA KX G Tb.QW (by k_is) (by k_is) (by k_is) (by k_is) fun z113 => ?_
  refine Tb.zA KX G Tb.JE (by k_is) (by k_is) (by k_is) (by k_is) fun z114 => ?_
  refine Tb.zA KX G Tb.YN (by k_is) (by k_is) (by k_is) (by k_is) fun z115 => ?_
  refine Tb.zA KX G Tb.xU (by k_is) (by k_is) (by k_is) (by k_is) fun z116 => ?_
  refine Tb.zA KX G Tb.Ve (by k_is) (by k_is) (by k_is) (by k_is) fun z117 => ?_
  refine Tb.zA KX G Tb.KL (by k_is) (by k_is) (by k_is) (by k_is) fun z118 => ?_
  refine Tb.zA KX G Tb.YO (by k_is) (by k_is) (by k_is) (by k_is) fun z119 => ?_
  refine Tb.zA KX G Tb.Qr (by k_is) (by k_is) (by k_is) (by k_is) fun z120 => ?_
  refine Tb.zA KX G Tb.aam (by k_is) (by k_is) (by k_is) (by k_is) fun z121 => ?_
  refine Tb.zA KX G Tb.JF (by k_is) (by k_is) (by k_is) (by k_is) fun z122 => ?_
  refine Tb.zA KX G Tb.wE (by k_is) (by k_is) (by k_is) (by k_is) fun z123 => ?_
  refine Tb.zA KX G Tb.Qs (by k_is) (by k_is) (by k_is) (by k_is) fun z124 => ?_
  refine Tb.zA KX G Tb.XW (by k_is) (by k_is) (by k_is) (by k_is) fun z125 => ?_
  refine Tb.zA KX G Tb.JG (by k_is) (by k_is) (by k_is) (by k_is) fun z126 => ?_
  refine Tb.zA KX G Tb.Vf (by k_is) (by k_is) (by k_is) (by k_is) fun z127 => ?_
  refine Tb.zA KX G Tb.QX (by k_is) (by k_is) (by k_is) (by k_is) fun z128 => ?_
  refine Tb.zA KX G Tb.Vg (by k_is) (by k_is) (by k_is) (by k_is) fun z129 => ?_
  refine Tb.zA KX G Tb.uK (by k_is) (by k_is) (by k_is) (by k_is) fun z130 => ?_
  refine Tb.zA KX G Tb.JH (by k_is) (by k_is) (by k_is) (by k_is) fun z131 => ?_
  refine Tb.zA KX G Tb.KM (by k_is) (by k_is) (by k_is) (by k_is) fun z132 => ?_
  refine Tb.zA KX G Tb.Qt (by k_is) (by k_is) (by k_is) (by k_is) fun z133 => ?_
  refine Tb.zA KX G Tb.KN (by k_is) (by k_is) (by k_is) (by k_is) fun z134 => ?_
  refine Tb.zA KX G Tb.Qu (by k_is) (by k_is) (by k_is) (by k_is) fun z135 => ?_
  refine Tb.zA KX G Tb.abz (by k_is) (by k_is) (by k_is) (by k_is) fun z136 => ?_
  refine Tb.zA KX G Tb.JI (by k_is) (by k_is) (by k_is) (by k_is) fun z137 => ?_
  refine Tb.zA KX G Tb.Vh (by k_is) (by k_is) (by k_is) (by k_is) fun z138 => ?_
  refine Tb.zA KX G Tb.uL (by k_is) (by k_is) (by k_is) (by k_is) fun z139 => ?_
  refine Tb.zA KX G Tb.JJ (by k_is) (by k_is) (by k_is) (by k_is) fun z140 => ?_
  refine Tb.zA KX G Tb.XX (by k_is) (by k_is) (by k_is) (by k_is) fun z141 => ?_
  refine Tb.zA KX G Tb.Vi (by k_is) (by k_is) (by k_is) (by k_is) fun z142 => ?_
  refine Tb.zA KX G Tb.JK (by k_is) (by k_is) (by k_is) (by k_is) fun z143 => ?_
  refine Tb.zA KX G Tb.XY (by k_is) (by k_is) (by k_is) (by k_is) fun z144 => ?_
  refine Tb.zA KX G Tb.Zn (by k_is) (by k_is) (by k_is) (by k_is) fun z145 => ?_
  refine Tb.zA KX G Tb.Vj (by k_is) (by k_is) (by k_is) (by k_is) fun z146 => ?_
  refine Tb.zA KX G Tb.YQ (by k_is) (by k_is) (by k_is) (by k_is) fun z147 => ?_
  refine Tb.zA KX G Tb.YR (by k_is) (by k_is) (by k_is) (by k_is) fun z148 => ?_
  refine Tb.zA KX G Tb.YS (by k_is) (by k_is) (by k_is) (by k_is) fun z149 => ?_
  refine Tb.zA KX G Tb.YT (by k_is) (by k_is) (by k_is) (by k_is) fun z150 => ?_
  refine Tb.zA KX G Tb.Qv (by k_is) (by k_is) (by k_is) (by k_is) fun z151 => ?_
  refine Tb.zA KX G Tb.KO (by k_is) (by k_is) (by k_is) (by k_is) fun z152 => ?_
  refine Tb.zA KX G Tb.uq (by k_is) (by k_is) (by k_is) (by k_is) fun z153 => ?_
  refine Tb.zA KX G Tb.Vk (by k_is) (by k_is) (by k_is) (by k_is) fun z154 => ?_
  refine Tb.zA KX G Tb.aan (by k_is) (by k_is) (by k_is) (by k_is) fun z155 => ?_
  refine Tb.zA KX G Tb.YU (by k_is) (by k_is) (by k_is) (by k_is) fun z156 => ?_
  refine Tb.zA KX G Tb.WQ (by k_is) (by k_is) (by k_is) (by k_is) fun z157 => ?_
  exact Tb.acT hmg z1 z2 z3 z4 z5 z6 z7 z8 z9 z10 z11 z12 z13 z14 z15 z16 z17 z18 z19 z20 z21 z22 z23 z24 z25 z26 z27 z28 z29 z30 z31 z32 z33 z34 z35 z36 z37 z38 z39 z40 z41 z42 z43 z44 z45 z46 z47 z48 z49 z50 z51 z52 z53 z54 z55 z56 z57 z58 z59 z60 z61 z62 z63 z64 z65 z66 z67 z68 z69 z70 z71 z72 z73 z74 z75 z76 z77 z78 z79 z80 z81 z82 z83 z84 z85 z86 z87 z88 z89 z90 z91 z92 z93 z94 z95 z96 z97 z98 z99 z100 z101 z102 z103 z104 z105 z106 z107 z108 z109 z110 z111 z112 z113 z114 z115 z116 z117 z118 z119 z120 z121 z122 z123 z124 z125 z126 z127 z128 z129 z130 z131 z132 z133 z134 z135 z136 z137 z138 z139 z140 z141 z142 z143 z144 z145 z146 z147 z148 z149 z150 z151 z152 z153 z154 z155 z156 z157
 case S =>
  intro K H xs a hO hwi hask hx
  cases hx with
  | cons h1 h2 =>
   cases h2
   cases h1 with
   | lst hs ha =>
    have e := L2.U6 a.1 _ ha
    subst e
    have q : ((Codec.inLen 0 16000 a.1 && a.1.all (Codec.inInt (Int.negSucc 999999999999999999) (Int.ofNat 1000000000000000000))) && true) = true := hwi
    rw [Bool.and_eq_true, Bool.and_eq_true] at q
    exact ⟨_, a.1, rfl, hs, (Codec.inNat_iff.mp q.1.1).2, hask, fun H' p hp => .lst (L2.SqL.of hp) (L2.U5 _)⟩
end
