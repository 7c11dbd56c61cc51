import PyProof.Rows.All
import Wide.All
import OpenK.AllK
import Wide.FinOn
import PyFlatLaws
import PyProof.DictItems
import PyProof.P3Eq
import PyProof.Rows.IntRules
import PyProof.ListRange
import PyProof.CollectIter
import KE.KRevIter
import PyProof.EqLayable
import PyProof.EqAt
import PyProof.EqKinds
import PyProof.TupleCall
import KE.BitLaws
import Open.SpecLaws
import KE.OsHead
import KE.OsGo
import PySem.Challenge.RW_twobooks_s01_answers
set_option Elab.async false
set_option linter.all false
set_option maxRecDepth 100000
set_option maxHeartbeats 4000000
section
namespace Tb
open Vanbki
structure jv (d:Doc):Prop where
 nd:(numbers d).Nodup
 num:∀ c,c∈d->1<=c.number/\c.number<=99
 len:d.length<=12
 txt:∀ c,c∈d->c.text.length<=200/\∀ b,b∈c.text->b<=255
theorem Qq:jv []:=⟨by simp[numbers],by simp,by simp,by simp⟩
theorem kt {d:Doc}{n:Nat}{c:Cell} (h:find d n=some c):c∈d/\c.number=n:=by
 unfold find at h
 refine⟨List.mem_of_find?_eq_some h,?_⟩
 have:=List.find?_some h
 simpa using this
theorem find_none {d:Doc}{n:Nat}:find d n=none ↔ ∀ c,c∈d->c.number≠n:=by
 unfold find
 rw[List.find?_eq_none]
 simp
theorem has_iff {d:Doc}{n:Nat}:has d n=true ↔ n∈numbers d:=by
 unfold has numbers
 cases e:find d n with
 | none =>
  have:=find_none.mp e
  simp
  intro x hx
  exact this x hx
 | some c =>
  have:=kt e
  simp
  exact⟨c,this.1,this.2⟩
theorem has_false {d:Doc}{n:Nat}:has d n=false ↔ ¬n∈numbers d:=by
 rw[<-has_iff]
 cases has d n <;> simp
theorem wz:∀ {d:Doc}{c:Cell},(numbers d).Nodup->c∈d->find d c.number=some c
 | [],_,_,h=>by cases h
 | x::d,c,nd,h=>by
  unfold numbers at nd
  rw[List.map_cons,List.nodup_cons] at nd
  unfold find
  rw[List.find?_cons]
  by_cases e:x.number=c.number
  . rw[show (x.number == c.number)=true by simpa using e]
    rcases List.mem_cons.mp h with rfl | h
    . rfl
    . exfalso
      apply nd.1
      rw[e]
      exact List.mem_map.mpr ⟨c,h,rfl⟩
  . rw[show (x.number == c.number)=false by simpa using e]
    rcases List.mem_cons.mp h with rfl | h
    . exact absurd rfl e
    . exact wz (d:=d) nd.2 h
theorem ja (d:Doc):(numbers d).length=d.length:=by simp[numbers]
theorem ka (d:Doc) (n:Nat):numbers (dropped d n)=(numbers d).filter (fun m=>m != n):=by
 unfold numbers dropped
 rw[List.filter_map]
 rfl
theorem ve {d:Doc}{n:Nat}{f:Cell->Cell} (hf:∀ c,(f c).number=c.number):numbers (changed1 d n f)=numbers d:=by
 unfold numbers changed1
 rw[List.map_map]
 apply List.map_congr_left
 intro c _
 show (if c.number=n then f c else c).number=c.number
 split
 . exact hf c
 . rfl
def zZ:Doc->Nat->Option Nat
 | [],_=>none
 | c::d,n=>if c.number=n then some 0 else (zZ d n).map (·+1)
theorem placeOf_none:∀ {d:Doc}{n:Nat},zZ d n=none ↔ find d n=none
 | [],n=>by simp[zZ,find]
 | c::d,n=>by
  unfold zZ
  by_cases e:c.number=n
  . rw[if_pos e]
    simp[find,e]
  . rw[if_neg e]
    have ih:=placeOf_none (d:=d) (n:=n)
    unfold find at ih ⊢
    rw[List.find?_cons,show (c.number == n)=false by simpa using e]
    simp[ih]
theorem xP:∀ {d:Doc}{n i:Nat},zZ d n=some i->∃ c,d[i]?=some c/\c.number=n/\find d n=some c
 | [],_,_,h=>by simp[zZ] at h
 | c::d,n,i,h=>by
  unfold zZ at h
  by_cases e:c.number=n
  . rw[if_pos e] at h
    cases h
    exact⟨c,rfl,e,by simp[find,e]⟩
  . rw[if_neg e] at h
    cases k:zZ d n with
    | none=>rw[k] at h;cases h
    | some j =>
     rw[k] at h
     cases h
     obtain⟨x,h1,h2,h3⟩:=xP k
     refine⟨x,by simpa using h1,h2,?_⟩
     unfold find at h3 ⊢
     rw[List.find?_cons,show (c.number == n)=false by simpa using e]
     exact h3
theorem XT {d:Doc}{n i:Nat} (h:zZ d n=some i):i<d.length:=by
 obtain⟨c,h1,_⟩:=xP h
 exact (List.getElem?_eq_some_iff.mp h1).1
theorem yu {c:Cell}{d:Doc} (nd:(numbers (c::d)).Nodup):¬c.number∈numbers d/\(numbers d).Nodup:=by
 unfold numbers at nd ⊢
 rw[List.map_cons,List.nodup_cons] at nd
 exact nd
theorem Zi:∀ {d:Doc}{a:Nat}{c:Cell},¬a∈numbers d->(d.flatMap fun x=>if x.number=a then [x,c] else [x])=d
 | [],_,_,_=>rfl
 | x::d,a,c,h=>by
  unfold numbers at h
  rw[List.map_cons,List.mem_cons,not_or] at h
  rw[List.flatMap_cons,if_neg (fun e=>h.1 e.symm),Zi h.2]
  rfl
theorem wg:∀ {d:Doc}{a i:Nat}{c:Cell},(numbers d).Nodup->zZ d a=some i->(d.flatMap fun x=>if x.number=a then [x,c] else [x])=d.take (i+1)++c::d.drop (i+1)
 | [],_,_,_,_,h=>by simp[zZ] at h
 | x::d,a,i,c,nd,h=>by
  obtain⟨n1,n2⟩:=yu nd
  unfold zZ at h
  rw[List.flatMap_cons]
  by_cases e:x.number=a
  . rw[if_pos e] at h
    cases h
    rw[if_pos e,Zi (by rw[<-e];exact n1)]
    simp
  . rw[if_neg e] at h
    cases k:zZ d a with
    | none=>rw[k] at h;cases h
    | some j =>
     rw[k] at h
     cases h
     rw[if_neg e,wg n2 k]
     simp
theorem Zj {d:Doc}{a i:Nat}{c:Cell} (nd:(numbers d).Nodup) (ha:a≠0) (h:zZ d a=some i):putBehind d a c=d.take (i+1)++c::d.drop (i+1):=by
 unfold putBehind
 rw[if_neg ha]
 exact wg nd h
theorem wA {d:Doc}{c:Cell}:putBehind d 0 c=d.take 0++c::d.drop 0:=by
 unfold putBehind
 rw[if_pos rfl]
 rfl
def ins (d:Doc) (i:Nat) (c:Cell):Doc:=d.take i++c::d.drop i
theorem YO (d:Doc) (i:Nat) (c:Cell):(ins d i c).Perm (c::d):=by
 unfold ins
 have h1:(d.take i++c::d.drop i).Perm (c::(d.take i++d.drop i)):=List.perm_middle
 rw[List.take_append_drop] at h1
 exact h1
theorem Vf {d:Doc}{i:Nat}{c:Cell} (D:jv d) (h12:d.length<12) (hn:1<=c.number/\c.number<=99) (hf:¬c.number∈numbers d) (ht:c.text.length<=200/\∀ b,b∈c.text->b<=255):jv (ins d i c):=by
 have p:=YO d i c
 have pm:∀ x,x∈ins d i c->x=c∨x∈d:=fun x hx=>List.mem_cons.mp (p.mem_iff.mp hx)
 refine⟨?_,?_,?_,?_⟩
 . have q:(numbers (ins d i c)).Perm (numbers (c::d)):=p.map _
   rw[q.nodup_iff]
   unfold numbers
   rw[List.map_cons,List.nodup_cons]
   exact⟨hf,D.nd⟩
 . intro x hx
   rcases pm x hx with rfl | hx
   . exact hn
   . exact D.num x hx
 . rw[p.length_eq,List.length_cons]
   omega
 . intro x hx
   rcases pm x hx with rfl | hx
   . exact ht
   . exact D.txt x hx
theorem Ud {d e:Doc} (D:jv d) (h:e.Sublist d):jv e :=
 ⟨(h.map _).nodup D.nd,fun c hc=>D.num c (h.subset hc),Nat.le_trans h.length_le D.len,fun c hc=>D.txt c (h.subset hc)⟩
theorem xt {d:Doc} (D:jv d) (n:Nat):jv (dropped d n):=Ud D List.filter_sublist
theorem wB {d:Doc}{n:Nat}{f:Cell->Cell} (D:jv d) (hf:∀ c,(f c).number=c.number) (ht:∀ c,c∈d->(f c).text.length<=200/\∀ b,b∈(f c).text->b<=255):jv (changed1 d n f):=by
 have hm:∀ c,c∈changed1 d n f->∃ x,x∈d/\(c=x∨c=f x):=by
  intro c hc
  unfold changed1 at hc
  obtain⟨x,hx,e⟩:=List.mem_map.mp hc
  refine⟨x,hx,?_⟩
  split at e
  . exact .inr e.symm
  . exact .inl e.symm
 refine⟨by rw[ve hf];exact D.nd,?_,?_,?_⟩
 . intro c hc
   obtain⟨x,hx,rfl | rfl⟩:=hm c hc
   . exact D.num _ hx
   . rw[hf];exact D.num _ hx
 . unfold changed1
   rw[List.length_map]
   exact D.len
 . intro c hc
   obtain⟨x,hx,rfl | rfl⟩:=hm c hc
   . exact D.txt _ hx
   . exact ht _ hx
theorem uG:∀ {d:Doc}{n:Nat}{f:Cell->Cell},¬n∈numbers d->changed1 d n f=d
 | [],_,_,_=>rfl
 | x::d,n,f,h=>by
  unfold numbers at h
  rw[List.map_cons,List.mem_cons,not_or] at h
  have ih:=uG (d:=d) (f:=f) h.2
  unfold changed1 at ih ⊢
  rw[List.map_cons,if_neg (fun e=>h.1 e.symm),ih]
theorem yw:∀ {d:Doc}{n i:Nat}{f:Cell->Cell}{c:Cell},(numbers d).Nodup->zZ d n=some i->d[i]?=some c->changed1 d n f=d.set i (f c)
 | [],_,_,_,_,_,h,_=>by simp[zZ] at h
 | x::d,n,i,f,c,nd,h,hc=>by
  obtain⟨n1,n2⟩:=yu nd
  unfold zZ at h
  by_cases e:x.number=n
  . rw[if_pos e] at h
    cases h
    have ex:x=c:=by simpa using hc
    subst ex
    have ih:=uG (d:=d) (f:=f) (n:=n) (by rw[<-e];exact n1)
    unfold changed1 at ih ⊢
    rw[List.map_cons,if_pos e,ih]
    rfl
  . rw[if_neg e] at h
    cases k:zZ d n with
    | none=>rw[k] at h;cases h
    | some j =>
     rw[k] at h
     cases h
     have ih:=yw (f:=f) (c:=c) n2 k (by simpa using hc)
     unfold changed1 at ih ⊢
     rw[List.map_cons,if_neg e,ih]
     rfl
theorem VM {d:Doc}{n:Nat} (h:¬n∈numbers d):dropped d n=d:=by
 unfold dropped
 rw[List.filter_eq_self]
 intro c hc
 have:c.number≠n:=fun e=>h (by rw[<-e];exact List.mem_map.mpr ⟨c,hc,rfl⟩)
 simpa using this
theorem xu:∀ {d:Doc}{n i:Nat},(numbers d).Nodup->zZ d n=some i->dropped d n=d.take i++d.drop (i+1)
 | [],_,_,_,h=>by simp[zZ] at h
 | x::d,n,i,nd,h=>by
  obtain⟨n1,n2⟩:=yu nd
  unfold zZ at h
  by_cases e:x.number=n
  . rw[if_pos e] at h
    cases h
    have ih:=VM (d:=d) (n:=n) (by rw[<-e];exact n1)
    unfold dropped at ih ⊢
    rw[List.filter_cons,if_neg (by simp[e]),ih]
    rfl
  . rw[if_neg e] at h
    cases k:zZ d n with
    | none=>rw[k] at h;cases h
    | some j =>
     rw[k] at h
     cases h
     have ih:=xu n2 k
     unfold dropped at ih ⊢
     rw[List.filter_cons,if_pos (by simp[e]),ih]
     rfl
theorem XU {d:Doc}{i j:Nat}{c:Cell} (nd:(numbers d).Nodup) (hc:d[i]?=some c) (hj:j<=d.length - 1):ins (d.take i++d.drop (i+1)) j c=d ↔ j=i:=by
 have hi:i<d.length:=(List.getElem?_eq_some_iff.mp hc).1
 have hl:(d.take i++d.drop (i+1)).length=d.length - 1:=by
  rw[List.length_append,List.length_take,List.length_drop]
  omega
 constructor
 . intro e
   have h1:(ins (d.take i++d.drop (i+1)) j c)[j]?=some c:=by
    unfold ins
    rw[List.getElem?_append_right (by rw[List.length_take];omega),List.length_take]
    rw[show j - min j (d.take i++d.drop (i+1)).length=0 by omega]
    rfl
   rw[e] at h1
   have h2:(numbers d)[j]?=(numbers d)[i]?:=by
    unfold numbers
    rw[List.getElem?_map,List.getElem?_map,h1,hc]
   have hj':j<(numbers d).length:=by rw[ja];exact (List.getElem?_eq_some_iff.mp h1).1
   exact (List.getElem?_inj hj' nd).mp h2
 . rintro rfl
   unfold ins
   have ht:(d.take j++d.drop (j+1)).take j=d.take j:=by
    rw[List.take_append_of_le_length (by rw[List.length_take];omega),List.take_take,Nat.min_self]
   have hd:(d.take j++d.drop (j+1)).drop j=d.drop (j+1):=by
    rw[List.drop_append_of_le_length (by rw[List.length_take];omega)]
    rw[List.drop_eq_nil_of_le (by rw[List.length_take];omega)]
    rfl
   rw[ht,hd]
   have:c::d.drop (j+1)=d.drop j:=by
    obtain⟨h1,h2⟩:=List.getElem?_eq_some_iff.mp hc
    rw[<-h2]
    exact (List.drop_eq_getElem_cons h1).symm
   rw[this,List.take_append_drop]
end Tb
end
section
namespace Tb
open Vanbki
theorem Zk:∀ (l:List Nat) (a:Nat),a<=l.foldl max a/\∀ x,x∈l->x<=l.foldl max a
 | [],a=>⟨Nat.le_refl _,by simp⟩
 | y::l,a=>by
  obtain⟨h1,h2⟩:=Zk l (max a y)
  rw[List.foldl_cons]
  refine⟨by omega,fun x hx=>?_⟩
  rcases List.mem_cons.mp hx with rfl | hx
  . omega
  . exact h2 x hx
theorem Zl:∀ (l:List Nat) (a b:Nat),a<=b->(∀ x,x∈l->x<=b)->l.foldl max a<=b
 | [],a,b,h,_=>h
 | y::l,a,b,h,k=>by
  rw[List.foldl_cons]
  exact Zl l _ b (by have:=k y (List.mem_cons_self ..);omega) fun x hx=>k x (List.mem_cons_of_mem _ hx)
theorem vE {l:List Nat}{x:Nat} (h:x∈l):x<=greatest l:=(Zk l 0).2 x h
theorem wC {l:List Nat}{b:Nat} (h:∀ x,x∈l->x<=b):greatest l<=b:=Zl l 0 b (Nat.zero_le _) h
structure qh (s:State):Prop where
 b:jv s.base
 l:jv s.left
 r:jv s.right
 ll:∀ n,n∈numbers s.left->n<s.nextLeft
 lb:∀ n,n∈numbers s.base->n<s.nextLeft
 rr:∀ n,n∈numbers s.right->n<s.nextRight
 rb:∀ n,n∈numbers s.base->n<s.nextRight
 l1:1<=s.nextLeft/\s.nextLeft<=100
 r1:1<=s.nextRight/\s.nextRight<=100
 c1:∀ x,x∈s.choices->x.1∈conflicts s/\1<=x.2/\x.2<=3
 c2:(s.choices.map fun x=>x.1).Nodup
theorem XV:qh start:=⟨Qq,Qq,Qq,by simp[start,numbers],by simp[start,numbers],by simp[start,numbers],by simp[start,numbers],by simp[start],by simp[start],by simp[start],by simp[start]⟩
theorem Qr {d:Doc} (D:jv d) {n:Nat} (h:n∈numbers d):1<=n/\n<=99:=by
 unfold numbers at h
 obtain⟨c,hc,rfl⟩:=List.mem_map.mp h
 exact D.num c hc
theorem YQ {d:Doc}{k:Nat} (D:jv d) (h:∀ n,n∈numbers d->n<k) (hk:1<=k/\k<=100):qh { base:=d,left:=d,right:=d,nextLeft:=k,nextRight:=k } :=
 ⟨D,D,D,h,h,h,h,hk,hk,by simp,by simp⟩
theorem VN {s:State}{side:Int}{d:Doc}{k:Nat} (S:qh s) (D:jv d) (h1:∀ n,n∈numbers d->n<k) (h2:∀ n,n∈numbers s.base->n<k) (hk:1<=k/\k<=100):qh (setSide s side d k):=by
 unfold setSide
 split
 . exact⟨S.b,D,S.r,h1,h2,S.rr,S.rb,hk,S.r1,by simp,by simp⟩
 . exact⟨S.b,S.l,D,S.ll,S.lb,h1,h2,S.l1,hk,by simp,by simp⟩
theorem zW {s:State} (S:qh s) (side:Int):jv (sideDoc s side):=by
 unfold sideDoc
 split
 . exact S.l
 . exact S.r
theorem je {s:State} (S:qh s) (side:Int):(∀ n,n∈numbers (sideDoc s side)->n<sideNext s side)/\(∀ n,n∈numbers s.base->n<sideNext s side)/\1<=sideNext s side/\sideNext s side<=100:=by
 unfold sideDoc sideNext
 split
 . exact⟨S.ll,S.lb,S.l1⟩
 . exact⟨S.rr,S.rb,S.r1⟩
theorem Qs {t:List Int} (hb:bytes t=true) (hl:tooLong t=false):(textOf t).length<=200/\∀ b,b∈textOf t->b<=255:=by
 unfold tooLong LONG at hl
 unfold bytes at hb
 refine⟨?_,?_⟩
 . unfold textOf
   rw[List.length_map]
   simp at hl
   exact hl
 . intro b h
   unfold textOf at h
   obtain⟨c,hc,rfl⟩:=List.mem_map.mp h
   have:=List.all_eq_true.mp hb c hc
   simp at this
   omega
theorem xQ {l:List (Bool × Int)} (h:first l=none):∀ x,x∈l->x.1=false:=by
 induction l with
 | nil=>intro x hx;cases hx
 | cons y l ih =>
  obtain⟨c,n⟩:=y
  unfold first at h
  cases c with
  | true=>simp at h
  | false =>
   simp at h
   intro x hx
   rcases List.mem_cons.mp hx with rfl | hx
   . rfl
   . exact ih h x hx
theorem Qt {d:Doc}{n:Int} (h:hasI d n=true):0<=n/\n.toNat∈numbers d:=by
 unfold hasI at h
 simp at h
 exact⟨h.1,has_iff.mp h.2⟩
theorem vF {d:Doc}{n:Nat} (h:n∈numbers d):∃ c,find d n=some c:=by
 cases e:find d n with
 | some c=>exact⟨c,rfl⟩
 | none =>
  exfalso
  obtain⟨c,hc,e2⟩:=List.mem_map.mp h
  exact find_none.mp e c hc e2
theorem JM {d:Doc}{n:Nat} (h:n∈numbers d):∃ i,zZ d n=some i:=by
 cases e:zZ d n with
 | some i=>exact⟨i,rfl⟩
 | none =>
  obtain⟨c,hc⟩:=vF h
  rw[placeOf_none.mp e] at hc
  cases hc
theorem uH {d:Doc}{a:Nat} (c:Cell) (nd:(numbers d).Nodup) (h:a=0∨a∈numbers d):∃ i,i<=d.length/\putBehind d a c=ins d i c:=by
 by_cases e:a=0
 . subst e
   exact⟨0,Nat.zero_le _,wA⟩
 . obtain⟨i,hi⟩:=JM (h.resolve_left e)
   exact⟨i+1,XT hi,Zj nd e hi⟩
theorem mem_numbers_ins {d:Doc}{i:Nat}{c:Cell}{n:Nat}:n∈numbers (ins d i c) ↔ n=c.number∨n∈numbers d:=by
 have q:(numbers (ins d i c)).Perm (numbers (c::d)):=(YO d i c).map _
 rw[q.mem_iff]
 unfold numbers
 rw[List.map_cons,List.mem_cons]
theorem YR {d:Doc}{n a:Nat}{c:Cell} (D:jv d) (hf:find d n=some c) (ha:a=0∨(a∈numbers d/\a≠n)):jv (putBehind (dropped d n) a c)/\numbers (putBehind (dropped d n) a c) ⊆ numbers d:=by
 obtain⟨hc,en⟩:=kt hf
 obtain⟨i,_,ei⟩:=uH (d:=dropped d n) (a:=a) c (xt D n).nd (by
  rcases ha with h | ⟨h1,h2⟩
  . exact .inl h
  . right
    rw[ka]
    exact List.mem_filter.mpr ⟨h1,by simpa using h2⟩)
 rw[ei]
 have hlt:(dropped d n).length<d.length:=by
  unfold dropped
  rw[List.length_filter_lt_length_iff_exists]
  exact⟨c,hc,by simp[en]⟩
 refine⟨Vf (xt D n) (by have:=D.len;omega) (D.num c hc) ?_ (D.txt c hc),?_⟩
 . rw[ka]
   intro h
   have:=(List.mem_filter.mp h).2
   simp[en] at this
 . intro m hm
   rcases mem_numbers_ins.mp hm with rfl | h
   . exact List.mem_map.mpr ⟨c,hc,rfl⟩
   . rw[ka] at h
     exact (List.mem_filter.mp h).1
theorem vf {s:State}{side:Int}{own:List (Bool × Int)}{d:Doc}{k:Nat}{an:Int} (S:qh s) (h:first ((noSide side,-8)::own)=none->jv d/\(∀ n,n∈numbers d->n<k)/\(∀ n,n∈numbers s.base->n<k)/\1<=k/\k<=100):qh (edit s side own d k an).1:=by
 unfold edit
 split
 . exact S
 . rename_i e
   obtain⟨h1,h2,h3,h4⟩:=h e
   exact VN S h1 h2 h3 h4
theorem KJ {s:State} (S:qh s) (c:Call):qh (sideEdit s c).1:=by
 unfold sideEdit
 split
 ·
  rename_i side a t
  refine vf S fun e=>?_
  have f:=xQ e
  simp only[List.mem_cons,forall_eq_or_imp] at f
  obtain⟨_,fa,fb,fl,f12,fk,_⟩:=f
  obtain⟨n1,n2,n3,n4⟩:=je S side
  have D:=zW S side
  have ha:a.toNat=0∨a.toNat∈numbers (sideDoc s side):=by
   simp only[Bool.not_eq_eq_eq_not,Bool.not_false,Bool.or_eq_true] at fa
   rcases fa with h | h
   . left
     have:a=0:=by simpa using h
     rw[this]
     rfl
   . exact .inr (Qt h).2
  obtain⟨i,_,ei⟩:=uH (Cell.mk (sideNext s side) false (textOf t)) D.nd ha
  have hk:sideNext s side<=99:=by simpa using fk
  rw[ei]
  refine⟨Vf D (by have:=of_decide_eq_false f12;unfold CELLS at this;omega) ⟨n3,hk⟩ (fun h=>Nat.lt_irrefl _ (n1 _ h)) (Qs (by simpa using fb) fl),?_,fun n hn=>Nat.lt_succ_of_lt (n2 n hn),by omega,by omega⟩
  intro n hn
  rcases mem_numbers_ins.mp hn with rfl | h
  . exact Nat.lt_succ_self _
  . exact Nat.lt_succ_of_lt (n1 n h)
 ·
  rename_i side n t
  refine vf S fun e=>?_
  have f:=xQ e
  simp only[List.mem_cons,forall_eq_or_imp] at f
  obtain⟨_,_,fb,fl,_⟩:=f
  obtain⟨n1,n2,n3⟩:=je S side
  have ht:=Qs (by simpa using fb) fl
  refine⟨wB (zW S side) (fun _=>rfl) (fun _ _=>ht),?_,n2,n3⟩
  have q:=ve (d:=sideDoc s side) (n:=n.toNat) (f:=fun c=>{ c with text:=textOf t }) (fun _=>rfl)
  rw[q]
  exact n1
 ·
  rename_i side n a
  refine vf S fun e=>?_
  have f:=xQ e
  simp only[List.mem_cons,forall_eq_or_imp] at f
  obtain⟨_,f1,f2,f3,_⟩:=f
  obtain⟨n1,n2,n3⟩:=je S side
  have D:=zW S side
  have hn:=Qt (by simpa using f1)
  obtain⟨c,hc⟩:=vF hn.2
  simp only[hc]
  have ha:a.toNat=0∨(a.toNat∈numbers (sideDoc s side)/\a.toNat≠n.toNat):=by
   rw[Bool.or_eq_false_iff] at f2
   obtain⟨g1,g2⟩:=f2
   simp only[Bool.not_eq_eq_eq_not,Bool.not_false,Bool.or_eq_true] at g1
   rcases g1 with h | h
   . left
     have:a=0:=by simpa using h
     rw[this]
     rfl
   . have:=Qt h
     refine .inr ⟨this.2,fun q=>?_⟩
     have:a≠n:=by simpa using g2
     omega
  obtain⟨m1,m2⟩:=YR D hc ha
  exact⟨m1,fun m hm=>n1 m (m2 hm),n2,n3⟩
 ·
  rename_i side n
  refine vf S fun e=>?_
  obtain⟨n1,n2,n3⟩:=je S side
  refine⟨xt (zW S side) _,?_,n2,n3⟩
  intro m hm
  rw[ka] at hm
  exact n1 m (List.mem_filter.mp hm).1
 ·
  rename_i side n m
  refine vf S fun e=>?_
  obtain⟨n1,n2,n3⟩:=je S side
  refine⟨wB (zW S side) (fun _=>rfl) (fun c hc=>(zW S side).txt c hc),?_,n2,n3⟩
  have q:=ve (d:=sideDoc s side) (n:=n.toNat) (f:=fun c=>{ c with hidden:=m == 1 }) (fun _=>rfl)
  rw[q]
  exact n1
 ·
  rename_i side
  exact vf S fun e=>⟨zW S _,(je S _).1,(je S _).2.1,(je S _).2.2⟩
 ·
  rename_i side
  refine vf S fun e=>⟨S.b,fun n hn=>Nat.lt_succ_of_le (vE hn),fun n hn=>Nat.lt_succ_of_le (vE hn),by omega,?_⟩
  have:=wC (l:=numbers s.base) (b:=99) fun n hn=>(Qr S.b hn).2
  omega
 . exact S
end Tb
end
section
namespace Tb
open Vanbki
def uI (t:Text):Prop:=t.length<=200/\∀ b,b∈t->b<=255
def vg (ls:List Text):Prop:=∀ l,l∈ls->∀ b,b∈l->b<=255
theorem uj:∀ {t:Text},(∀ b,b∈t->b<=255)->vg (linesOf t)
 | [],_=>by
  intro l hl
  unfold linesOf at hl
  simp at hl
  subst hl
  simp
 | c::r,h=>by
  have ih:=uj (t:=r) fun b hb=>h b (List.mem_cons_of_mem _ hb)
  unfold linesOf
  split
  . intro l hl
    rcases List.mem_cons.mp hl with rfl | hl
    . simp
    . exact ih l hl
  . split
    . rename_i l m e
      rw[e] at ih
      intro l' hl
      rcases List.mem_cons.mp hl with rfl | hl
      . intro b hb
        rcases List.mem_cons.mp hb with rfl | hb
        . exact h _ (List.mem_cons_self ..)
        . exact ih l (List.mem_cons_self ..) b hb
      . exact ih l' (List.mem_cons_of_mem _ hl)
    . intro l hl b hb
      simp at hl
      subst hl
      simp at hb
      subst hb
      exact h _ (List.mem_cons_self ..)
theorem Qu:∀ {ls:List Text},vg ls->∀ b,b∈unlines ls->b<=255
 | [],_,b,hb=>by simp[unlines] at hb
 | [l],h,b,hb=>h l (List.mem_cons_self ..) b hb
 | l::x::m,h,b,hb=>by
  unfold unlines at hb
  rcases List.mem_append.mp hb with hb | hb
  . exact h l (List.mem_cons_self ..) b hb
  . rcases List.mem_cons.mp hb with rfl | hb
    . decide
    . exact Qu (ls:=x::m) (fun l' hl'=>h l' (List.mem_cons_of_mem _ hl')) b hb
theorem vv {a b:List Text} (ha:vg a) (hb:vg b):vg (a++b):=fun l hl=>by
 rcases List.mem_append.mp hl with h | h
 . exact ha l h
 . exact hb l h
theorem xR {a b:List Text} (h:vg b) (s:a ⊆ b):vg a:=fun l hl=>h l (s hl)
theorem YS {b x:List Text} (hx:vg x):vg (changeOf b x).new :=
 xR hx fun _ h=>List.mem_of_mem_drop (List.mem_of_mem_take h)
theorem aai {b:List Text}{f g:Change} (hb:vg b) (hf:vg f.new) (hg:vg g.new):vg (both b f g) :=
 vv (vv (vv (vv (xR hb fun _ h=>List.mem_of_mem_take h) hf) (xR hb fun _ h=>List.mem_of_mem_drop (List.mem_of_mem_take h))) hg) (xR hb fun _ h=>List.mem_of_mem_drop h)
theorem Zm {t u:Text} (h:ifShort t=some u):t=u/\u.length<=200:=by
 unfold ifShort LONG at h
 split at h
 . cases h
   exact⟨rfl,by assumption⟩
 . cases h
theorem KK {b l r t:Text} (hb:uI b) (hl:uI l) (hr:uI r) (h:mergedText b l r=some t):uI t:=by
 unfold mergedText at h
 have B1:=uj hb.2
 have B2:=YS (b:=linesOf b) (uj hl.2)
 have B3:=YS (b:=linesOf b) (uj hr.2)
 split at h
 . cases h;exact hr
 . split at h
   . cases h;exact hl
   . split at h
     . cases h;exact hl
     . simp only at h
       split at h
       . obtain⟨e,k⟩:=Zm h
         subst e
         exact⟨k,Qu (aai B1 B2 B3)⟩
       . split at h
         . obtain⟨e,k⟩:=Zm h
           subst e
           exact⟨k,Qu (aai B1 B3 B2)⟩
         . cases h
theorem vG:∀ (a b:List Text),inCommon a b<=a.length/\inCommon a b<=b.length
 | [],_=>by simp[inCommon]
 | _::_,[]=>by simp[inCommon]
 | x::r,y::s=>by
  have:=vG r s
  unfold inCommon
  split
  . simp only[List.length_cons]
    omega
  . simp
theorem uk (b x:List Text):(changeOf b x).p<=(changeOf b x).q/\(changeOf b x).q<=b.length:=by
 have:=vG b x
 unfold changeOf
 simp only
 omega
theorem vH {b l r:Text} (h:mergedText b l r=none):mergedText b r l=none:=by
 unfold mergedText at h ⊢
 by_cases e1:l=b
 . rw[if_pos e1] at h;cases h
 by_cases e2:r=b
 . rw[if_neg e1,if_pos e2] at h;cases h
 by_cases e3:l=r
 . rw[if_neg e1,if_neg e2,if_pos e3] at h;cases h
 rw[if_neg e1,if_neg e2,if_neg e3] at h
 rw[if_neg e2,if_neg e1,if_neg (fun e=>e3 e.symm)]
 have q1:=uk (linesOf b) (linesOf l)
 have q2:=uk (linesOf b) (linesOf r)
 simp only at h ⊢
 by_cases k1:(changeOf (linesOf b) (linesOf l)).q<(changeOf (linesOf b) (linesOf r)).p
 . rw[if_pos k1] at h
   rw[if_neg (by omega),if_pos k1]
   exact h
 . rw[if_neg k1] at h
   by_cases k2:(changeOf (linesOf b) (linesOf r)).q<(changeOf (linesOf b) (linesOf l)).p
   . rw[if_pos k2] at h
     rw[if_pos k2]
     exact h
   . rw[if_neg k2,if_neg k1]
theorem xS (b l r:Text):(mergedText b l r).isNone=(mergedText b r l).isNone:=by
 cases e:mergedText b l r with
 | none=>rw[vH e]
 | some t =>
  cases e2:mergedText b r l with
  | none=>rw[vH e2] at e;cases e
  | some u=>rfl
def Zn (k:Nat):Nat:=if k=2 then 3 else if k=3 then 2 else k
def ul (c:Nat):Nat:=if c=1 then 2 else if c=2 then 1 else c
theorem JN (s:State):swapped s={ base:=s.base,left:=s.right,right:=s.left,nextLeft:=s.nextRight,nextRight:=s.nextLeft,choices:=s.choices.map fun x=>((Zn x.1.1,x.1.2),ul x.2) }:=rfl
theorem Ue {a b:Nat} (h:Zn a=Zn b):a=b:=by
 unfold Zn at h
 split at h <;> split at h <;> (try split at h) <;> (try split at h) <;> omega
theorem wD (s:State):common (swapped s)=common s:=by
 unfold common swapped
 simp only
 congr 1
 funext n
 exact Bool.and_comm _ _
theorem Jb (s:State) (d:Doc):orderIn (swapped s) d=orderIn s d:=by
 unfold orderIn
 rw[wD]
theorem uy (s:State):(mergedOrder (swapped s)).isNone=(mergedOrder s).isNone:=by
 unfold mergedOrder
 simp only[wD,Jb]
 show Option.isNone (if orderIn s s.right=common s then some (orderIn s s.left) else if orderIn s s.left=common s then some (orderIn s s.right) else if orderIn s s.right=orderIn s s.left then some (orderIn s s.right) else none)=_
 generalize orderIn s s.left=l
 generalize orderIn s s.right=r
 generalize common s=o
 by_cases e1:l=o
 . by_cases e2:r=o
   . simp[e1,e2]
   . simp[e1,e2]
 . by_cases e2:r=o
   . simp[e1,e2]
   . by_cases e3:l=r
     . subst e3
       simp[e1]
     . have e4:¬r=l:=fun e=>e3 e.symm
       simp[e1,e2,e3,e4]
theorem uX (s:State) (c:Cell):conflictAt (swapped s) c=(conflictAt s c).map Zn:=by
 unfold conflictAt
 show (match find s.right c.number,find s.left c.number with
  | some l,some r=>if (mergedText c.text l.text r.text).isNone=true then some 1 else none
  | none,some r=>if sameCell c r=true then none else some 2
  | some l,none=>if sameCell c l=true then none else some 3
  | none,none=>none)=_
 cases find s.left c.number with
 | none =>
  cases find s.right c.number with
  | none=>rfl
  | some r =>
   simp only
   split <;> rfl
 | some l =>
  cases find s.right c.number with
  | none =>
   simp only
   split <;> rfl
  | some r =>
   simp only
   rw[xS c.text r.text l.text]
   split <;> rfl
theorem Zo (s:State):conflicts (swapped s)=(conflicts s).map fun x=>(Zn x.1,x.2):=by
 unfold conflicts
 rw[uy,List.map_append]
 congr 1
 . rw[List.map_filterMap]
   show (s.base.filterMap fun c=>(conflictAt (swapped s) c).map fun k=>(k,c.number))=_
   congr 1
   funext c
   rw[uX]
   cases conflictAt s c <;> rfl
 . split <;> rfl
theorem VO {s:State} (S:qh s):qh (swapped s):=by
 refine⟨S.b,S.r,S.l,S.rr,S.rb,S.ll,S.lb,S.r1,S.l1,?_,?_⟩
 . intro x hx
   rw[JN] at hx
   obtain⟨y,hy,rfl⟩:=List.mem_map.mp hx
   obtain⟨h1,h2,h3⟩:=S.c1 y hy
   rw[Zo]
   refine⟨List.mem_map.mpr ⟨y.1,h1,rfl⟩,?_⟩
   show 1<=ul y.2/\ul y.2<=3
   unfold ul
   split
   . omega
   . split <;> omega
 . rw[JN]
   show ((s.choices.map fun x=>((Zn x.1.1,x.1.2),ul x.2)).map fun x=>x.1).Nodup
   rw[List.map_map]
   have e:((fun x:(Nat × Nat) × Nat=>x.1) ∘ fun x:(Nat × Nat) × Nat=>((Zn x.1.1,x.1.2),ul x.2))=(fun y:Nat × Nat=>(Zn y.1,y.2)) ∘ fun x:(Nat × Nat) × Nat=>x.1:=rfl
   rw[e,<-List.map_map]
   have:=S.c2
   generalize (s.choices.map fun x=>x.1)=L at this ⊢
   unfold List.Nodup at this ⊢
   rw[List.pairwise_map]
   refine this.imp fun {a b} h q=>h ?_
   have q1:=Ue (Prod.mk.inj q).1
   have q2:=(Prod.mk.inj q).2
   exact Prod.ext q1 q2
end Tb
end
section
namespace Tb
open Vanbki
theorem common_mem {s:State}{n:Nat}:n∈common s ↔ n∈numbers s.base/\n∈numbers s.left/\n∈numbers s.right:=by
 unfold common
 rw[List.mem_filter,Bool.and_eq_true,has_iff,has_iff]
theorem VP {s:State} (S:qh s):(common s).Nodup:=(List.filter_sublist).nodup S.b.nd
theorem orderIn_mem {s:State}{d:Doc}{n:Nat}:n∈orderIn s d ↔ n∈numbers d/\n∈common s:=by
 unfold orderIn
 rw[List.mem_filter,List.contains_iff_mem]
def kD (s:State):Option (List Nat):=match mergedOrder s with
 | some o=>some o
 | none=>chosen (choiceOf s 4 0) (orderIn s s.left) (orderIn s s.right) (common s)
theorem JO {s:State}{o:List Nat} (h:kD s=some o):o=orderIn s s.left∨o=orderIn s s.right∨o=common s:=by
 unfold kD at h
 split at h
 . rename_i o' e
   cases h
   unfold mergedOrder at e
   simp only at e
   split at e
   . cases e;exact .inr (.inl rfl)
   . split at e
     . cases e;exact .inl rfl
     . split at e
       . cases e;exact .inl rfl
       . cases e
 . unfold chosen at h
   split at h
   . cases h;exact .inl rfl
   . cases h;exact .inr (.inl rfl)
   . cases h;exact .inr (.inr rfl)
   . cases h
theorem QS {s:State}{o:List Nat} (S:qh s) (h:kD s=some o):o.Nodup/\∀ n,n∈o->n∈common s:=by
 rcases JO h with rfl | rfl | rfl
 . exact⟨List.filter_sublist.nodup S.l.nd,fun n hn=>(orderIn_mem.mp hn).2⟩
 . exact⟨List.filter_sublist.nodup S.r.nd,fun n hn=>(orderIn_mem.mp hn).2⟩
 . exact⟨VP S,fun n hn=>hn⟩
abbrev qQ (s:State):List (Nat × Item):=behind (looseLeft s) (common s) 0 s.left
abbrev qX (s:State):List (Nat × Item):=behind (looseRight s) (common s) 0 s.right
theorem uY {s:State}{it:List Item} (h:items s=some it):open_ s=0/\∃ o,kD s=some o/\it=gap (at_ (qQ s) 0) (at_ (qX s) 0)++o.flatMap fun n=>(commonItem s n).toList++gap (at_ (qQ s) n) (at_ (qX s) n):=by
 unfold items at h
 split at h
 . cases h
 . rename_i h0
   refine⟨by omega,?_⟩
   have e:(kD s).map (fun o=>gap (at_ (qQ s) 0) (at_ (qX s) 0)++o.flatMap fun n=>(commonItem s n).toList++gap (at_ (qQ s) n) (at_ (qX s) n))=some it:=h
   cases k:kD s with
   | none=>rw[k] at e;cases e
   | some o=>rw[k] at e;cases e;exact⟨o,rfl,rfl⟩
theorem km {loose:Cell->Option Item}{co:List Nat}:∀ {d:Doc}{a:Nat}{x:Nat × Item},x∈behind loose co a d->∃ c,c∈d/\loose c=some x.2/\¬c.number∈co
 | [],_,_,h=>by simp[behind] at h
 | c::d,a,x,h=>by
  unfold behind at h
  split at h
  . obtain⟨y,h1,h2⟩:=km h
    exact⟨y,List.mem_cons_of_mem _ h1,h2⟩
  . rename_i hc
    split at h
    . rename_i i e
      rcases List.mem_cons.mp h with rfl | h
      . exact⟨c,List.mem_cons_self ..,e,fun q=>hc (List.contains_iff_mem.mpr q)⟩
      . obtain⟨y,h1,h2⟩:=km h
        exact⟨y,List.mem_cons_of_mem _ h1,h2⟩
    . obtain⟨y,h1,h2⟩:=km h
      exact⟨y,List.mem_cons_of_mem _ h1,h2⟩
theorem VQ {L:List (Nat × Item)}{a:Nat}{i:Item} (h:i∈at_ L a):(a,i)∈L:=by
 unfold at_ at h
 obtain⟨x,hx,rfl⟩:=List.mem_map.mp h
 obtain⟨h1,h2⟩:=List.mem_filter.mp hx
 have:x.1=a:=by simpa using h2
 rw[<-this]
 exact h1
theorem Zp {s:State}{k m:Nat}{c x y:Cell} (h:keptAs s k m c x=some y):y=x∨y=c:=by
 unfold keptAs at h
 split at h
 . cases h
 . simp only at h
   split at h
   . cases h;exact .inl rfl
   . split at h
     . cases h;exact .inr rfl
     . cases h
theorem yx {s:State}{x:Cell}{i:Item} (h:looseLeft s x=some i):i.onLeft=x.number/\i.onRight=0 /\
 ((i.own=0/\¬x.number∈numbers s.base/\i.text=x.text)∨(i.own=x.number/\¬x.number∈numbers s.right/\∃ c,find s.base x.number=some c/\(i.text=x.text∨i.text=c.text))):=by
 unfold looseLeft at h
 split at h
 . rename_i e
   cases h
   refine⟨rfl,rfl,.inl ⟨rfl,?_,rfl⟩⟩
   rw[<-has_iff]
   unfold has
   rw[e]
   simp
 . rename_i c e
   split at h
   . cases h
   . rename_i hr
     cases k:keptAs s 3 1 c x with
     | none=>rw[k] at h;cases h
     | some y =>
      rw[k] at h
      cases h
      refine⟨rfl,rfl,.inr ⟨rfl,fun q=>hr (has_iff.mpr q),c,e,?_⟩⟩
      rcases Zp k with rfl | rfl
      . exact .inl rfl
      . exact .inr rfl
theorem vS {s:State}{x:Cell}{i:Item} (h:looseRight s x=some i):i.onLeft=0/\i.onRight=x.number /\
 ((i.own=0/\¬x.number∈numbers s.base/\i.text=x.text)∨(i.own=x.number/\¬x.number∈numbers s.left/\∃ c,find s.base x.number=some c/\(i.text=x.text∨i.text=c.text))):=by
 unfold looseRight at h
 split at h
 . rename_i e
   cases h
   refine⟨rfl,rfl,.inl ⟨rfl,?_,rfl⟩⟩
   rw[<-has_iff]
   unfold has
   rw[e]
   simp
 . rename_i c e
   split at h
   . cases h
   . rename_i hr
     cases k:keptAs s 2 2 c x with
     | none=>rw[k] at h;cases h
     | some y =>
      rw[k] at h
      cases h
      refine⟨rfl,rfl,.inr ⟨rfl,fun q=>hr (has_iff.mpr q),c,e,?_⟩⟩
      rcases Zp k with rfl | rfl
      . exact .inl rfl
      . exact .inr rfl
theorem Zq:∀ {l r:List Item}{x:Item × Item},x∈l.zip r->x.1∈l
 | [],_,_,h=>by simp at h
 | _::_,[],_,h=>by simp at h
 | a::l,b::r,x,h=>by
  rw[List.zip_cons_cons] at h
  rcases List.mem_cons.mp h with rfl | h
  . exact List.mem_cons_self ..
  . exact List.mem_cons_of_mem _ (Zq h)
theorem YT {l r:List Item}{i:Item} (h:i∈gap l r):∃ j,(j∈l∨j∈r)/\i.text=j.text/\i.own=j.own:=by
 unfold gap at h
 split at h
 . obtain⟨x,hx,rfl⟩:=List.mem_map.mp h
   exact⟨x.1,.inl (Zq hx),rfl,rfl⟩
 . exact⟨i,List.mem_append.mp h,rfl,rfl⟩
 . exact⟨i,(List.mem_append.mp h).symm,rfl,rfl⟩
theorem kn {d:Doc} (D:jv d) {n:Nat}{c:Cell} (h:find d n=some c):uI c.text:=D.txt c (kt h).1
theorem vT {s:State}{n:Nat}{i:Item} (S:qh s) (h:commonItem s n=some i):i.own=n/\i.onLeft=n/\i.onRight=n/\uI i.text:=by
 unfold commonItem at h
 split at h
 . rename_i c l r hc hl hr
   simp only at h
   cases k:mergedText c.text l.text r.text with
   | some t =>
    rw[k] at h
    cases h
    exact⟨rfl,rfl,rfl,KK (kn S.b hc) (kn S.l hl) (kn S.r hr) k⟩
   | none =>
    rw[k] at h
    simp only at h
    unfold chosen at h
    split at h
    . cases h;exact⟨rfl,rfl,rfl,kn S.l hl⟩
    . cases h;exact⟨rfl,rfl,rfl,kn S.r hr⟩
    . cases h;exact⟨rfl,rfl,rfl,kn S.b hc⟩
    . cases h
 . cases h
theorem YU {s:State} (S:qh s) {a:Nat}{i:Item} (h:i∈at_ (qQ s) a):uI i.text:=by
 obtain⟨c,hc,hl,_⟩:=km (VQ h)
 obtain⟨_,_,⟨_,_,e⟩ | ⟨_,_,b,hb,e | e⟩⟩:=yx hl
 . rw[e];exact S.l.txt c hc
 . rw[e];exact S.l.txt c hc
 . rw[e];exact kn S.b hb
theorem YV {s:State} (S:qh s) {a:Nat}{i:Item} (h:i∈at_ (qX s) a):uI i.text:=by
 obtain⟨c,hc,hl,_⟩:=km (VQ h)
 obtain⟨_,_,⟨_,_,e⟩ | ⟨_,_,b,hb,e | e⟩⟩:=vS hl
 . rw[e];exact S.r.txt c hc
 . rw[e];exact S.r.txt c hc
 . rw[e];exact kn S.b hb
theorem XW {s:State} (S:qh s) {it:List Item} (h:items s=some it) {i:Item} (hi:i∈it):uI i.text:=by
 obtain⟨_,o,ho,rfl⟩:=uY h
 have hg:∀ a,i∈gap (at_ (qQ s) a) (at_ (qX s) a)->uI i.text:=by
  intro a ha
  obtain⟨j,hj,e,_⟩:=YT ha
  rw[e]
  rcases hj with hj | hj
  . exact YU S hj
  . exact YV S hj
 rcases List.mem_append.mp hi with hi | hi
 . exact hg 0 hi
 . obtain⟨n,hn,hi⟩:=List.mem_flatMap.mp hi
   rcases List.mem_append.mp hi with hi | hi
   . exact (vT S (Option.mem_toList.mp hi)).2.2.2
   . exact hg n hi
theorem yR {α:Type} (f g:α->Nat):∀ l:List α,(l.map fun a=>f a+g a).sum=(l.map f).sum+(l.map g).sum
 | []=>rfl
 | a::l=>by
  simp only[List.map_cons,List.sum_cons,yR f g l]
  omega
theorem uZ {α:Type}{f g:α->Nat}:∀ {l:List α},(∀ a,a∈l->f a<=g a)->(l.map f).sum<=(l.map g).sum
 | [],_=>Nat.le_refl _
 | a::l,h=>by
  simp only[List.map_cons,List.sum_cons]
  have:=h a (List.mem_cons_self ..)
  have:=uZ (l:=l) fun b hb=>h b (List.mem_cons_of_mem _ hb)
  omega
theorem wE {α:Type}:∀ l:List α,(l.map fun _=>0).sum=0
 | []=>rfl
 | _::l=>by simpa using wE l
theorem Qv:∀ {l:List Nat} (b k:Nat),l.Nodup->(l.map fun a=>if b=a then k else 0).sum<=k
 | [],_,_,_=>Nat.zero_le _
 | a::l,b,k,nd=>by
  rw[List.nodup_cons] at nd
  simp only[List.map_cons,List.sum_cons]
  split
  . rename_i e
    subst e
    have:(l.map fun a=>if b=a then k else 0)=l.map fun _=>0:=by
     apply List.map_congr_left
     intro a ha
     rw[if_neg (fun e=>nd.1 (by rw[e];exact ha))]
    rw[this]
    have z:=wE l
    omega
  . have:=Qv b k nd.2
    omega
def qV (n:Nat) (l:List Item):Nat:=(l.map fun i=>i.own).count n
theorem vI (n:Nat) (l r:List Item):qV n (l++r)=qV n l+qV n r:=by
 unfold qV
 rw[List.map_append,List.count_append]
theorem ku (n:Nat) (i:Item) (l:List Item):qV n (i::l)=(if i.own=n then 1 else 0)+qV n l:=by
 unfold qV
 rw[List.map_cons,List.count_cons]
 simp only[beq_iff_eq]
 omega
theorem YW (n:Nat):∀ (l r:List Item),qV n ((l.zip r).map fun x=>{ x.1 with onRight:=x.2.onRight })<=qV n l
 | [],_=>by simp[qV]
 | _::_,[]=>by simp[qV]
 | a::l,b::r=>by
  rw[List.zip_cons_cons,List.map_cons,ku,ku]
  have:=YW n l r
  show (if a.own=n then 1 else 0)+_<=_
  omega
theorem YX (n:Nat) (l r:List Item):qV n (gap l r)<=qV n l+qV n r:=by
 unfold gap
 split
 . have:=YW n l r
   omega
 . rw[vI]
   omega
 . rw[vI]
   omega
theorem Zr (n:Nat) (f:Nat->List Item):∀ l:List Nat,qV n (l.flatMap f)=(l.map fun a=>qV n (f a)).sum
 | []=>rfl
 | a::l=>by
  rw[List.flatMap_cons,vI,Zr n f l,List.map_cons,List.sum_cons]
theorem XX (n:Nat) {as:List Nat} (nd:as.Nodup):∀ L:List (Nat × Item),(as.map fun a=>qV n (at_ L a)).sum<=qV n (L.map fun x=>x.2)
 | []=>by
  have:(as.map fun a=>qV n (at_ [] a))=as.map fun _=>0:=rfl
  rw[this,wE]
  exact Nat.zero_le _
 | x::L=>by
  have ih:=XX n nd L
  rw[List.map_cons,ku]
  have e:(as.map fun a=>qV n (at_ (x::L) a))=as.map fun a=>(if x.1=a then (if x.2.own=n then 1 else 0) else 0)+qV n (at_ L a):=by
   apply List.map_congr_left
   intro a _
   unfold at_
   rw[List.filter_cons]
   by_cases h:x.1=a
   . rw[if_pos h,if_pos (by simpa using h),List.map_cons,ku]
   . rw[if_neg h,if_neg (by simpa using h)]
     omega
  rw[e,yR]
  have:=Qv x.1 (if x.2.own=n then 1 else 0) nd
  omega
theorem yy {loose:Cell->Option Item}{co:List Nat}{n:Nat} (hn:n≠0) (hl:∀ c i,loose c=some i->i.own=0∨i.own=c.number):∀ {d:Doc}{a:Nat},qV n ((behind loose co a d).map fun x=>x.2)<=(numbers d).count n
 | [],_=>by simp[behind,qV]
 | c::d,a=>by
  have e:(numbers (c::d)).count n=(if c.number=n then 1 else 0)+(numbers d).count n:=by
   unfold numbers
   rw[List.map_cons,List.count_cons]
   simp only[beq_iff_eq]
   omega
  rw[e]
  unfold behind
  split
  . have:=yy (co:=co) hn hl (d:=d) (a:=c.number)
    omega
  . split
    . rename_i i k
      have:=yy (co:=co) hn hl (d:=d) (a:=a)
      rw[List.map_cons,ku]
      rcases hl c i k with h | h
      . rw[show ((a,i):Nat × Item).2.own=0 from h,if_neg (fun q=>hn q.symm)]
        omega
      . rw[show ((a,i):Nat × Item).2.own=c.number from h]
        omega
    . have:=yy (co:=co) hn hl (d:=d) (a:=a)
      omega
theorem Zs {l:List Nat} (nd:l.Nodup) (n:Nat):l.count n<=1:=List.nodup_iff_count.mp nd n
theorem Qw {l:List Item}{n:Nat} (h:∀ i,i∈l->i.own≠n):qV n l=0:=by
 unfold qV
 rw[List.count_eq_zero]
 intro q
 obtain⟨i,hi,e⟩:=List.mem_map.mp q
 exact h i hi e
theorem u_ {s:State}{n:Nat} (hn:n≠0) {x:Nat × Item} (hx:x∈qQ s) (e:x.2.own=n):n∈numbers s.left/\¬n∈numbers s.right/\n∈numbers s.base:=by
 obtain⟨c,hc,hl,_⟩:=km hx
 obtain⟨_,_,⟨h,_⟩ | ⟨h,h2,b,hb,_⟩⟩:=yx hl
 . exact absurd (e.symm.trans h) hn
 . rw[<-e,h]
   refine⟨List.mem_map.mpr ⟨c,hc,rfl⟩,h2,?_⟩
   rw[<-has_iff]
   unfold has
   rw[hb]
   rfl
theorem JP {s:State}{n:Nat} (hn:n≠0) {x:Nat × Item} (hx:x∈qX s) (e:x.2.own=n):n∈numbers s.right/\¬n∈numbers s.left/\n∈numbers s.base:=by
 obtain⟨c,hc,hl,_⟩:=km hx
 obtain⟨_,_,⟨h,_⟩ | ⟨h,h2,b,hb,_⟩⟩:=vS hl
 . exact absurd (e.symm.trans h) hn
 . rw[<-e,h]
   refine⟨List.mem_map.mpr ⟨c,hc,rfl⟩,h2,?_⟩
   rw[<-has_iff]
   unfold has
   rw[hb]
   rfl
theorem XY {s:State} (S:qh s) {it:List Item} (h:items s=some it) {n:Nat} (hn:n≠0):qV n it<=1:=by
 obtain⟨_,o,ho,rfl⟩:=uY h
 obtain⟨ond,oco⟩:=QS S ho
 have o0:¬0∈o:=fun q=>by
  have:=(Qr S.b (common_mem.mp (oco 0 q)).1).1
  omega
 have nd:(0::o).Nodup:=List.nodup_cons.mpr ⟨o0,ond⟩
 have sL:=XX n nd (qQ s)
 have sR:=XX n nd (qX s)
 rw[List.map_cons,List.sum_cons] at sL sR
 have cC:(o.map fun m=>qV n (commonItem s m).toList).sum<=(o.map fun m=>if n=m then 1 else 0).sum:=by
  apply uZ
  intro m _
  cases k:commonItem s m with
  | none=>simp[qV]
  | some i =>
   show qV n [i]<=_
   rw[ku,(vT S k).1]
   show (if m=n then 1 else 0)+0<=_
   by_cases q:m=n
   . rw[if_pos q,if_pos q.symm]
     omega
   . rw[if_neg q]
     omega
 have cO:=Qv n 1 ond
 have tot:qV n (gap (at_ (qQ s) 0) (at_ (qX s) 0)++o.flatMap fun n=>(commonItem s n).toList++gap (at_ (qQ s) n) (at_ (qX s) n))<=(o.map fun m=>qV n (commonItem s m).toList).sum+qV n ((qQ s).map fun x=>x.2)+qV n ((qX s).map fun x=>x.2):=by
  rw[vI,Zr]
  have g0:=YX n (at_ (qQ s) 0) (at_ (qX s) 0)
  have gs:(o.map fun a=>qV n ((commonItem s a).toList++gap (at_ (qQ s) a) (at_ (qX s) a))).sum<=(o.map fun a=>qV n (commonItem s a).toList+(qV n (at_ (qQ s) a)+qV n (at_ (qX s) a))).sum:=by
   apply uZ
   intro a _
   rw[vI]
   have:=YX n (at_ (qQ s) a) (at_ (qX s) a)
   omega
  rw[yR,yR] at gs
  omega
 have aL:qV n ((qQ s).map fun x=>x.2)<=(numbers s.left).count n:=yy (loose:=looseLeft s) (co:=common s) hn (fun c i h=>(yx (s:=s) h).2.2.elim (fun q=>.inl q.1) (fun q=>.inr q.1)) (d:=s.left) (a:=0)
 have aR:qV n ((qX s).map fun x=>x.2)<=(numbers s.right).count n:=yy (loose:=looseRight s) (co:=common s) hn (fun c i h=>(vS (s:=s) h).2.2.elim (fun q=>.inl q.1) (fun q=>.inr q.1)) (d:=s.right) (a:=0)
 have bL:=Zs S.l.nd n
 have bR:=Zs S.r.nd n
 by_cases hL:n∈numbers s.left
 . have zR:qV n ((qX s).map fun x=>x.2)=0:=Qw fun i hi e=>by
    obtain⟨x,hx,rfl⟩:=List.mem_map.mp hi
    exact (JP hn hx e).2.1 hL
   by_cases hR:n∈numbers s.right
   . have zL:qV n ((qQ s).map fun x=>x.2)=0:=Qw fun i hi e=>by
      obtain⟨x,hx,rfl⟩:=List.mem_map.mp hi
      exact (u_ hn hx e).2.1 hR
     omega
   . have zO:(o.map fun m=>if n=m then 1 else 0).sum=0:=by
      have:(o.map fun m=>if n=m then 1 else 0)=o.map fun _=>0:=by
       apply List.map_congr_left
       intro m hm
       rw[if_neg]
       rintro rfl
       exact hR (common_mem.mp (oco _ hm)).2.2
      rw[this,wE]
     omega
 . have zL:qV n ((qQ s).map fun x=>x.2)=0:=Qw fun i hi e=>by
    obtain⟨x,hx,rfl⟩:=List.mem_map.mp hi
    exact hL (u_ hn hx e).1
   have zO:(o.map fun m=>if n=m then 1 else 0).sum=0:=by
    have:(o.map fun m=>if n=m then 1 else 0)=o.map fun _=>0:=by
     apply List.map_congr_left
     intro m hm
     rw[if_neg]
     rintro rfl
     exact hL (common_mem.mp (oco _ hm)).2.1
    rw[this,wE]
   omega
theorem jO:∀ {it:List Item}{k:Nat}{x:Nat × Item},x∈numbered k it->x.2∈it/\((x.2.own≠0/\x.1=x.2.own)∨(x.2.own=0/\k<x.1))
 | [],_,_,h=>by simp[numbered] at h
 | i::it,k,x,h=>by
  unfold numbered at h
  split at h
  . rename_i e
    rcases List.mem_cons.mp h with rfl | h
    . exact⟨List.mem_cons_self ..,.inr ⟨e,Nat.lt_succ_self _⟩⟩
    . obtain⟨h1,h2⟩:=jO h
      refine⟨List.mem_cons_of_mem _ h1,?_⟩
      rcases h2 with h2 | ⟨h2,h3⟩
      . exact .inl h2
      . exact .inr ⟨h2,by omega⟩
  . rename_i e
    rcases List.mem_cons.mp h with rfl | h
    . exact⟨List.mem_cons_self ..,.inl ⟨e,rfl⟩⟩
    . obtain⟨h1,h2⟩:=jO h
      exact⟨List.mem_cons_of_mem _ h1,h2⟩
theorem yz:∀ {it:List Item}{k:Nat},(∀ n,n≠0->qV n it<=1)->(∀ i,i∈it->i.own<=k)->((numbered k it).map fun x=>x.1).Nodup
 | [],_,_,_=>by simp[numbered]
 | i::it,k,h1,h2=>by
  have h1':∀ n,n≠0->qV n it<=1:=fun n hn=>by
   have:=h1 n hn
   rw[ku] at this
   omega
  have h2':∀ j,j∈it->j.own<=k:=fun j hj=>h2 j (List.mem_cons_of_mem _ hj)
  unfold numbered
  split
  . rw[List.map_cons,List.nodup_cons]
    refine⟨fun q=>?_,yz h1' fun j hj=>Nat.le_succ_of_le (h2' j hj)⟩
    obtain⟨x,hx,e⟩:=List.mem_map.mp q
    obtain⟨m,⟨_,h⟩ | ⟨_,h⟩⟩:=jO hx
    . have:=h2' _ m
      omega
    . omega
  . rename_i hi
    rw[List.map_cons,List.nodup_cons]
    refine⟨fun q=>?_,yz h1' h2'⟩
    obtain⟨x,hx,e⟩:=List.mem_map.mp q
    obtain⟨m,⟨h0,h⟩ | ⟨_,h⟩⟩:=jO hx
    . have:=h1 i.own hi
      rw[ku,if_pos rfl] at this
      have c:0<qV i.own it:=by
       unfold qV
       rw[List.count_pos_iff]
       exact List.mem_map.mpr ⟨x.2,m,by omega⟩
      omega
    . have:=h2 i (List.mem_cons_self ..)
      have e':x.1=i.own:=e
      omega
theorem VR {s:State} (S:qh s) {it:List Item} (h:items s=some it) {i:Item} (hi:i∈it):i.own<=top s:=by
 have key:∀ n,n∈numbers s.base->n<=top s:=fun n hn=>vE (List.mem_append.mpr (.inl (List.mem_append.mpr (.inl hn))))
 by_cases hn:i.own=0
 . omega
 obtain⟨_,o,ho,rfl⟩:=uY h
 have hg:∀ a,i∈gap (at_ (qQ s) a) (at_ (qX s) a)->i.own<=top s:=by
  intro a ha
  obtain⟨j,hj,_,e⟩:=YT ha
  rcases hj with hj | hj
  . exact key _ (u_ hn (VQ hj) e.symm).2.2
  . exact key _ (JP hn (VQ hj) e.symm).2.2
 rcases List.mem_append.mp hi with hi | hi
 . exact hg 0 hi
 . obtain⟨n,hn,hi⟩:=List.mem_flatMap.mp hi
   rcases List.mem_append.mp hi with hi | hi
   . rw[(vT S (Option.mem_toList.mp hi)).1]
     exact key n (common_mem.mp ((QS S ho).2 n hn)).1
   . exact hg n hi
theorem KL (l:List (Nat × Item)):numbers (docOf l)=l.map fun x=>x.1:=by
 unfold numbers docOf
 rw[List.map_map]
 rfl
theorem y6 {s:State} (S:qh s) {l:List (Nat × Item)} (h:result s=some l) (ht:tooGreat l=false):jv (docOf l):=by
 unfold result at h
 cases k:items s with
 | none=>rw[k] at h;cases h
 | some it =>
  rw[k] at h
  cases h
  unfold tooGreat at ht
  rw[Bool.or_eq_false_iff] at ht
  obtain⟨t1,t2⟩:=ht
  have t1:=of_decide_eq_false t1
  rw[List.any_eq_false] at t2
  have mm:∀ c,c∈docOf (numbered (top s) it)->∃ x,x∈numbered (top s) it/\c=⟨x.1,x.2.hidden,x.2.text⟩:=fun c hc=>by
   obtain⟨x,hx,e⟩:=List.mem_map.mp hc
   exact⟨x,hx,e.symm⟩
  refine⟨?_,?_,?_,?_⟩
  . rw[KL]
    exact yz (fun n hn=>XY S k hn) fun i hi=>VR S k hi
  . intro c hc
    obtain⟨x,hx,rfl⟩:=mm c hc
    have:=t2 x hx
    simp at this
    obtain⟨_,⟨h0,e⟩ | ⟨_,e⟩⟩:=jO hx
    . exact⟨by show 1<=x.1;omega,this⟩
    . exact⟨by show 1<=x.1;omega,this⟩
  . unfold docOf
    rw[List.length_map]
    unfold CELLS at t1
    omega
  . intro c hc
    obtain⟨x,hx,rfl⟩:=mm c hc
    exact XW S k (jO hx).1
theorem wF:∀ (l:List (List Int)) (j:Nat),numbers ((l.zipIdx j).map fun x=>(⟨x.2+1,false,textOf x.1⟩:Cell))=List.range' (j+1) l.length
 | [],_=>rfl
 | t::l,j=>by
  have ih:=wF l (j+1)
  unfold numbers at ih ⊢
  rw[List.zipIdx_cons,List.map_cons,List.map_cons,ih,List.length_cons,List.range'_succ]
theorem Uf {s:State} (S:qh s) (row:List Int):qh (doBase s row).1:=by
 unfold doBase
 split
 . exact S
 . rename_i l e
   split
   . exact S
   . rename_i f
     have f:=xQ f
     simp only[List.mem_cons,forall_eq_or_imp] at f
     obtain⟨f1,f2,f3,_⟩:=f
     have f3:=of_decide_eq_false f3
     unfold CELLS at f3
     have f1:l.all bytes=true:=by simpa using f1
     have hn:=wF l 0
     have hlen:(l.zipIdx.map fun x=>(⟨x.2+1,false,textOf x.1⟩:Cell)).length=l.length:=by simp
     simp only
     rw[hlen]
     have hm:∀ n,n∈numbers (l.zipIdx.map fun x=>(⟨x.2+1,false,textOf x.1⟩:Cell))->1<=n/\n<l.length+1:=by
      intro n h
      rw[hn,List.mem_range'_1] at h
      omega
     refine YQ ⟨by rw[hn];exact List.nodup_range',?_,by rw[hlen];omega,?_⟩ (fun n h=>(hm n h).2) (by omega)
     . intro c hc
       have:=hm c.number (List.mem_map.mpr ⟨c,hc,rfl⟩)
       omega
     . intro c hc
       obtain⟨x,hx,rfl⟩:=List.mem_map.mp hc
       have hx1:x.1∈l:=by
        obtain⟨t,i⟩:=x
        exact List.fst_mem_of_mem_zipIdx hx
       exact Qs (List.all_eq_true.mp f1 _ hx1) (by
        rw[List.any_eq_false] at f2
        simpa using f2 _ hx1)
theorem YY {s:State} (S:qh s) (k n c:Int):qh (doChoose s k n c).1:=by
 unfold doChoose
 split
 . exact S
 . rename_i h1
   split
   . exact S
   . rename_i h2
     have h1:((conflicts s).any fun x=>ofNat x.1 == k && ofNat x.2 == n)=true:=by simpa using h1
     have h2:(decide (0<=c) && decide (c<=3))=true:=by simpa using h2
     simp only
     obtain⟨x,hx,e⟩:=List.any_eq_true.mp h1
     simp[ofNat] at e
     simp at h2
     have ex:x=(k.toNat,n.toNat):=Prod.ext (by show x.1=k.toNat;omega) (by show x.2=n.toNat;omega)
     rw[ex] at hx
     unfold chooseIn
     refine⟨S.b,S.l,S.r,S.ll,S.lb,S.rr,S.rb,S.l1,S.r1,?_,?_⟩
     . intro y hy
       show y.1∈conflicts s/\_
       rcases List.mem_append.mp hy with hy | hy
       . exact S.c1 y (List.mem_filter.mp hy).1
       . split at hy
         . cases hy
         . simp at hy
           subst hy
           exact⟨hx,by omega⟩
     . show ((s.choices.filter (fun x=>x.1 != (k.toNat,n.toNat))++(if c.toNat=0 then [] else [((k.toNat,n.toNat),c.toNat)])).map fun x=>x.1).Nodup
       rw[List.map_append,List.nodup_append]
       refine⟨(List.filter_sublist.map _).nodup S.c2,?_,?_⟩
       . split <;> simp
       . intro a ha b hb q
         obtain⟨y,hy,rfl⟩:=List.mem_map.mp ha
         have:=(List.mem_filter.mp hy).2
         split at hb
         . cases hb
         . simp at hb
           subst hb
           simp[q] at this
theorem VS {s:State} (S:qh s) {d:Doc} (D:jv d):qh (adopted s d):=by
 unfold adopted
 refine YQ D (fun n hn=>Nat.lt_succ_of_le (vE (List.mem_append.mpr (.inl (List.mem_append.mpr (.inl hn)))))) ⟨by omega,?_⟩
 have:greatest (numbers d++numbers s.left++numbers s.right)<=99:=wC fun x hx=>by
  rcases List.mem_append.mp hx with hx | hx
  . rcases List.mem_append.mp hx with hx | hx
    . exact (Qr D hx).2
    . exact (Qr S.l hx).2
  . exact (Qr S.r hx).2
 omega
theorem vU {s:State} (S:qh s) {f:List (Nat × Item)->State × Answer} (h:∀ l,result s=some l->tooGreat l=false->qh (f l).1):qh (withResult s f).1:=by
 unfold withResult
 split
 . exact S
 . rename_i l e
   split
   . exact S
   . rename_i t
     exact h l e (by simpa using t)
theorem uJ {s:State} (S:qh s) {side:Int}{f:Doc->State × Answer} (h:qh (f (sideDoc s side)).1):qh (withSide s side f).1:=by
 unfold withSide
 split
 . exact S
 . exact h
theorem xA {s:State} (S:qh s) (c:Call):qh (step s c).1:=by
 unfold step
 split
 . exact Uf S _
 . exact VO S
 . split
   . exact S
   . split <;> exact S
 . exact uJ S S
 . refine uJ S ?_
   split
   . exact S
   . split <;> exact S
 . exact S
 . exact YY S _ _ _
 . exact vU S fun _ _ _=>S
 . exact vU S fun _ _ _=>S
 . exact vU S fun l h t=>VS S (y6 S h t)
 . exact KJ S _
end Tb
end
section
namespace Tb
open Vanbki
theorem jf {α:Type}{f:α->List Int}{k:Nat}:∀ {l:List α},(∀ x,x∈l->(f x).length<=k)->(l.flatMap f).length<=l.length * k
 | [],_=>by simp
 | x::l,h=>by
  rw[List.flatMap_cons,List.length_append,List.length_cons,Nat.succ_mul]
  have:=h x (List.mem_cons_self ..)
  have:=jf (l:=l) fun y hy=>h y (List.mem_cons_of_mem _ hy)
  omega
theorem jP (t:Text):(tellText t).length=t.length+1:=by simp[tellText,nats]
theorem wG {d:Doc} (D:jv d):(tellDoc d).more.length<=2436:=by
 unfold tellDoc
 have:=jf (f:=fun c:Cell=>ofNat c.number::ofNat (markNat c.hidden)::tellText c.text) (k:=203) (l:=d) fun c hc=>by
  simp only[List.length_cons,jP]
  have:=(D.txt c hc).1
  omega
 have h:=D.len
 simp only
 omega
theorem Vg:∀ t:Text,((linesOf t).flatMap tellText).length=t.length+1
 | []=>rfl
 | c::r=>by
  have ih:=Vg r
  unfold linesOf
  split
  . rw[List.flatMap_cons,List.length_append,ih,jP,List.length_cons,List.length_nil]
    omega
  . split
    . rename_i l m e
      rw[e,List.flatMap_cons,List.length_append,jP] at ih
      rw[List.flatMap_cons,List.length_append,jP,List.length_cons,List.length_cons]
      omega
    . rename_i e
      rw[e] at ih
      simp at ih
theorem abu {f:Text->List Int}{a b:List Text} (h:a.Sublist b):(a.flatMap f).length<=(b.flatMap f).length:=by
 induction h with
 | slnil=>exact Nat.le_refl _
 | cons x _ ih =>
  rw[List.flatMap_cons,List.length_append]
  omega
 | cons_cons x _ ih =>
  rw[List.flatMap_cons,List.flatMap_cons,List.length_append,List.length_append]
  omega
theorem JQ {b x:Text} (hx:x.length<=200):(tellChange (changeOf (linesOf b) (linesOf x))).more.length<=203:=by
 unfold tellChange
 simp only[List.length_cons]
 have h:=abu (f:=tellText) (a:=(changeOf (linesOf b) (linesOf x)).new) (b:=linesOf x) ((List.take_sublist _ _).trans (List.drop_sublist _ _))
 rw[Vg] at h
 omega
theorem xw {s:State} (S:qh s):(conflicts s).length<=13:=by
 unfold conflicts
 rw[List.length_append]
 have h1:=List.length_filterMap_le (fun c=>(conflictAt s c).map fun k=>(k,c.number)) s.base
 have h2:=S.b.len
 split
 . simp only[List.length_cons,List.length_nil]
   omega
 . simp only[List.length_nil]
   omega
theorem KM (s:State) (c:Call):(sideEdit s c).2.more=[]:=by
 have h:∀ {side own d k an},(edit s side own d k an).2.more=[]:=by
  intro side own d k an
  unfold edit
  split <;> rfl
 unfold sideEdit
 split <;> first | exact h | rfl
theorem vV {s:State}{k:Nat}{f:List (Nat × Item)->State × Answer} (h:∀ l,result s=some l->tooGreat l=false->(f l).2.more.length<=k):(withResult s f).2.more.length<=k:=by
 unfold withResult
 split
 . exact Nat.zero_le _
 . rename_i l e
   split
   . exact Nat.zero_le _
   . rename_i t
     exact h l e (by simpa using t)
theorem uK {s:State}{side:Int}{k:Nat}{f:Doc->State × Answer} (h:(f (sideDoc s side)).2.more.length<=k):(withSide s side f).2.more.length<=k:=by
 unfold withSide
 split
 . exact Nat.zero_le _
 . exact h
theorem Ug {s:State} (S:qh s) (c:Call):(step s c).2.more.length<=2436:=by
 unfold step
 split
 . unfold doBase
   split
   . exact Nat.zero_le _
   . split <;> exact Nat.zero_le _
 . exact Nat.zero_le _
 . split
   . exact wG S.b
   . split
     . exact Nat.zero_le _
     . exact wG (zW S _)
 . rename_i side
   refine uK ?_
   have h1:=jf (f:=fun x:Nat × Nat=>[ofNat x.1,ofNat x.2]) (k:=2) (l:=differences s.base (sideDoc s side)) fun _ _=>Nat.le_refl _
   have h2:(differences s.base (sideDoc s side)).length<=24:=by
    unfold differences
    rw[List.length_append,List.length_map]
    refine Nat.le_trans (Nat.add_le_add (List.length_filterMap_le _ _) (List.length_filter_le _ _)) ?_
    have:=S.b.len
    have:=(zW S side).len
    omega
   simp only[List.length_cons]
   omega
 . rename_i side n
   refine uK ?_
   split
   . exact Nat.zero_le _
   . split
     . rename_i b x hb hx
       have:=JQ (b:=b.text) (kn (zW S side) hx).1
       show (tellChange _).more.length<=_
       omega
     . exact Nat.zero_le _
 . have h1:=jf (f:=fun x:Nat × Nat=>[ofNat x.1,ofNat x.2,ofNat (choiceOf s x.1 x.2)]) (k:=3) (l:=conflicts s) fun _ _=>Nat.le_refl _
   have h2:=xw S
   simp only
   omega
 . unfold doChoose
   split
   . exact Nat.zero_le _
   . split <;> exact Nat.zero_le _
 . exact vV fun l h t=>wG (y6 S h t)
 . refine vV fun l h t=>?_
   have h1:=jf (f:=fun x:Nat × Item=>[ofNat x.1,ofNat x.2.onLeft,ofNat x.2.onRight]) (k:=3) (l:=l) fun _ _=>Nat.le_refl _
   have h2:=(y6 S h t).len
   unfold docOf at h2
   rw[List.length_map] at h2
   simp only
   omega
 . exact vV fun l h t=>Nat.zero_le _
 . rw[KM]
   exact Nat.zero_le _
end Tb
end
section
namespace Tb
open Vanbki
theorem Zt:∀ (k j:Nat) (row:List Int),row.length<k->row.length<j->textsOf k row=textsOf j row
 | 0,_,_,h,_=>by omega
 | _+1,0,_,_,h=>by omega
 | k+1,j+1,[],_,_=>rfl
 | k+1,j+1,n::r,h1,h2=>by
  simp only[List.length_cons] at h1 h2
  unfold textsOf
  split
  . rfl
  . rw[Zt k j (r.drop n.toNat) (by rw[List.length_drop];omega) (by rw[List.length_drop];omega)]
def jQ (row:List Int):Option (List (List Int)):=textsOf (row.length+1) row
theorem YZ:jQ []=some []:=rfl
theorem VT (n:Int) (r:List Int):jQ (n::r)=if n<0∨(r.length:Int)<n then none else (jQ (r.drop n.toNat)).map fun l=>r.take n.toNat::l:=by
 unfold jQ
 show (if n<0∨(r.length:Int)<n then none else (textsOf (r.length+1) (r.drop n.toNat)).map fun l=>r.take n.toNat::l)=_
 rw[Zt (r.length+1) ((r.drop n.toNat).length+1) _ (by rw[List.length_drop];omega) (by omega)]
theorem QT:∀ {a b:List Text}{k m:Nat},m<=a.length->m<=b.length->k<=m->(∀ i,i<k->a[i]?=b[i]?)->(k=m∨a[k]?≠b[k]?)->min (inCommon a b) m=k
 | [],b,k,m,h1,_,hk,_,_=>by
  simp at h1
  subst h1
  omega
 | _::_,[],k,m,_,h2,hk,_,_=>by
  simp at h2
  subst h2
  omega
 | x::r,y::s,k,m,h1,h2,hk,he,hn=>by
  simp only[List.length_cons] at h1 h2
  cases k with
  | zero =>
   rcases hn with hn | hn
   . subst hn
     omega
   . have:¬x=y:=by simpa using hn
     unfold inCommon
     rw[if_neg this]
     omega
  | succ k =>
   have e0:x=y:=by simpa using he 0 (by omega)
   have ih:=QT (a:=r) (b:=s) (k:=k) (m:=m - 1) (by omega) (by omega) (by omega) (fun i hi=>by simpa using he (i+1) (by omega)) (by
    rcases hn with hn | hn
    . left;omega
    . right;simpa using hn)
   unfold inCommon
   rw[if_pos e0]
   omega
theorem aaj (c:List (List Int)):PyVanbki.whole c=c:=by
 rcases c with _ | ⟨_ | ⟨p,xs⟩,t⟩
 . rfl
 . rfl
 rcases p with n | n
 . rcases n with _|_|_|_|_|_|_|_|_|_|_|_|_|_|_|_|_|n
   all_goals rcases xs with _|⟨a,_|⟨b,_|⟨c,_|⟨d,xs⟩⟩⟩⟩ <;> rcases t with _|⟨r,_|⟨r',t⟩⟩ <;> rfl
 . rfl
theorem XZ {l:List Int}{cs:List (List (List Int))} (h:PyVanbki.calls l=some cs):PyFlat.put cs=l/\∀ c,c∈cs->PyFlat.okCall PyVanbki.shape c:=by
 unfold PyVanbki.calls at h
 split at h
 . cases h
 . rename_i cs' e
   have e2:cs'.map PyVanbki.whole=cs':=by
    rw[show PyVanbki.whole=id from funext aaj,List.map_id]
   rw[e2] at h
   cases h
   have:=PyFlat.put_calls _ _ _ e
   exact⟨this.1.symm,this.2⟩
def wholesT:List Nat:=[0,2,2,3,2,3,1,1,0,1,1,2,0,3,0,0,0]
def rowsT:List Nat:=[1,1,1,0,0,0,0,0,0,0,0,0,0,0,0,0,0]
theorem Y_ {p:Int}{n k:Nat} (h:PyVanbki.shape p=some (n,k)):∃ i:Nat,p=(i:Int)/\i<=16/\wholesT[i]?=some n/\rowsT[i]?=some k:=by
 have hp:0<=p/\p<=16:=by
  refine Decidable.byContradiction fun c=>?_
  unfold PyVanbki.shape at h
  rw[if_neg (by omega),if_neg (by omega),if_neg (by omega),if_neg (by omega),if_neg (by omega),if_neg (by omega),if_neg (by omega),if_neg (by omega),if_neg (by omega),if_neg (by omega),if_neg (by omega),if_neg (by omega),if_neg (by omega),if_neg (by omega),if_neg (by omega),if_neg (by omega),if_neg (by omega)] at h
  cases h
 obtain⟨i,e⟩:∃ i:Nat,p=(i:Int):=⟨p.toNat,by omega⟩
 subst e
 have hi:i<=16:=by omega
 refine⟨i,rfl,hi,?_⟩
 match i,hi with
 | 0,_=>cases h;exact⟨rfl,rfl⟩
 | 1,_=>cases h;exact⟨rfl,rfl⟩
 | 2,_=>cases h;exact⟨rfl,rfl⟩
 | 3,_=>cases h;exact⟨rfl,rfl⟩
 | 4,_=>cases h;exact⟨rfl,rfl⟩
 | 5,_=>cases h;exact⟨rfl,rfl⟩
 | 6,_=>cases h;exact⟨rfl,rfl⟩
 | 7,_=>cases h;exact⟨rfl,rfl⟩
 | 8,_=>cases h;exact⟨rfl,rfl⟩
 | 9,_=>cases h;exact⟨rfl,rfl⟩
 | 10,_=>cases h;exact⟨rfl,rfl⟩
 | 11,_=>cases h;exact⟨rfl,rfl⟩
 | 12,_=>cases h;exact⟨rfl,rfl⟩
 | 13,_=>cases h;exact⟨rfl,rfl⟩
 | 14,_=>cases h;exact⟨rfl,rfl⟩
 | 15,_=>cases h;exact⟨rfl,rfl⟩
 | 16,_=>cases h;exact⟨rfl,rfl⟩
 | i+17,hi=>omega
end Tb
end
section
namespace Tb
open Vanbki
def jB (d:Doc) (n:Int):Option Nat:=if 0<=n then zZ d n.toNat else none
def vc (d:Doc) (n:Int):Option Cell:=if 0<=n then find d n.toNat else none
def y8 (d:Doc) (a:Int):Option Nat:=if a=0 then some 0 else (jB d a).map (·+1)
theorem QU:∀ {d:Doc}{n i:Nat}{c:Cell},d[i]?=some c->c.number=n->(∀ (j:Nat) (c':Cell),j<i->d[j]?=some c'->c'.number≠n)->zZ d n=some i
 | [],_,_,_,h,_,_=>by simp at h
 | x::d,n,0,c,h,e,_=>by
  have:x=c:=by simpa using h
  subst this
  simp[zZ,e]
 | x::d,n,i+1,c,h,e,hm=>by
  have h0:x.number≠n:=hm 0 x (Nat.succ_pos _) rfl
  have ih:=QU (d:=d) (n:=n) (i:=i) (c:=c) (by simpa using h) e fun j c' hj hc=>hm (j+1) c' (by omega) (by simpa using hc)
  simp[zZ,h0,ih]
theorem VU {d:Doc}{n:Nat} (h:∀ (j:Nat) (c:Cell),d[j]?=some c->c.number≠n):zZ d n=none :=
 placeOf_none.mpr (find_none.mpr fun c hc=>by
  obtain⟨j,hj,e⟩:=List.mem_iff_getElem.mp hc
  exact h j c (by rw[List.getElem?_eq_getElem hj,e]))
theorem X_ {d:Doc}{n:Int}{i:Nat}{c:Cell} (h:d[i]?=some c) (e:(c.number:Int)=n) (hm:∀ (j:Nat) (c':Cell),j<i->d[j]?=some c'->(c'.number:Int)≠n):jB d n=some i:=by
 unfold jB
 rw[if_pos (by omega)]
 exact QU h (by omega) fun j c' hj hc z=>hm j c' hj hc (by omega)
theorem X0 {d:Doc}{n:Int} (h:∀ (j:Nat) (c:Cell),d[j]?=some c->(c.number:Int)≠n):jB d n=none:=by
 unfold jB
 by_cases hn:0<=n
 . rw[if_pos hn]
   exact VU fun j c hc z=>h j c hc (by omega)
 . rw[if_neg hn]
theorem jg {d:Doc}{n:Int}{i:Nat} (h:jB d n=some i):∃ c,d[i]?=some c/\(c.number:Int)=n/\vc d n=some c/\zZ d n.toNat=some i/\0<=n:=by
 unfold jB at h
 by_cases hn:0<=n
 . rw[if_pos hn] at h
   obtain⟨c,h1,h2,h3⟩:=xP h
   exact⟨c,h1,by omega,by unfold vc;rw[if_pos hn];exact h3,h,hn⟩
 . rw[if_neg hn] at h
   cases h
theorem placeI_none {d:Doc}{n:Int}:jB d n=none ↔ vc d n=none:=by
 unfold jB vc
 by_cases hn:0<=n
 . rw[if_pos hn,if_pos hn]
   exact placeOf_none
 . rw[if_neg hn,if_neg hn]
   simp
theorem ko (d:Doc) (n:Int):hasI d n=(jB d n).isSome:=by
 unfold hasI has
 cases e:jB d n with
 | none =>
  have q:=placeI_none.mp e
  unfold vc at q
  by_cases hn:0<=n
  . rw[if_pos hn] at q
    simp[q]
  . simp[hn]
 | some i =>
  obtain⟨c,_,_,h3,_,hn⟩:=jg e
  unfold vc at h3
  rw[if_pos hn] at h3
  simp[h3,hn]
theorem xB {d:Doc}{n:Int}{i:Nat} (h:jB d n=some i):i<d.length:=by
 obtain⟨c,h1,_⟩:=jg h
 exact (List.getElem?_eq_some_iff.mp h1).1
theorem vh (d:Doc) (n:Nat):vc d (n:Int)=find d n:=by
 unfold vc
 rw[if_pos (by omega),Int.toNat_natCast]
theorem QV {l:List Nat}{m:Nat} (h:m∈l) (hm:∀ z,z∈l->z<=m):greatest l=m:=by
 have h1:=vE h
 have h2:=wC hm
 omega
theorem VW {l:List Nat}{m:Int} (h:m∈nats l) (hm:∀ z,z∈nats l->z<=m):m=(greatest l:Int):=by
 obtain⟨k,hk,rfl⟩:=List.mem_map.mp h
 have e:greatest l=k:=QV hk fun z hz=>by
  have:=hm (ofNat z) (List.mem_map.mpr ⟨z,hz,rfl⟩)
  simp only[ofNat] at this
  omega
 rw[e]
 rfl
def jb (l:List (List Int)):Int:=if l.all bytes=true then (if l.any tooLong=true then -5 else 0) else -4
theorem Z0 (t:Text):linesOf t≠[]:=by
 cases t with
 | nil=>simp[linesOf]
 | cons c r =>
  unfold linesOf
  split
  . simp
  . split <;> simp
theorem KN (t:Text):∃ ls l,linesOf t=ls++[l] :=
 ⟨_,_,(List.dropLast_concat_getLast (Z0 t)).symm⟩
theorem qY {c:Nat}{r:Text} (h:c≠10):∃ l m,linesOf r=l::m/\linesOf (c::r)=(c::l)::m:=by
 cases e:linesOf r with
 | nil=>exact absurd e (Z0 r)
 | cons l m =>
  refine⟨l,m,rfl,?_⟩
  rw[linesOf,if_neg h,e]
theorem vi (r:Text):linesOf (10::r)=[]::linesOf r:=by rw[linesOf,if_pos rfl]
theorem wH:∀ t:Text,linesOf (t++[10])=linesOf t++[[]]
 | []=>by simp[linesOf]
 | c::r=>by
  have ih:=wH r
  by_cases h:c=10
  . subst h
    rw[List.cons_append,vi,vi,ih,List.cons_append]
  . obtain⟨l,m,e1,e2⟩:=qY (r:=r) h
    obtain⟨l',m',e3,e4⟩:=qY (r:=r++[10]) h
    rw[List.cons_append,e4,e2]
    rw[ih,e1,List.cons_append] at e3
    injection e3 with e5 e6
    rw[<-e5,<-e6]
    rfl
theorem y9 {c:Nat} (h:c≠10):∀ {t:Text}{ls:List Text}{l:Text},linesOf t=ls++[l]->linesOf (t++[c])=ls++[l++[c]]
 | [],ls,l,e=>by
  rw[linesOf] at e
  cases ls with
  | nil =>
   have:l=[]:=by simpa using e.symm
   subst this
   simp[linesOf,h]
  | cons a r=>simp at e
 | b::r,ls,l,e=>by
  by_cases hb:b=10
  . subst hb
    rw[vi] at e
    cases ls with
    | nil =>
     have:linesOf r=[]:=by
      have:=congrArg List.length e
      simpa using this
     exact absurd this (Z0 r)
    | cons a q =>
     rw[List.cons_append] at e
     injection e with e1 e2
     rw[List.cons_append,vi,y9 h e2,<-e1]
     rfl
  . obtain⟨x,m,e1,e2⟩:=qY (r:=r) hb
    obtain⟨x',m',e3,e4⟩:=qY (r:=r++[c]) hb
    rw[e2] at e
    rw[List.cons_append,e4]
    cases ls with
    | nil =>
     have e5:(b::x)=l/\m=[]:=by simpa using e
     obtain⟨rfl,rfl⟩:=e5
     have:=y9 h (t:=r) (ls:=[]) (l:=x) (by rw[e1];rfl)
     rw[this] at e3
     injection e3 with e6 e7
     rw[<-e6,<-e7]
     rfl
    | cons a q =>
     rw[List.cons_append] at e
     injection e with e5 e6
     have:=y9 h (t:=r) (ls:=x::q) (l:=l) (by rw[e1,e6];rfl)
     rw[this] at e3
     rw[List.cons_append] at e3
     injection e3 with e7 e8
     rw[<-e7,<-e8,e5]
     rfl
theorem Zu:∀ (l:Text) (m:List Text),unlines (l::m)=l++m.flatMap fun x=>10::x
 | l,[]=>by simp[unlines]
 | l,a::m=>by
  rw[unlines,Zu a m]
  . simp
  . simp
end Tb
end
section
namespace Tb
open Vanbki
def kE (s:State) (n:Nat):Nat:=if has s.base n=true then n else 0
def yA (s:State) (side:Nat) (x:Cell):Option Cell:=match find s.base x.number with
 | none=>some x
 | some c=>if choiceOf s (if side=2 then 2 else 3) x.number=side then some x else if choiceOf s (if side=2 then 2 else 3) x.number=3 then some c else none
def qi (s:State) (side:Nat) (y:Cell):Item:=⟨kE s y.number,if side=1 then y.number else 0,if side=1 then 0 else y.number,y.hidden,y.text⟩
theorem vW {s:State} (S:qh s) {k n:Nat} (h:choiceOf s k n≠0):(k,n)∈conflicts s/\choiceOf s k n<=3:=by
 unfold choiceOf at h ⊢
 cases e:s.choices.find? fun x=>x.1 == (k,n) with
 | none=>rw[e] at h;exact absurd rfl h
 | some x =>
  have hx:=List.mem_of_find?_eq_some e
  have hk:=List.find?_some e
  have hk':x.1=(k,n):=by simpa using hk
  have:=S.c1 x hx
  rw[hk'] at this
  exact⟨this.1,this.2.2⟩
theorem Vh {s:State} (S:qh s) (k n:Nat):choiceOf s k n<=3:=by
 by_cases h:choiceOf s k n=0
 . omega
 . exact (vW S h).2
theorem wI {s:State} (ho:open_ s=0) {k n:Nat} (h:(k,n)∈conflicts s):choiceOf s k n≠0:=by
 intro z
 unfold open_ at ho
 have:(k,n)∈(conflicts s).filter fun x=>choiceOf s x.1 x.2 == 0:=List.mem_filter.mpr ⟨h,by simp[z]⟩
 rw[List.length_eq_zero_iff.mp ho] at this
 cases this
theorem xT {s:State}{k n:Nat} (h:(k,n)∈conflicts s) (h4:k≠4):∃ c,c∈s.base/\c.number=n/\conflictAt s c=some k:=by
 unfold conflicts at h
 rcases List.mem_append.mp h with h | h
 . obtain⟨c,hc,e⟩:=List.mem_filterMap.mp h
   cases q:conflictAt s c with
   | none=>rw[q] at e;cases e
   | some j =>
    rw[q] at e
    have e':(j,c.number)=(k,n):=by simpa using e
    injection e' with e1 e2
    subst e1
    exact⟨c,hc,e2,q⟩
 . split at h
   . have:(k,n)=(4,0):=by simpa using h
     injection this with e1 _
     exact absurd e1 h4
   . cases h
theorem JR {d:Doc}{n:Nat}{c:Cell} (h:find d n=some c):has d n=true:=by unfold has;rw[h];rfl
theorem Vi {d:Doc}{n:Nat} (h:find d n=none):has d n=false:=by unfold has;rw[h];rfl
theorem JS {s:State} (S:qh s) {x:Cell} (hx:x∈s.left) (hn:¬x.number∈common s):looseLeft s x=(yA s 1 x).map (qi s 1):=by
 unfold looseLeft yA
 cases e:find s.base x.number with
 | none=>simp[qi,kE,Vi e]
 | some c =>
  have hcn:=(kt e).2
  have hcb:=(kt e).1
  have hb:=JR e
  have hl:x.number∈numbers s.left:=List.mem_map.mpr ⟨x,hx,rfl⟩
  have hr:has s.right x.number=false:=by
   refine has_false.mpr fun hr=>hn (common_mem.mpr ⟨?_,hl,hr⟩)
   exact has_iff.mp hb
  have hfl:find s.left x.number=some x:=wz S.l.nd hx
  have hfr:find s.right x.number=none:=by
   unfold has at hr
   simpa using hr
  simp only[hr]
  unfold keptAs
  rw[hcn]
  by_cases hsame:sameCell c x=true
  . have hz:choiceOf s 3 x.number=0:=by
     by_cases hz:choiceOf s 3 x.number=0
     . exact hz
     . exfalso
       obtain⟨hc,_⟩:=vW S hz
       obtain⟨c',hc',en,ek⟩:=xT hc (by decide)
       have ec:c'=c:=by
        have h1:=wz S.b.nd hc'
        rw[en,e] at h1
        exact (Option.some.inj h1).symm
       subst ec
       unfold conflictAt at ek
       rw[hcn,hfl,hfr] at ek
       simp only[hsame,if_true] at ek
       cases ek
    simp[hsame,hz]
  . simp only[hsame,if_false]
    have e12:(if (1:Nat)=2 then 2 else 3)=3:=by decide
    simp only[e12]
    by_cases h1:choiceOf s 3 x.number=1
    . simp[h1,qi,kE,hb]
    . by_cases h3:choiceOf s 3 x.number=3
      . simp[h3,qi,kE,hcn,hb]
      . simp[h1,h3]
theorem Jc {s:State} (S:qh s) {x:Cell} (hx:x∈s.right) (hn:¬x.number∈common s):looseRight s x=(yA s 2 x).map (qi s 2):=by
 unfold looseRight yA
 cases e:find s.base x.number with
 | none=>simp[qi,kE,Vi e]
 | some c =>
  have hcn:=(kt e).2
  have hb:=JR e
  have hr:x.number∈numbers s.right:=List.mem_map.mpr ⟨x,hx,rfl⟩
  have hl:has s.left x.number=false:=by
   refine has_false.mpr fun hl=>hn (common_mem.mpr ⟨?_,hl,hr⟩)
   exact has_iff.mp hb
  have hfr:find s.right x.number=some x:=wz S.r.nd hx
  have hfl:find s.left x.number=none:=by
   unfold has at hl
   simpa using hl
  simp only[hl]
  unfold keptAs
  rw[hcn]
  by_cases hsame:sameCell c x=true
  . have hz:choiceOf s 2 x.number=0:=by
     by_cases hz:choiceOf s 2 x.number=0
     . exact hz
     . exfalso
       obtain⟨hc,_⟩:=vW S hz
       obtain⟨c',hc',en,ek⟩:=xT hc (by decide)
       have ec:c'=c:=by
        have h1:=wz S.b.nd hc'
        rw[en,e] at h1
        exact (Option.some.inj h1).symm
       subst ec
       unfold conflictAt at ek
       rw[hcn,hfl,hfr] at ek
       simp only[hsame,if_true] at ek
       cases ek
    simp[hsame,hz]
  . simp only[hsame,if_false]
    by_cases h1:choiceOf s 2 x.number=2
    . simp[h1,qi,kE,hb]
    . by_cases h3:choiceOf s 2 x.number=3
      . simp[h3,qi,kE,hcn,hb]
      . simp[h1,h3]
def z_ (keep:Cell->Option Cell) (co:List Nat):Nat->Doc->List (Nat × Cell)
 | _,[]=>[]
 | a,x::r=>if co.contains x.number=true then z_ keep co x.number r else match keep x with
  | some y=>(a,y)::z_ keep co a r
  | none=>z_ keep co a r
def xU (co:List Nat):Nat->Doc->Nat
 | a,[]=>a
 | a,x::r=>if co.contains x.number=true then xU co x.number r else xU co a r
def atC (L:List (Nat × Cell)) (a:Nat):List Cell:=(L.filter fun x=>x.1 == a).map fun x=>x.2
theorem kF (keep:Cell->Option Cell) (co:List Nat) (x:Cell):∀ (d:Doc) (a:Nat),z_ keep co a (d++[x])=z_ keep co a d++(if co.contains x.number=true then [] else match keep x with
 | some y=>[(xU co a d,y)]
 | none=>[])
 | [],a=>by
  rw[List.nil_append,z_,z_,xU]
  split
  . simp[z_]
  . cases keep x <;> simp[z_]
 | z::r,a=>by
  rw[List.cons_append,z_,z_,xU]
  by_cases h:co.contains z.number=true
  . rw[if_pos h,if_pos h,if_pos h]
    exact kF keep co x r _
  . rw[if_neg h,if_neg h,if_neg h]
    have ih:=kF keep co x r a
    cases keep z with
    | none=>exact ih
    | some y =>
     show (a,y)::z_ keep co a (r++[x])=_
     rw[ih]
     rfl
theorem xC (co:List Nat) (x:Cell):∀ (d:Doc) (a:Nat),xU co a (d++[x])=if co.contains x.number=true then x.number else xU co a d
 | [],a=>by
  rw[List.nil_append,xU,xU]
  split <;> rfl
 | z::r,a=>by
  rw[List.cons_append,xU,xU]
  by_cases h:co.contains z.number=true
  . rw[if_pos h,if_pos h]
    exact xC co x r _
  . rw[if_neg h,if_neg h]
    exact xC co x r a
theorem JT {loose:Cell->Option Item}{keep:Cell->Option Cell}{f:Cell->Item}{co:List Nat}:∀ {d:Doc}{a:Nat},(∀ x,x∈d->¬x.number∈co->loose x=(keep x).map f)->behind loose co a d=(z_ keep co a d).map fun x=>(x.1,f x.2)
 | [],a,_=>rfl
 | x::r,a,h=>by
  have ih:∀ b,behind loose co b r=(z_ keep co b r).map fun x=>(x.1,f x.2):=fun b=>JT fun y hy=>h y (List.mem_cons_of_mem _ hy)
  rw[behind,z_]
  by_cases hc:co.contains x.number=true
  . rw[if_pos hc,if_pos hc]
    exact ih _
  . rw[if_neg hc,if_neg hc,h x (List.mem_cons_self ..) (by simpa using hc)]
    cases keep x with
    | none=>exact ih a
    | some y =>
     show (a,f y)::behind loose co a r=_
     rw[ih a]
     rfl
theorem acO {L:List (Nat × Cell)}{f:Cell->Item} (a:Nat):at_ (L.map fun x=>(x.1,f x.2)) a=(atC L a).map f:=by
 unfold at_ atC
 rw[List.filter_map,List.map_map,List.map_map]
 rfl
def vj (co:List Nat) (d:Doc):List Nat:=0::(numbers d).filter fun n=>co.contains n
theorem JU (co:List Nat):∀ (d:Doc) (a:Nat),xU co a d=a∨xU co a d∈(numbers d).filter fun n=>co.contains n
 | [],a=>.inl rfl
 | x::r,a=>by
  rw[xU]
  show _∨_∈(x.number::numbers r).filter fun n=>co.contains n
  by_cases h:co.contains x.number=true
  . rw[if_pos h,List.filter_cons_of_pos h]
    rcases JU co r x.number with e | e
    . exact .inr (by rw[e];exact List.mem_cons_self ..)
    . exact .inr (List.mem_cons_of_mem _ e)
  . rw[if_neg h,List.filter_cons_of_neg h]
    exact JU co r a
theorem JV {keep:Cell->Option Cell}{co:List Nat}{n:Nat}:∀ {d:Doc}{a:Nat},n≠a->¬n∈(numbers d).filter (fun m=>co.contains m)->atC (z_ keep co a d) n=[]
 | [],a,_,_=>rfl
 | x::r,a,ha,hn=>by
  change ¬n∈(x.number::numbers r).filter (fun m=>co.contains m) at hn
  rw[z_]
  by_cases h:co.contains x.number=true
  . rw[if_pos h]
    rw[List.filter_cons_of_pos h] at hn
    exact JV (fun e=>hn (by rw[e];exact List.mem_cons_self ..)) fun e=>hn (List.mem_cons_of_mem _ e)
  . rw[if_neg h]
    rw[List.filter_cons_of_neg h] at hn
    have ih:=JV (keep:=keep) (co:=co) (n:=n) (d:=r) (a:=a) ha hn
    cases keep x with
    | none=>exact ih
    | some y =>
     show atC ((a,y)::z_ keep co a r) n=[]
     unfold atC at ih ⊢
     rw[List.filter_cons_of_neg (by simpa using fun e:a=n=>ha e.symm)]
     exact ih
theorem aak (L:List (Nat × Cell)) (a:Nat) (y:Cell) (n:Nat):atC (L++[(a,y)]) n=atC L n++(if a=n then [y] else []):=by
 unfold atC
 rw[List.filter_append,List.map_append]
 by_cases h:a=n
 . simp[h]
 . simp[h]
structure MC where
 cell:Cell
 l:Nat
 r:Nat
def kG (s:State) (m:MC):Item:=⟨kE s m.cell.number,m.l,m.r,m.cell.hidden,m.cell.text⟩
def jw (s:State) (l r:List Cell):List MC:=match cmpItems (l.map (qi s 1)) (r.map (qi s 2)) with
 | .eq=>(l.zip r).map fun x=>⟨x.1,x.1.number,x.2.number⟩
 | .lt=>(l.map fun c=>(⟨c,c.number,0⟩:MC))++r.map fun c=>(⟨c,0,c.number⟩:MC)
 | .gt=>(r.map fun c=>(⟨c,0,c.number⟩:MC))++l.map fun c=>(⟨c,c.number,0⟩:MC)
theorem X1 (s:State):∀ (l r:List Cell),(((l.map (qi s 1)).zip (r.map (qi s 2))).map fun x=>({ x.1 with onRight:=x.2.onRight }:Item))=((l.zip r).map fun x=>(⟨x.1,x.1.number,x.2.number⟩:MC)).map (kG s)
 | [],_=>rfl
 | _::_,[]=>rfl
 | a::l,b::r=>by
  rw[List.map_cons,List.map_cons,List.zip_cons_cons,List.map_cons,X1 s l r]
  rfl
theorem Zv (s:State) (l r:List Cell):gap (l.map (qi s 1)) (r.map (qi s 2))=(jw s l r).map (kG s):=by
 unfold gap jw
 have e1:(l.map fun c=>(⟨c,c.number,0⟩:MC)).map (kG s)=l.map (qi s 1):=by rw[List.map_map];rfl
 have e2:(r.map fun c=>(⟨c,0,c.number⟩:MC)).map (kG s)=r.map (qi s 2):=by rw[List.map_map];rfl
 cases cmpItems (l.map (qi s 1)) (r.map (qi s 2)) with
 | eq=>exact X1 s l r
 | lt =>
  show _=List.map (kG s) (_++_)
  rw[List.map_append,e1,e2]
 | gt =>
  show _=List.map (kG s) (_++_)
  rw[List.map_append,e1,e2]
def yB (s:State):Nat->List MC->List MC
 | _,[]=>[]
 | k,m::r=>if has s.base m.cell.number=true then m::yB s k r else ⟨⟨k+1,m.cell.hidden,m.cell.text⟩,m.l,m.r⟩::yB s (k+1) r
def Zw (x:Nat × Item):MC:=⟨⟨x.1,x.2.hidden,x.2.text⟩,x.2.onLeft,x.2.onRight⟩
theorem Z1 {s:State} (S:qh s):∀ (ms:List MC) (k:Nat),(numbered k (ms.map (kG s))).map Zw=yB s k ms
 | [],_=>rfl
 | m::r,k=>by
  rw[List.map_cons,numbered,yB]
  by_cases h:has s.base m.cell.number=true
  . have ho:(kG s m).own=m.cell.number:=by simp[kG,kE,h]
    have hpos:m.cell.number≠0:=by
     have:=Qr S.b (has_iff.mp h)
     omega
    rw[if_neg (by rw[ho];exact hpos),if_pos h,List.map_cons,Z1 S r k,ho]
    rfl
  . have ho:(kG s m).own=0:=by simp[kG,kE,h]
    rw[if_pos ho,if_neg h,List.map_cons,Z1 S r (k+1)]
    rfl
theorem Vj (l:List (Nat × Item)):docOf l=(l.map Zw).map fun m=>m.cell:=by
 unfold docOf
 rw[List.map_map]
 rfl
def jJ (s:State) (n:Nat) (c l r:Cell):MC:=⟨⟨n,mergedMark c.hidden l.hidden r.hidden,(match mergedText c.text l.text r.text with
 | some t=>t
 | none=>if choiceOf s 1 n=1 then l.text else if choiceOf s 1 n=2 then r.text else c.text)⟩,n,n⟩
theorem KO {s:State} (S:qh s) (ho:open_ s=0) {n:Nat}{c l r:Cell} (hc:find s.base n=some c) (hl:find s.left n=some l) (hr:find s.right n=some r):commonItem s n=some (kG s (jJ s n c l r)):=by
 have hb:=JR hc
 unfold commonItem
 rw[hc,hl,hr]
 show Option.map _ _=_
 unfold kG jJ
 cases e:mergedText c.text l.text r.text with
 | some t=>simp[kE,hb]
 | none =>
  have hcb:=(kt hc).1
  have hcn:=(kt hc).2
  have hk:(1,n)∈conflicts s:=by
   unfold conflicts
   refine List.mem_append.mpr (.inl (List.mem_filterMap.mpr ⟨c,hcb,?_⟩))
   unfold conflictAt
   rw[hcn,hl,hr]
   simp[e]
  have h0:=wI ho hk
  have h3:=Vh S 1 n
  have h123:choiceOf s 1 n=1∨choiceOf s 1 n=2∨choiceOf s 1 n=3:=by omega
  rcases h123 with h | h | h
  . rw[h];simp[Vanbki.chosen,kE,hb]
  . rw[h];simp[Vanbki.chosen,kE,hb]
  . rw[h];simp[Vanbki.chosen,kE,hb]
def jk (s:State):List Nat:=match mergedOrder s with
 | some o=>o
 | none=>if choiceOf s 4 0=1 then orderIn s s.left else if choiceOf s 4 0=2 then orderIn s s.right else common s
theorem W0 {s:State} (S:qh s) (ho:open_ s=0):kD s=some (jk s):=by
 unfold kD jk
 cases e:mergedOrder s with
 | some o=>rfl
 | none =>
  have hk:(4,0)∈conflicts s:=by
   unfold conflicts
   rw[e]
   simp
  have h0:=wI ho hk
  have h3:=Vh S 4 0
  have h123:choiceOf s 4 0=1∨choiceOf s 4 0=2∨choiceOf s 4 0=3:=by omega
  rcases h123 with h | h | h
  . simp[h,Vanbki.chosen]
  . simp[h,Vanbki.chosen]
  . simp[h,Vanbki.chosen]
def qB (s:State) (side:Nat):List (Nat × Cell):=z_ (yA s side) (common s) 0 (if side=1 then s.left else s.right)
theorem X2 {s:State} (S:qh s) (n:Nat):at_ (qQ s) n=(atC (qB s 1) n).map (qi s 1):=by
 unfold qQ qB
 rw[JT (keep:=yA s 1) (f:=qi s 1) fun x hx hn=>JS S hx hn,acO]
 rfl
theorem X3 {s:State} (S:qh s) (n:Nat):at_ (qX s) n=(atC (qB s 2) n).map (qi s 2):=by
 unfold qX qB
 rw[JT (keep:=yA s 2) (f:=qi s 2) fun x hx hn=>Jc S hx hn,acO]
 rfl
def Uh (s:State) (n:Nat):List MC:=match find s.base n,find s.left n,find s.right n with
 | some c,some l,some r=>[jJ s n c l r]
 | _,_,_=>[]
def mcs (s:State):List MC:=jw s (atC (qB s 1) 0) (atC (qB s 2) 0)++(jk s).flatMap fun n=>Uh s n++jw s (atC (qB s 1) n) (atC (qB s 2) n)
theorem abv {s:State} (S:qh s) (ho:open_ s=0):items s=some ((mcs s).map (kG s)):=by
 unfold items
 rw[if_neg (by omega)]
 show Option.map _ (kD s)=_
 rw[W0 S ho]
 show some (gap (at_ (qQ s) 0) (at_ (qX s) 0)++(jk s).flatMap fun n=>(commonItem s n).toList++gap (at_ (qQ s) n) (at_ (qX s) n))=_
 congr 1
 unfold mcs
 rw[List.map_append,List.map_flatMap]
 congr 1
 . rw[X2 S,X3 S,Zv]
 . congr 1
   funext n
   rw[List.map_append,<-Zv,<-X2 S,<-X3 S]
   congr 1
   unfold Uh
   cases hb:find s.base n with
   | none=>unfold commonItem;rw[hb];rfl
   | some c =>
    cases hl:find s.left n with
    | none=>unfold commonItem;rw[hb,hl];rfl
    | some l =>
     cases hr:find s.right n with
     | none=>unfold commonItem;rw[hb,hl,hr];rfl
     | some r=>rw[KO S ho hb hl hr];rfl
theorem aal {s:State} (S:qh s):(open_ s≠0->result s=none)/\(open_ s=0->∃ l,result s=some l/\l.map Zw=yB s (top s) (mcs s)):=by
 constructor
 . intro h
   unfold result items
   rw[if_pos (by omega)]
   rfl
 . intro h
   unfold result
   rw[abv S h]
   exact⟨_,rfl,Z1 S _ _⟩
end Tb
end
section
namespace Tb
open Vanbki
theorem VX (a b:List Text):min (inCommon a b) (min a.length b.length)=inCommon a b:=by
 have:=vG a b
 omega
theorem uL {a b:List Text}{k m:Nat} (hm1:m<=a.length) (hm2:m<=b.length) (hk:k<=m) (he:∀ i,i<k->a[i]?=b[i]?) (hn:k=m∨a[k]?≠b[k]?):min (inCommon a b) m=k:=QT hm1 hm2 hk he hn
def yC (b x:List Text):Nat:=min (inCommon b.reverse x.reverse) (min b.length x.length - inCommon b x)
theorem W1 (b x:List Text):(changeOf b x).q=b.length - yC b x:=rfl
theorem VY (b x:List Text):(changeOf b x).new=(x.drop (inCommon b x)).take (x.length - yC b x - inCommon b x):=rfl
theorem Ui (b x:List Text):inCommon b x+yC b x<=b.length/\inCommon b x+yC b x<=x.length:=by
 have:=vG b x
 unfold yC
 omega
theorem Zx (t:Text):(linesOf t).length<=t.length+1:=by
 induction t with
 | nil=>simp[linesOf]
 | cons c r ih =>
  by_cases h:c=10
  . subst h
    rw[vi]
    simp
    omega
  . obtain⟨l,m,e1,e2⟩:=qY (r:=r) h
    rw[e2]
    rw[e1] at ih
    simp at ih ⊢
    omega
def size (ls:List Text):Nat:=(ls.map fun l=>l.length+1).sum
theorem kx (a b:List Text):size (a++b)=size a+size b:=by simp[size]
theorem Zy {a b:List Text} (h:a.Sublist b):size a<=size b:=by
 induction h with
 | slnil=>simp
 | cons x h ih=>simp[size] at ih ⊢;omega
 | cons_cons x h ih=>simp[size] at ih ⊢;omega
theorem Zz:∀ ls:List Text,(unlines ls).length<=size ls
 | []=>by simp[unlines]
 | [l]=>by simp[unlines,size]
 | l::a::m=>by
  have ih:=Zz (a::m)
  rw[unlines]
  . simp[size] at ih ⊢
    omega
  . simp
theorem ya (t:Text):size (linesOf t)=t.length+1:=by
 induction t with
 | nil=>simp[linesOf,size]
 | cons c r ih =>
  by_cases h:c=10
  . subst h
    rw[vi]
    simp[size] at ih ⊢
    omega
  . obtain⟨l,m,e1,e2⟩:=qY (r:=r) h
    rw[e2]
    rw[e1] at ih
    simp[size] at ih ⊢
    omega
theorem wJ (b x:List Text):size (changeOf b x).new<=size x :=
 Zy ((List.take_sublist ..).trans (List.drop_sublist ..))
theorem Vk (b:List Text) (f g:Change):size (both b f g)<=3 * size b+size f.new+size g.new:=by
 unfold both
 rw[kx,kx,kx,kx]
 have h1:=Zy (List.take_sublist f.p b)
 have h2:=Zy ((List.take_sublist (g.p - f.q) (b.drop f.q)).trans (List.drop_sublist f.q b))
 have h3:=Zy (List.drop_sublist g.q b)
 omega
theorem aam (b:List Text) (f g:Change):(unlines (both b f g)).length<=3 * size b+size f.new+size g.new:=Nat.le_trans (Zz _) (Vk b f g)
theorem Uj {t l:Text} (h:l∈linesOf t):l.length<=t.length:=by
 have h1:=ya t
 have h2:l.length+1<=size (linesOf t):=by
  obtain⟨a,b,e⟩:=List.append_of_mem h
  rw[e,kx]
  simp[size]
  omega
 omega
def kH (s:State) (c:Cell):Nat:=(conflictAt s c).getD 0
theorem yE {s:State}{c:Cell}{k:Nat} (h:conflictAt s c=some k):k≠0/\k<=3:=by
 unfold conflictAt at h
 split at h <;> (try split at h) <;> (try cases h) <;> simp
theorem W2 (s:State) (c:Cell):((conflictAt s c).map fun k=>(k,c.number))=if kH s c=0 then none else some (kH s c,c.number):=by
 unfold kH
 cases e:conflictAt s c with
 | none=>simp
 | some k=>simp[(yE e).1]
theorem JW (s:State):conflicts s=(s.base.filterMap fun c=>if kH s c=0 then none else some (kH s c,c.number))++(if (mergedOrder s).isNone=true then [(4,0)] else []):=by
 unfold conflicts
 congr 2
 funext c
 exact W2 s c
theorem Jd {s:State} (S:qh s) {x:Nat × Nat} (h:x∈conflicts s):x.1<=4/\x.2<=99:=by
 by_cases h4:x.1=4
 . unfold conflicts at h
   rcases List.mem_append.mp h with h | h
   . obtain⟨c,hc,e⟩:=List.mem_filterMap.mp h
     cases q:conflictAt s c with
     | none=>rw[q] at e;cases e
     | some j =>
      rw[q] at e
      have e':(j,c.number)=x:=by simpa using e
      subst e'
      have:=S.b.num c hc
      have:=yE q
      exact⟨by simp;omega,by simp;omega⟩
   . split at h
     . have:x=(4,0):=by simpa using h
       subst this
       simp
     . cases h
 . obtain⟨c,hc,en,ek⟩:=xT (k:=x.1) (n:=x.2) h h4
   have:=S.b.num c hc
   have:=yE ek
   omega
end Tb
end
section
namespace TbRaw
open PySem
section
variable {prog:Program}{w:World}{A:Around}{E:Value->Shared->Prop}{s:Shared}
theorem W3 (d:Addr) (hd:(d == sysModules)=false):MeetsIn prog w (Builtin.«dict.items» ⟨[.ref d],[]⟩) (fun _ R s=>s.TypeIs (.ref d) "dict"/\R (.ok (.ret (.ref s.heap.objs.size))) { s with heap:=s.heap.push { cls:=.type "dict_items",data:=.fields #[.ref d] } }) :=
 .of_wp fun A R s ⟨ht,h⟩=>by
  have nd:¬((d == sysModules)=true):=by rw[hd];exact Bool.false_ne_true
  unfold Builtin.«dict.items» Builtin.Dict.noArgs
  refine wpAny_bind (wpAny_bind (wpAny_notOrdered_dict ht (show wpAny _ _ (pure d) _ _ s from wpAny_pure ?_)))
  show wpAny _ _ (Builtin.Dict.showsAll d >>= _) _ _ s
  unfold Builtin.Dict.showsAll
  rw[if_neg nd]
  exact wpAny_bind (wpAny_pure (wpAny_bind (wpAny_newObj_type (wpAny_pure ⟨_,rfl,h⟩))))
theorem W4 {v d:Addr}{od:Obj}{es:Array DictEntry}{ep:Nat}{Q:Value->Shared->Prop} (hv:s.heap.IsItemsView v d) (hod:s.heap.get? d=some od) (hdd:od.data=.dict es ep)
 (hQ:Q (.ref s.heap.objs.size) { s with heap:=s.heap.push { cls:=.type "dict_itemiterator",data:=.fields #[.none,.bool false,.ref d,.int 0 0,.int es.size 0,.int ep 0,.none,.none] } }):wpAny (model prog w) A (pyIter (.ref v)) Q E s:=by
 obtain⟨ov,hov,hcv,hdv⟩:=id hv
 refine wpAny_pyIter_slot hv.typeIs F.slot_dict_items_iter (wpAny_call_entry F.slot_dict_items_iter hv.typeIs F.entry_dict_items_iter ?_ (F.args_dict_items_iter_1 _))
 unfold Builtin.«dict_items.__iter__» Builtin.Dict_items.dictOf Builtin.Dict_items.newIterator
 refine wpAny_bind (wpAny_pure (wpAny_bind (wpAny_bind (wpAny_field hov hdv (x:=.ref d) rfl (wpAny_pure ?_)))))
 refine wpAny_bind (wpAny_bind (wpAny_dictEntries hod hdd (wpAny_bind (wpAny_dictEpoch hod hdd ?_))))
 simp only[show Builtin.Dict_items.ownsTuple "dict_itemiterator"=true by decide,if_true]
 refine wpAny_newObj_type (wpAny_pure ⟨_,rfl,"dict_itemiterator",_,⟨_,Heap.get?_push_size _ rfl,rfl⟩,F.slot_dict_itemiterator_next.lookup,?_⟩) (by
  simp only[sizeOk,Builtin.Dict_items.ownedTupleFields,List.size_toArray,List.length_append,List.length_cons,List.length_nil,sizeLine_eq]
  omega)
 simpa [rawInt,Builtin.Dict_items.ownedTupleFields] using hQ
theorem W5 {it d:Addr}{i n ep:Nat}{od:Obj}{es:Array DictEntry}{en:DictEntry}{ok ov:Value}{Q:Option Value->Shared->Prop} (hit:IsItemIter s.heap it d i n ep ok ov) (hod:s.heap.get? d=some od) (hdd:od.data=.dict es ep)
 (hsz:es.size=n) (hx:es[i]?=some en)
 (hQ:∀ h',IsItemIterOut h' it d (i+1) n ep en.key en.val s.heap.objs.size->h'.get? s.heap.objs.size=some { cls:=.type "tuple",data:=.seq #[en.key,en.val] }->h'.objs.size=s.heap.objs.size+1 ->
  (∀ b o,b≠it->s.heap.get? b=some o->h'.get? b=some o)->Q (some (.ref s.heap.objs.size)) { s with heap:=h' }):wpAny (model prog w) A (pyNext (.ref it)) Q E s:=by
 obtain⟨hp,g,dr,tk,os⟩:=s
 have hT:Shared.TypeIs ⟨hp,g,dr,tk,os⟩ (.ref it) "dict_itemiterator":=⟨_,hit,rfl⟩
 obtain⟨hlt',hen⟩:=Array.getElem?_eq_some_iff.mp hx
 subst hen
 unfold pyNext
 refine wpAny_bind (wpAny_attempt (wpAny_callSpecial?_slot (name:=Str.ofString "__next__") hT F.slot_dict_itemiterator_next (wpAny_call_entry F.slot_dict_itemiterator_next hT F.entry_dict_itemiterator_next ?_ (F.args_dict_itemiterator_next_1 _))))
 refine wpAny_bind (wpAny_pure (wpAny_bind (wpAny_bind ?_)))
 first | refine wpAny_bind (wpAny_typeNameOfWhole_itemiter hT (wpAny_pure (wpAny_bind (wpAny_fieldsOf hit rfl ?_)))) | refine wpAny_bind (wpAny_typeNameOf_itemiter hT (wpAny_pure (wpAny_bind (wpAny_fieldsOf hit rfl ?_))))
 simp only[show Builtin.Dict_items.ownsTuple "dict_itemiterator"=true by decide,if_true]
 show wpAny _ _ (if (Value.ref d == Value.none)=true then _ else _) _ _ _
 rw[if_neg (show ¬((Value.ref d == Value.none)=true) from Bool.false_ne_true)]
 refine wpAny_bind (wpAny_pure (wpAny_bind (wpAny_dictEntries hod hdd ?_)))
 rw[if_neg (by rw[hsz];simp)]
 refine wpAny_bind (wpAny_pure (wpAny_bind (wpAny_dictEpoch hod hdd ?_)))
 rw[if_neg (by simp)]
 refine wpAny_pure ?_
 simp only[show ¬((i:Int)<0) from by omega,if_false,Int.toNat_natCast,Array.getElem?_eq_getElem hlt']
 refine wpAny_bind ?_
 first | refine wpAny_bind (wpAny_typeNameOfWhole_itemiter hT (wpAny_pure (wpAny_bind (wpAny_isOneOf_itemiter hT ?_)))) | refine wpAny_bind (wpAny_typeNameOf_itemiter hT (wpAny_pure (wpAny_bind (wpAny_isOneOf_itemiter hT ?_))))
 show wpAny _ _ (setField (.ref it) 3 (rawInt ((i:Int)+1)) >>= _) _ _ ⟨hp,g,dr,tk,os⟩
 refine wpAny_bind (wpAny_setField_rec hit (by simp) fun h₁ he₁ hs₁=>?_)
 replace hs₁:Heap.SameBut it hp h₁:=hs₁
 have he1:IsItemIter h₁ it d (i+1) n ep ok ov:=by
  unfold IsItemIter
  rw[show ((i+1:Nat):Int)=(i:Int)+1 by omega]
  simpa [rawInt] using he₁
 have hT1:Shared.TypeIs ⟨h₁,g,dr,tk,os⟩ (.ref it) "dict_itemiterator":=⟨_,he1,rfl⟩
 refine wpAny_bind (wpAny_holding (wpAny_bind (wpAny_isOneOf_itemiter hT1 (wpAny_bind (wpAny_isOneOf_itemiter hT1 ?_)))))
 show wpAny _ _ (Builtin.Dict_items.pairFromOwner (.ref it) 6 es[i].key es[i].val) _ _ ⟨h₁,g,dr,tk,os⟩
 unfold Builtin.Dict_items.pairFromOwner
 refine wpAny_bind (wpAny_newTuple ?_)
 have he2:IsItemIter (h₁.push { cls:=.type "tuple",data:=.seq #[es[i].key,es[i].val] }) it d (i+1) n ep ok ov:=Heap.get?_push_of_some _ he1
 generalize hh2:h₁.push { cls:=.type "tuple",data:=.seq #[es[i].key,es[i].val] }=h2 at he2
 have hz1:h₁.objs.size=hp.objs.size:=hs₁.1
 have hil:it<hp.objs.size:=Heap.lt_size hit
 have hne:hp.objs.size≠it:=Nat.ne_of_gt hil
 have ht2:h2.get? hp.objs.size=some { cls:=.type "tuple",data:=.seq #[es[i].key,es[i].val] }:=by
  rw[<-hh2,<-hz1]
  exact Heap.get?_push_size _ rfl
 have hz2:h2.objs.size=hp.objs.size+1:=by rw[<-hh2,Heap.size_push,hz1]
 have hk2:∀ b o,b≠it->hp.get? b=some o->h2.get? b=some o:=fun b o hb e=>by
  rw[<-hh2]
  exact Heap.get?_push_of_some _ (hs₁.extBut b o hb e)
 show wpAny _ _ (Builtin.Dict_items.ownedTupleIsFree (.ref it) >>= _) _ _ ⟨h2,g,dr,tk,os⟩
 rw[hz1]
 clear hh2 he1 he₁ hs₁ hT1 hz1 h₁
 unfold Builtin.Dict_items.ownedTupleIsFree
 refine wpAny_bind (wpAny_bind (wpAny_field he2 rfl (x:=.none) rfl (wpAny_pure ?_)))
 simp only[if_true]
 refine wpAny_bind (wpAny_field he2 rfl (x:=ok) rfl (wpAny_bind (wpAny_field he2 rfl (x:=ov) rfl ?_)))
 refine wpAny_bind (wpAny_setField_rec he2 (by simp) fun h3 he3 hs3=>?_)
 replace hs3:Heap.SameBut it h2 h3:=hs3
 replace he3:IsItemIter h3 it d (i+1) n ep es[i].key ov:=he3
 refine wpAny_bind (wpAny_setField_rec he3 (by simp) fun h4 he4 hs4=>?_)
 replace hs4:Heap.SameBut it h3 h4:=hs4
 replace he4:IsItemIter h4 it d (i+1) n ep es[i].key es[i].val:=he4
 refine wpAny_bind (wpAny_setField_rec he4 (by simp) fun h5 he5 hs5=>?_)
 replace hs5:Heap.SameBut it h4 h5:=hs5
 replace he5:IsItemIterOut h5 it d (i+1) n ep es[i].key es[i].val hp.objs.size:=he5
 refine wpAny_bind (wpAny_setField_rec he5 (by simp) fun h6 he6 hs6=>?_)
 replace hs6:Heap.SameBut it h5 h6:=hs6
 replace he6:IsItemIterOut h6 it d (i+1) n ep es[i].key es[i].val hp.objs.size:=he6
 have up:∀ b o,b≠it->h2.get? b=some o->h6.get? b=some o:=fun b o hb e=>hs6.extBut b o hb (hs5.extBut b o hb (hs4.extBut b o hb (hs3.extBut b o hb e)))
 refine wpAny_bind (wpAny_letGo (wpAny_pure (wpAny_pure ⟨_,rfl,wpAny_pure (hQ h6 he6 (up _ _ hne ht2) ?_ fun b o hb e=>up b o hb (hk2 b o hb e))⟩)))
 show h6.objs.size=hp.objs.size+1
 rw[hs6.1,hs5.1,hs4.1,hs3.1,hz2]
theorem Uk {it d:Addr}{i n ep:Nat}{od:Obj}{es:Array DictEntry}{ok ov:Value}{Q:Option Value->Shared->Prop} (hh:A.handled=none) (hit:IsItemIter s.heap it d i n ep ok ov) (hod:s.heap.get? d=some od) (hdd:od.data=.dict es ep)
 (hsz:es.size=n) (hge:n<=i) (hQ:∀ h',Heap.ExtBut it s.heap h'->Q none { s with heap:=h' }):wpAny (model prog w) A (pyNext (.ref it)) Q E s:=by
 have hT:s.TypeIs (.ref it) "dict_itemiterator":=⟨_,hit,rfl⟩
 have hge':es.size<=i:=by omega
 unfold pyNext
 refine wpAny_bind (wpAny_attempt (wpAny_callSpecial?_slot (name:=Str.ofString "__next__") hT F.slot_dict_itemiterator_next (wpAny_call_entry F.slot_dict_itemiterator_next hT F.entry_dict_itemiterator_next ?_ (F.args_dict_itemiterator_next_1 _))))
 refine wpAny_bind (wpAny_pure (wpAny_bind (wpAny_bind ?_)))
 first | refine wpAny_bind (wpAny_typeNameOfWhole_itemiter hT (wpAny_pure (wpAny_bind (wpAny_fieldsOf hit rfl ?_)))) | refine wpAny_bind (wpAny_typeNameOf_itemiter hT (wpAny_pure (wpAny_bind (wpAny_fieldsOf hit rfl ?_))))
 simp only[show Builtin.Dict_items.ownsTuple "dict_itemiterator"=true by decide,if_true]
 show wpAny _ _ (if (Value.ref d == Value.none)=true then _ else _) _ _ s
 rw[if_neg (show ¬((Value.ref d == Value.none)=true) from Bool.false_ne_true)]
 refine wpAny_bind (wpAny_pure (wpAny_bind (wpAny_dictEntries hod hdd ?_)))
 rw[if_neg (by rw[hsz];simp)]
 refine wpAny_bind (wpAny_pure (wpAny_bind (wpAny_dictEpoch hod hdd ?_)))
 rw[if_neg (by simp)]
 refine wpAny_pure ?_
 simp only[show ¬((i:Int)<0) from by omega,if_false,Int.toNat_natCast,Array.getElem?_eq_none hge']
 refine wpAny_bind ?_
 first | refine wpAny_bind (wpAny_typeNameOfWhole_itemiter hT (wpAny_pure ?_)) | refine wpAny_bind (wpAny_typeNameOf_itemiter hT (wpAny_pure ?_))
 show wpAny _ _ (setField (.ref it) 2 .none >>= _) _ _ s
 refine wpAny_bind (wpAny_setField hit rfl (by simp) ?_)
 show wpAny _ _ (newExc (.type "StopIteration") [] >>= _) _ _ _
 simp only[newExc,newTuple]
 refine wpAny_bind (wpAny_bind (wpAny_newObj_type (wpAny_bind (m:=firstArgMember _ _) (wpAny_of_eq (a:=Value.none) (by first | rfl | (simp only[firstArgMember];rfl)) (wpAny_newObj_type ?_ (by size_fits)))) (by size_fits)))
 simp only[raiseNew]
 refine wpAny_bind (wpAny_handled ?_)
 rw[show A.in1.handled=none from hh]
 refine wpAny_bind (wpAny_pure (wpAny_throw ?_))
 refine wpAny_bind (wpAny_isInstance (T:="StopIteration") (b:=true) ⟨_,Heap.get?_push_size _ rfl,rfl⟩ isSubtype_stop ?_)
 exact wpAny_pure (hQ _ (((Heap.SameBut.update ..).extBut.push _).push _))
end
end TbRaw
end
section
namespace TbRaw
open PySem PySem.SeqAt
open PySem.AutoSeq1 (wpAny_loadPart')
open PySem.MeetsSeq PySem.MeetsSeq3
def LtAt (A:Around) (s:Shared) (y x:Value) (b:Bool):Prop :=
 ∀ (prog:Program) (w:World) (E:Value->Shared->Prop) (Q:Value->Shared->Prop),Q (.bool b) s->wpAny (model prog w) A (richCompare .Lt y x) Q E s
inductive Lex (A:Around) (s:Shared):List Value->List Value->Bool->Prop
 | nn:Lex A s [] [] false
 | nc {w ws}:Lex A s [] (w::ws) true
 | cn {v vs}:Lex A s (v::vs) [] false
 | same {v w vs ws b}:EqAt A s v w true->Lex A s vs ws b->Lex A s (v::vs) (w::ws) b
 | diff {v w vs ws b}:EqAt A s v w false->LtAt A s v w b->Lex A s (v::vs) (w::ws) b
theorem Lex.nils {A:Around}{s:Shared}{vs ws:List Value}{b:Bool} (h:Lex A s vs ws b) (e:vs.length=0∨ws.length=0):b=decide (vs.length<ws.length):=by
 cases h with
 | nn=>rfl
 | nc=>simp
 | cn=>simp
 | same _ _=>simp at e
 | diff _ _=>simp at e
theorem Ul (l b:Addr) (items items2:Array Value) (n n2:Nat) (dd dd2:Option Addr) (sl sl2:Array (Option Value)) (r:Bool) (k:Nat) :
 ∀ i:Nat,items.size+items2.size - i=k->i<=items.size->i<=items2.size->Meets (Builtin.«list.__eq__.loop» ⟨[.ref l,.ref b,rawInt i,rawInt 0],[]⟩)
  (fun A R s=>s.heap.get? l=some { cls:=.type "list",dict:=dd,data:=.seq items n,slots:=sl }/\s.heap.get? b=some { cls:=.type "list",dict:=dd2,data:=.seq items2 n2,slots:=sl2 } /\
   Lex A.in1 s (items.toList.drop i) (items2.toList.drop i) r/\R (.ok (.ret (.bool r))) s):=by
 induction k with
 | zero =>
  intro i hk h1 h2 prog w A R s h
  obtain⟨hp,g,d,tk,os⟩:=s;obtain⟨hl,hb,hx,h⟩:=h
  wp_walk using wpAny_loadPart' hl,wpAny_loadPart' hb
  have hi1:items[((i:Nat):Int).toNat]?=none:=by simp;omega
  rw[hi1]
  wp_walk using wpAny_loadPart' hl,wpAny_loadPart' hb
  have e:=hx.nils (.inl (by simp;omega))
  show R (.ok (.ret (.bool (decide (items.size<items2.size))))) _
  have e2:r=decide (items.size<items2.size):=by
   rw[e]
   congr 1
   simp
   omega
  rw[<-e2]
  exact h
 | succ k ih =>
  intro i hk g1 g2 prog w A R s h
  obtain⟨hp,g,d,tk,os⟩:=s;obtain⟨hl,hb,hx,h⟩:=h
  wp_walk using wpAny_loadPart' hl,wpAny_loadPart' hb
  by_cases hlt:i<items.size/\i<items2.size
  . obtain⟨hlt,hlt2⟩:=hlt
    have hi1:items[((i:Nat):Int).toNat]?=some items[i]:=by simp[hlt]
    have hi2:items2[((i:Nat):Int).toNat]?=some items2[i]:=by simp[hlt2]
    have hd1:items.toList.drop i=items[i]::items.toList.drop (i+1):=by simp[List.drop_eq_getElem_cons,hlt]
    have hd2:items2.toList.drop i=items2[i]::items2.toList.drop (i+1):=by simp[List.drop_eq_getElem_cons,hlt2]
    have hc:((i:Int)+1)=((i+1:Nat):Int):=by push_cast;rfl
    rw[hd1,hd2] at hx
    rw[hi1,hi2]
    cases hx with
    | same he hx =>
     refine wpAny_bind (he prog w _ _ ?_)
     wp_walk
     rw[hc]
     exact⟨plainId_quiet plain_eq_loop _,codeAny_builtin entry_eq_loop (by
      rw[Around.under_plainId plain_eq_loop _]
      exact ih (i+1) (by omega) hlt hlt2 prog w A R _ ⟨hl,hb,hx,h⟩)⟩
    | diff he hr =>
     refine wpAny_bind (he prog w _ _ ?_)
     wp_walk using wpAny_loadPart' hl,wpAny_loadPart' hb
     rw[hi1,hi2]
     have hri:=hr prog w
     wp_walk using hri
     exact h
  . have hn:items[((i:Nat):Int).toNat]?=none∨items2[((i:Nat):Int).toNat]?=none:=by
     simp only[Int.toNat_natCast,Array.getElem?_eq_none_iff]
     omega
    have e:=hx.nils (by simp;omega)
    have e2:r=decide (items.size<items2.size):=by
     rw[e]
     congr 1
     simp
     omega
    rw[e2] at h
    rcases hn with hn | hn
    . rw[hn]
      wp_walk using wpAny_loadPart' hl,wpAny_loadPart' hb
      exact h
    . cases q:items[((i:Nat):Int).toNat]? with
      | none =>
       wp_walk using wpAny_loadPart' hl,wpAny_loadPart' hb
       exact h
      | some v =>
       rw[hn]
       wp_walk using wpAny_loadPart' hl,wpAny_loadPart' hb
       exact h
theorem Um (l b:Addr) (items items2:Array Value) (n n2:Nat) (dd dd2:Option Addr) (sl sl2:Array (Option Value)) (r:Bool) :
 Meets (Builtin.«list.__lt__» ⟨[.ref l,.ref b],[]⟩)
  (fun A R s=>s.heap.get? l=some { cls:=.type "list",dict:=dd,data:=.seq items n,slots:=sl }/\s.heap.get? b=some { cls:=.type "list",dict:=dd2,data:=.seq items2 n2,slots:=sl2 } /\
   Lex A.in1 s items.toList items2.toList r/\R (.ok (.ret (.bool r))) s):=by
 intro prog w A R s h
 obtain⟨hp,g,d,tk,os⟩:=s;obtain⟨hl,hb,hx,h⟩:=h
 have f3:=AutoSeq1.sub_list_list
 wp_walk using wpAny_loadPart' hl,wpAny_loadPart' hb
 exact⟨plainId_quiet plain_eq_loop _,codeAny_builtin entry_eq_loop (by
  rw[Around.under_plainId plain_eq_loop _]
  exact Ul l b items items2 n n2 dd dd2 sl sl2 r _ 0 rfl (Nat.zero_le _) (Nat.zero_le _) prog w A R _ ⟨hl,hb,by simpa using hx,h⟩)⟩
theorem W6 (l b:Addr) (items items2:Array Value) (n n2:Nat) (dd dd2:Option Addr) (sl sl2:Array (Option Value)) (r:Bool) :
 Meets (Builtin.«tuple.__lt__» ⟨[.ref l,.ref b],[]⟩)
  (fun A R s=>s.heap.get? l=some { cls:=.type "tuple",dict:=dd,data:=.seq items n,slots:=sl }/\s.heap.get? b=some { cls:=.type "tuple",dict:=dd2,data:=.seq items2 n2,slots:=sl2 } /\
   Lex A.in1 s items.toList items2.toList r/\R (.ok (.ret (.bool r))) s) :=
 .of_wp fun prog w A R s h=>by
  obtain⟨hp,g,d,tk,os⟩:=s;obtain⟨hl,hb,hx0,h⟩:=h
  have f2:=AutoSeq1.sub_tuple_tuple
  wp_walk using wpAny_loadPart' hl,wpAny_loadPart' hb,wpAny_forIn_list _ (fun rest b s'=>b.1=none/\s'=⟨hp,g,d,tk,os⟩/\∃ (vs ws:List Value),rest=vs.zip ws /\
   Lex A.in1 ⟨hp,g,d,tk,os⟩ vs ws r/\vs.length+items2.size=ws.length+items.size) _
  case turn =>
   rintro⟨y,x⟩ rest b s' ⟨hb',rfl,vs,ws,hz,hx,hlen⟩
   cases hx with
   | nn=>rw[List.zip_nil_left] at hz;cases hz
   | nc=>rw[List.zip_nil_left] at hz;cases hz
   | cn=>rw[List.zip_nil_right] at hz;cases hz
   | same he hx =>
    rw[List.zip_cons_cons] at hz
    injection hz with hyx hrest
    injection hyx with hy hx'
    subst hy hx'
    simp only[List.length_cons] at hlen
    refine wpAny_bind (he prog w _ _ ?_)
    wp_walk
    exact⟨rfl,rfl,_,_,hrest,hx,by omega⟩
   | diff he hr =>
    rw[List.zip_cons_cons] at hz
    injection hz with hyx hrest
    injection hyx with hy hx'
    subst hy hx'
    refine wpAny_bind (he prog w _ _ ?_)
    have hri:=hr prog w
    wp_walk using hri
    exact⟨_,rfl,h⟩
  case fin =>
   rintro⟨b1,b2⟩ s' ⟨hb',rfl,vs,ws,hz,hx,hlen⟩
   simp only at hb'
   subst hb'
   have e0:vs.length=0∨ws.length=0:=by
    have q:=congrArg List.length hz
    simp at q
    omega
   have e:=hx.nils e0
   have e2:r=decide (items.size<items2.size):=by
    rw[e]
    congr 1
    simp
    omega
   rw[e2] at h
   wp_walk
   exact⟨_,rfl,by simpa [Builtin.Tuple.tupleCompareSizes] using h⟩
  case h =>
   exact⟨rfl,rfl,items.toList,items2.toList,rfl,hx0,by simp;omega⟩
section
variable {A:Around}{s:Shared}
theorem LtAt.lists {l b:Addr}{items items2:Array Value}{r:Bool} (hl:s.heap.IsList l items) (hb:s.heap.IsList b items2) (hu:A.units<cLine) (hx:Lex A.in1 s items.toList items2.toList r):LtAt A s (.ref l) (.ref b) r:=fun prog w E Q h=>by
 obtain⟨⟨cls,dd,data,sl⟩,ho,hc,n,hd⟩:=id hl
 obtain⟨⟨cls2,dd2,data2,sl2⟩,ho2,hc2,n2,hd2⟩:=id hb
 simp only at hc hd hc2 hd2
 subst hc hd hc2 hd2
 exact richCompare_meets_room (op:=.Lt) ⟨_,ho,rfl⟩ ⟨_,ho2,rfl⟩ F.slot_list_lt F.entry_list_lt (F.args_list_lt_2 _ _) (Um l b items items2 n n2 dd dd2 sl sl2 r)
  ⟨ho,ho2,hx,show Value.bool r≠Value.notImplemented/\Q (.bool r) s from⟨(fun x=>nomatch x),h⟩⟩ hu
theorem LtAt.tuples {l b:Addr}{items items2:Array Value}{r:Bool} (hl:s.heap.IsTuple l items) (hb:s.heap.IsTuple b items2) (hu:A.units<cLine) (hx:Lex A.in1 s items.toList items2.toList r):LtAt A s (.ref l) (.ref b) r:=fun prog w E Q h=>by
 obtain⟨⟨cls,dd,data,sl⟩,ho,hc,n,hd⟩:=id hl
 obtain⟨⟨cls2,dd2,data2,sl2⟩,ho2,hc2,n2,hd2⟩:=id hb
 simp only at hc hd hc2 hd2
 subst hc hd hc2 hd2
 exact richCompare_meets_room (op:=.Lt) ⟨_,ho,rfl⟩ ⟨_,ho2,rfl⟩ F.slot_tuple_lt F.entry_tuple_lt (F.args_tuple_lt_2 _ _) (W6 l b items items2 n n2 dd dd2 sl sl2 r)
  ⟨ho,ho2,hx,show Value.bool r≠Value.notImplemented/\Q (.bool r) s from⟨(fun x=>nomatch x),h⟩⟩ hu
end
mutual
def ltv:PyData->PyData->Bool
 | .int i,.int j=>decide (i<j)
 | .list xs,.list ys=>k6 xs ys
 | .tuple xs,.tuple ys=>k6 xs ys
 | _,_=>false
def k6:List PyData->List PyData->Bool
 | [],[]=>false
 | [],_::_=>true
 | _::_,[]=>false
 | x::xs,y::ys=>if PyData.eqv x y=true then k6 xs ys else ltv x y
end
mutual
def yF:PyData->PyData->Bool
 | .int _,.int _=>true
 | .list xs,.list ys=>kq xs ys
 | .tuple xs,.tuple ys=>kq xs ys
 | _,_=>false
def kq:List PyData->List PyData->Bool
 | x::xs,y::ys=>yF x y && kq xs ys
 | _,_=>true
end
mutual
theorem JX:∀ (da db:PyData) (A:Around) (s:Shared) (a b:Value) (as bs:List Addr),Reads s.heap a da as->Reads s.heap b db bs->da.canLay0=true->db.canLay0=true->yF da db=true ->
 A.units+min da.depth db.depth<cLine->LtAt A s a b (ltv da db)
 | .int x,db,A,s,_,_,_,_,ra,rb,_,_,hc,hu=>by
  cases ra with
  | int _ t =>
   cases rb with
   | int j u =>
    rw[ltv]
    exact fun prog w E Q h=>(PyProof.Rows.lt_int h:wpAny (model prog w) A (compareOp .Lt (.int x t) (.int j u)) Q E s)
   | none=>simp[yF] at hc
   | bool _=>simp[yF] at hc
   | str _ _=>simp[yF] at hc
   | list _ _ _ _=>simp[yF] at hc
   | tuple _ _ _ _=>simp[yF] at hc
   | dict _ _ _ _ _=>simp[yF] at hc
 | .list xs,db,A,s,_,_,_,_,ra,rb,ha,hb,hc,hu=>by
  cases ra with
  | @list l o vs n _ as₁ h1 h2 h3 h4 =>
   cases rb <;> first | (simp[yF] at hc;done) | skip
   rename_i k1 k2 k3 k4
   rw[ltv]
   rw[yF] at hc
   exact LtAt.lists ⟨_,h1,h2,_,h3⟩ ⟨_,k1,k2,_,k3⟩ (room_here hu) (Qx _ _ A.in1 s _ _ _ _ h4 k4 ha hb hc (room_in hu))
 | .tuple xs,db,A,s,_,_,_,_,ra,rb,ha,hb,hc,hu=>by
  cases ra with
  | @tuple l o vs n _ as₁ h1 h2 h3 h4 =>
   cases rb <;> first | (simp[yF] at hc;done) | skip
   rename_i k1 k2 k3 k4
   rw[ltv]
   rw[yF] at hc
   exact LtAt.tuples ⟨_,h1,h2,_,h3⟩ ⟨_,k1,k2,_,k3⟩ (room_here hu) (Qx _ _ A.in1 s _ _ _ _ h4 k4 ha hb hc (room_in hu))
 | .none,db,A,s,_,_,_,_,_,_,_,_,hc,_=>by simp[yF] at hc
 | .bool _,db,A,s,_,_,_,_,_,_,_,_,hc,_=>by simp[yF] at hc
 | .str _,db,A,s,_,_,_,_,_,_,_,_,hc,_=>by simp[yF] at hc
 | .dict _,db,A,s,_,_,_,_,_,_,_,_,hc,_=>by simp[yF] at hc
theorem Qx:∀ (xs ys:List PyData) (A:Around) (s:Shared) (vs ws:List Value) (as bs:List Addr),ReadsAll s.heap vs xs as->ReadsAll s.heap ws ys bs->PyData.canLayAll0 xs=true->PyData.canLayAll0 ys=true->kq xs ys=true ->
 A.units+min (PyData.depthAll xs) (PyData.depthAll ys)<cLine->Lex A s vs ws (k6 xs ys)
 | [],[],_,_,_,_,_,_,ra,rb,_,_,_,_=>by cases ra;cases rb;exact .nn
 | [],_::_,_,_,_,_,_,_,ra,rb,_,_,_,_=>by cases ra;cases rb;exact .nc
 | _::_,[],_,_,_,_,_,_,ra,rb,_,_,_,_=>by cases ra;cases rb;exact .cn
 | x::xs,y::ys,A,s,_,_,_,_,ra,rb,ha,hb,hc,hu=>by
  have ha':x.canLay0=true/\PyData.canLayAll0 xs=true:=by simpa [PyData.canLayAll0] using ha
  have hb':y.canLay0=true/\PyData.canLayAll0 ys=true:=by simpa [PyData.canLayAll0] using hb
  have hc':yF x y=true/\kq xs ys=true:=by simpa [kq] using hc
  cases ra with
  | cons r rs =>
   cases rb with
   | cons r' rs' =>
    have he:=eqAt_reads x y A s _ _ _ _ r r' ha'.1 hb'.1 (room_head hu)
    rw[k6]
    cases e:PyData.eqv x y with
    | true =>
     rw[e] at he
     rw[if_pos rfl]
     exact .same he (Qx xs ys A s _ _ _ _ rs rs' ha'.2 hb'.2 hc'.2 (room_tail hu))
    | false =>
     rw[e] at he
     rw[if_neg Bool.false_ne_true]
     exact .diff he (JX x y A s _ _ _ _ r r' ha'.1 hb'.1 hc'.1 (room_head hu))
end
end TbRaw
end
section
namespace TbRaw
open PySem
theorem aan:typeLookup (.type "list_reverseiterator") "__len__"=pure none:=by rw[typeLookup_type,builtinLookup_eq_fast];kernel_rfl
theorem abw:typeLookup (.type "list_reverseiterator") "__length_hint__"=pure (some (.builtin "list_reverseiterator.__length_hint__")):=by rw[typeLookup_type,builtinLookup_eq_fast];kernel_rfl
theorem aao:splitId "list_reverseiterator.__length_hint__"=some ("list_reverseiterator","__length_hint__"):=by decide +kernel
section
variable {prog:Program}{w:World}{A:Around}{E:Value->Shared->Prop}{s:Shared}
theorem W7 {R:Result->Shared->Prop}{l I:Addr}{items:Array Value} (hh:A.handled=none) (hne:l≠I) (hit:s.heap.IsRevIter I l ((items.size:Int) - 1)) (hl:s.heap.IsList l items) (hn:items.size<=sizeLine) (S:Addr) (hSI:S≠I) (hSl:S≠l) (c₀:Nat)
 (hS:s.heap.get? S=some { cls:=.type "list",data:=.seq #[] c₀ })
 (hR:∀ h' tk acc' c',(∀ b o,b≠S->b≠I->s.heap.get? b=some o->h'.get? b=some o)->h'.get? S=some { cls:=.type "list",dict:=none,data:=.seq acc' c',slots:=#[] } ->
  ItemsOf (fun i v=>items[items.size - 1 - i]?=some v) acc' items.size->R (.ok (.ret .none)) { s with heap:=h',toks:=tk }) :
 wpAny (model prog w) A.in1 (Builtin.List.listExtendWith (.ref S) (.ref I) .none)
  (fun fin s'=>match fin with | .done f=>R (.ok f) s' | .again c'=>c'.quiet=true/\codeAny (model prog w) A c' R s') (fun e s'=>R (.error e) s') s:=by
 have hT:s.TypeIs (.ref I) "list_reverseiterator":=hit.typeIs
 have hSf:S ∉ [I,l]:=fun hm=>by
  rcases List.mem_cons.mp hm with e | hm
  . exact hSI e
  . exact hSl (List.mem_singleton.mp hm)
 have W:=(Walks.listRev (prog:=prog) (w:=w) (A:=A.in1) hh I l hne items).toS
 have h1:Builtin.List.listSameRef (.ref S) (.ref I)=false:=by simp[Builtin.List.listSameRef,hSI]
 unfold Builtin.List.listExtendWith
 refine wpAny_bind (wpAny_typeOf hT ?_)
 rw[if_neg (by rw[h1];decide)]
 refine wpAny_bind (wpAny_pyIter_revIter hit ?_)
 refine wpAny_bind (wpAny_holding ?_)
 unfold Builtin.List.listLengthHint
 refine wpAny_bind (wpAny_specialOf hT aan ?_)
 show wpAny _ A.in1 (specialOf (Value.ref I) (Str.ofString "__length_hint__") >>= _) _ _ _
 refine wpAny_bind (wpAny_specialOf hT abw ?_)
 generalize hid:("list_reverseiterator.__length_hint__":String)=id0
 wp_delta
 rw[show splitId id0=some ("list_reverseiterator","__length_hint__") from by subst hid;exact aao]
 subst hid
 refine wpAny_bind (wpAny_isInstance (b:=true) hT (by rw[isSubtype_type];kernel_rfl) ?_)
 refine wpAny_pure ?_
 rw[if_neg (by decide)]
 refine wpAny_pure ⟨plainId_quiet F.plain_extend_loop _,codeAny_extend_loopS W hn S hSf .none items.size 0 _ #[] c₀ rfl (Nat.zero_le _) ⟨Nat.zero_le _,by simpa using hit,hl⟩ hS (ItemsOf.nil _) fun s' acc' c' hm hS' hacc=>?_⟩
 rw[Moved.eq_with hm]
 refine hR s'.heap s'.toks acc' c' (fun b o hb hI e=>hm.heap b o (fun hmem=>?_) e) hS' hacc
 rcases List.mem_cons.mp hmem with e' | hmem
 . exact hb e'
 . exact hI (List.mem_singleton.mp hmem)
theorem aap {R:Result->Shared->Prop}{l I:Addr}{items:Array Value} (hh:A.handled=none) (hne:l≠I) (hit:s.heap.IsRevIter I l ((items.size:Int) - 1)) (hl:s.heap.IsList l items) (hn:items.size<=sizeLine) (S:Addr) (hSI:S≠I) (hSl:S≠l)
 (hS:s.heap.get? S=some { cls:=.type "list",data:=.seq #[] })
 (hR:∀ h' tk acc' c',(∀ b o,b≠S->b≠I->s.heap.get? b=some o->h'.get? b=some o)->h'.get? S=some { cls:=.type "list",dict:=none,data:=.seq acc' c',slots:=#[] } ->
  ItemsOf (fun i v=>items[items.size - 1 - i]?=some v) acc' items.size->R (.ok (.ret .none)) { s with heap:=h',toks:=tk }) :
 wpAny (model prog w) A.in1 (Builtin.«list.__init__» ⟨[.ref S,.ref I],[]⟩)
  (fun fin s'=>match fin with | .done f=>R (.ok f) s' | .again c'=>c'.quiet=true/\codeAny (model prog w) A c' R s') (fun e s'=>R (.error e) s') s:=by
 show wpAny _ _ (do let old <-Builtin.List.listItems (.ref S);Builtin.List.listUpdate (.ref S) (fun _=>#[]);letGo old.toList.reverse;Builtin.List.listExtendWith (.ref S) (.ref I) .none) _ _ s
 unfold Builtin.List.listItems
 refine wpAny_bind (wpAny_bind (wpAny_seqItems hS rfl (wpAny_pure ?_)))
 show wpAny _ _ (updateSeq S (fun _=>#[]) >>= fun _=>letGo (#[]:Array Value).toList.reverse >>= fun _=>Builtin.List.listExtendWith (.ref S) (.ref I) .none) _ _ s
 refine wpAny_bind (wpAny_updateSeq hS rfl ?_)
 have hS2:=Heap.get?_update_self (Obj.mapSeq (fun _=>(#[]:Array Value))) hS rfl
 have oth:∀ b o,b≠S->s.heap.get? b=some o->(s.heap.update S (Obj.mapSeq (fun _=>(#[]:Array Value)))).get? b=some o:=fun b o hb e=>(Heap.get?_update_other _ _ (Ne.symm hb)).trans e
 refine wpAny_bind (wpAny_letGo ?_)
 refine W7 hh hne (hit.at fun o e=>oth I o (Ne.symm hSI) e) (hl.at fun o e=>oth l o (Ne.symm hSl) e) hn S hSI hSl _ hS2 fun h' tk acc' c' hk hS' hacc=>?_
 exact hR h' tk acc' c' (fun b o hb hI e=>hk b o hb hI (oth b o hb e)) hS' hacc
theorem aaq {Q:Value->Shared->Prop}{l I:Addr}{items:Array Value} (hh:A.handled=none) (hne:l≠I) (hit:s.heap.IsRevIter I l ((items.size:Int) - 1)) (hl:s.heap.IsList l items) (hn:items.size<=sizeLine)
 (hQ:∀ h' tk acc' c',(∀ b o,b≠I->s.heap.get? b=some o->h'.get? b=some o) ->
  h'.get? s.heap.objs.size=some { cls:=.type "list",dict:=none,data:=.seq acc' c',slots:=#[] }->ItemsOf (fun i v=>items[items.size - 1 - i]?=some v) acc' items.size->Q (.ref s.heap.objs.size) { s with heap:=h',toks:=tk }) :
 wpAny (model prog w) A (call (.type "list") [.ref I]) Q E s:=by
 refine callType_codes (Q₁:=fun obj s₁=>obj=.ref s.heap.objs.size/\s₁={ s with heap:=s.heap.push { cls:=.type "list",data:=.seq #[] } }) F.called_list (F.typeCall_list_1 _) F.entry_list_init (code_list_new _ ⟨rfl,rfl⟩) fun obj s₁ h₁=>?_
 obtain⟨rfl,rfl⟩:=h₁
 have hS:(s.heap.push { cls:=.type "list",data:=.seq #[] }).get? s.heap.objs.size=some { cls:=.type "list",data:=.seq #[] }:=Heap.get?_push_size _ rfl
 have hI:I<s.heap.objs.size:=by obtain⟨o,e,_⟩:=hit;exact Heap.lt_size e
 have hlt:l<s.heap.objs.size:=by obtain⟨o,e,_⟩:=hl;exact Heap.lt_size e
 refine⟨⟨_,hS,rfl⟩,F.args_list_init_2 _ _,aap (A:=A.in1) hh hne (hit.at fun o e=>Heap.get?_push_of_some _ e) (hl.at fun o e=>Heap.get?_push_of_some _ e) hn _ (Nat.ne_of_gt hI) (Nat.ne_of_gt hlt) hS fun h' tk acc' c' hk hS' hacc=>?_⟩
 exact⟨rfl,hQ h' tk acc' c' (fun b o hb e=>hk b o (Nat.ne_of_lt (Heap.lt_size e)) hb (Heap.get?_push_of_some _ e)) hS' hacc⟩
end
theorem Uo {items acc:Array Value} (h:ItemsOf (fun i v=>items[items.size - 1 - i]?=some v) acc items.size):acc.toList=items.toList.reverse:=by
 obtain⟨h1,h2⟩:=h
 apply List.ext_getElem?
 intro i
 by_cases hi:i<items.size
 . have e:acc[i]?=some (acc[i]'(by omega)):=Array.getElem?_eq_getElem (by omega)
   have e2:=h2 i _ e
   rw[Array.getElem?_toList,e,<-e2,List.getElem?_reverse (by simpa using hi),Array.getElem?_toList]
   simp
 . rw[List.getElem?_eq_none (by simp;omega),List.getElem?_eq_none (by simp;omega)]
end TbRaw
end
section
namespace Tb
open PySem
def kI (l:List Int):PyData:=.list (l.map PyData.int)
def X4 (t:Vanbki.Text):PyData:=kI (Vanbki.nats t)
def X5 (t:Vanbki.Text) (m o:Nat):PyData:=.tuple [X4 t,.int (m:Int),.int (o:Int)]
def kz (i:Vanbki.Item):PyData:=X5 i.text (Vanbki.markNat i.hidden) i.own
theorem wK:∀ (a b:List Int),PyData.eqvAll (a.map PyData.int) (b.map PyData.int)=decide (a=b)
 | [],[]=>by simp[PyData.eqvAll]
 | [],_::_=>by simp[PyData.eqvAll]
 | _::_,[]=>by simp[PyData.eqvAll]
 | x::a,y::b=>by
  rw[List.map_cons,List.map_cons,PyData.eqvAll,wK a b,PyData.eqv]
  by_cases h:x=y
  . subst h
    by_cases h2:a=b <;> simp[h2]
  . simp[h]
theorem vJ (a b:List Int):PyData.eqv (kI a) (kI b)=decide (a=b):=by
 unfold kI
 rw[PyData.eqv]
 exact wK a b
theorem kJ {a b:List Nat} (h:Vanbki.nats a=Vanbki.nats b):a=b:=by
 unfold Vanbki.nats at h
 exact List.map_inj_right (fun x y e=>by simp only[Vanbki.ofNat] at e;omega) |>.mp h
theorem WL {a b:List Nat}:Vanbki.nats a=Vanbki.nats b ↔ a=b:=⟨kJ,fun h=>by rw[h]⟩
theorem wL:∀ l:List Int,PyData.canLayAll0 (l.map PyData.int)=true
 | []=>by simp[PyData.canLayAll0]
 | x::l=>by rw[List.map_cons,PyData.canLayAll0,wL l];simp[PyData.canLay0]
theorem Z2:∀ l:List Int,PyData.depthAll (l.map PyData.int)=0
 | []=>by simp[PyData.depthAll]
 | x::l=>by rw[List.map_cons,PyData.depthAll,Z2 l];simp[PyData.depth]
theorem q5 (l:List Int):SeqAt.shaped (kI l)=true:=by
 unfold SeqAt.shaped kI
 rw[PyData.canLay0,wL,PyData.depth,Z2]
 rfl
theorem W8 (t:Vanbki.Text) (m o:Nat):PyData.canLay0 (X5 t m o)=true/\PyData.depth (X5 t m o)=2:=by
 constructor
 . simp[X5,X4,kI,PyData.canLay0,PyData.canLayAll0,wL]
 . simp[X5,X4,kI,PyData.depth,PyData.depthAll,Z2]
theorem ZA:∀ l:List Vanbki.Item,PyData.canLayAll0 (l.map kz)=true/\PyData.depthAll (l.map kz)<=2
 | []=>by simp[PyData.canLayAll0,PyData.depthAll]
 | x::l=>by
  obtain⟨h1,h2⟩:=ZA l
  obtain⟨h3,h4⟩:=W8 x.text (Vanbki.markNat x.hidden) x.own
  rw[List.map_cons,PyData.canLayAll0,PyData.depthAll,h1,show PyData.canLay0 (kz x)=true from h3,show PyData.depth (kz x)=2 from h4]
  exact⟨rfl,by omega⟩
def jC (l:List Vanbki.Item):PyData:=.list (l.map kz)
theorem jR (l:List Vanbki.Item):SeqAt.shaped (jC l)=true:=by
 obtain⟨h1,h2⟩:=ZA l
 unfold SeqAt.shaped jC
 rw[PyData.canLay0,h1,PyData.depth]
 simp
 omega
theorem X6:∀ (a b:List Int),TbRaw.kq (a.map PyData.int) (b.map PyData.int)=true
 | [],_=>by simp[TbRaw.kq]
 | _::_,[]=>by simp[TbRaw.kq]
 | x::a,y::b=>by rw[List.map_cons,List.map_cons,TbRaw.kq,X6 a b];simp[TbRaw.yF]
theorem aar (x y:Vanbki.Item):TbRaw.yF (kz x) (kz y)=true:=by
 simp[kz,X5,X4,kI,TbRaw.yF,TbRaw.kq,X6]
theorem ZB:∀ (a b:List Vanbki.Item),TbRaw.kq (a.map kz) (b.map kz)=true
 | [],_=>by simp[TbRaw.kq]
 | _::_,[]=>by simp[TbRaw.kq]
 | x::a,y::b=>by rw[List.map_cons,List.map_cons,TbRaw.kq,ZB a b,aar];rfl
theorem Vl (a b:List Vanbki.Item):TbRaw.yF (jC a) (jC b)=true:=by
 unfold jC
 rw[TbRaw.yF]
 exact ZB a b
theorem WM:∀ (a b:Vanbki.Text),(PyData.eqvAll ((Vanbki.nats a).map PyData.int) ((Vanbki.nats b).map PyData.int)=(Vanbki.cmpText a b == .eq))/\(TbRaw.k6 ((Vanbki.nats a).map PyData.int) ((Vanbki.nats b).map PyData.int)=(Vanbki.cmpText a b == .lt))
 | [],[]=>by simp[Vanbki.nats,PyData.eqvAll,TbRaw.k6,Vanbki.cmpText]
 | [],_::_=>by simp[Vanbki.nats,PyData.eqvAll,TbRaw.k6,Vanbki.cmpText]
 | _::_,[]=>by simp[Vanbki.nats,PyData.eqvAll,TbRaw.k6,Vanbki.cmpText]
 | x::a,y::b=>by
  obtain⟨h1,h2⟩:=WM a b
  unfold Vanbki.nats at h1 h2 ⊢
  rw[List.map_cons,List.map_cons,List.map_cons,List.map_cons,PyData.eqvAll,TbRaw.k6,h1,h2,Vanbki.cmpText,PyData.eqv,TbRaw.ltv]
  unfold Vanbki.ofNat
  by_cases hlt:x<y
  . have e1:((x:Int) == (y:Int))=false:=by simp;omega
    have e2:decide ((x:Int)<(y:Int))=true:=by simp;omega
    rw[if_pos hlt,e1,e2]
    simp
  . by_cases hgt:y<x
    . have e1:((x:Int) == (y:Int))=false:=by simp;omega
      have e2:decide ((x:Int)<(y:Int))=false:=by simp;omega
      rw[if_neg hlt,if_pos hgt,e1,e2]
      simp
    . have e:x=y:=by omega
      subst e
      rw[if_neg hlt,if_neg hlt]
      simp
theorem aas (x y:Nat):(((x:Int) == (y:Int))=(Vanbki.cmpNat x y == .eq))/\(decide ((x:Int)<(y:Int))=(Vanbki.cmpNat x y == .lt)):=by
 unfold Vanbki.cmpNat
 by_cases hlt:x<y
 . have e1:((x:Int) == (y:Int))=false:=by simp;omega
   have e2:decide ((x:Int)<(y:Int))=true:=by simp;omega
   rw[if_pos hlt,e1,e2]
   simp
 . by_cases hgt:y<x
   . have e1:((x:Int) == (y:Int))=false:=by simp;omega
     have e2:decide ((x:Int)<(y:Int))=false:=by simp;omega
     rw[if_neg hlt,if_pos hgt,e1,e2]
     simp
   . have e:x=y:=by omega
     subst e
     rw[if_neg hlt,if_neg hlt]
     simp
theorem abx (x y:Vanbki.Item):(PyData.eqv (kz x) (kz y)=(Vanbki.cmpItem x y == .eq))/\(TbRaw.ltv (kz x) (kz y)=(Vanbki.cmpItem x y == .lt)):=by
 obtain⟨t1,t2⟩:=WM x.text y.text
 obtain⟨m1,m2⟩:=aas (Vanbki.markNat x.hidden) (Vanbki.markNat y.hidden)
 obtain⟨o1,o2⟩:=aas x.own y.own
 unfold kz X5 X4 kI Vanbki.cmpItem
 simp only[PyData.eqv,PyData.eqvAll,TbRaw.ltv,TbRaw.k6,t1,t2,m1,m2,o1,o2]
 cases Vanbki.cmpText x.text y.text <;> cases Vanbki.cmpNat (Vanbki.markNat x.hidden) (Vanbki.markNat y.hidden) <;> cases Vanbki.cmpNat x.own y.own <;> decide
theorem JY:∀ (a b:List Vanbki.Item),(PyData.eqvAll (a.map kz) (b.map kz)=(Vanbki.cmpItems a b == .eq))/\(TbRaw.k6 (a.map kz) (b.map kz)=(Vanbki.cmpItems a b == .lt))
 | [],[]=>by simp[PyData.eqvAll,TbRaw.k6,Vanbki.cmpItems]
 | [],_::_=>by simp[PyData.eqvAll,TbRaw.k6,Vanbki.cmpItems]
 | _::_,[]=>by simp[PyData.eqvAll,TbRaw.k6,Vanbki.cmpItems]
 | x::a,y::b=>by
  obtain⟨h1,h2⟩:=JY a b
  obtain⟨i1,i2⟩:=abx x y
  rw[List.map_cons,List.map_cons,PyData.eqvAll,TbRaw.k6,h1,h2,i1,i2,Vanbki.cmpItems]
  cases Vanbki.cmpItem x y <;> simp
theorem Up (a b:List Vanbki.Item):PyData.eqv (jC a) (jC b)=(Vanbki.cmpItems a b == .eq):=by
 unfold jC
 rw[PyData.eqv]
 exact (JY a b).1
theorem Vm (a b:List Vanbki.Item):TbRaw.ltv (jC a) (jC b)=(Vanbki.cmpItems a b == .lt):=by
 unfold jC
 rw[TbRaw.ltv]
 exact (JY a b).2
end Tb
end
section
namespace L2
open PySem PySem.Spec PyProof.Rows
abbrev Key:=Sum Int Str
def Vn:Key->Value->Bool
 | .inl k,v=>Value.isInt k v
 | .inr x,v=>Value.isStrOf x v
def ade (w:World):Key->Int
 | .inl k=>hashInt k
 | .inr x=>hashStr w x
theorem q_:∀ {k:Key}{v:Value},Vn k v=true->(∃ i t,k=Sum.inl i/\v=Value.int i t)∨(∃ x t,k=Sum.inr x/\v=Value.str x t)
 | .inl i,v,h=>by
  obtain⟨t,e⟩:=Value.isInt_shape (k:=i) (v:=v) h
  exact .inl ⟨i,t,rfl,e⟩
 | .inr x,v,h=>by
  obtain⟨t,e⟩:=Value.isStrOf_shape (x:=x) (v:=v) h
  exact .inr ⟨x,t,rfl,e⟩
theorem Uq (i:Int) (t:Tok):Vn (.inl i) (.int i t)=true:=by simp[Vn,Value.isInt]
theorem Ur (x:Str) (t:Tok):Vn (.inr x) (.str x t)=true:=by simp[Vn,Value.isStrOf]
theorem ab_ (a b:Int):decide ((Sum.inl a:Key)=Sum.inl b)=(a == b):=by
 by_cases e:a=b
 . subst e;simp
 . have h:¬(Sum.inl a:Key)=Sum.inl b:=fun q=>e (Sum.inl.inj q)
   rw[decide_eq_false h]
   exact (beq_eq_false_iff_ne.mpr e).symm
theorem aca (a b:Str):decide ((Sum.inr a:Key)=Sum.inr b)=decide (a=b):=by
 by_cases e:a=b
 . subst e;simp
 . have h:¬(Sum.inr a:Key)=Sum.inr b:=fun q=>e (Sum.inr.inj q)
   rw[decide_eq_false h,decide_eq_false e]
theorem acb (a:Int) (b:Str):decide ((Sum.inl a:Key)=Sum.inr b)=false:=decide_eq_false (fun q=>nomatch q)
theorem acd (a:Str) (b:Int):decide ((Sum.inr a:Key)=Sum.inl b)=false:=decide_eq_false (fun q=>nomatch q)
def j0 (prog:Program) (w:World):PySem.KeyKind prog w Key where
 is:=Vn
 hash:=ade w
 inj:=fun v a b ha hb=>by
  rcases q_ ha with ⟨i,t,rfl,rfl⟩ | ⟨x,t,rfl,rfl⟩
  . rcases q_ hb with ⟨j,u,rfl,e⟩ | ⟨y,u,rfl,e⟩
    . injection e with e1 _;rw[e1]
    . exact nomatch e
  . rcases q_ hb with ⟨j,u,rfl,e⟩ | ⟨y,u,rfl,e⟩
    . exact nomatch e
    . injection e with e1 _;rw[e1]
 byValue:=fun k v h=>by
  rcases q_ h with ⟨i,t,rfl,rfl⟩ | ⟨x,t,rfl,rfl⟩ <;> rfl
 pyHash:=fun hv h=>by
  rcases q_ hv with ⟨i,t,rfl,rfl⟩ | ⟨x,t,rfl,rfl⟩
  . exact wpAny_pyHash_int h
  . exact wpAny_pyHash_str h
 eqBool:=fun hu hv h=>by
  rcases q_ hu with ⟨i,t,rfl,rfl⟩ | ⟨x,t,rfl,rfl⟩
  . rcases q_ hv with ⟨j,u,rfl,rfl⟩ | ⟨y,u,rfl,rfl⟩
    . rw[ab_] at h;exact wpAny_eqBool_int h
    . rw[acb] at h;exact SeqAt.EqAt.int_str i t y u _ _ _ _ h
  . rcases q_ hv with ⟨j,u,rfl,rfl⟩ | ⟨y,u,rfl,rfl⟩
    . rw[acd] at h;exact SeqAt.EqAt.str_int x t j u _ _ _ _ h
    . rw[aca] at h;exact wpAny_eqBool_str h
 «strs»:=fun k x t v h=>by
  rcases q_ h with ⟨i,u,rfl,e⟩ | ⟨y,u,rfl,e⟩
  . exact nomatch e
  . injection e with e1 _
    subst e1
    cases v <;> rfl
theorem X7 (prog:Program) (w:World) (i:Int) (t:Tok):(j0 prog w).is (.inl i) (.int i t)=true:=Uq i t
theorem X8 (prog:Program) (w:World) (x:Str) (t:Tok):(j0 prog w).is (.inr x) (.str x t)=true:=Ur x t
end L2
namespace L2
open PySem PySem.Spec PyProof.Rows
inductive V where
 | non | bl (b:Bool) | int (i:Int) | str (x:Str) | byt (b:Array UInt8) | flt (b:UInt64) | ref (a:Addr) | ty (n:String)
 deriving DecidableEq
def RelV:V->Value->Prop
 | .non,u=>u=Value.none
 | .bl b,u=>u=Value.bool b
 | .int i,u=>∃ t,u=Value.int i t
 | .str x,u=>∃ t,u=Value.str x t
 | .byt b,u=>∃ t,u=Value.bytes b t
 | .flt b,u=>∃ t,u=Value.float b t
 | .ref a,u=>u=Value.ref a
 | .ty n,u=>u=Value.type n
abbrev Vals:List V->List Value->Prop:=Paired RelV
theorem Vals.length {xs:List V}{us:List Value} (r:Vals xs us):xs.length=us.length:=Paired.length r
theorem Vals.get:∀ {xs:List V}{us:List Value}{i:Nat}{x:V},Vals xs us->xs[i]?=some x->∃ u,us[i]?=some u/\RelV x u
 | _,_,_,_,.nil,e=>by simp at e
 | _,_,0,_,.cons r _,e=>by simp at e;subst e;exact⟨_,rfl,r⟩
 | _,_,i+1,x,.cons _ t,e=>by
  obtain⟨u,h1,h2⟩:=Vals.get (i:=i) (x:=x) t (by simpa using e)
  exact⟨u,by simpa using h1,h2⟩
theorem Vals.set {x:V}{u:Value} (r:RelV x u):∀ {xs:List V}{us:List Value} (i:Nat),Vals xs us->Vals (xs.set i x) (us.set i u)
 | _,_,_,.nil=>.nil
 | _,_,0,.cons _ t=>.cons r t
 | _,_,i+1,.cons q t=>.cons q (Vals.set r i t)
theorem Vals.append:∀ {xs ys:List V}{us ws:List Value},Vals xs us->Vals ys ws->Vals (xs++ys) (us++ws)
 | _,_,_,_,.nil,s=>s
 | _,_,_,_,.cons r t,s=>.cons r (Vals.append t s)
theorem Vals.take:∀ {xs:List V}{us:List Value} (n:Nat),Vals xs us->Vals (xs.take n) (us.take n)
 | _,_,0,_=>.nil
 | _,_,_+1,.nil=>.nil
 | _,_,n+1,.cons r t=>.cons r (Vals.take n t)
theorem Vals.drop:∀ {xs:List V}{us:List Value} (n:Nat),Vals xs us->Vals (xs.drop n) (us.drop n)
 | _,_,0,r=>r
 | _,_,_+1,.nil=>.nil
 | _,_,n+1,.cons _ t=>Vals.drop n t
def RelO:Option V->Option Value->Prop
 | some v,some u=>RelV v u
 | none,none=>True
 | _,_=>False
def KV {κ:Type}:List (κ × V)->List (κ × Value)->Prop:=Paired fun (p:κ × V) (q:κ × Value)=>p.1=q.1/\RelV p.2 q.2
def kV:Key->V
 | .inl i=>.int i
 | .inr x=>.str x
inductive HO where
 | lst (xs:List V)
 | tup (xs:List V)
 | dK (kvs:List (Key × V)) | dT (kvs:List (List Key × V))
 | set (S:Int->Bool) (n:Nat)
 | ins (C dx:Addr) (fs:List (Str × V))
 | own (x:Addr)
 | xd (fs:List (Str × V))
 | met (f x:Addr)
 | rng (lo hi:Int)
 | frz (o:Obj) (u:HO)
 | tbl (ps:Array Value)
 | ext (φ:Heap->Prop)
abbrev Hp:=Addr->Option HO
def upd (H:Hp) (a:Addr) (o:HO):Hp:=fun b=>if b=a then some o else H b
theorem z6 {H:Hp}{a:Addr}{o:HO}:upd H a o a=some o:=by unfold upd;rw[if_pos rfl]
theorem z8 {H:Hp}{a b:Addr}{o:HO} (h:b≠a):upd H a o b=H b:=by unfold upd;rw[if_neg h]
theorem kb {H:Hp}{a:Addr}{o u:HO}:upd (upd H a o) a u=upd H a u:=by
 funext b;unfold upd;split <;> rfl
theorem aat {H:Hp}{a b:Addr}{o u:HO} (h:H a=some o) (h':H b=some u) (d:o≠u):a≠b:=by
 intro e;subst e;rw[h] at h';exact d (Option.some.inj h')
theorem z7 {H:Hp}{a b:Addr}{o:HO} (h:H a=some o) (h':H b=none):a≠b:=by
 intro e;subst e;rw[h] at h';cases h'
section
variable (P:Program) (w:World)
def ObjOk (H:Hp) (h:Heap) (a:Addr):HO->Prop
 | .lst xs=>xs.length<=sizeLine/\∃ (its:List Value) (n:Nat),Vals xs its/\h.get? a=some { cls:=.type "list",data:=.seq its.toArray n }
 | .tup xs=>xs.length<=sizeLine/\∃ its:List Value,Vals xs its/\IsTup h a its.toArray
 | .dK kvs=>kvs.length<=sizeLine/\(a == sysModules)=false/\∃ vs,KV kvs vs/\h.DictOf (j0 P w) a vs
 | .dT kvs=>kvs.length<=sizeLine/\(a == sysModules)=false/\∃ xs:List (List Key × Addr × Value),
  Paired (fun (p:List Key × V) (q:List Key × Addr × Value)=>p.1=q.1/\H q.2.1=some (.tup (p.1.map kV))/\RelV p.2 q.2.2) kvs xs /\
  ∃ o es ep,h.get? a=some o/\o.ExactDict/\o.data=.dict es ep/\es.toList=xs.map (entryOfKey (tupleKind (j0 P w)))/\(xs.map (·.1)).Nodup
 | .set S n=>h.SetOf (intKind P w) a S n
 | .ins C dx fs=>H dx=some (.own a)/\fs.length<=1000/\dx≠a/\h.get? a=some (PySem.W.instObj C dx) /\
  ∃ mA,h.Ns1 dx mA/\(∀ f,RelO (fs.lookup f) (mA f))/\PySem.Within mA (fs.map (·.1))
 | .own _=>∃ o,h.get? a=some o
 | .xd fs=>∃ mA,h.Ns1 a mA/\∀ f,RelO (fs.lookup f) (mA f)
 | .rng lo hi=>∃ t u v,h.get? a=some { cls:=.type "range",data:=.fields #[.int lo t,.int hi u,.int 1 v] }
 | .frz o u=>h.get? a=some o/\ObjOk H h a u
 | .tbl ps=>h.get? a=some { cls:=.none,data:=.fields ps }
 | .met f x=>h.get? a=some (PySem.W.methodObj (.ref f) (.ref x))
 | .ext φ=>φ h/\(∃ o,h.get? a=some o)/\∀ h1 h2:Heap,φ h1->(∀ o,h1.get? a=some o->h2.get? a=some o)->φ h2
def HOk (H:Hp) (h:Heap):Prop:=∀ a o,H a=some o->ObjOk P w H h a o
end
section
variable {P:Program}{w:World}{H H':Hp}{h h':Heap}{a:Addr}{o:HO}
theorem ObjOk.lt (x:ObjOk P w H h a o):a<h.objs.size:=by
 cases o with
 | lst xs=>obtain⟨_,_,_,_,e⟩:=x;exact Heap.lt_size e
 | tup xs=>obtain⟨_,_,_,p⟩:=x;exact p.lt
 | dK kvs=>obtain⟨_,_,_,_,o,_,_,e,_⟩:=x;exact Heap.lt_size e
 | dT kvs=>obtain⟨_,_,_,_,o,_,_,e,_⟩:=x;exact Heap.lt_size e
 | set S n=>obtain⟨o,_,_,_,e,_⟩:=x;exact Heap.lt_size e
 | ins C dx fs=>obtain⟨_,_,_,e,_⟩:=x;exact Heap.lt_size e
 | own y=>obtain⟨_,e⟩:=x;exact Heap.lt_size e
 | xd fs=>obtain⟨_,⟨_,_,_,e,_⟩,_⟩:=x;exact Heap.lt_size e
 | rng lo hi=>obtain⟨_,_,_,e⟩:=x;exact Heap.lt_size e
 | frz ob u=>obtain⟨e,_⟩:=x;exact Heap.lt_size e
 | tbl ps=>exact Heap.lt_size (show h.get? a=some _ from x)
 | met f y=>exact Heap.lt_size (show h.get? a=some _ from x)
 | ext φ=>obtain⟨_,⟨_,e⟩,_⟩:=x;exact Heap.lt_size e
theorem Paired.mapP {α β:Type}{F G:α->β->Prop}:∀ {l₁:List α}{l₂:List β},Paired F l₁ l₂->(∀ a b,F a b->G a b)->Paired G l₁ l₂
 | _,_,.nil,_=>.nil
 | _,_,.cons r t,f=>.cons (f _ _ r) (Paired.mapP t f)
theorem ObjOk.stay (x:ObjOk P w H h a o) (k:∀ b u,(b=a∨H b=some (.own a))->h.get? b=some u->h'.get? b=some u)
 (ho:∀ b,H b=some (.own a)->H' b=some (.own a)) (ht:∀ b xs,H b=some (.tup xs)->H' b=some (.tup xs)):ObjOk P w H' h' a o:=by
 induction o with
 | lst xs=>obtain⟨z,its,n,r,e⟩:=x;exact⟨z,its,n,r,k _ _ (.inl rfl) e⟩
 | tup xs=>obtain⟨z,its,r,ob,e,c⟩:=x;exact⟨z,its,r,ob,k _ _ (.inl rfl) e,c⟩
 | dK kvs=>obtain⟨z,y,vs,r,ob,es,ep,e,c⟩:=x;exact⟨z,y,vs,r,ob,es,ep,k _ _ (.inl rfl) e,c⟩
 | dT kvs =>
  obtain⟨z,y,xs,r,ob,es,ep,e,c⟩:=x
  exact⟨z,y,xs,Paired.mapP r fun p q z=>⟨z.1,ht _ _ z.2.1,z.2.2⟩,ob,es,ep,k _ _ (.inl rfl) e,c⟩
 | set S n=>obtain⟨ob,es,ep,t,e,c⟩:=x;exact⟨ob,es,ep,t,k _ _ (.inl rfl) e,c⟩
 | ins C dx fs =>
  obtain⟨d,z,ne,e,mA,⟨od,es,ep,e2,c⟩,r⟩:=x
  exact⟨ho _ d,z,ne,k _ _ (.inl rfl) e,mA,⟨od,es,ep,k _ _ (.inr d) e2,c⟩,r⟩
 | own y=>obtain⟨ob,e⟩:=x;exact⟨ob,k _ _ (.inl rfl) e⟩
 | xd fs=>obtain⟨mA,⟨od,es,ep,e,c⟩,r⟩:=x;exact⟨mA,⟨od,es,ep,k _ _ (.inl rfl) e,c⟩,r⟩
 | rng lo hi=>obtain⟨t,u,v,e⟩:=x;exact⟨t,u,v,k _ _ (.inl rfl) e⟩
 | frz ob u ih=>obtain⟨e,q⟩:=x;exact⟨k _ _ (.inl rfl) e,ih q⟩
 | tbl ps =>
  have e:h.get? a=some { cls:=.none,data:=.fields ps }:=x
  show h'.get? a=some { cls:=.none,data:=.fields ps }
  exact k a _ (.inl rfl) e
 | met f y =>
  have e:h.get? a=some (PySem.W.methodObj (.ref f) (.ref y)):=x
  show h'.get? a=some (PySem.W.methodObj (.ref f) (.ref y))
  exact k a _ (.inl rfl) e
 | ext φ=>obtain⟨p,⟨o,e⟩,st⟩:=x;exact⟨st _ _ p fun o q=>k _ _ (.inl rfl) q,⟨o,k _ _ (.inl rfl) e⟩,st⟩
theorem HOk.lt (x:HOk P w H h) (e:H a=some o):a<h.objs.size:=(x a o e).lt
theorem HOk.fresh (x:HOk P w H h) (e:h.objs.size<=a):H a=none:=by
 cases q:H a with
 | none=>rfl
 | some u=>exact absurd (Nat.lt_of_lt_of_le (x.lt q) e) (Nat.lt_irrefl _)
theorem HOk.kept (x:HOk P w H h) (k:∀ b u,h.get? b=some u->h'.get? b=some u):HOk P w H h':=fun a o e =>
 (x a o e).stay (fun b u _ q=>k b u q) (fun _ q=>q) fun _ _ q=>q
theorem HOk.laid (x:HOk P w H h) (k:∀ b u,h.get? b=some u->h'.get? b=some u) (hp:h.objs.size<=a) (new:ObjOk P w (upd H a o) h' a o):HOk P w (upd H a o) h':=fun b u e=>by
 have hn:=x.fresh hp
 by_cases hb:b=a
 . subst hb;rw[z6] at e;cases e;exact new
 . rw[z8 hb] at e
   exact (x b u e).stay (fun c v _ q=>k c v q) (fun c q=>by rw[z8 (z7 q hn)];exact q) fun c xs q=>by rw[z8 (z7 q hn)];exact q
end
def Rd (H:Hp) (a:Addr) (u:HO):Prop:=H a=some u∨∃ o,H a=some (.frz o u)
theorem Rd.ok {P:Program}{w:World}{H:Hp}{h:Heap}{a:Addr}{u:HO} (r:Rd H a u) (x:HOk P w H h):ObjOk P w H h a u:=by
 rcases r with r | ⟨o,r⟩
 . exact x a u r
 . obtain⟨_,q⟩:=x a _ r
   exact q
def Mut:Option HO->Prop
 | some (.lst _)=>True
 | some (.dK _)=>True
 | some (.dT _)=>True
 | some (.set _ _)=>True
 | some (.ins _ _ _)=>True
 | some (.ext _)=>True
 | _=>False
section
variable {P:Program}{w:World}{H:Hp}{h h':Heap}{x e:Addr}{o':HO}
theorem HOk.write (ok:HOk P w H h) (mu:Mut (H x)) (he:e=x∨H e=some (.own x)) (k:∀ b u,b≠e->h.get? b=some u->h'.get? b=some u) (heo:∃ u,h'.get? e=some u)
 (new:ObjOk P w (upd H x o') h' x o'):HOk P w (upd H x o') h':=fun b u q=>by
 have nown:∀ c y,H c=some (.own y)->c≠x:=fun c y r z=>by subst z;rw[r] at mu;exact mu
 have ntup:∀ c xs,H c=some (.tup xs)->c≠x:=fun c xs r z=>by subst z;rw[r] at mu;exact mu
 by_cases hb:b=x
 . subst hb;rw[z6] at q;cases q;exact new
 . rw[z8 hb] at q
   by_cases hbe:b=e
   . have q':H b=some (.own x):=by
      rcases he with z | z
      . exact absurd (hbe.trans z) hb
      . rw[hbe];exact z
     rw[q] at q';cases q'
     obtain⟨v,hv⟩:=heo
     exact⟨v,by rw[hbe];exact hv⟩
   . refine (ok b u q).stay (fun c v hc r=>k c v ?_ r) (fun c r=>by rw[z8 (nown c b r)];exact r) fun c xs r=>by rw[z8 (ntup c xs r)];exact r
     rcases hc with rfl | hc
     . exact hbe
     . rintro rfl
       rcases he with z | z
       . exact nown c b hc z
       . rw[hc] at z;cases z;exact hb rfl
end
structure Un (fs ex:List Addr) (H H':Hp) (h h':Heap):Prop where
 keep:∀ b o,h.get? b=some o->H b=none->b ∉ fs->b ∉ ex->h'.get? b=some o
 slot:∀ b o,h.get? b=some o->H b=none->b∈fs->b ∉ ex->∃ sl,h'.get? b=some { o with slots:=sl }
 free:∀ b o,h.get? b=some o->H b=none->b ∉ ex->H' b=none
 there:∀ b o,h.get? b=some o->b ∉ ex->∃ o',h'.get? b=some o'
 tups:∀ b xs,H b=some (.tup xs)->H' b=some (.tup xs)
 frzs:∀ b o u,H b=some (.frz o u)->H' b=some (.frz o u)
 tbls:∀ b ps,H b=some (.tbl ps)->∃ more,H' b=some (.tbl (ps++more))
section
variable {fs fs' ex ex':List Addr}{H H1 H2:Hp}{h h1 h2 h':Heap}{a x e:Addr}{o:HO}
theorem Un.any (u:Un fs ex H H1 h h1) {b:Addr}{ob:Obj} (q:h.get? b=some ob) (n:H b=none) (hx:b ∉ ex):∃ sl,h1.get? b=some { ob with slots:=sl }:=by
 by_cases hb:b∈fs
 . exact u.slot b ob q n hb hx
 . exact⟨ob.slots,u.keep b ob q n hb hx⟩
theorem Un.kept (k:∀ b u,h.get? b=some u->h'.get? b=some u):Un fs ex H H h h' :=
 ⟨fun b ob q _ _ _=>k b ob q,fun b ob q _ _ _=>⟨ob.slots,k b ob q⟩,fun _ _ _ n _=>n,fun b ob q _=>⟨ob,k b ob q⟩,fun _ _ q=>q,fun _ _ _ q=>q,fun _ ps q=>⟨#[],by rw[q];simp⟩⟩
theorem Un.refl:Un fs ex H H h h:=Un.kept fun _ _ q=>q
theorem Un.laid (k:∀ b u,h.get? b=some u->h'.get? b=some u) (hp:h.objs.size<=a) (hn:H a=none):Un fs ex H (upd H a o) h h' where
 keep:=fun b u q _ _ _=>k b u q
 slot:=fun b u q _ _ _=>⟨u.slots,k b u q⟩
 free:=fun b u q n _=>by rw[z8 (Nat.ne_of_lt (Nat.lt_of_lt_of_le (Heap.lt_size q) hp))];exact n
 there:=fun b u q _=>⟨u,k b u q⟩
 tups:=fun b xs q=>by rw[z8 (z7 q hn)];exact q
 frzs:=fun b u xs q=>by rw[z8 (z7 q hn)];exact q
 tbls:=fun b ps q=>⟨#[],by rw[z8 (z7 q hn),q];simp⟩
theorem Un.write (mu:Mut (H x)) (he:e=x∨H e=some (.own x)) (k:∀ b u,b≠e->h.get? b=some u->h'.get? b=some u) (heo:∃ u,h'.get? e=some u):Un fs ex H (upd H x o) h h':=by
 have hx:∀ b,H b=none->b≠x:=fun b n z=>by subst z;rw[n] at mu;exact mu
 have hb:∀ b,H b=none->b≠e:=fun b n z=>by
  subst z
  rcases he with r | r
  . exact hx b n r
  . rw[n] at r;cases r
 have hm:∀ b u,H b=some u->¬Mut (some u)->b≠x:=fun b u q nm z=>by subst z;rw[q] at mu;exact nm mu
 refine⟨fun b u q n _ _=>k b u (hb b n) q,fun b u q n _ _=>⟨u.slots,k b u (hb b n) q⟩,fun b u q n _=>by rw[z8 (hx b n)];exact n,fun b u q _=>?_,
  fun b xs q=>by rw[z8 (hm b _ q fun z=>z)];exact q,fun b u xs q=>by rw[z8 (hm b _ q fun z=>z)];exact q,fun b ps q=>⟨#[],by rw[z8 (hm b _ q fun z=>z),q];simp⟩⟩
 by_cases hbe:b=e
 . subst hbe;exact heo
 . exact⟨u,k b u hbe q⟩
end
def trk (h:Heap) (H:Hp):List Addr:=(List.range h.objs.size).filter fun a=>(H a).isSome
def VZ (h:Heap) (H:Hp):Heap:=PySem.W.hideAll h (trk h H)
theorem Us (h:Heap) (H:Hp):(VZ h H).objs.size=h.objs.size:=PySem.W.hideAll_size _ _
theorem aau {h:Heap}{H:Hp}{b:Addr}{o:Obj} (e:h.get? b=some o) (n:H b=none):(VZ h H).get? b=some o :=
 PySem.W.hideAll_get _ e fun hm=>by
  have q:(H b).isSome=true:=(List.mem_filter.mp hm).2
  rw[n] at q;simp at q
theorem aby {h:Heap}{H:Hp}{b:Addr}{o:Obj} (e:(VZ h H).get? b=some o):h.get? b=some o/\H b=none:=by
 have e':h.get? b=some o:=PySem.W.of_hideAll (trk h H) e
 refine⟨e',?_⟩
 cases q:H b with
 | none=>rfl
 | some x =>
  have hm:b∈trk h H:=List.mem_filter.mpr ⟨List.mem_range.mpr (Heap.lt_size e'),by simp[q]⟩
  have z:(VZ h H).get? b=none:=PySem.W.hideAll_none (trk h H) hm
  rw[z] at e;cases e
end L2
namespace L2
open PySem PySem.Spec PyProof.Rows
structure Mod (K:PySem.W.Frag) (mg:Str->Option Value) (base:Heap):Prop where
 kin:K.In base
 glob:base.Ns mainGlobals mg
 blt:∃ mb,base.Ns builtinsNs mb/\∀ x:Str,x≠"__name__"->mb x=bootBuiltins x
 nolimit:base.NoLimit
structure Cx where
 prog:Program
 w:World
 K:PySem.W.Frag
 mg:Str->Option Value
 base:Heap
 A:Around
 N:List Str
 s_0:Shared
 H_0:Hp
 env:Env
 outer:List Env
 stack:List Env
 ex:List Addr
 fn:Str->Bool
 calm:Bool
 pn:List (Addr × Obj)
 xe:Value->Shared->Prop
def frs (l:List Env):List Addr:=l.filterMap (·.frame)
abbrev Cx.fs (X:Cx):List Addr:=frs X.outer
def Vis (sc:Scope) (x:Str):Prop:=sc.names.lookup x=some .local∨sc.names.lookup x=some .cell∨sc.names.lookup x=some .free
def Loc (sc:Scope) (x:Str):Prop:=sc.names.lookup x=some .local∨sc.names.lookup x=some .cell
def adf (env:Env) (h:Heap) (m:Str->Option Value) (x:Str) (u:Value):Prop :=
 (env.kindOf x=some .local/\m x=some u)∨((env.kindOf x=some .cell∨env.kindOf x=some .free)/\∃ c,env.cells.lookup x=some c/\h.IsCell c (some u))
structure Cx.Ok (X:Cx):Prop where
 mod:Mod X.K X.mg X.base
 kind:X.env.scope.kind=.function
 glob:X.env.globals=mainGlobals
 blt:X.env.builtins=builtinsNs
 above:X.s_0.heap.objs.size<=X.env.locals
 inj:∀ x y c,X.env.cells.lookup x=some c->X.env.cells.lookup y=some c->x=y
 has:∀ x,(X.env.kindOf x=some .cell∨X.env.kindOf x=some .free)->∃ c,X.env.cells.lookup x=some c
 cab:∀ x c,X.fn x=true->X.env.cells.lookup x=some c->X.s_0.heap.objs.size<=c
 hd:X.calm=true->X.A.handled=none
 frames:X.A.frames=some X.stack
 stk:X.stack=X.outer∨(X.stack=X.env::X.outer/\X.env.frame=some X.env.locals)
 exf:∀ b∈X.ex,b≠X.env.locals/\∀ x c,X.env.cells.lookup x=some c->c≠b
 bs:∀ b o,X.base.get? b=some o->X.s_0.heap.get? b=some o/\X.H_0 b=none
 bsz:X.base.objs.size<=X.s_0.heap.objs.size
 noex:∀ b o,X.base.get? b=some o->b ∉ X.ex
 exfs:∀ b∈X.ex,b ∉ X.fs
 funs:X.s_0.heap.FunFrames X.base X.outer
 frf:∀ b∈X.fs,X.H_0 b=none
structure Inv (X:Cx) (pins:List (Addr × Obj)) (σ:List (Option V)) (H:Hp) (s:Shared):Prop where
 ok:X.Ok
 os:s.os=X.s_0.os
 bare:AllBare s.gens
 base:Un X.fs X.ex X.H_0 H X.s_0.heap s.heap
 loc:∃ m,s.heap.Ns X.env.locals m/\∀ (i:Nat) (x:Str) (v:V),X.N[i]?=some x->σ[i]?=some (some v)->Vis X.env.scope x->∃ u,RelV v u/\adf X.env s.heap m x u
 cell:∀ x c,X.env.cells.lookup x=some c->∃ v,s.heap.IsCell c v
 free:H X.env.locals=none
 freeC:∀ x c,X.env.cells.lookup x=some c->H c=none
 pin:∀ p∈X.pn++pins,s.heap.get? p.1=some p.2/\H p.1=none/\p.1≠X.env.locals/\p.1 ∉ X.fs/\∀ v,p.2.data≠.cell v
 hok:HOk X.prog X.w H s.heap
 len:σ.length=X.N.length
section
variable {X:Cx}{pins:List (Addr × Obj)}{σ:List (Option V)}{H H':Hp}{s:Shared}{h':Heap}
theorem Cx.Ok.nofr (ok:X.Ok) {b:Addr}{o:Obj} (e:X.base.get? b=some o):b ∉ X.fs:=fun hb=>by
 have:=(ok.funs.mem hb).1
 rw[e] at this;cases this
theorem Inv.bs (I:Inv X pins σ H s):∀ b o,X.base.get? b=some o->s.heap.get? b=some o/\H b=none:=fun b o e =>
 ⟨I.base.keep b o (I.ok.bs b o e).1 (I.ok.bs b o e).2 (I.ok.nofr e) (I.ok.noex b o e),I.base.free b o (I.ok.bs b o e).1 (I.ok.bs b o e).2 (I.ok.noex b o e)⟩
theorem Inv.bk (I:Inv X pins σ H s):∀ b o,X.base.get? b=some o->s.heap.get? b=some o:=fun b o e=>(I.bs b o e).1
theorem Inv.mod (I:Inv X pins σ H s):Mod X.K X.mg X.base:=I.ok.mod
theorem Inv.kIn (I:Inv X pins σ H s):X.K.In s.heap:=I.ok.mod.kin.keeps I.bk
theorem Inv.fr (I:Inv X pins σ H s):∃ m,Fr X.base X.env.locals s.heap m :=
 let ⟨m,hn,_⟩:=I.loc
 ⟨m,hn,I.bk,Nat.le_trans I.ok.bsz I.ok.above⟩
theorem Inv.lt (I:Inv X pins σ H s):X.env.locals<s.heap.objs.size:=let ⟨_,hn,_⟩:=I.loc;hn.lt
theorem Inv.sz (I:Inv X pins σ H s):X.s_0.heap.objs.size<=s.heap.objs.size:=Nat.le_trans I.ok.above (Nat.le_of_lt I.lt)
theorem Inv.nofs (I:Inv X pins σ H s) {a:Addr} (h:s.heap.objs.size<=a):a ∉ X.fs:=fun hb=>by
 obtain⟨_,o,ho,_⟩:=I.ok.funs.mem hb
 exact absurd (Nat.lt_of_lt_of_le (Heap.lt_size ho) (Nat.le_trans I.sz h)) (Nat.lt_irrefl _)
theorem Inv.cne (I:Inv X pins σ H s):∀ x c,X.env.cells.lookup x=some c->c≠X.env.locals:=fun x c e z=>by
 obtain⟨v,o,ho,hd⟩:=I.cell x c e
 obtain⟨m,⟨o',es,ep,ho',hd',_⟩,_⟩:=I.loc
 rw[z,ho'] at ho;cases ho;rw[hd'] at hd;cases hd
theorem Inv.funs (I:Inv X pins σ H s):s.heap.FunFrames X.base X.outer:=by
 have all:∀ (l:List Env),(∀ b∈frs l,b∈X.fs)->X.s_0.heap.FunFrames X.base l->s.heap.FunFrames X.base l:=by
  intro l
  induction l with
  | nil=>intro _ _;trivial
  | cons env r ih =>
   intro hs hl
   obtain⟨hk,⟨L,o,hf,hn,ho,hd⟩,hr⟩:=hl
   have hL:L∈X.fs:=hs L (by unfold frs;rw[List.filterMap_cons,hf];exact List.mem_cons_self)
   obtain⟨sl,e⟩:=I.base.slot L o ho (I.ok.frf L hL) hL fun z=>I.ok.exfs L z hL
   exact⟨hk,⟨L,_,hf,hn,e,hd⟩,ih (fun b hb=>hs b (by unfold frs;rw[List.filterMap_cons,hf];exact List.mem_cons_of_mem _ hb)) hr⟩
 exact all X.outer (fun _ hb=>hb) I.ok.funs
theorem Inv.stack (I:Inv X pins σ H s):s.heap.FunFrames X.base X.stack:=by
 rcases I.ok.stk with e | ⟨e,hf⟩
 . rw[e];exact I.funs
 . rw[e]
   obtain⟨m,hn,_⟩:=I.loc
   refine .cons (by rw[I.ok.kind];decide) hf hn ?_ I.funs
   exact Heap.get?_none_of_le (Nat.le_trans I.ok.bsz I.ok.above)
theorem Inv.stkSub (I:Inv X pins σ H s):∀ b∈frs X.stack,b∈X.env.locals::X.fs:=fun b hb=>by
 rcases I.ok.stk with e | ⟨e,hf⟩
 . rw[e] at hb;exact List.mem_cons_of_mem _ hb
 . rw[e] at hb
   unfold frs at hb
   rw[List.filterMap_cons,hf] at hb
   exact hb
theorem Inv.stkFree (I:Inv X pins σ H s):∀ b∈frs X.stack,H b=none:=fun b hb=>by
 rcases List.mem_cons.mp (I.stkSub b hb) with e | hb
 . rw[e];exact I.free
 . obtain⟨_,o,ho,_⟩:=I.ok.funs.mem hb
   exact I.base.free b o ho (I.ok.frf b hb) fun z=>I.ok.exfs b z hb
theorem Inv.step {g':Array GenState}{t':Nat}{d':Drawn}{ch:List Addr} (I:Inv X pins σ H s)
 (hch:∀ b∈ch,(b∈X.ex∨X.s_0.heap.objs.size<=b)/\b≠X.env.locals/\(∀ x c,X.env.cells.lookup x=some c->c≠b)/\∀ p∈X.pn++pins,p.1≠b)
 (keep:∀ b o,b≠X.env.locals->b ∉ X.fs->b ∉ ch->s.heap.get? b=some o->H b=none->h'.get? b=some o)
 (slot:∀ b o,b≠X.env.locals->b∈X.fs->b ∉ ch->s.heap.get? b=some o->H b=none->∃ sl,h'.get? b=some { o with slots:=sl }) (free:∀ b o,b ∉ ch->s.heap.get? b=some o->H b=none->H' b=none)
 (there:∀ b o,b ∉ ch->s.heap.get? b=some o->∃ o',h'.get? b=some o')
 (tups:∀ b xs,H b=some (.tup xs)->H' b=some (.tup xs)) (frzs:∀ b o u,H b=some (.frz o u)->H' b=some (.frz o u)) (tbls:∀ b ps,H b=some (.tbl ps)->∃ more,H' b=some (.tbl (ps++more)))
 (ns:∀ m,s.heap.Ns X.env.locals m->h'.Ns X.env.locals m) (hok:HOk X.prog X.w H' h') (hg:AllBare g') :
 Inv X pins σ H' { s with heap:=h',gens:=g',drawn:=d',toks:=t' }:=by
 have neL:∀ b o,X.s_0.heap.get? b=some o->b≠X.env.locals:=fun b o e=>Nat.ne_of_lt (Nat.lt_of_lt_of_le (Heap.lt_size e) I.ok.above)
 have neC:∀ b o,X.s_0.heap.get? b=some o->b ∉ X.ex->b ∉ ch:=fun b o e hx hb=>by
  rcases (hch b hb).1 with z | z
  . exact hx z
  . exact absurd (Nat.lt_of_lt_of_le (Heap.lt_size e) z) (Nat.lt_irrefl _)
 have cellK:∀ x c,X.env.cells.lookup x=some c->∀ v,s.heap.IsCell c v->h'.IsCell c v:=fun x c e v ⟨o,ho,hd⟩=>by
  have nch:c ∉ ch:=fun z=>(hch c z).2.2.1 x c e rfl
  by_cases hc:c∈X.fs
  . obtain⟨sl,q⟩:=slot c o (I.cne x c e) hc nch ho (I.freeC x c e)
    exact⟨_,q,hd⟩
  . exact⟨o,keep c o (I.cne x c e) hc nch ho (I.freeC x c e),hd⟩
 refine⟨I.ok,I.os,hg,⟨fun b o e n hb hx=>?_,fun b o e n hb hx=>?_,fun b o e n hx=>?_,fun b o e hx=>?_,fun b xs e=>tups b xs (I.base.tups b xs e),fun b o xs e=>frzs b o xs (I.base.frzs b o xs e),fun b ps e=>?_⟩,?_,fun x c e=>?_,?_,fun x c e=>?_,fun p hp=>?_,hok,I.len⟩
 . exact keep b o (neL b o e) hb (neC b o e hx) (I.base.keep b o e n hb hx) (I.base.free b o e n hx)
 . obtain⟨sl,e1⟩:=I.base.slot b o e n hb hx
   obtain⟨sl',e2⟩:=slot b _ (neL b o e) hb (neC b o e hx) e1 (I.base.free b o e n hx)
   exact⟨sl',e2⟩
 . obtain⟨o',e1⟩:=I.base.there b o e hx
   exact free b o' (neC b o e hx) e1 (I.base.free b o e n hx)
 . obtain⟨o',e1⟩:=I.base.there b o e hx
   exact there b o' (neC b o e hx) e1
 . obtain⟨m1,e1⟩:=I.base.tbls b ps e
   obtain⟨m2,e2⟩:=tbls b _ e1
   exact⟨m1++m2,by rw[e2,Array.append_assoc]⟩
 . obtain⟨m,hn,hl⟩:=I.loc
   refine⟨m,ns m hn,fun i x v e1 e2 e3=>?_⟩
   obtain⟨u,r,l⟩:=hl i x v e1 e2 e3
   refine⟨u,r,?_⟩
   rcases l with l | ⟨k,c,e,z⟩
   . exact .inl l
   . exact .inr ⟨k,c,e,cellK x c e _ z⟩
 . obtain⟨v,z⟩:=I.cell x c e
   exact⟨v,cellK x c e v z⟩
 . obtain⟨m,⟨o,_,_,ho,_⟩,_⟩:=I.loc
   exact free _ o (fun z=>(hch _ z).2.1 rfl) ho I.free
 . obtain⟨v,o,ho,hd⟩:=I.cell x c e
   exact free c o (fun z=>(hch c z).2.2.1 x c e rfl) ho (I.freeC x c e)
 . obtain⟨e,n,ne,nf,d⟩:=I.pin p hp
   have nch:p.1 ∉ ch:=fun z=>(hch p.1 z).2.2.2 p hp rfl
   exact⟨keep p.1 p.2 ne nf nch e n,free p.1 p.2 nch e n,ne,nf,d⟩
theorem Inv.un {t':Nat} (I:Inv X pins σ H s) (u:Un X.fs [] H H' s.heap h') (hok:HOk X.prog X.w H' h'):Inv X pins σ H' { s with heap:=h',toks:=t' }:=by
 obtain⟨m,⟨o,es,ep,ho,r⟩,_⟩:=id I.loc
 obtain⟨sl,hL⟩:=u.any ho I.free (by simp)
 exact I.step (g':=s.gens) (d':=s.drawn) (ch:=[]) (fun _ z=>nomatch z) (fun b o _ hb _ e n=>u.keep b o e n hb (by simp)) (fun b o _ hb _ e n=>u.slot b o e n hb (by simp)) (fun b o _ e n=>u.free b o e n (by simp)) (fun b o _ e=>u.there b o e (by simp)) u.tups u.frzs u.tbls (fun m' hm=>by
  obtain⟨o',es',ep',ho',r'⟩:=hm
  rw[ho] at ho';cases ho'
  exact⟨_,es',ep',hL,r'⟩) hok I.bare
theorem Inv.call {g':Array GenState}{t':Nat}{d':Drawn}{ch:List Addr} (I:Inv X pins σ H s) (u:Un (frs X.stack) ch H H' s.heap h') (hok:HOk X.prog X.w H' h') (hg:AllBare g')
 (hch:∀ b∈ch,(b∈X.ex∨X.s_0.heap.objs.size<=b)/\b≠X.env.locals/\(∀ x c,X.env.cells.lookup x=some c->c≠b)/\∀ p∈X.pn++pins,p.1≠b) :
 Inv X pins σ H' { s with heap:=h',gens:=g',drawn:=d',toks:=t' }:=by
 obtain⟨m,⟨o,es,ep,ho,r⟩,_⟩:=id I.loc
 obtain⟨sl,hL⟩:=u.any ho I.free fun z=>(hch _ z).2.1 rfl
 exact I.step (ch:=ch) hch (fun b o hL hb hc e n=>u.keep b o e n (fun z=>(List.mem_cons.mp (I.stkSub b z)).elim hL hb) hc) (fun b o _ _ hc e n=>u.any e n hc) (fun b o hc e n=>u.free b o e n hc) (fun b o hc e=>u.there b o e hc) u.tups u.frzs u.tbls (fun m' hm=>by
  obtain⟨o',es',ep',ho',r'⟩:=hm
  rw[ho] at ho';cases ho'
  exact⟨_,es',ep',hL,r'⟩) hok hg
theorem Inv.turned {t':Nat}{it:Addr} (I:Inv X pins σ H s) (k:∀ b o,b≠it->s.heap.get? b=some o->h'.get? b=some o) (hn:H it=none) (hL:it≠X.env.locals)
 (h1:it∈X.ex∨X.s_0.heap.objs.size<=it) (h2:∀ x c,X.env.cells.lookup x=some c->c≠it) (h3:∀ p∈X.pn++pins,p.1≠it):Inv X pins σ H { s with heap:=h',toks:=t' }:=by
 have nit:∀ b u,H b=some u->b≠it:=fun b u e z=>by rw[z,hn] at e;cases e
 refine I.step (g':=s.gens) (d':=s.drawn) (ch:=[it]) (fun b hb=>?_) (fun b o _ _ hc e _=>k b o (fun z=>hc (by simp[z])) e) (fun b o _ _ hc e _=>⟨o.slots,k b o (fun z=>hc (by simp[z])) e⟩) (fun _ _ _ _ n=>n)
  (fun b o hc e=>⟨o,k b o (fun z=>hc (by simp[z])) e⟩) (fun _ _ e=>e) (fun _ _ _ e=>e) (fun b ps e=>⟨#[],by rw[e];simp⟩) (fun m hm=>?_) (fun b u e=>?_) I.bare
 . have e:b=it:=by simpa using hb
   subst e
   exact⟨h1,hL,h2,h3⟩
 . obtain⟨o,es,ep,ho,r⟩:=hm
   exact⟨o,es,ep,k _ o (Ne.symm hL) ho,r⟩
 . refine (I.hok b u e).stay (fun c v hc q=>k c v ?_ q) (fun _ q=>q) fun _ _ q=>q
   rcases hc with z | z
   . rw[z];exact nit b u e
   . exact nit c _ z
theorem Inv.tok (I:Inv X pins σ H s) (t:Nat):Inv X pins σ H { s with toks:=t }:=I.un (h':=s.heap) (t':=t) Un.refl I.hok
theorem Inv.kept {t':Nat} (I:Inv X pins σ H s) (k:∀ b u,s.heap.get? b=some u->h'.get? b=some u):Inv X pins σ H { s with heap:=h',toks:=t' }:=I.un (Un.kept k) (I.hok.kept k)
theorem Inv.laid {a:Addr}{o:HO}{t':Nat} (I:Inv X pins σ H s) (k:∀ b u,s.heap.get? b=some u->h'.get? b=some u) (hp:s.heap.objs.size<=a) (new:ObjOk X.prog X.w (upd H a o) h' a o) :
 Inv X pins σ (upd H a o) { s with heap:=h',toks:=t' }:=I.un (Un.laid k hp (I.hok.fresh hp)) (I.hok.laid k hp new)
theorem Inv.write {x e:Addr}{o:HO}{t':Nat} (I:Inv X pins σ H s) (mu:Mut (H x)) (he:e=x∨H e=some (.own x)) (k:∀ b u,b≠e->s.heap.get? b=some u->h'.get? b=some u) (heo:∃ u,h'.get? e=some u)
 (new:ObjOk X.prog X.w (upd H x o) h' x o):Inv X pins σ (upd H x o) { s with heap:=h',toks:=t' }:=I.un (Un.write mu he k heo) (I.hok.write mu he k heo new)
theorem Inv.weak {σ':List (Option V)} (I:Inv X pins σ H s) (hl:σ'.length=σ.length) (w:∀ (i:Nat) v,σ'[i]?=some (some v)->σ[i]?=some (some v)):Inv X pins σ' H s :=
 ⟨I.ok,I.os,I.bare,I.base,let ⟨m,hn,hl'⟩:=I.loc;⟨m,hn,fun i x v e1 e2 e3=>hl' i x v e1 (w i v e2) e3⟩,I.cell,I.free,I.freeC,I.pin,I.hok,hl.trans I.len⟩
theorem Inv.pins_of {pins':List (Addr × Obj)} (I:Inv X pins σ H s) (h:∀ p∈pins',s.heap.get? p.1=some p.2/\H p.1=none/\p.1≠X.env.locals/\p.1 ∉ X.fs/\∀ v,p.2.data≠.cell v):Inv X pins' σ H s :=
 ⟨I.ok,I.os,I.bare,I.base,I.loc,I.cell,I.free,I.freeC,fun p hp=>(List.mem_append.mp hp).elim (fun z=>I.pin p (List.mem_append_left _ z)) (h p),I.hok,I.len⟩
theorem JZ {N:List Str} (hN:N.Nodup) {i j:Nat}{x:Str} (a:N[i]?=some x) (b:N[j]?=some x):i=j:=by
 obtain⟨h1,e1⟩:=List.getElem?_eq_some_iff.mp a
 obtain⟨h2,e2⟩:=List.getElem?_eq_some_iff.mp b
 exact (List.getElem_inj hN).mp (e1.trans e2.symm)
theorem Vo {M:Model}{A:Around}{E:Value->Shared->Prop}{i:Nat}{x:Str}{v:V}{u:Value}{Q:Unit->Shared->Prop} (I:Inv X pins σ H s) (hN:X.N.Nodup) (hi:X.N[i]?=some x) (hx:Loc X.env.scope x) (r:RelV v u)
 (h:∀ s',Inv X pins (σ.set i (some v)) H s'->(∃ a,Heap.SameBut a s.heap s'.heap/\(a=X.env.locals∨X.env.cells.lookup x=some a))->Q () s') (hf:X.fn x=true∨X.env.scope.names.lookup x=some .local:=by first | exact .inl rfl | exact .inr rfl | assumption):wpAny M A (storeName X.env x u) Q E s:=by
 obtain⟨m,hn,hl⟩:=id I.loc
 have hcls:(X.env.scope.kind == .class || (X.env.scope.kind == .module && X.env.locals != X.env.globals))=false:=by rw[I.ok.kind];rfl
 have hiσ:i<σ.length:=by rw[I.len];exact (List.getElem?_eq_some_iff.mp hi).1
 have cne:=I.cne
 have tracked:∀ {a:Addr}{h':Heap},(∃ o,s.heap.get? a=some o/\H a=none)->Heap.SameBut a s.heap h'->HOk X.prog X.w H h':=fun {a h'} ha hs b ob e=>by
  obtain⟨_,_,hfree⟩:=ha
  refine (I.hok b ob e).stay (fun c w' hc q=>(hs.2 c ?_).trans q) (fun _ q=>q) fun _ _ q=>q
  rintro rfl
  rcases hc with rfl | hc
  . rw[hfree] at e;cases e
  . rw[hfree] at hc;cases hc
 rcases hx with hk | hk
 . refine wpAny_storeName_local hk hn (fun h' hn' hs=>?_) hcls
   obtain⟨oL,_,_,hoL,_⟩:=id hn
   refine h _ ⟨I.ok,I.os,I.bare,⟨fun b o e n hb hx=>?_,fun b o e n hb hx=>?_,I.base.free,fun b o e hx=>?_,I.base.tups,I.base.frzs,I.base.tbls⟩,⟨_,hn',fun j y v' e1 e2 e3=>?_⟩,fun y c e=>?_,I.free,I.freeC,fun p hp=>?_,tracked ⟨oL,hoL,I.free⟩ hs,by simpa using I.len⟩ ⟨_,hs,.inl rfl⟩
   . exact (hs.2 b (Nat.ne_of_lt (Nat.lt_of_lt_of_le (Heap.lt_size e) I.ok.above))).trans (I.base.keep b o e n hb hx)
   . obtain⟨sl,e1⟩:=I.base.slot b o e n hb hx
     exact⟨sl,(hs.2 b (Nat.ne_of_lt (Nat.lt_of_lt_of_le (Heap.lt_size e) I.ok.above))).trans e1⟩
   . obtain⟨o',e1⟩:=I.base.there b o e hx
     exact⟨o',(hs.2 b (Nat.ne_of_lt (Nat.lt_of_lt_of_le (Heap.lt_size e) I.ok.above))).trans e1⟩
   . by_cases hj:j=i
     . subst hj
       rw[hi] at e1;cases e1
       rw[List.getElem?_set_self hiσ] at e2
       cases e2
       exact⟨u,r,.inl ⟨hk,by simp⟩⟩
     . rw[List.getElem?_set_ne (Ne.symm hj)] at e2
       obtain⟨u',r',q⟩:=hl j y v' e1 e2 e3
       refine⟨u',r',?_⟩
       rcases q with ⟨k,e⟩ | ⟨k,c,e,z⟩
       . refine .inl ⟨k,?_⟩
         have:y≠x:=fun e=>hj (JZ hN e1 (e▸hi))
         simp[this,e]
       . exact .inr ⟨k,c,e,z.sameBut hs (cne y c e)⟩
   . obtain⟨w',z⟩:=I.cell y c e
     exact⟨w',z.sameBut hs (cne y c e)⟩
   . obtain⟨e,n,ne,nf,d⟩:=I.pin p hp
     exact⟨(hs.2 p.1 ne).trans e,n,ne,nf,d⟩
 . have hfn:X.fn x=true:=by
    rcases hf with z | z
    . exact z
    . rw[z] at hk;cases hk
   obtain⟨c,hc⟩:=I.ok.has x (.inl hk)
   obtain⟨w',z⟩:=I.cell x c hc
   refine wpAny_storeName_cell I.ok.kind hk hc z (fun h' hc' hs=>?_)
   obtain⟨oc,hoc,hocd⟩:=id z
   refine h { s with heap:=h' } ⟨I.ok,I.os,I.bare,⟨fun b o e n hb hx=>?_,fun b o e n hb hx=>?_,I.base.free,fun b o e hx=>?_,I.base.tups,I.base.frzs,I.base.tbls⟩,⟨m,hn.sameBut hs (Ne.symm (cne x c hc)),fun j y v' e1 e2 e3=>?_⟩,fun y c' e=>?_,I.free,I.freeC,fun p hp=>?_,tracked ⟨oc,hoc,I.freeC x c hc⟩ hs,by simpa using I.len⟩ ⟨c,hs,.inr hc⟩
   . exact (hs.2 b (Nat.ne_of_lt (Nat.lt_of_lt_of_le (Heap.lt_size e) (I.ok.cab x c hfn hc)))).trans (I.base.keep b o e n hb hx)
   . obtain⟨sl,e1⟩:=I.base.slot b o e n hb hx
     exact⟨sl,(hs.2 b (Nat.ne_of_lt (Nat.lt_of_lt_of_le (Heap.lt_size e) (I.ok.cab x c hfn hc)))).trans e1⟩
   . obtain⟨o',e1⟩:=I.base.there b o e hx
     exact⟨o',(hs.2 b (Nat.ne_of_lt (Nat.lt_of_lt_of_le (Heap.lt_size e) (I.ok.cab x c hfn hc)))).trans e1⟩
   . by_cases hj:j=i
     . subst hj
       rw[hi] at e1;cases e1
       rw[List.getElem?_set_self hiσ] at e2
       cases e2
       exact⟨u,r,.inr ⟨.inl hk,c,hc,hc'⟩⟩
     . rw[List.getElem?_set_ne (Ne.symm hj)] at e2
       obtain⟨u',r',q⟩:=hl j y v' e1 e2 e3
       refine⟨u',r',?_⟩
       rcases q with q | ⟨k,c',e,z'⟩
       . exact .inl q
       . refine .inr ⟨k,c',e,z'.sameBut hs ?_⟩
         rintro rfl
         exact hj (JZ hN e1 (I.ok.inj _ _ _ e hc▸hi))
   . by_cases hcc:c'=c
     . subst hcc;exact⟨_,hc'⟩
     . obtain⟨w2,z2⟩:=I.cell y c' e
       exact⟨w2,z2.sameBut hs hcc⟩
   . obtain⟨e,n,ne,nf,d⟩:=I.pin p hp
     refine⟨(hs.2 p.1 ?_).trans e,n,ne,nf,d⟩
     intro q
     rw[q,hoc] at e
     have q':oc=p.2:=Option.some.inj e
     exact d w' (by rw[<-q'];exact hocd)
theorem J_ {M:Model}{A:Around}{E:Value->Shared->Prop}{i:Nat}{x:Str}{v:V}{u:Value}{Q:Unit->Shared->Prop} (I:Inv X pins σ H s) (hN:X.N.Nodup) (hi:X.N[i]?=some x) (hx:Loc X.env.scope x) (r:RelV v u)
 (h:∀ s',Inv X pins (σ.set i (some v)) H s'->Q () s') (hf:X.fn x=true∨X.env.scope.names.lookup x=some .local:=by first | exact .inl rfl | exact .inr rfl | assumption):wpAny M A (storeName X.env x u) Q E s :=
 Vo I hN hi hx r (fun s' I' _=>h s' I') hf
theorem Inv.call' {s':Shared}{ch:List Addr} (I:Inv X pins σ H s) (ho:s'.os=s.os) (u:Un (frs X.stack) ch H H' s.heap s'.heap) (hok:HOk X.prog X.w H' s'.heap) (hg:AllBare s'.gens)
 (hch:∀ b∈ch,(b∈X.ex∨X.s_0.heap.objs.size<=b)/\b≠X.env.locals/\(∀ x c,X.env.cells.lookup x=some c->c≠b)/\∀ p∈X.pn++pins,p.1≠b):Inv X pins σ H' s':=by
 obtain⟨h',g',d',t',o'⟩:=s'
 have e:o'=s.os:=ho
 subst e
 exact I.call (g':=g') (t':=t') (d':=d') u hok hg hch
end
abbrev XK:=Value->Option Addr->Hp->Prop
abbrev St:=List (Option V)
abbrev VK:=V->Hp->Prop
abbrev TE:=St->Hp->VK->Prop
abbrev TT:=St->Hp->(Bool->Hp->Prop)->Prop
abbrev TA:=St->Hp->(List V->Hp->Prop)->Prop
structure V_ where
 nx:St->Hp->Prop
 rt:VK
 bk:St->Hp->Prop:=fun _ _=>False
 ct:St->Hp->Prop:=fun _ _=>False
abbrev TS:=V_->St->Hp->Prop
def EP (X:Cx) (pins:List (Addr × Obj)) (σ:St) (Q:VK) (u:Value) (s':Shared):Prop:=∃ v H',Inv X pins σ H' s'/\RelV v u/\Q v H'
def TP (X:Cx) (pins:List (Addr × Obj)) (σ:St) (Q:Bool->Hp->Prop) (b:Bool) (s':Shared):Prop:=∃ H',Inv X pins σ H' s'/\Q b H'
def AP (X:Cx) (pins:List (Addr × Obj)) (σ:St) (Q:List V->Hp->Prop) (us:List Value) (s':Shared):Prop:=∃ vs H',Inv X pins σ H' s'/\Vals vs us/\Q vs H'
def SP (X:Cx) (pins:List (Addr × Obj)) (D:V_) (f:Flow) (s':Shared):Prop :=
 match f with
 | .next=>∃ σ' H',Inv X pins σ' H' s'/\D.nx σ' H'
 | .brk=>∃ σ' H',Inv X pins σ' H' s'/\D.bk σ' H'
 | .cont=>∃ σ' H',Inv X pins σ' H' s'/\D.ct σ' H'
 | .ret u=>∃ v σ' H',Inv X pins σ' H' s'/\RelV v u/\D.rt v H'
def PE (X:Cx) (e:Expr) (t:TE):Prop :=
 ∀ (pins:List (Addr × Obj)) (s:Shared) (σ:St) (H:Hp) (Q:VK),Inv X pins σ H s->t σ H Q->wpAny (model X.prog X.w) X.A (eval e X.env) (EP X pins σ Q) X.xe s
def PT (X:Cx) (e:Expr) (t:TT):Prop :=
 ∀ (pins:List (Addr × Obj)) (s:Shared) (σ:St) (H:Hp) (Q:Bool->Hp->Prop),Inv X pins σ H s->t σ H Q->wpAny (model X.prog X.w) X.A (isTrue e X.env (eval e X.env)) (TP X pins σ Q) X.xe s
def PW (X:Cx) (e:Expr) (t:TT):Prop :=
 ∀ (whole:Sem Value) (pins:List (Addr × Obj)) (s:Shared) (σ:St) (H:Hp) (Q:Bool->Hp->Prop),Inv X pins σ H s->t σ H Q->wpAny (model X.prog X.w) X.A (isTrue e X.env whole) (TP X pins σ Q) X.xe s
theorem PW.pt {X:Cx}{e:Expr}{t:TT} (h:PW X e t):PT X e t:=h _
def PA (X:Cx) (es:List Expr) (t:TA):Prop :=
 ∀ (pos:Pos) (pins:List (Addr × Obj)) (s:Shared) (σ:St) (H:Hp) (Q:List V->Hp->Prop),Inv X pins σ H s->t σ H Q->wpAny (model X.prog X.w) X.A (spliced (backTo pos (starEach es X.env))) (AP X pins σ Q) X.xe s
def PS (X:Cx) (st:Stmt) (t:TS):Prop :=
 ∀ (pins:List (Addr × Obj)) (s:Shared) (σ:St) (H:Hp) (D:V_),Inv X pins σ H s->t D σ H->wpAny (model X.prog X.w) X.A (exec st X.env) (SP X pins D) X.xe s
def PSs (X:Cx) (st:List Stmt) (t:TS):Prop :=
 ∀ (pins:List (Addr × Obj)) (s:Shared) (σ:St) (H:Hp) (D:V_),Inv X pins σ H s->t D σ H->wpAny (model X.prog X.w) X.A (execs st X.env) (SP X pins D) X.xe s
theorem thn {α:Type}{t:Sem α}{Q Q':α->Shared->Prop}{M:Model}{A:Around}{E:Value->Shared->Prop}{s:Shared} (h:wpAny M A t Q E s) (hQ:∀ a s,Q a s->Q' a s):wpAny M A t Q' E s:=wpAny_mono h hQ fun _ _ x=>x
end L2
namespace L2
open PySem PySem.Spec PyProof.Rows
section
variable {X:Cx}
theorem bin {a b:Expr}{ta tb:TE} (ha:PE X a ta) (hb:PE X b tb) {pins:List (Addr × Obj)}{s:Shared}{σ:St}{H:Hp}{R:V->V->Hp->Prop} (I:Inv X pins σ H s) (h:ta σ H fun x H1=>tb σ H1 fun y H2=>R x y H2)
 {α:Type}{Q:α->Shared->Prop}{f:Value->Value->Sem α}
 (hf:∀ v u s2 x y H2,Inv X pins σ H2 s2->RelV x v->RelV y u->R x y H2->wpAny (model X.prog X.w) X.A (f v u) Q X.xe s2) :
 wpAny (model X.prog X.w) X.A (eval a X.env) (fun v s₁=>wpAny (model X.prog X.w) X.A (eval b X.env) (fun u s₂=>wpAny (model X.prog X.w) X.A (f v u) Q X.xe s₂) X.xe s₁) X.xe s:=by
 refine thn (ha pins s σ H _ I h) fun v s1 ⟨x,H1,I1,r1,q1⟩=>?_
 refine thn (hb pins s1 σ H1 _ I1 q1) fun u s2 ⟨y,H2,I2,r2,q2⟩=>?_
 exact hf v u s2 x y H2 I2 r1 r2 q2
def qv (i:Nat):TE:=fun σ H Q=>∃ v,σ[i]?=some (some v)/\Q v H
def tC (v:V):TE:=fun _ H Q=>Q v H
theorem ace {i:Nat}{x:Str}{pos:Pos} (hN:X.N[i]?=some x) (hv:Vis X.env.scope x) (hd:(x == ("__debug__":Str))=false:=by decide) (hcd:(x == ("__classdict__":Str))=false:=by decide):PE X (.Name x pos) (qv i):=by
 intro pins s σ H Q I h
 obtain⟨v,e,h⟩:=h
 obtain⟨m,hn,hl⟩:=I.loc
 obtain⟨u,r,l⟩:=hl i x v hN e hv
 have fin:EP X pins σ Q u s:=⟨v,H,I,r,h⟩
 rcases l with ⟨hk,hm⟩ | ⟨hk,c,hc,hcell⟩
 . exact wpAny_Name (wpAny_loadName_local I.ok.kind hk hn hm fin) hd
 . rcases hk with hk | hk
   . exact wpAny_Name (wpAny_loadName_cell I.ok.kind hk hc hcell fin) hd
   . exact wpAny_Name (wpAny_loadName_free I.ok.kind hk hc hcell fin hcd) hd
theorem zB {i j pos}:PE X (.Constant (.int i) j pos) (tC (.int i)):=fun _ _ _ H _ I h=>wpAny_Constant_int ⟨.int i,H,I.tok _,⟨_,rfl⟩,h⟩
theorem wM {j pos}:PE X (.Constant .none j pos) (tC .non):=fun _ _ _ H _ I h=>Constant_none ⟨.non,H,I,rfl,h⟩
def Gl (X:Cx) (x:Str):Prop:=X.env.kindOf x=some .globalImplicit
theorem JF {E:Value->Shared->Prop}{pins:List (Addr × Obj)}{s:Shared}{σ:St}{H:Hp}{x:Str}{u:Value}{pos:Pos}{Q:Value->Shared->Prop} (I:Inv X pins σ H s) (hg:Gl X x) (hm:X.mg x=some u) (h:Q u s)
 (hd:(x == ("__debug__":Str))=false:=by decide):wpAny (model X.prog X.w) X.A (eval (.Name x pos) X.env) Q E s :=
 Calls.Name_function_global I.ok.kind hg (Calls.loadGlobal_global (by rw[I.ok.glob];exact I.mod.glob.keeps I.bk) hm h) hd
theorem wN {E:Value->Shared->Prop}{pins:List (Addr × Obj)}{s:Shared}{σ:St}{H:Hp}{x:Str}{u:Value}{pos:Pos}{Q:Value->Shared->Prop} (I:Inv X pins σ H s) (hg:Gl X x) (hm:X.mg x=none) (hv:bootBuiltins x=some u) (h:Q u s)
 (hn:x≠"__name__":=by decide) (hd:(x == ("__debug__":Str))=false:=by decide):wpAny (model X.prog X.w) X.A (eval (.Name x pos) X.env) Q E s:=by
 obtain⟨mb,h1,h2⟩:=I.mod.blt
 exact Calls.Name_function_global I.ok.kind hg (Calls.loadGlobal_builtin (by rw[I.ok.glob];exact I.mod.glob.keeps I.bk) hm (by rw[I.ok.blt];exact h1.keeps I.bk) ((h2 x hn).trans hv) h) hd
theorem ZC {x:Str}{v:V}{u:Value}{pos:Pos} (hg:Gl X x) (hm:X.mg x=some u) (r:RelV v u) (hd:(x == ("__debug__":Str))=false:=by decide):PE X (.Name x pos) (tC v) :=
 fun _ _ _ H _ I h=>JF I hg hm ⟨v,H,I,r,h⟩ hd
variable {a b:Expr}{ta tb:TE}{pos:Pos}
def PC (X:Cx) (op:CmpOp) (a b:Expr) (t:TE):Prop :=
 ∀ (pins:List (Addr × Obj)) (s:Shared) (σ:St) (H:Hp) (Q:VK),Inv X pins σ H s->t σ H Q ->
  wpAny (model X.prog X.w) X.A (eval a X.env) (fun v s₁=>wpAny (model X.prog X.w) X.A (eval b X.env) (fun u s₂=>wpAny (model X.prog X.w) X.A (compareOp op v u) (EP X pins σ Q) X.xe s₂) X.xe s₁) X.xe s
theorem aav (b:Expr) {op:CmpOp} (h:op≠.In) (h2:op≠.NotIn):behindInMarks op b=false:=by
 have e1:(op == CmpOp.In)=false:=by cases op <;> first | rfl | exact absurd rfl h
 have e2:(op == CmpOp.NotIn)=false:=by cases op <;> first | rfl | exact absurd rfl h2
 cases b <;> simp[behindInMarks,e1,e2]
def adg (ta:TE):TE:=fun σ H Q=>ta σ H fun x H1=>Q (.bl (decide (x=.non))) H1
def acP (ta:TE):TE:=fun σ H Q=>ta σ H fun x H1=>Q (.bl (!decide (x=.non))) H1
theorem RelV.none_iff {x:V}{v:Value} (r:RelV x v):(v == Value.none)=decide (x=.non):=by
 cases x with
 | non=>cases r;rfl
 | bl _=>cases r;rfl
 | int _=>obtain⟨t,rfl⟩:=r;rfl
 | str _=>obtain⟨t,rfl⟩:=r;rfl
 | byt _=>obtain⟨t,rfl⟩:=r;rfl
 | flt _=>obtain⟨t,rfl⟩:=r;rfl
 | ref _=>cases r;rfl
 | ty _=>cases r;rfl
theorem jD {j pos'} (ha:PE X a ta):PC X .Is a (.Constant .none j pos') (adg ta):=by
 intro pins s σ H Q I h
 refine thn (ha pins s σ H _ I h) fun v s1 ⟨x,H1,I1,r1,q1⟩=>?_
 exact Constant_none (is_none_gen ⟨.bl _,H1,I1,by rw[r1.none_iff];rfl,q1⟩)
theorem WN {j pos'} (ha:PE X a ta):PC X .IsNot a (.Constant .none j pos') (acP ta):=by
 intro pins s σ H Q I h
 refine thn (ha pins s σ H _ I h) fun v s1 ⟨x,H1,I1,r1,q1⟩=>?_
 exact Constant_none (isnot_none_gen ⟨.bl _,H1,I1,by rw[r1.none_iff];rfl,q1⟩)
def tB (t:TE):TT:=fun σ H Q=>t σ H fun x H1=>∃ c,x=.bl c/\Q c H1
theorem qD {op:CmpOp}{t:TE} (h:PC X op a b t) (h1:behindInMarks op b=false:=by first | exact aav _ (by decide) (by decide) | rfl):PT X (.Compare a [op] [b] pos) (tB t):=by
 intro pins s σ H Q I hw
 refine wpAny_isTrue_Compare1 (thn (h pins s σ H _ I hw) fun v s1 h1=>thn h1 fun u s2 h2=>thn h2 fun c s3 ⟨x,H1,I1,r1,q1⟩=>?_) h1
 obtain⟨d,rfl,q⟩:=q1
 cases r1
 exact wpAny_truthy_bool ⟨H1,I1,q⟩
theorem Qy {e:Expr}{t:TE} (h:PE X e t) (he:∀ whole,isTrue e X.env whole=(do let v <-whole;standAt e.pos;holding [v] (truthy v)):=by intro _;rfl):PT X e (tB t):=by
 intro pins s σ H Q I hw
 refine isTrue_plain (thn (h pins s σ H _ I hw) fun v s1 ⟨x,H1,I1,r1,q1⟩=>?_) (he _)
 obtain⟨d,rfl,q⟩:=q1
 cases r1
 exact wpAny_truthy_bool ⟨H1,I1,q⟩
variable {tA tB':TT}{rest:List Expr}
def adh (t u:TT):TT:=fun σ H Q=>t σ H fun c H1=>if c=true then u σ H1 Q else Q false H1
def tOr (t u:TT):TT:=fun σ H Q=>t σ H fun c H1=>if c=true then Q true H1 else u σ H1 Q
def adi (t:TT):TT:=fun σ H Q=>t σ H fun c H1=>Q (!c) H1
theorem JG (ha:PT X a tA):PW X (.BoolOp .And [a] pos) tA:=by
 intro wh pins s σ H Q I h
 refine isTrue_and (thn (ha pins s σ H Q I h) fun c s1 e=>?_)
 cases c with
 | true=>exact isTrue_and_nil e
 | false=>exact e
theorem W9 (ha:PT X a tA):PW X (.BoolOp .Or [a] pos) tA:=by
 intro wh pins s σ H Q I h
 refine isTrue_or (thn (ha pins s σ H Q I h) fun c s1 e=>?_)
 cases c with
 | false=>exact isTrue_or_nil e
 | true=>exact e
theorem Y0 (ha:PT X a tA) (hb:PW X (.BoolOp .And (b::rest) pos) tB'):PW X (.BoolOp .And (a::b::rest) pos) (adh tA tB'):=by
 intro wh pins s σ H Q I h
 refine isTrue_and (thn (ha pins s σ H _ I h) fun c s1 ⟨H1,I1,q1⟩=>?_)
 cases c with
 | true=>exact hb wh pins s1 σ H1 Q I1 q1
 | false=>exact⟨H1,I1,q1⟩
theorem aaw (ha:PT X a tA) (hb:PW X (.BoolOp .Or (b::rest) pos) tB'):PW X (.BoolOp .Or (a::b::rest) pos) (tOr tA tB'):=by
 intro wh pins s σ H Q I h
 refine isTrue_or (thn (ha pins s σ H _ I h) fun c s1 ⟨H1,I1,q1⟩=>?_)
 cases c with
 | true=>exact⟨H1,I1,q1⟩
 | false=>exact hb wh pins s1 σ H1 Q I1 q1
theorem acf (ha:PT X a tA):PT X (.UnaryOp .Not a pos) (adi tA):=by
 intro pins s σ H Q I h
 exact isTrue_not (ha pins s σ H (fun c H1=>Q (!c) H1) I h)
def acQ (ta tb:TE):TE:=fun σ H Q=>ta σ H fun x H1=>∃ c,x=.bl c/\if c=true then tb σ H1 Q else Q (.bl false) H1
def adj (ta tb:TE):TE:=fun σ H Q=>ta σ H fun x H1=>∃ c,x=.bl c/\if c=true then Q (.bl true) H1 else tb σ H1 Q
theorem aax {op}{t:TE} (h:PE X a t):PE X (.BoolOp op [a] pos) t:=fun pins s σ H Q I hw=>BoolOp_one (h pins s σ H Q I hw)
theorem acg (ha:PE X a ta) (hb:PE X (.BoolOp .And (b::rest) pos) tb):PE X (.BoolOp .And (a::b::rest) pos) (acQ ta tb):=by
 intro pins s σ H Q I h
 refine BoolOp_and (thn (ha pins s σ H _ I h) fun v s1 ⟨x,H1,I1,r1,q1⟩=>?_)
 obtain⟨c,rfl,q1⟩:=q1
 cases r1
 refine wpAny_truthy_bool ?_
 cases c with
 | true=>exact hb pins s1 σ H1 Q I1 q1
 | false=>exact⟨.bl false,H1,I1,rfl,q1⟩
theorem acR (ha:PE X a ta) (hb:PE X (.BoolOp .Or (b::rest) pos) tb):PE X (.BoolOp .Or (a::b::rest) pos) (adj ta tb):=by
 intro pins s σ H Q I h
 refine BoolOp_or (thn (ha pins s σ H _ I h) fun v s1 ⟨x,H1,I1,r1,q1⟩=>?_)
 obtain⟨c,rfl,q1⟩:=q1
 cases r1
 refine wpAny_truthy_bool ?_
 cases c with
 | false=>exact hb pins s1 σ H1 Q I1 q1
 | true=>exact⟨.bl true,H1,I1,rfl,q1⟩
def tIf (t:TT) (ta tb:TE):TE:=fun σ H Q=>t σ H fun c H1=>if c=true then ta σ H1 Q else tb σ H1 Q
theorem jK {c:Expr} (hc:PT X c tA) (ha:PE X a ta) (hb:PE X b tb):PE X (.IfExp c a b pos) (tIf tA ta tb):=by
 intro pins s σ H Q I h
 refine wpAny_IfExp (thn (hc pins s σ H _ I h) fun d s1 ⟨H1,I1,q1⟩=>?_)
 cases d with
 | true=>exact ha pins s1 σ H1 Q I1 q1
 | false=>exact hb pins s1 σ H1 Q I1 q1
end
end L2
namespace L2
open PySem PySem.Spec PyProof.Rows
def SqL (K:PySem.W.Frag) (H:Hp) (a:Addr) (xs:List V):Prop :=
 Rd H a (.lst xs) ∨
  ∃ (o:Obj) (its:Array Value) (n:Nat),K.lookup a=some o/\o.cls=.type "list"/\o.dict=none/\o.data=.seq its n/\its.size<=sizeLine/\Vals xs its.toList
def SqT (K:PySem.W.Frag) (H:Hp) (a:Addr) (xs:List V):Prop :=
 Rd H a (.tup xs) ∨
  ∃ (o:Obj) (its:Array Value) (n:Nat),K.lookup a=some o/\o.cls=.type "tuple"/\o.data=.seq its n/\its.size<=sizeLine/\Vals xs its.toList
def adk:Value->Option V
 | .none=>some .non
 | .bool b=>some (.bl b)
 | .int i _=>some (.int i)
 | .str x _=>some (.str x)
 | .bytes b _=>some (.byt b)
 | .float b _=>some (.flt b)
 | .ref a=>some (.ref a)
 | .type n=>some (.ty n)
 | _=>none
theorem RelV.abs {x:V}{u:Value} (r:RelV x u):adk u=some x:=by
 cases x with
 | non=>cases r;rfl
 | bl _=>cases r;rfl
 | int _=>obtain⟨t,rfl⟩:=r;rfl
 | str _=>obtain⟨t,rfl⟩:=r;rfl
 | byt _=>obtain⟨t,rfl⟩:=r;rfl
 | flt _=>obtain⟨t,rfl⟩:=r;rfl
 | ref _=>cases r;rfl
 | ty _=>cases r;rfl
theorem RelV.inj {x y:V}{u:Value} (r:RelV x u) (q:RelV y u):x=y:=Option.some.inj (r.abs.symm.trans q.abs)
theorem Vals.inj:∀ {xs ys:List V}{us:List Value},Vals xs us->Vals ys us->xs=ys
 | _,_,_,.nil,.nil=>rfl
 | _,_,_,.cons r t,.cons r' t'=>by rw[r.inj r',Vals.inj t t']
section
variable {X:Cx}{pins:List (Addr × Obj)}{σ:St}{H:Hp}{s:Shared}{a:Addr}{xs ys:List V}
theorem SqL.of {K:PySem.W.Frag} (h:H a=some (.lst xs)):SqL K H a xs:=.inl (.inl h)
theorem SqT.of {K:PySem.W.Frag} (h:H a=some (.tup xs)):SqT K H a xs:=.inl (.inl h)
theorem Inv.list (I:Inv X pins σ H s) (h:SqL X.K H a xs):∃ its:List Value,Vals xs its/\PlainL s.heap a its.toArray/\xs.length<=sizeLine:=by
 rcases h with h | ⟨o,its,n,hk,hc,hd,hs,hz,r⟩
 . obtain⟨z,its,n,r,e⟩:=h.ok I.hok
   exact⟨its,r,⟨_,n,e,rfl,rfl,rfl⟩,z⟩
 . refine⟨its.toList,r,⟨o,n,I.kIn a o hk,hc,hd,by simpa using hs⟩,?_⟩
   have e:=r.length
   simp only[Array.length_toList] at e
   omega
theorem Inv.tuple (I:Inv X pins σ H s) (h:SqT X.K H a xs):∃ its:List Value,Vals xs its/\IsTup s.heap a its.toArray/\xs.length<=sizeLine:=by
 rcases h with h | ⟨o,its,n,hk,hc,hs,hz,r⟩
 . obtain⟨z,its,r,p⟩:=h.ok I.hok
   exact⟨its,r,p,z⟩
 . refine⟨its.toList,r,⟨o,I.kIn a o hk,hc,n,by simpa using hs⟩,?_⟩
   have e:=r.length
   simp only[Array.length_toList] at e
   omega
theorem Inv.list_inj (I:Inv X pins σ H s) (h:SqL X.K H a xs) (h':SqL X.K H a ys):xs=ys:=by
 obtain⟨its,r,⟨o,n,e,_,_,d⟩,_⟩:=I.list h
 obtain⟨its',r',⟨o',n',e',_,_,d'⟩,_⟩:=I.list h'
 rw[e] at e';cases e'
 rw[d] at d'
 injection d' with d1 _
 have:its=its':=by simpa using congrArg Array.toList d1
 subst this
 exact r.inj r'
end
abbrev Cx.wish (X:Cx) (E:Value->Shared->Prop):Cx:={ X with xe:=E }
abbrev Cx.nox (X:Cx):Cx:=X.wish fun _ _=>False
theorem Cx.Ok.wish {X:Cx} (ok:X.Ok) (E:Value->Shared->Prop):(X.wish E).Ok :=
 ⟨ok.mod,ok.kind,ok.glob,ok.blt,ok.above,ok.inj,ok.has,ok.cab,ok.hd,ok.frames,ok.stk,ok.exf,ok.bs,ok.bsz,ok.noex,ok.exfs,ok.funs,ok.frf⟩
theorem Cx.Ok.unwish {X:Cx}{E:Value->Shared->Prop} (ok:(X.wish E).Ok):X.Ok :=
 ⟨ok.mod,ok.kind,ok.glob,ok.blt,ok.above,ok.inj,ok.has,ok.cab,ok.hd,ok.frames,ok.stk,ok.exf,ok.bs,ok.bsz,ok.noex,ok.exfs,ok.funs,ok.frf⟩
section
variable {X:Cx}{pins:List (Addr × Obj)}{σ:St}{H:Hp}{s:Shared}{E:Value->Shared->Prop}
theorem Inv.wish (I:Inv X pins σ H s) (E:Value->Shared->Prop):Inv (X.wish E) pins σ H s:=⟨I.ok.wish E,I.os,I.bare,I.base,I.loc,I.cell,I.free,I.freeC,I.pin,I.hok,I.len⟩
theorem Inv.unwish (I:Inv (X.wish E) pins σ H s):Inv X pins σ H s:=⟨I.ok.unwish,I.os,I.bare,I.base,I.loc,I.cell,I.free,I.freeC,I.pin,I.hok,I.len⟩
theorem SP.unwish {D:V_}{f:Flow}{s':Shared} (h:SP (X.wish E) pins D f s'):SP X pins D f s':=by
 cases f with
 | next=>obtain⟨σ',H',I,q⟩:=h;exact⟨σ',H',I.unwish,q⟩
 | brk=>obtain⟨σ',H',I,q⟩:=h;exact⟨σ',H',I.unwish,q⟩
 | cont=>obtain⟨σ',H',I,q⟩:=h;exact⟨σ',H',I.unwish,q⟩
 | ret u=>obtain⟨v,σ',H',I,r,q⟩:=h;exact⟨v,σ',H',I.unwish,r,q⟩
theorem PSs.nox {st:List Stmt}{t:TS} (h:PSs X.nox st t):PSs X st t:=fun pins s σ H D I hw =>
 wpAny_mono (h pins s σ H D (I.wish _) hw) (fun _ _ q=>q.unwish) fun _ _ z=>False.elim z
end
section
variable {X:Cx}{st:Stmt}{rest:List Stmt}{t u:TS}{e:Expr}{te:TE}{pos:Pos}
def aay:TS:=fun D σ H=>D.nx σ H
def KP (t u:TS):TS:=fun D σ H=>t { D with nx:=u D } σ H
theorem zj:PSs X [] aay:=fun _ _ σ H _ I h=>wpAny_execs_nil ⟨σ,H,I,h⟩
theorem z5 (h1:PS X st t) (h2:PSs X rest u):PSs X (st::rest) (KP t u):=by
 intro pins s σ H D I h
 refine wpAny_execs_cons (thn (h1 pins s σ H { D with nx:=u D } I h) fun f s1 q=>?_)
 cases f with
 | next =>
  obtain⟨σ',H',I',q⟩:=q
  exact h2 pins s1 σ' H' D I' q
 | ret v=>exact q
 | brk=>exact q
 | cont=>exact q
theorem za (h1:PS X st t):PSs X [st] t:=by
 intro pins s σ H D I h
 refine wpAny_execs_cons (thn (h1 pins s σ H D I h) fun f s1 q=>?_)
 cases f with
 | next=>exact wpAny_execs_nil q
 | ret v=>exact q
 | brk=>exact q
 | cont=>exact q
theorem Inv.quiet {pins:List (Addr × Obj)}{σ:St}{H:Hp}{s:Shared} (I:Inv X pins σ H s):interactive X.env=false:=by simp[interactive,I.ok.kind]
def WO (te:TE):TS:=fun D σ H=>te σ H fun _ H1=>D.nx σ H1
theorem qt (he:PE X e te) (hs:swapsWith e none pos.line X.env=pure false:=by rfl):PS X (.Expr e pos) (WO te):=by
 intro pins s σ H D I h
 exact wpAny_Expr_any (thn (he pins s σ H _ I h) fun v s1 ⟨x,H1,I1,r1,q1⟩=>⟨σ,H1,I1,q1⟩) I.quiet hs
def Y1 (te:TE):TS:=fun D σ H=>te σ H D.rt
theorem zg (he:PE X e te):PS X (.Return (some e) pos) (Y1 te):=by
 intro pins s σ H D I h
 exact wpAny_Return_some (thn (he pins s σ H _ I h) fun v s1 ⟨x,H1,I1,r1,q1⟩=>⟨x,σ,H1,I1,r1,q1⟩)
def ach (c:TT) (t u:TS):TS:=fun D σ H=>c σ H fun b H1=>if b=true then t D σ H1 else u D σ H1
theorem zC {c:Expr}{a b:List Stmt}{tc:TT} (hc:PT X c tc) (ha:PSs X a t) (hb:PSs X b u):PS X (.If c a b pos) (ach tc t u):=by
 intro pins s σ H D I h
 refine wpAny_If (thn (hc pins s σ H _ I h) fun d s1 ⟨H1,I1,q1⟩=>?_)
 cases d with
 | true=>exact ha pins s1 σ H1 D I1 q1
 | false=>exact hb pins s1 σ H1 D I1 q1
end
abbrev TG:=V->St->Hp->(St->Hp->Prop)->Prop
abbrev TGs:=List V->St->Hp->(St->Hp->Prop)->Prop
def PG (X:Cx) (target:Expr) (t:TG):Prop :=
 ∀ (pins:List (Addr × Obj)) (s:Shared) (σ:St) (H:Hp) (v:V) (u:Value) (Q:St->Hp->Prop),Inv X pins σ H s->RelV v u->t v σ H Q ->
  wpAny (model X.prog X.w) X.A (assign target X.env u) (fun _ s'=>∃ σ' H',Inv X pins σ' H' s'/\Q σ' H') X.xe s
def PGs (X:Cx) (ts:List Expr) (t:TGs):Prop :=
 ∀ (pins:List (Addr × Obj)) (s:Shared) (σ:St) (H:Hp) (vs:List V) (us:List Value) (Q:St->Hp->Prop),Inv X pins σ H s->Vals vs us->t vs σ H Q ->
  wpAny (model X.prog X.w) X.A (assignInOrder ((assignEach ts X.env).map (·.2)) us) (fun _ s'=>∃ σ' H',Inv X pins σ' H' s'/\Q σ' H') X.xe s
abbrev aci:=V->V->V->Hp->(Hp->Prop)->Prop
def acS (X:Cx) (t:aci):Prop :=
 ∀ (pins:List (Addr × Obj)) (s:Shared) (σ:St) (H:Hp) (o i v:V) (ov iv u:Value) (Q:Hp->Prop),Inv X pins σ H s->RelV o ov->RelV i iv->RelV v u->t o i v H Q ->
  wpAny (model X.prog X.w) X.A (setItem ov iv u) (fun _ s'=>∃ H',Inv X pins σ H' s'/\Q H') X.xe s
abbrev TIp:=V->V->Hp->VK->Prop
def PIp (X:Cx) (op:Operator) (t:TIp):Prop :=
 ∀ (pins:List (Addr × Obj)) (s:Shared) (σ:St) (H:Hp) (x y:V) (v u:Value) (Q:VK),Inv X pins σ H s->RelV x v->RelV y u->t x y H Q ->
  wpAny (model X.prog X.w) X.A (inplaceOp op v u) (EP X pins σ Q) X.xe s
section
variable {X:Cx}{pos:Pos}
def wj (i:Nat):TG:=fun v σ H Q=>Q (σ.set i (some v)) H
theorem zJ {i:Nat}{x:Str} (hN:X.N.Nodup) (hi:X.N[i]?=some x) (hx:Loc X.env.scope x) (hf:X.fn x=true∨X.env.scope.names.lookup x=some .local:=by first | exact .inl rfl | exact .inr rfl | assumption):PG X (.Name x pos) (wj i):=by
 intro pins s σ H v u Q I r h
 exact wpAny_assign_Name (J_ I hN hi hx r (fun s' I'=>⟨_,H,I',h⟩) hf)
def adl:TGs:=fun vs σ H Q=>vs=[]/\Q σ H
def acT (t:TG) (u:TGs):TGs:=fun vs σ H Q=>∃ v r,vs=v::r/\t v σ H fun σ' H'=>u r σ' H' Q
theorem ZD:PGs X [] adl:=by
 intro pins s σ H vs us Q I r h
 obtain⟨e,h⟩:=h
 subst e
 cases r
 exact assignInOrder_nil ⟨σ,H,I,h⟩
theorem k7 {e:Expr}{es:List Expr}{t:TG}{u:TGs} (h1:PG X e t) (h2:PGs X es u)
 (hs:(assignEach (e::es) X.env).map (·.2)=assign e X.env::(assignEach es X.env).map (·.2):=by rfl):PGs X (e::es) (acT t u):=by
 intro pins s σ H vs us Q I r h
 obtain⟨v,vr,e1,h⟩:=h
 subst e1
 cases r with
 | cons r rr =>
  rw[hs]
  refine assignInOrder_cons (thn (h1 pins s σ H _ _ _ I r h) fun _ s1 ⟨σ1,H1,I1,q1⟩=>?_)
  exact h2 pins s1 σ1 H1 _ _ Q I1 rr q1
def acU (K:PySem.W.Frag) (n:Nat) (t:TGs):TG:=fun v σ H Q=>∃ a xs,v=.ref a/\SqT K H a xs/\xs.length=n/\t xs σ H Q
theorem Y2 {es:List Expr}{k:Nat}{t:TGs}{n:Nat} (hc:X.calm=true) (h:PGs X es t)
 (hn:(assignEach es X.env).length=n:=by rfl) (hst:(assignEach es X.env).findIdx? (·.1)=none:=by rfl):PG X (.Tuple es k pos) (acU X.K n t):=by
 intro pins s σ H v u Q I r hw
 obtain⟨a,xs,e1,hq,hl,hw⟩:=hw
 subst e1
 cases r
 obtain⟨its,rv,ht,hz⟩:=I.tuple hq
 refine assign_Tuple_tuple (I.ok.hd hc) ht (by simp[hn,<-hl,rv.length]) hst fun h' hx=>?_
 have I1:Inv X pins σ H { s with heap:=h' }:=I.kept (t':=s.toks) fun b o e=>hx b o (Nat.ne_of_lt (Heap.lt_size e)) e
 exact h pins _ σ H xs _ Q I1 (by simpa using rv) hw
def adm (to ti:TE) (t:aci):TG:=fun v σ H Q=>to σ H fun o H1=>ti σ H1 fun i H2=>t o i v H2 fun H3=>Q σ H3
theorem aaz {o i:Expr}{to ti:TE}{t:aci} (ho:PE X o to) (hi:PE X i ti) (hs:acS X t)
 (ha:∀ v,assign (.Subscript o i pos) X.env v=(do
  let ov <-holding [v] (eval o X.env)
  let iv <-holding [v,ov] (eval i X.env)
  standAt pos
  holding [v,ov,iv] (setItem ov iv v)
  release [v,ov,iv] []):=by intro _;rfl):PG X (.Subscript o i pos) (adm to ti t):=by
 intro pins s σ H v u Q I r h
 rw[ha]
 refine wpAny_bind (wpAny_holding (thn (ho pins s σ H _ I h) fun ov s1 ⟨x,H1,I1,r1,q1⟩=>?_))
 refine wpAny_bind (wpAny_holding (thn (hi pins s1 σ H1 _ I1 q1) fun iv s2 ⟨y,H2,I2,r2,q2⟩=>?_))
 refine wpAny_bind (wpAny_standAt (wpAny_bind (wpAny_holding (thn (hs pins s2 σ H2 x y v ov iv u _ I2 r1 r2 r q2) fun _ s3 ⟨H3,I3,q3⟩=>?_))))
 exact wpAny_release ⟨σ,H3,I3,q3⟩
def Y3 (te:TE) (g:TG):TS:=fun D σ H=>te σ H fun x H1=>g x σ H1 D.nx
theorem aaA {tg e:Expr}{te:TE}{g:TG} (he:PE X e te) (hg:PG X tg g) (hs:swapsWithSole [tg] e pos.line X.env=pure false:=by rfl) (hw:swappedStores [tg] e X.env=pure none:=by rfl)
 (h1:(assignEach [tg] X.env).map (·.2)=[assign tg X.env]:=by rfl):PS X (.Assign [tg] e pos) (Y3 te g):=by
 intro pins s σ H D I h
 refine wpAny_Assign_stores (thn (he pins s σ H _ I h) fun v s1 ⟨x,H1,I1,r1,q1⟩=>?_) hs hw
 rw[h1]
 exact thn (hg pins s1 σ H1 x v _ I1 r1 q1) fun _ s2 q=>q
theorem zi {i:Nat}{x:Str}{e:Expr}{te:TE}{pos':Pos} (hN:X.N.Nodup) (hi:X.N[i]?=some x) (hx:Loc X.env.scope x) (he:PE X e te) (hs:swapsWith e (some (.Name x pos')) pos.line X.env=pure false:=by rfl) (hf:X.fn x=true∨X.env.scope.names.lookup x=some .local:=by first | exact .inl rfl | exact .inr rfl | assumption) :
 PS X (.Assign [.Name x pos'] e pos) (Y3 te (wj i)):=by
 intro pins s σ H D I h
 refine wpAny_Assign_Name (thn (he pins s σ H _ I h) fun v s1 ⟨y,H1,I1,r1,q1⟩=>?_) hs
 exact J_ I1 hN hi hx r1 (fun s2 I2=>⟨_,H1,I2,q1⟩) hf
def adn (i:Nat) (te:TE) (ti:TIp):TS:=fun D σ H=>∃ x,σ[i]?=some (some x)/\te σ H fun y H1=>ti x y H1 fun z H2=>D.nx (σ.set i (some z)) H2
theorem aaB {i:Nat}{x:Str}{e:Expr}{te:TE}{op:Operator}{ti:TIp}{pos':Pos} (hN:X.N.Nodup) (hi:X.N[i]?=some x) (hx:Loc X.env.scope x) (he:PE X e te) (ho:PIp X op ti) (hf:X.fn x=true∨X.env.scope.names.lookup x=some .local:=by first | exact .inl rfl | exact .inr rfl | assumption) :
 PS X (.AugAssign (.Name x pos') op e pos) (adn i te ti):=by
 intro pins s σ H D I h
 obtain⟨v,e1,h⟩:=h
 obtain⟨m,hn,hl⟩:=I.loc
 have vis:Vis X.env.scope x:=by rcases hx with k | k;exact .inl k;exact .inr (.inl k)
 obtain⟨u,r,l⟩:=hl i x v hi e1 vis
 refine wpAny_AugAssign_Name ?_
 have go:wpAny (model X.prog X.w) X.A (eval e X.env) (fun w s₂=>wpAny (model X.prog X.w) X.A (inplaceOp op u w) (fun r s₃=>wpAny (model X.prog X.w) X.A (storeName X.env x r) (fun _=>SP X pins D .next) X.xe s₃) X.xe s₂) X.xe s:=by
  refine thn (he pins s σ H _ I h) fun w s1 ⟨y,H1,I1,r1,q1⟩=>?_
  refine thn (ho pins s1 σ H1 v y u w _ I1 r r1 q1) fun z s2 ⟨zv,H2,I2,r2,q2⟩=>?_
  exact J_ I2 hN hi hx r2 (fun s3 I3=>⟨_,H2,I3,q2⟩) hf
 rcases l with ⟨hk,hm⟩ | ⟨hk,c,hc,hcell⟩
 . exact wpAny_loadName_local I.ok.kind hk hn hm go
 . rcases hk with hk | hk
   . exact wpAny_loadName_cell I.ok.kind hk hc hcell go
   . rcases hx with k | k
     . have:X.env.scope.names.lookup x=some .free:=hk
       rw[k] at this;cases this
     . have:X.env.scope.names.lookup x=some .free:=hk
       rw[k] at this;cases this
def ipI (f:Int->Int->Int):TIp:=fun x y H Q=>∃ i j,x=.int i/\y=.int j/\Q (.int (f i j)) H
theorem aaC:PIp X .Add (ipI fun i j=>i+j):=by
 intro pins s σ H x y v u Q I r1 r2 h
 obtain⟨i,j,e1,e2,q⟩:=h
 subst e1;subst e2
 obtain⟨t,rfl⟩:=r1
 obtain⟨t',rfl⟩:=r2
 exact iadd_int ⟨.int _,H,I.tok _,⟨_,rfl⟩,q⟩
end
section
variable {X:Cx}{pos:Pos}
def acj (c:TT) (tb:TS):TS:=fun D σ H=>∃ W:Nat->St->Hp->Prop,(∃ m,W m σ H)/\∀ m σ H,W m σ H ->
 c σ H fun b H1=>if b=true then ∃ N:St->Hp->Prop,(∀ σ' H',N σ' H'->∃ m',m'<m/\W m' σ' H')/\tb { D with nx:=N,ct:=N,bk:=D.nx } σ H1 else D.nx σ H1
theorem K0 {c:Expr}{body:List Stmt}{tc:TT}{tb:TS} (hp:PassesOwn (model X.prog X.w) X.A X.env X.xe) (hc:PT X c tc) (hb:PSs X body tb):PS X (.While c body [] pos) (acj tc tb):=by
 intro pins s σ H D I h
 obtain⟨W,⟨m0,w0⟩,turn⟩:=h
 refine wpAny_While (codeAny_whileLoop (fun n s'=>∃ σ' H',Inv X pins σ' H' s'/\W n σ' H') ?_ m0 ⟨σ,H,I,w0⟩)
 rintro n s1 ⟨σ1,H1,I1,w1⟩
 refine wpAny_passesOwn hp (thn (hc pins s1 σ1 H1 _ I1 (turn n σ1 H1 w1)) fun b s2 ⟨H2,I2,q2⟩=>?_)
 cases b with
 | true =>
  obtain⟨N,hN,q2⟩:=q2
  rw[if_pos rfl]
  refine wpAny_passesOwn hp (thn (hb pins s2 σ1 H2 _ I2 q2) fun f s3 q3=>?_)
  cases f with
  | next =>
   obtain⟨σ3,H3,I3,n3⟩:=q3
   obtain⟨m',hm,w3⟩:=hN σ3 H3 n3
   exact⟨m',hm,σ3,H3,I3,w3⟩
  | cont =>
   obtain⟨σ3,H3,I3,n3⟩:=q3
   obtain⟨m',hm,w3⟩:=hN σ3 H3 n3
   exact⟨m',hm,σ3,H3,I3,w3⟩
  | brk=>exact q3
  | ret v=>exact q3
 | false =>
  rw[if_neg Bool.false_ne_true]
  exact wpAny_execs_nil ⟨σ1,H2,I2,q2⟩
end
structure It where
 go:Nat->Hp->Prop
 yld:Nat->Hp->V->Hp->Prop
 stop:Nat->Hp->Prop
def Je (X:Cx) (pins:List (Addr × Obj)) (H:Hp) (b:Addr):Prop :=
 H b=none/\b≠X.env.locals/\b ∉ X.fs/\(b∈X.ex∨X.s_0.heap.objs.size<=b)/\(∀ x c,X.env.cells.lookup x=some c->c≠b)/\∀ p∈X.pn++pins,p.1≠b
theorem Inv.fpOk {X:Cx}{pins:List (Addr × Obj)}{σ:St}{H H':Hp}{s:Shared}{b:Addr} (I:Inv X pins σ H s) (hb:s.heap.objs.size<=b) (hn:H' b=none):Je X pins H' b:=by
 refine⟨hn,Nat.ne_of_gt (Nat.lt_of_lt_of_le I.lt hb),I.nofs hb,.inr (Nat.le_trans I.sz hb),fun x c e z=>?_,fun p hp z=>?_⟩
 . obtain⟨v,q⟩:=I.cell x c e
   exact absurd (Nat.lt_of_lt_of_le q.lt (by rw[z];exact hb)) (Nat.lt_irrefl _)
 . exact absurd (Nat.lt_of_lt_of_le (Heap.lt_size (I.pin p hp).1) (by rw[z];exact hb)) (Nat.lt_irrefl _)
structure Wa (P:Program) (w:World) (K:PySem.W.Frag) (tg:Expr) (J:It) (fp:List Addr) (it:Addr) (tn:Nat->Heap->Prop):Prop where
 mem:it∈fp
 obj:∀ i h,tn i h->∀ b∈fp,∃ o,h.get? b=some o/\∀ v,o.data≠.cell v
 keep:∀ i h h',tn i h->(∀ b∈fp,∀ o,h.get? b=some o->h'.get? b=some o)->tn i h'
 item:∀ (X:Cx),X.prog=P->X.w=w->X.K=K->X.calm=true->∀ (i:Nat) (pins:List (Addr × Obj)) (s:Shared) (σ:St) (H:Hp) (E:Value->Shared->Prop),Inv X pins σ H s->(∀ b∈fp,Je X pins H b)->tn i s.heap->J.go i H ->
  wpAny (model P w) X.A (pyNext (.ref it)) (fun r s1=>∃ u,r=some u /\
   wpAny (model P w) X.A (letOwnedTupleGo tg (.ref it) u) (fun _ s2=>∃ x H',Inv X pins σ H' s2/\RelV x u/\J.yld i H x H'/\tn (i+1) s2.heap/\∀ b∈fp,H' b=none) E s1) E s
 done:∀ (X:Cx),X.prog=P->X.w=w->X.K=K->X.calm=true->∀ (i:Nat) (pins:List (Addr × Obj)) (s:Shared) (σ:St) (H:Hp) (E:Value->Shared->Prop),Inv X pins σ H s->(∀ b∈fp,Je X pins H b)->tn i s.heap->J.stop i H ->
  wpAny (model P w) X.A (pyNext (.ref it)) (fun r s1=>r=none/\Inv X pins σ H s1) E s
 self:∀ (A:Around) (i:Nat) (s:Shared) (Q:Value->Shared->Prop) (E:Value->Shared->Prop),tn i s.heap->Q (.ref it) s->wpAny (model P w) A (pyIter (.ref it)) Q E s
abbrev TI:=St->Hp->(It->Hp->Prop)->Prop
def PIE (X:Cx) (pins:List (Addr × Obj)) (σ:St) (tg:Expr) (R:It->Hp->Prop) (itv:Value) (s2:Shared):Prop :=
 ∃ (it:Addr) (fp:List Addr) (tn:Nat->Heap->Prop) (J:It) (H':Hp),itv=.ref it/\Inv X pins σ H' s2/\Wa X.prog X.w X.K tg J fp it tn/\tn 0 s2.heap/\(∀ b∈fp,Je X pins H' b)/\R J H'
def PI (X:Cx) (tg iter:Expr) (wi:TI):Prop :=
 ∀ (pins:List (Addr × Obj)) (s:Shared) (σ:St) (H:Hp) (R:It->Hp->Prop),Inv X pins σ H s->wi σ H R ->
  wpAny (model X.prog X.w) X.A (eval iter X.env) (fun v s1=>wpAny (model X.prog X.w) X.A (pyIter v) (PIE X pins σ tg R) X.xe s1) X.xe s
theorem acV {M:Model}{A:Around}{E:Value->Shared->Prop}{s:Shared}{tg:Expr}{it:Addr}{u:Value}{o:Obj}{n:String}{vs:Array Value}{Q:Unit->Shared->Prop} (ho:s.heap.get? it=some o) (hc:o.cls=.type n) (hd:o.data=.fields vs)
 (hn:["enumerate","zip","dict_itemiterator","dict_reverseitemiterator","odict_iterator","itertools.zip_longest","itertools.pairwise"].contains n=false) (hQ:Q () s):wpAny M A (letOwnedTupleGo tg (.ref it) u) Q E s:=by
 unfold letOwnedTupleGo
 cases tg <;> first
  | exact wpAny_pure hQ
  | (cases u <;> first
      | exact wpAny_pure hQ
      | (refine wpAny_bind (wpAny_load ho ?_)
         rw[hc,hd]
         show wpAny M A (if (["enumerate","zip","dict_itemiterator","dict_reverseitemiterator","odict_iterator","itertools.zip_longest","itertools.pairwise"].contains n && vs[0]? == some (rawInt _))=true then _ else _) Q E s
         rw[if_neg (by intro h;rw[hn,Bool.false_and] at h;cases h)]
         exact wpAny_pure hQ))
def Itl (K:PySem.W.Frag) (a:Addr):It :=
 ⟨fun i H=>∃ xs x,SqL K H a xs/\xs[i]?=some x,fun i H x H'=>H'=H/\∀ xs,SqL K H a xs->xs[i]?=some x,fun i H=>∃ xs,SqL K H a xs/\xs.length<=i⟩
theorem Ut {P:Program}{w:World}{K:PySem.W.Frag}{tg:Expr} (a it:Addr):Wa P w K tg (Itl K a) [it] it (fun i h=>h.IsListIter it a i) where
 mem:=by simp
 obj:=fun i h st b hb=>by
  have e:b=it:=by simpa using hb
  subst e
  obtain⟨o,e,c,d⟩:=st
  exact⟨o,e,fun v z=>by rw[d] at z;cases z⟩
 keep:=fun i h h' st k=>st.at fun o e=>k it (by simp) o e
 item:=by
  intro X hP hw hK hc i pins s σ H E I hf st hg
  subst hP hw hK
  obtain⟨xs,x,hq,hx⟩:=hg
  obtain⟨its,rv,p,hz⟩:=I.list hq
  obtain⟨u,hu,ru⟩:=rv.get hx
  obtain⟨f0,f1,f2,f3,f4,f5⟩:=hf it (by simp)
  refine wpAny_pyNext_list_item st p.isList (x:=u) (by simpa using hu) fun h' st' sb=>?_
  have I1:Inv X pins σ H { s with heap:=h' }:=I.turned (t':=s.toks) (fun b o hb e=>(sb.2 b hb).trans e) f0 f1 f3 f4 f5
  obtain⟨o,e,c,d⟩:=id st'
  exact⟨u,rfl,acV (s:={ s with heap:=h' }) e c d (by decide) ⟨x,H,I1,ru,⟨rfl,fun ys hy=>by rw[I.list_inj hy hq];exact hx⟩,st',fun b hb=>(hf b hb).1⟩⟩
 done:=by
  intro X hP hw hK hc i pins s σ H E I hf st hg
  subst hP hw hK
  obtain⟨xs,hq,hx⟩:=hg
  obtain⟨its,rv,p,hz⟩:=I.list hq
  obtain⟨f0,f1,f2,f3,f4,f5⟩:=hf it (by simp)
  have hl:=rv.length
  exact wpAny_pyNext_list_end (I.ok.hd hc) st p.isList (by simp;omega) fun h' eb=>⟨rfl,I.turned (t':=s.toks) (fun b o hb e=>eb b o hb e) f0 f1 f3 f4 f5⟩
 self:=fun _ _ _ _ _ st h=>wpAny_pyIter_listiter st h
end L2
namespace L2
open PySem PySem.Spec PyProof.Rows
section
variable {X:Cx}{tg:Expr}
def aaD (K:PySem.W.Frag) (tl:TE):TI:=fun σ H R=>tl σ H fun x H1=>∃ a,x=.ref a/\(∃ xs,SqL K H1 a xs)/\R (Itl K a) H1
theorem qa {l:Expr}{tl:TE} (hl:PE X l tl):PI X tg l (aaD X.K tl):=by
 intro pins s σ H R I h
 refine thn (hl pins s σ H _ I h) fun v s1 ⟨x,H1,I1,r1,q1⟩=>?_
 obtain⟨a,e,⟨xs,hq⟩,q⟩:=q1
 subst e
 cases r1
 obtain⟨its,rv,p,hz⟩:=I1.list hq
 refine wpAny_pyIter_list p.isList ?_
 refine⟨s1.heap.objs.size,[s1.heap.objs.size],_,_,H1,rfl,I1.kept (t':=s1.toks) fun b o e=>Heap.get?_push_of_some _ e,Ut a _,⟨_,Heap.get?_push_size _ rfl,rfl,rfl⟩,fun b hb=>?_,q⟩
 have e:b=s1.heap.objs.size:=by simpa using hb
 subst e
 exact I1.fpOk (Nat.le_refl _) (I1.hok.fresh (Nat.le_refl _))
def ado (wi:TI) (g:TG) (tb:TS):TS:=fun D σ H=>wi σ H fun J H1=>∃ W:Nat->Nat->St->Hp->Prop,(∃ m,W 0 m σ H1)/\∀ i m σ H,W i m σ H ->
 (J.stop i H/\D.nx σ H)∨(J.go i H/\∃ N:St->Hp->Prop,(∀ σ' H',N σ' H'->∃ m',m'<m/\W (i+1) m' σ' H')/\∀ x H',J.yld i H x H'->g x σ H' fun σ2 H2=>tb { D with nx:=N,ct:=N,bk:=D.nx } σ2 H2)
def K1 (fp:List Addr) (h:Heap):List (Addr × Obj):=fp.filterMap fun b=>(h.get? b).map fun o=>(b,o)
theorem Z3 {fp:List Addr}{h:Heap}{b:Addr}{o:Obj} (hb:b∈fp) (e:h.get? b=some o):(b,o)∈K1 fp h:=List.mem_filterMap.mpr ⟨b,hb,by rw[e];rfl⟩
theorem Uu {fp:List Addr}{h:Heap}{p:Addr × Obj} (hp:p∈K1 fp h):p.1∈fp/\h.get? p.1=some p.2:=by
 obtain⟨b,hb,e⟩:=List.mem_filterMap.mp hp
 cases q:h.get? b with
 | none=>rw[q] at e;cases e
 | some o =>
  rw[q] at e
  have e':(b,o)=p:=Option.some.inj e
  subst e'
  exact⟨hb,q⟩
theorem Inv.pinned {pins:List (Addr × Obj)}{σ:St}{H:Hp}{s:Shared}{fp:List Addr} (I:Inv X pins σ H s) (hf:∀ b∈fp,Je X pins H b) (ho:∀ b∈fp,∃ o,s.heap.get? b=some o/\∀ v,o.data≠.cell v):Inv X (pins++K1 fp s.heap) σ H s :=
 I.pins_of fun p hp=>(List.mem_append.mp hp).elim (fun z=>I.pin p (List.mem_append_right _ z)) fun z=>by
  obtain⟨hb,e⟩:=Uu z
  obtain⟨f0,f1,f2,_⟩:=hf p.1 hb
  obtain⟨o,e',d⟩:=ho p.1 hb
  rw[e] at e';cases e'
  exact⟨e,f0,f1,f2,d⟩
theorem Inv.unpinned {pins pl:List (Addr × Obj)}{σ:St}{H:Hp}{s:Shared} (I:Inv X (pins++pl) σ H s):Inv X pins σ H s:=I.pins_of fun p hp=>I.pin p (List.mem_append_right _ (List.mem_append_left _ hp))
theorem kK {iter:Expr}{body:List Stmt}{wi:TI}{g:TG}{tb:TS}{pos:Pos} (hp:PassesOwn (model X.prog X.w) X.A X.env X.xe) (hc:X.calm=true) (hi:PI X tg iter wi) (hg:PG X tg g) (hb:PSs X body tb)
 (hs:∀ x,foldedSetIterable iter X.env x=pure x:=by intro _;rfl):PS X (.For tg iter body [] pos) (ado wi g tb):=by
 intro pins s σ H D I h
 refine wpAny_For (thn (hi pins s σ H _ I h) fun v s1 h1=>thn h1 fun itv s2 h2=>?_) hs
 obtain⟨it,fp,tn,J,H2,e,I2,T,st2,f2,W,⟨m0,w0⟩,turn⟩:=h2
 subst e
 have stat:∀ {H':Hp},(∀ b∈fp,H' b=none)->∀ b∈fp,Je X pins H' b:=fun hn b hb=>⟨hn b hb,(f2 b hb).2⟩
 refine codeAny_forLoop_any (fun n s'=>∃ i σ' H',Inv X pins σ' H' s'/\tn i s'.heap/\(∀ b∈fp,H' b=none)/\W i n σ' H') ?_ m0 ⟨0,σ,H2,I2,st2,fun b hb=>(f2 b hb).1,w0⟩
 rintro n s3 ⟨i,σ3,H3,I3,st3,fr3,w3⟩
 rcases turn i n σ3 H3 w3 with ⟨stop,qn⟩ | ⟨go,N,hN,step⟩
 . refine wpAny_passesOwn hp (thn (T.done X rfl rfl rfl hc i pins s3 σ3 H3 X.xe I3 (stat fr3) st3 stop) fun r s4 ⟨hr,I4⟩=>?_)
   subst hr
   exact wpAny_execs_nil ⟨σ3,H3,I4,qn⟩
 . refine wpAny_passesOwn hp (thn (T.item X rfl rfl rfl hc i pins s3 σ3 H3 X.xe I3 (stat fr3) st3 go) fun r s4 ⟨u,hr,h4⟩=>?_)
   subst hr
   refine wpAny_passesOwn hp (thn h4 fun _ s5 ⟨x,H5,I5,r5,y5,st5,fr5⟩=>?_)
   have I5':=I5.pinned (stat fr5) (T.obj _ _ st5)
   refine wpAny_passesOwn hp (thn (hg _ s5 σ3 H5 x u _ I5' r5 (step x H5 y5)) fun _ s6 ⟨σ6,H6,I6,q6⟩=>?_)
   refine wpAny_passesOwn hp (thn (hb _ s6 σ6 H6 _ I6 q6) fun f s7 q7=>?_)
   have again:∀ {σ7:St}{H7:Hp},Inv X (pins++K1 fp s5.heap) σ7 H7 s7->N σ7 H7->∃ m,m<n/\∃ i σ' H',Inv X pins σ' H' s7/\tn i s7.heap/\(∀ b∈fp,H' b=none)/\W i m σ' H':=fun {σ7 H7} I7 n7=>by
    obtain⟨m',hm,w7⟩:=hN σ7 H7 n7
    refine⟨m',hm,i+1,σ7,H7,I7.unpinned,T.keep _ _ _ st5 fun b hb o e=>(I7.pin (b,o) (List.mem_append_right _ (List.mem_append_right _ (Z3 hb e)))).1,fun b hb=>?_,w7⟩
    obtain⟨o,e,d⟩:=T.obj _ _ st5 b hb
    exact (I7.pin (b,o) (List.mem_append_right _ (List.mem_append_right _ (Z3 hb e)))).2.1
   cases f with
   | next=>obtain⟨σ7,H7,I7,n7⟩:=q7;exact again I7 n7
   | cont=>obtain⟨σ7,H7,I7,n7⟩:=q7;exact again I7 n7
   | brk=>obtain⟨σ7,H7,I7,q7⟩:=q7;exact⟨σ7,H7,I7.unpinned,q7⟩
   | ret v=>obtain⟨x7,σ7,H7,I7,r7,q7⟩:=q7;exact⟨x7,σ7,H7,I7.unpinned,r7,q7⟩
end
theorem jx {K:PySem.W.Frag}{a:Addr}{xs:List V}{g:TG}{tb:TS}{D:V_}{σ:St}{H:Hp} (Pv:Nat->St->Hp->Prop) (h0:Pv 0 σ H) (hl:∀ i σ H,i<=xs.length->Pv i σ H->SqL K H a xs)
 (hs:∀ i x σ H,xs[i]?=some x->Pv i σ H->g x σ H fun σ2 H2=>tb { D with nx:=Pv (i+1),ct:=Pv (i+1),bk:=D.nx } σ2 H2) (hd:∀ σ H,Pv xs.length σ H->D.nx σ H) :
 ∃ W:Nat->Nat->St->Hp->Prop,(∃ m,W 0 m σ H)/\∀ i m σ H,W i m σ H ->
  ((Itl K a).stop i H/\D.nx σ H)∨((Itl K a).go i H/\∃ N:St->Hp->Prop,(∀ σ' H',N σ' H'->∃ m',m'<m/\W (i+1) m' σ' H')/\∀ x H',(Itl K a).yld i H x H'->g x σ H' fun σ2 H2=>tb { D with nx:=N,ct:=N,bk:=D.nx } σ2 H2):=by
 refine⟨fun i m σ H=>m=xs.length - i/\i<=xs.length/\Pv i σ H,⟨xs.length,by simp,Nat.zero_le _,h0⟩,?_⟩
 rintro i m σ H ⟨rfl,hi,p⟩
 have q:=hl i σ H hi p
 by_cases hlt:i<xs.length
 . refine .inr ⟨⟨xs,xs[i],q,by simp[hlt]⟩,Pv (i+1),fun σ' H' p'=>⟨xs.length - (i+1),by omega,rfl,hlt,p'⟩,fun x H' y=>?_⟩
   obtain⟨e,y⟩:=y
   subst e
   exact hs i x σ _ (y xs q) p
 . have e:i=xs.length:=by omega
   subst e
   exact .inl ⟨⟨xs,q,Nat.le_refl _⟩,hd σ H p⟩
end L2
namespace L2
open PySem PySem.Spec PyProof.Rows
abbrev R2:=V->V->Hp->VK->Prop
def OpR (X:Cx) (f:Value->Value->Sem Value) (r:R2):Prop :=
 ∀ (pins:List (Addr × Obj)) (s:Shared) (σ:St) (H:Hp) (x y:V) (v u:Value) (Q:VK),Inv X pins σ H s->RelV x v->RelV y u->r x y H Q ->
  wpAny (model X.prog X.w) X.A (f v u) (EP X pins σ Q) X.xe s
def UnR (X:Cx) (f:Value->Sem Value) (r:V->Hp->VK->Prop):Prop :=
 ∀ (pins:List (Addr × Obj)) (s:Shared) (σ:St) (H:Hp) (x:V) (v:Value) (Q:VK),Inv X pins σ H s->RelV x v->r x H Q ->
  wpAny (model X.prog X.w) X.A (f v) (EP X pins σ Q) X.xe s
def ZE (X:Cx) (f:Value) (r:List V->Hp->VK->Prop):Prop :=
 ∀ (pins:List (Addr × Obj)) (s:Shared) (σ:St) (H:Hp) (xs:List V) (us:List Value) (Q:VK),Inv X pins σ H s->Vals xs us->r xs H Q ->
  wpAny (model X.prog X.w) X.A (call f us) (EP X pins σ Q) X.xe s
def tOp (r:R2) (ta tb:TE):TE:=fun σ H Q=>ta σ H fun x H1=>tb σ H1 fun y H2=>r x y H2 Q
def tUn (r:V->Hp->VK->Prop) (ta:TE):TE:=fun σ H Q=>ta σ H fun x H1=>r x H1 Q
def rI (C:Int->Int->Prop) (g:Int->Int->V):R2:=fun x y H Q=>∃ i j,x=.int i/\y=.int j/\C i j/\Q (g i j) H
def rI0 (g:Int->Int->V):R2:=fun x y H Q=>∃ i j,x=.int i/\y=.int j/\Q (g i j) H
def rU (g:Int->V):V->Hp->VK->Prop:=fun x H Q=>∃ i,x=.int i/\Q (g i) H
section
variable {X:Cx}{a b c:Expr}{ta tb tc:TE}{pos:Pos}
theorem ack (ha:PE X a ta) (hb:PE X b tb) {pins:List (Addr × Obj)}{s:Shared}{σ:St}{H:Hp}{R:V->V->Hp->Prop} (I:Inv X pins σ H s)
 (h:ta σ H fun x H1=>tb σ H1 fun y H2=>R x y H2) {Q:Value->Shared->Prop}{f:Value->Value->Sem Value}
 (hf:∀ v u s2 x y H2,Inv X pins σ H2 s2->RelV x v->RelV y u->R x y H2->wpAny (model X.prog X.w) X.A (f v u) Q X.xe s2) :
 wpAny (model X.prog X.w) X.A (eval a X.env) (fun v s₁=>wpAny (model X.prog X.w) X.A (eval b X.env) (fun u s₂=>wpAny (model X.prog X.w) X.A (f v u) Q X.xe s₂) X.xe s₁) X.xe s:=by
 refine thn (ha pins s σ H _ I h) fun v s1 ⟨x,H1,I1,r1,q1⟩=>?_
 refine thn (hb pins s1 σ H1 _ I1 q1) fun u s2 ⟨y,H2,I2,r2,q2⟩=>?_
 exact hf v u s2 x y H2 I2 r1 r2 q2
theorem jE {op:Operator}{r:R2} (ho:OpR X (binaryOp op) r) (ha:PE X a ta) (hb:PE X b tb):PE X (.BinOp a op b pos) (tOp r ta tb):=by
 intro pins s σ H Q I h
 exact wpAny_BinOp (ack ha hb I h fun v u s2 x y H2 I2 rx ry q=>ho pins s2 σ H2 x y v u Q I2 rx ry q)
theorem acW {op:UnaryOp}{r:V->Hp->VK->Prop} (ho:UnR X (unaryOp op) r) (ha:PE X a ta):PE X (.UnaryOp op a pos) (tUn r ta):=by
 intro pins s σ H Q I h
 exact UnaryOp_ (thn (ha pins s σ H _ I h) fun v s1 ⟨x,H1,I1,r1,q1⟩=>ho pins s1 σ H1 x v Q I1 r1 q1)
theorem opI {f:Value->Value->Sem Value}{C:Int->Int->Prop}{g:Int->Int->Int}
 (rule:∀ (i j:Int) (t u:Tok) (s:Shared) (Q:Value->Shared->Prop) (E:Value->Shared->Prop),C i j->Q (.int (g i j) s.toks) { s with toks:=s.toks+1 }->wpAny (model X.prog X.w) X.A (f (.int i t) (.int j u)) Q E s) :
 OpR X f (rI C fun i j=>.int (g i j)):=by
 intro pins s σ H x y v u Q I rx ry h
 obtain⟨i,j,rfl,rfl,hc,q⟩:=h
 obtain⟨t,rfl⟩:=rx
 obtain⟨t',rfl⟩:=ry
 exact rule i j t t' s _ _ hc ⟨.int (g i j),H,I.tok _,⟨_,rfl⟩,q⟩
theorem acX {f:Value->Value->Sem Value}{g:Int->Int->Int}
 (rule:∀ (i j:Int) (t u:Tok) (s:Shared) (Q:Value->Shared->Prop) (E:Value->Shared->Prop),Q (.int (g i j) s.toks) { s with toks:=s.toks+1 }->wpAny (model X.prog X.w) X.A (f (.int i t) (.int j u)) Q E s) :
 OpR X f (rI0 fun i j=>.int (g i j)):=by
 intro pins s σ H x y v u Q I rx ry h
 obtain⟨i,j,rfl,rfl,q⟩:=h
 obtain⟨t,rfl⟩:=rx
 obtain⟨t',rfl⟩:=ry
 exact rule i j t t' s _ _ ⟨.int (g i j),H,I.tok _,⟨_,rfl⟩,q⟩
theorem abz {f:Value->Value->Sem Value}{g:Int->Int->Bool}
 (rule:∀ (i j:Int) (t u:Tok) (s:Shared) (Q:Value->Shared->Prop) (E:Value->Shared->Prop),Q (.bool (g i j)) s->wpAny (model X.prog X.w) X.A (f (.int i t) (.int j u)) Q E s) :
 OpR X f (rI0 fun i j=>.bl (g i j)):=by
 intro pins s σ H x y v u Q I rx ry h
 obtain⟨i,j,rfl,rfl,q⟩:=h
 obtain⟨t,rfl⟩:=rx
 obtain⟨t',rfl⟩:=ry
 exact rule i j t t' s _ _ ⟨.bl (g i j),H,I,rfl,q⟩
def acY (i j:Int):Prop:=0<j/\j<1073741824
theorem xV:OpR X (binaryOp .Add) (rI0 fun i j=>.int (i+j)):=acX fun _ _ _ _ _ _ _ q=>add_int q
theorem Wb:OpR X (binaryOp .Sub) (rI0 fun i j=>.int (i - j)):=acX fun _ _ _ _ _ _ _ q=>sub_int q
theorem abA:OpR X (binaryOp .FloorDiv) (rI acY fun i j=>.int (i / j)):=opI fun i j _ _ _ _ _ hc q=>by
 have h1:(0:Int)<j:=hc.1
 have h2:j<1073741824:=hc.2
 exact floordiv_int (by omega) (by rw[Int.fdiv_eq_ediv_of_nonneg i (by omega)];exact q) (.inl (PyProof.noPylong_small (by omega)))
theorem unI {f:Value->Sem Value}{g:Int->Int}
 (rule:∀ (i:Int) (t:Tok) (s:Shared) (Q:Value->Shared->Prop) (E:Value->Shared->Prop),Q (.int (g i) s.toks) { s with toks:=s.toks+1 }->wpAny (model X.prog X.w) X.A (f (.int i t)) Q E s) :
 UnR X f (rU fun i=>.int (g i)):=by
 intro pins s σ H x v Q I rx h
 obtain⟨i,rfl,q⟩:=h
 obtain⟨t,rfl⟩:=rx
 exact rule i t s _ _ ⟨.int (g i),H,I.tok _,⟨_,rfl⟩,q⟩
theorem acl:UnR X (unaryOp .USub) (rU fun i=>.int (-i)):=unI fun _ _ _ _ _ q=>neg_int q
end
def acZ:V->V->Bool
 | .non,.non=>true | .non,.int _=>true | .int _,.non=>true | .non,.bl _=>true | .bl _,.non=>true | .non,.str _=>true | .str _,.non=>true
 | .int _,.int _=>true | .bl _,.bl _=>true | .str _,.str _=>true | .byt _,.byt _=>true
 | .int _,.str _=>true | .str _,.int _=>true | .bl _,.str _=>true | .str _,.bl _=>true
 | _,_=>false
def rEq:R2:=fun x y H Q=>acZ x y=true/\Q (.bl (decide (x=y))) H
def rNe:R2:=fun x y H Q=>acZ x y=true/\Q (.bl (!decide (x=y))) H
theorem WP {i j:Int}:decide (V.int i=V.int j)=(i == j):=by
 rw[Bool.eq_iff_iff]
 simp
theorem aaE {i j:Bool}:decide (V.bl i=V.bl j)=(i == j):=by
 rw[Bool.eq_iff_iff]
 simp
theorem WQ {i j:Str}:decide (V.str i=V.str j)=(i == j):=by
 rw[Bool.eq_iff_iff]
 simp
theorem WR {i j:Array UInt8}:decide (V.byt i=V.byt j)=(i.toList == j.toList):=by
 rw[Bool.eq_iff_iff]
 cases i
 cases j
 simp
section
variable {X:Cx}{a b c:Expr}{ta tb tc:TE}{pos:Pos}
theorem qu {pins:List (Addr × Obj)}{σ:St}{H:Hp}{s:Shared}{Q:VK}{k k':Bool} (I:Inv X pins σ H s) (q:Q (.bl k) H) (e:k=k'):EP X pins σ Q (.bool k') s:=by
 subst e
 exact⟨.bl k,H,I,rfl,q⟩
theorem qN:OpR X (compareOp .Eq) rEq:=by
 intro pins s σ H x y v u Q I rx ry h
 obtain⟨hs,q⟩:=h
 cases x with
 | non =>
  cases rx
  cases y with
  | non=>cases ry;exact PySem.EqNone.eq_none_none (qu I q (by simp))
  | bl j=>cases ry;exact PySem.EqNone.eq_none_bool (qu I q (by simp))
  | int j=>obtain⟨t',rfl⟩:=ry;exact PySem.EqNone.eq_none_int (qu I q (by simp))
  | str j=>obtain⟨t',rfl⟩:=ry;exact PySem.EqNone.eq_none_str (qu I q (by simp))
  | _=>exact absurd (show false=true from hs) Bool.false_ne_true
 | bl i =>
  cases rx
  cases y with
  | non=>cases ry;exact PySem.EqNone.eq_bool_none (qu I q (by simp))
  | bl j=>cases ry;exact eq_bool (qu I q aaE)
  | str j=>obtain⟨t',rfl⟩:=ry;exact PySem.EqMixed.eq_bool_str (qu I q (by simp))
  | _=>exact absurd (show false=true from hs) Bool.false_ne_true
 | int i =>
  obtain⟨t,rfl⟩:=rx
  cases y with
  | non=>cases ry;exact PySem.EqNone.eq_int_none (qu I q (by simp))
  | int j=>obtain⟨t',rfl⟩:=ry;exact eq_int (qu I q WP)
  | str j=>obtain⟨t',rfl⟩:=ry;exact PySem.EqMixed.eq_int_str (qu I q (by simp))
  | _=>exact absurd (show false=true from hs) Bool.false_ne_true
 | str i =>
  obtain⟨t,rfl⟩:=rx
  cases y with
  | non=>cases ry;exact PySem.EqNone.eq_str_none (qu I q (by simp))
  | bl j=>cases ry;exact PySem.EqMixed.eq_str_bool (qu I q (by simp))
  | int j=>obtain⟨t',rfl⟩:=ry;exact PySem.EqMixed.eq_str_int (qu I q (by simp))
  | str j=>obtain⟨t',rfl⟩:=ry;exact eq_str (qu I q WQ)
  | _=>exact absurd (show false=true from hs) Bool.false_ne_true
 | byt i =>
  obtain⟨t,rfl⟩:=rx
  cases y with
  | byt j=>obtain⟨t',rfl⟩:=ry;exact PySem.W.eq_bytes (qu I q WR)
  | _=>exact absurd (show false=true from hs) Bool.false_ne_true
 | _=>cases y <;> exact absurd (show false=true from hs) Bool.false_ne_true
theorem yG:OpR X (compareOp .NotEq) rNe:=by
 intro pins s σ H x y v u Q I rx ry h
 obtain⟨hs,q⟩:=h
 cases x with
 | non =>
  cases rx
  cases y with
  | non=>cases ry;exact PySem.EqNone.ne_none_none (qu I q (by simp))
  | bl j=>cases ry;exact PySem.EqNone.ne_none_bool (qu I q (by simp))
  | int j=>obtain⟨t',rfl⟩:=ry;exact PySem.EqNone.ne_none_int (qu I q (by simp))
  | str j=>obtain⟨t',rfl⟩:=ry;exact PySem.EqNone.ne_none_str (qu I q (by simp))
  | _=>exact absurd (show false=true from hs) Bool.false_ne_true
 | bl i =>
  cases rx
  cases y with
  | non=>cases ry;exact PySem.EqNone.ne_bool_none (qu I q (by simp))
  | bl j=>cases ry;exact ne_bool (qu I q (congrArg not aaE))
  | str j=>obtain⟨t',rfl⟩:=ry;exact PySem.EqMixed.ne_bool_str (qu I q (by simp))
  | _=>exact absurd (show false=true from hs) Bool.false_ne_true
 | int i =>
  obtain⟨t,rfl⟩:=rx
  cases y with
  | non=>cases ry;exact PySem.EqNone.ne_int_none (qu I q (by simp))
  | int j=>obtain⟨t',rfl⟩:=ry;exact ne_int (qu I q (congrArg not WP))
  | str j=>obtain⟨t',rfl⟩:=ry;exact PySem.EqMixed.ne_int_str (qu I q (by simp))
  | _=>exact absurd (show false=true from hs) Bool.false_ne_true
 | str i =>
  obtain⟨t,rfl⟩:=rx
  cases y with
  | non=>cases ry;exact PySem.EqNone.ne_str_none (qu I q (by simp))
  | bl j=>cases ry;exact PySem.EqMixed.ne_str_bool (qu I q (by simp))
  | int j=>obtain⟨t',rfl⟩:=ry;exact PySem.EqMixed.ne_str_int (qu I q (by simp))
  | str j=>obtain⟨t',rfl⟩:=ry;exact ne_str (qu I q (congrArg not WQ))
  | _=>exact absurd (show false=true from hs) Bool.false_ne_true
 | byt i =>
  obtain⟨t,rfl⟩:=rx
  cases y with
  | byt j=>obtain⟨t',rfl⟩:=ry;exact PySem.W.ne_bytes (qu I q (congrArg not WR))
  | _=>exact absurd (show false=true from hs) Bool.false_ne_true
 | _=>cases y <;> exact absurd (show false=true from hs) Bool.false_ne_true
theorem K2:OpR X (compareOp .Lt) (rI0 fun i j=>.bl (decide (i<j))):=abz fun _ _ _ _ _ _ _ q=>lt_int q
theorem X9:OpR X (compareOp .LtE) (rI0 fun i j=>.bl (decide (i<=j))):=abz fun _ _ _ _ _ _ _ q=>le_int q
theorem QW:OpR X (compareOp .Gt) (rI0 fun i j=>.bl (decide (j<i))):=abz fun _ _ _ _ _ _ _ q=>gt_int q
theorem ab4:OpR X (compareOp .GtE) (rI0 fun i j=>.bl (decide (j<=i))):=abz fun _ _ _ _ _ _ _ q=>ge_int q
theorem zz (b:Expr) {op:CmpOp} (h:op≠.In:=by decide) (h2:op≠.NotIn:=by decide):behindInMarks op b=false:=by
 have e1:(op == CmpOp.In)=false:=by cases op <;> first | rfl | exact absurd rfl h
 have e2:(op == CmpOp.NotIn)=false:=by cases op <;> first | rfl | exact absurd rfl h2
 cases b <;> simp[behindInMarks,e1,e2]
theorem um {op:CmpOp}{r:R2} (ho:OpR X (compareOp op) r) (ha:PE X a ta) (hb:PE X b tb) (hm:behindInMarks op b=false):PE X (.Compare a [op] [b] pos) (tOp r ta tb):=by
 intro pins s σ H Q I h
 exact wpAny_Compare1 (ack ha hb I h fun v u s2 x y H2 I2 rx ry q=>ho pins s2 σ H2 x y v u Q I2 rx ry q) hm
def WS (t:TE):TT:=fun σ H Q=>t σ H fun x H'=>∃ k,x=.bl k/\Q k H'
theorem zo {op:CmpOp}{r:R2} (ho:OpR X (compareOp op) r) (ha:PE X a ta) (hb:PE X b tb) (hm:behindInMarks op b=false):PT X (.Compare a [op] [b] pos) (WS (tOp r ta tb)):=by
 intro pins s σ H Q I h
 refine wpAny_isTrue_Compare1 (thn (ha pins s σ H _ I h) fun v s1 ⟨x,H1,I1,r1,q1⟩=>thn (hb pins s1 σ H1 _ I1 q1) fun u s2 ⟨y,H2,I2,r2,q2⟩ =>
  thn (ho pins s2 σ H2 x y v u _ I2 r1 r2 q2) fun c s3 ⟨z,H3,I3,r3,k,e,q3⟩=>?_) hm
 subst e
 cases r3
 exact wpAny_truthy_bool ⟨H3,I3,q3⟩
def acm (r r':R2) (ta tb tc:TE):TE:=fun σ H Q=>ta σ H fun x H1=>tb σ H1 fun y H2=>r x y H2 fun z H3=>∃ k,z=.bl k /\
 (if k=true then tc σ H3 fun w' H4=>r' y w' H4 Q else Q (.bl false) H3)
theorem aaF {op op':CmpOp}{r r':R2} (ho:OpR X (compareOp op) r) (ho':OpR X (compareOp op') r') (ha:PE X a ta) (hb:PE X b tb) (hc:PE X c tc)
 (hm:lastMarks [op,op'] [b,c]=false:=by with_unfolding_all rfl):PE X (.Compare a [op,op'] [b,c] pos) (acm r r' ta tb tc):=by
 intro pins s σ H Q I h
 refine Compare_chain (thn (ha pins s σ H _ I h) fun v s1 ⟨x,H1,I1,r1,q1⟩=>chain_link (thn (hb pins s1 σ H1 _ I1 q1) fun u s2 ⟨y,H2,I2,r2,q2⟩ =>
  thn (ho pins s2 σ H2 x y v u _ I2 r1 r2 q2) fun d s3 ⟨z,H3,I3,r3,k,e,q3⟩=>?_)) hm
 subst e
 cases r3
 refine wpAny_truthy_bool ?_
 cases k with
 | false=>exact ite_ff ⟨.bl false,H3,I3,rfl,q3⟩
 | true=>exact ite_tt (chain_last (thn (hc pins s3 σ H3 _ I3 q3) fun w' s4 ⟨z',H4,I4,r4,q4⟩=>ho' pins s4 σ H4 y z' u w' Q I4 r2 r4 q4))
theorem Y4:(sizeLine:Nat)<2 ^ 63:=by rw[sizeLine_eq];decide
theorem ab5 {x:V}{us:List Value} (r:Vals [x] us):∃ u,us=[u]/\RelV x u:=by
 cases r with
 | cons r1 r2=>cases r2;exact⟨_,rfl,r1⟩
theorem ac0 {x y:V}{us:List Value} (r:Vals [x,y] us):∃ u w',us=[u,w']/\RelV x u/\RelV y w':=by
 cases r with
 | cons r1 r2 =>
  cases r2 with
  | cons r3 r4=>cases r4;exact⟨_,_,rfl,r1,r3⟩
theorem Uv (hc:X.calm=true):ZE X (.builtin "min") (fun xs H Q=>∃ i j,xs=[.int i,.int j]/\Q (.int (if j<i then j else i)) H):=by
 intro pins s σ H xs us Q I r h
 obtain⟨i,j,rfl,q⟩:=h
 obtain⟨u,w',rfl,⟨t,rfl⟩,⟨t',rfl⟩⟩:=ac0 r
 refine min_two_ints (I.ok.hd hc) fun h' tk k=>⟨_,H,I.kept k,?_,q⟩
 by_cases hj:j<i
 . rw[if_pos hj,if_pos hj];exact⟨_,rfl⟩
 . rw[if_neg hj,if_neg hj];exact⟨_,rfl⟩
end
end L2
namespace L2
open PySem PySem.Spec PyProof.Rows
structure ObjM (h:Heap) (x dx C:Addr) (mA:Str->Option Value):Prop where
 obj:h.get? x=some (PySem.W.instObj C dx)
 ns:h.Ns1 dx mA
 ne:dx≠x
theorem Uw {h:Heap}{dx:Addr}{mA:Str->Option Value} (n:h.Ns1 dx mA):∃ od,h.get? dx=some od/\∀ name,PySem.W.lookIn name od=some (mA name):=by
 obtain⟨o,es,ep,ho,hd,hk,_,hm⟩:=n
 refine⟨o,ho,fun name=>?_⟩
 have e:=hm name
 unfold nsFind findBy at e
 rw[<-Array.find?_toList] at e
 unfold PySem.W.lookIn
 rw[hd]
 dsimp only
 split
 . rename_i y q
   rw[q] at e
   exact congrArg some e
 . rename_i q
   rw[q] at e
   have a:es.toList.any (·.refKey)=false:=by
    rw[List.any_eq_false]
    intro y hy
    obtain⟨z,t,hkey⟩:=hk y (Array.mem_toList_iff.mp hy)
    simp[DictEntry.refKey,hkey]
   have a':¬es.toList.any (·.refKey)=true:=by rw[a];exact Bool.false_ne_true
   rw[if_neg a']
   exact congrArg some e
theorem ObjM.look {h:Heap}{x dx C:Addr}{mA:Str->Option Value} (I:ObjM h x dx C mA):∃ od,PySem.W.InstAt h x (PySem.W.instObj C dx) C (some od)/\∀ name,PySem.W.lookIn name od=some (mA name) :=
 let ⟨od,ho,hl⟩:=Uw I.ns
 ⟨od,⟨I.obj,rfl,rfl,ho⟩,hl⟩
section
variable {prog:Program}{w:World}{A:Around}{E:Value->Shared->Prop}{s:Shared}{K:PySem.W.Frag}{x dx C f:Addr}{mA:Str->Option Value}{name:Str}{v:Value}
theorem abB {expr:Bool}{Q:Value->Shared->Prop} (X:K.In s.heap) (I:ObjM s.heap x dx C mA) (hg:PySem.W.plainGet K C name=true) (hh:PySem.W.hasDictIn K C=true)
 (ha:PySem.W.findIn K (.ref C) name=some none) (hv:mA name=some v) (hv':PySem.W.handedIn v=true) (h:Q v { s with toks:=s.toks+1 }) :
 wpAny (model prog w) A (getAttr (.ref x) name expr) Q E s:=by
 obtain⟨od,J,hl⟩:=I.look
 exact PySem.W.get_value X J (PySem.W.plainGet_of hg).1 (PySem.W.findObj_own hh ha rfl (by rw[hl,hv])) hv' h
theorem abC {ns:List Str}{Q:Unit->Shared->Prop} (X:K.In s.heap) (I:ObjM s.heap x dx C mA)
 (hs:PySem.W.findIn K (.ref C) "__setattr__"=some (some (.builtin "object.__setattr__"))) (hp:PySem.W.plainOver K C=true) (ht:PySem.W.takerIn K C name=some none) (hh:PySem.W.hasDictIn K C=true)
 (hw:PySem.Within mA ns) (hsz:ns.length<=sizeLine)
 (h:∀ h',ObjM h' x dx C (fun y=>if y=name then some v else mA y)->Heap.SameBut dx s.heap h'->Q () { s with heap:=h',toks:=s.toks+2 }) :
 wpAny (model prog w) A (setAttr (.ref x) name v) Q E s:=by
 obtain⟨od,J,hl⟩:=I.look
 refine PySem.W.set_plain X J hs (PySem.W.osa_open (s:={ s with toks:=s.toks+1 }) (r:=none) X J hp ht fun b=>?_)
 obtain⟨cd,hc,hd'⟩:=PySem.W.any_some hh
 have hx:s.heap.get? x=some ⟨.ref C,some dx,.plain,#[]⟩:=I.obj
 refine wpAny_bind (wpAny_pure (wpAny_bind (wpAny_bind (wpAny_loadPart hx (wpAny_bind (PySem.W.Looks.here (s:={ s with toks:=s.toks+1 }) (PySem.W.looks_clsIn X hc) ?_))))))
 rw[hd']
 refine wpAny_pure (a:=some dx) (wpAny_bind (wpAny_pure (wpAny_bind ?_)))
 refine wpAny_nsSet1 (s:={ s with toks:=s.toks+1 }) I.ns fun h' hn2 hs2=>?_
 obtain⟨oD,esD,epD,hoD,hdD,hcD⟩:=hn2.count (PySem.Within.cons name v hw)
 refine wpAny_bind (wpAny_lookBehind hoD (by rw[hdD];exact pastItsLine_dict (Nat.le_trans hcD (by rw[List.length_cons];omega))) ?_)
 exact wpAny_pure (h _ ⟨(hs2.2 _ (Ne.symm I.ne)).trans I.obj,hn2,I.ne⟩ hs2)
theorem aaG {R:Result->Shared->Prop}{vs:List Value}{kw:List (Str × Value)} (X:K.In s.heap) (hm:PySem.W.makesIn K C=true)
 (hi:PySem.W.findIn K (.ref C) "__init__"=some (some (.ref f))) (hf:PySem.W.typeIn K (.ref f)=some (.type "function"))
 (h:codeAny (model prog w) (A.under (.builtin "type.__call__" ⟨.ref C::vs,kw⟩)) (.call (.ref f) ⟨.ref (s.heap.objs.size+1)::vs,kw⟩) (PySem.W.InitBack (s.heap.objs.size+1) R)
  { s with heap:=(s.heap.push PySem.W.emptyDict).push (PySem.W.instObj C s.heap.objs.size) }) :
 codeAny (model prog w) A (.call (.ref C) ⟨vs,kw⟩) R s:=by
 obtain⟨hh,g,d,t,os⟩:=s
 exact PySem.W.make_core (PySem.W.makes_of X hm) (PySem.W.looks_findIn X hi) (fun self=>PySem.W.bind_fn X self hf) (.inl rfl) h
end
def xE (f:Str) (v:V):List (Str × V)->List (Str × V)
 | []=>[(f,v)]
 | (g,x)::r=>if g=f then (g,v)::r else (g,x)::xE f v r
theorem QX (f g:Str) (v:V):∀ fs:List (Str × V),(xE f v fs).lookup g=if g=f then some v else fs.lookup g
 | []=>by
  show List.lookup g [(f,v)]=_
  by_cases h:g=f
  . have hb:(g == f)=true:=beq_iff_eq.mpr h
    simp only[List.lookup,hb,if_pos h]
  . have hb:(g == f)=false:=beq_eq_false_iff_ne.mpr h
    simp only[List.lookup,hb,if_neg h]
 | (k,x)::r=>by
  have ih:=QX f g v r
  rw[show xE f v ((k,x)::r)=(if k=f then (k,v)::r else (k,x)::xE f v r) from rfl]
  by_cases hk:k=f
  . rw[if_pos hk]
    by_cases h:g=k
    . have hb:(g == k)=true:=beq_iff_eq.mpr h
      simp only[List.lookup,hb,if_pos (h.trans hk)]
    . have hb:(g == k)=false:=beq_eq_false_iff_ne.mpr h
      simp only[List.lookup,hb,if_neg (fun e:g=f=>h (e.trans hk.symm))]
  . rw[if_neg hk]
    by_cases h:g=k
    . have hb:(g == k)=true:=beq_iff_eq.mpr h
      simp only[List.lookup,hb,if_neg (fun e:g=f=>hk (h.symm.trans e))]
    . have hb:(g == k)=false:=beq_eq_false_iff_ne.mpr h
      simp only[List.lookup,hb]
      exact ih
theorem Qz (f:Str) (v:V):∀ fs:List (Str × V),f∈(xE f v fs).map (·.1)/\∀ g,g∈fs.map (·.1)->g∈(xE f v fs).map (·.1)
 | []=>⟨by simp[xE],fun g h=>by simp at h⟩
 | (k,x)::r=>by
  obtain⟨i1,i2⟩:=Qz f v r
  rw[show xE f v ((k,x)::r)=(if k=f then (k,v)::r else (k,x)::xE f v r) from rfl]
  by_cases hk:k=f
  . rw[if_pos hk]
    subst hk
    exact⟨by simp,fun g h=>by simpa using h⟩
  . rw[if_neg hk]
    refine⟨?_,fun g h=>?_⟩
    . rw[List.map_cons]
      exact List.mem_cons_of_mem _ i1
    . rw[List.map_cons] at h ⊢
      rcases List.mem_cons.mp h with e | e
      . exact List.mem_cons.mpr (.inl e)
      . exact List.mem_cons_of_mem _ (i2 g e)
theorem QY (f:Str) (v:V):∀ fs:List (Str × V),(xE f v fs).length<=fs.length+1
 | []=>by simp[xE]
 | (k,x)::r=>by
  have ih:=QY f v r
  rw[show xE f v ((k,x)::r)=(if k=f then (k,v)::r else (k,x)::xE f v r) from rfl]
  by_cases hk:k=f
  . rw[if_pos hk,List.length_cons,List.length_cons];omega
  . rw[if_neg hk,List.length_cons,List.length_cons];omega
theorem RelO.some_of {v:V}{o:Option Value} (r:RelO (some v) o):∃ u,o=some u/\RelV v u:=by
 cases o with
 | none=>exact (show False from r).elim
 | some u=>exact⟨u,rfl,r⟩
theorem Ux {v:V}{u:Value} (r:RelV v u):PySem.W.handedIn u=true:=by
 cases v with
 | non=>cases (show u=Value.none from r);rfl
 | bl b=>cases (show u=Value.bool b from r);rfl
 | int i=>obtain⟨t,e⟩:=(show ∃ t,u=Value.int i t from r);cases e;rfl
 | str x=>obtain⟨t,e⟩:=(show ∃ t,u=Value.str x t from r);cases e;rfl
 | byt b=>obtain⟨t,e⟩:=(show ∃ t,u=Value.bytes b t from r);cases e;rfl
 | flt b=>obtain⟨t,e⟩:=(show ∃ t,u=Value.float b t from r);cases e;rfl
 | ref a=>cases (show u=Value.ref a from r);rfl
 | ty n=>cases (show u=Value.type n from r);rfl
section
variable {P:Program}{w:World}{H H':Hp}{h h':Heap}{a C dx:Addr}{fs fs':List (Str × V)}
theorem WT (hok:HOk P w H h) (e:H a=some (.ins C dx fs)):∃ mA,ObjM h a dx C mA/\(∀ f,RelO (fs.lookup f) (mA f))/\PySem.Within mA (fs.map (·.1))/\fs.length<=1000/\H dx=some (.own a):=by
 obtain⟨d,z,ne,ob,mA,n,r,q⟩:=(show ObjOk P w H h a (.ins C dx fs) from hok a _ e)
 exact⟨mA,⟨ob,n,ne⟩,r,q,z,d⟩
end
structure Cls (K:PySem.W.Frag) (C:Addr):Prop where
 pg:PySem.W.plainGet K C Str.empty=true
 hd:PySem.W.hasDictIn K C=true
 po:PySem.W.plainOver K C=true
 sa:PySem.W.findIn K (.ref C) "__setattr__"=some (some (.builtin "object.__setattr__"))
theorem Cls.get {K:PySem.W.Frag}{C:Addr} (c:Cls K C) (f:Str):PySem.W.plainGet K C f=true:=c.pg
def NoAttr (K:PySem.W.Frag) (C:Addr) (f:Str):Prop:=PySem.W.findIn K (.ref C) f=some none
theorem NoAttr.taker {K:PySem.W.Frag}{C:Addr}{f:Str} (n:NoAttr K C f):PySem.W.takerIn K C f=some none:=by
 unfold PySem.W.takerIn
 rw[show PySem.W.findIn K (.ref C) f=some none from n]
 rfl
section
variable {X:Cx}{pins:List (Addr × Obj)}{σ:St}{H:Hp}{s:Shared}{a C dx:Addr}{fs:List (Str × V)}{f:Str}{v:V}{A:Around}{E:Value->Shared->Prop}
theorem Wc {b:Bool}{Q:Value->Shared->Prop} (I:Inv X pins σ H s) (e:H a=some (.ins C dx fs)) (c:Cls X.K C) (n:NoAttr X.K C f) (l:fs.lookup f=some v)
 (h:∀ u s',Inv X pins σ H s'->RelV v u->Q u s'):wpAny (model X.prog X.w) A (getAttr (.ref a) f b) Q E s:=by
 obtain⟨mA,O,r,_,_,_⟩:=WT I.hok e
 obtain⟨u,hu,ru⟩:=RelO.some_of (v:=v) (o:=mA f) (by rw[<-l];exact r f)
 exact abB I.kIn O (c.get f) c.hd n hu (Ux ru) (h u _ (I.tok _) ru)
theorem Wd {y:V}{u:Value}{Q:Unit->Shared->Prop} (I:Inv X pins σ H s) (e:H a=some (.ins C dx fs)) (c:Cls X.K C) (n:NoAttr X.K C f) (hl:fs.length<1000) (ry:RelV y u)
 (h:∀ s',Inv X pins σ (upd H a (.ins C dx (xE f y fs))) s'->Q () s'):wpAny (model X.prog X.w) A (setAttr (.ref a) f u) Q E s:=by
 obtain⟨mA,O,r,wi,_,ho⟩:=WT I.hok e
 have hz:(fs.map (·.1)).length<=sizeLine:=by rw[List.length_map,sizeLine_eq];omega
 refine abC I.kIn O c.sa c.po n.taker c.hd wi hz fun h' O' sb=>h _ ?_
 have hd:∃ o,h'.get? dx=some o:=let ⟨o,_,_,e',_⟩:=O'.ns;⟨o,e'⟩
 refine I.write (x:=a) (e:=dx) (by rw[e];exact True.intro) (.inr ho) (fun b q hb z=>(sb.2 b hb).trans z) hd ?_
 refine⟨by rw[z8 O.ne];exact ho,?_,O.ne,O'.obj,_,O'.ns,fun g=>?_,fun g hg=>?_⟩
 . have:=QY f y fs;omega
 . show RelO ((xE f y fs).lookup g) (if g=f then some u else mA g)
   rw[QX]
   by_cases q:g=f
   . rw[if_pos q,if_pos q];exact ry
   . rw[if_neg q,if_neg q];exact r g
 . by_cases q:g=f
   . rw[q];exact (Qz f y fs).1
   . refine (Qz f y fs).2 g (wi g fun z=>hg ?_)
     show (if g=f then some u else mA g)=none
     rw[if_neg q];exact z
theorem Inv.made (I:Inv X pins σ H s):Inv X pins σ (upd (upd H s.heap.objs.size (.own (s.heap.objs.size+1))) (s.heap.objs.size+1) (.ins C s.heap.objs.size []))
 { s with heap:=(s.heap.push PySem.W.emptyDict).push (PySem.W.instObj C s.heap.objs.size) }:=by
 have e1:(s.heap.push PySem.W.emptyDict).get? s.heap.objs.size=some PySem.W.emptyDict:=Heap.get?_push_size s.heap rfl
 have e2:((s.heap.push PySem.W.emptyDict).push (PySem.W.instObj C s.heap.objs.size)).get? (s.heap.objs.size+1)=some (PySem.W.instObj C s.heap.objs.size):=by
  have:=Heap.get?_push_size (s.heap.push PySem.W.emptyDict) (o:=PySem.W.instObj C s.heap.objs.size) rfl
  rwa [Heap.size_push] at this
 have e3:(s.heap.push PySem.W.emptyDict).Ns s.heap.objs.size (fun _=>none):=⟨PySem.W.emptyDict,#[],_,e1,rfl,(fun e he=>absurd he (by simp)),fun _=>rfl⟩
 have I1:=I.laid (a:=s.heap.objs.size) (o:=.own (s.heap.objs.size+1)) (h':=s.heap.push PySem.W.emptyDict) (t':=s.toks) (fun b u q=>Heap.get?_push_of_some _ q) (Nat.le_refl _) ⟨_,e1⟩
 refine I1.laid (a:=s.heap.objs.size+1) (o:=.ins C s.heap.objs.size []) (t':=s.toks) (fun b u q=>Heap.get?_push_of_some _ q) (Nat.le_of_eq (Heap.size_push _ _)) ?_
 have ne:s.heap.objs.size≠s.heap.objs.size+1:=Nat.ne_of_lt (Nat.lt_succ_self _)
 refine⟨by rw[z8 ne,z6],Nat.zero_le _,ne,e2,fun _=>none,(Heap.Ns1.of_empty e3).at fun o q=>Heap.get?_push_of_some _ q,fun _=>True.intro,fun y hy=>absurd rfl hy⟩
theorem abD {prog:Program}{w:World}{env:Env}{e:Expr}{f:Str}{pos:Pos}{s:Shared}{Q:Value->Shared->Prop} (hb:attributeBase e f env (eval e env)=eval e env)
 (h:wpAny (model prog w) A (eval e env) (fun o s₁=>wpAny (model prog w) A (getAttr o f true) Q E s₁) E s):wpAny (model prog w) A (eval (.Attribute e f pos) env) Q E s :=
 Attribute_any_ h (by rw[arm_eval_Attribute,hb])
end
def yd (K:PySem.W.Frag) (ta:TE) (f:Str):TE:=fun σ H Q=>ta σ H fun x H1=>∃ a C dx fs v,x=.ref a/\H1 a=some (.ins C dx fs)/\Cls K C/\NoAttr K C f/\fs.lookup f=some v/\Q v H1
def adp (K:PySem.W.Frag) (ta tv:TE) (f:Str):TS:=fun D σ H=>tv σ H fun y H1=>ta σ H1 fun x H2=>∃ a C dx fs,x=.ref a/\H2 a=some (.ins C dx fs)/\Cls K C/\NoAttr K C f/\fs.length<1000 /\
 D.nx σ (upd H2 a (.ins C dx (xE f y fs)))
section
variable {X:Cx}{o e value:Expr}{f:Str}{pos pos' tpos:Pos}{ta tv:TE}
theorem zf (he:PE X e ta) (hb:attributeBase e f X.env (eval e X.env)=eval e X.env):PE X (.Attribute e f pos) (yd X.K ta f):=by
 intro pins s σ H Q I h
 refine abD hb (thn (he pins s σ H _ I h) fun u s1 ⟨x,H1,I1,rx,a,C,dx,fs,v,ex,ea,c,n,l,q⟩=>?_)
 subst ex
 obtain rfl:u=Value.ref a:=rx
 exact Wc I1 ea c n l fun u' s2 I2 ru=>⟨v,H1,I2,ru,q⟩
theorem qE (ha:PE X o ta) (hv:PE X value tv) (hs:swapsWith value (some (.Attribute o f pos')) pos.line X.env=pure false):PS X (.Assign [.Attribute o f pos'] value pos) (adp X.K ta tv f):=by
 intro pins s σ H D I h
 refine plainObj_wpAny_Assign_Attribute (thn (hv pins s σ H _ I h) fun u s1 ⟨y,H1,I1,ry,q⟩=>thn (ha pins s1 σ H1 _ I1 q) fun ov s2 ⟨x,H2,I2,rx,a,C,dx,fs,ex,ea,c,n,l,q2⟩=>?_) hs
 subst ex
 obtain rfl:ov=Value.ref a:=rx
 exact Wd I2 ea c n l ry fun s3 I3=>⟨σ,_,I3,q2⟩
end
end L2
namespace L2
open PySem PySem.Spec PyProof.Rows
structure Room (k:Nat) (A:Around):Prop where
 hd:A.handled=none
 dp:A.depth+3 * k+5<recursionLimit
 un:A.units+16 * k+200<cLine
theorem Room.mono {j k:Nat}{A:Around} (r:Room k A) (h:j<=k):Room j A:=⟨r.hd,by have:=r.dp;omega,by have:=r.un;omega⟩
theorem Room.deeper {k:Nat}{A:Around} (r:Room (k+1) A) (env:Env):Room k (A.deeper env) :=
 ⟨r.hd,by have:=r.dp;show A.depth+1+3 * k+5<_;omega,by have:=r.un;show A.units+3+16 * k+200<_;omega⟩
theorem We {A:Around}{C:Addr}{us:List Value}{kw:List (Str × Value)}:(A.under (.builtin "type.__call__" ⟨.ref C::us,kw⟩)).depth=A.depth+1:=by
 first | rfl | simp[Around.under,Code.weight,Code.isCreation,Code.isGuard,Code.isCaller,Code.frames,Code.isFrame,guardIds]
theorem Wf {A:Around}{C:Addr}{us:List Value}{kw:List (Str × Value)}:(A.under (.builtin "type.__call__" ⟨.ref C::us,kw⟩)).units=A.units+1:=by
 first | rfl | simp[Around.under,Code.cUnits,Code.frames,Code.isFrame]
theorem Room.make {k:Nat}{A:Around} (r:Room (k+1) A) (C:Addr) (us:List Value) (kw:List (Str × Value)):Room k (A.under (.builtin "type.__call__" ⟨.ref C::us,kw⟩)) :=
 ⟨r.hd,by have:=r.dp;rw[We];omega,by have:=r.un;rw[Wf];omega⟩
theorem Room.depth {k:Nat}{A:Around} (r:Room k A):A.depth<recursionLimit:=by have:=r.dp;omega
theorem Room.units {k:Nat}{A:Around} (r:Room k A):A.units+64<cLine:=by have:=r.un;omega
def xF:TA:=fun _ H Q=>Q [] H
def qw (ta:TE) (tr:TA):TA:=fun σ H Q=>ta σ H fun x H1=>tr σ H1 fun xs H2=>Q (x::xs) H2
section
variable {X:Cx}{e:Expr}{es:List Expr}{te:TE}{t:TA}{pos:Pos}
theorem z9:PA X [] xF:=fun _ _ _ _ H Q I h=>Calls.spliced_nil ⟨[],H,I,.nil,h⟩
theorem z4 (ha:PE X e te) (hr:PA X es t) (hs:starEach (e::es) X.env=(false,eval e X.env)::starEach es X.env:=by rfl):PA X (e::es) (qw te t):=by
 intro pos pins s σ H Q I h
 rw[hs]
 show wpAny _ _ (spliced ((false,eval e X.env)::backTo pos (starEach es X.env))) _ _ s
 refine Calls.spliced_cons (thn (ha pins s σ H _ I h) fun u s1 ⟨x,H1,I1,r1,q1⟩=>?_)
 exact thn (hr pos pins s1 σ H1 _ I1 q1) fun us s2 ⟨xs,H2,I2,r2,q2⟩=>⟨x::xs,H2,I2,.cons r1 r2,q2⟩
def ac1 (t:TA):TE:=fun σ H Q=>t σ H fun xs H1=>xs.length<=sizeLine/\∀ p,H1 p=none->Q (.ref p) (upd H1 p (.tup xs))
def ac2 (t:TA):TE:=fun σ H Q=>t σ H fun xs H1=>xs.length<=sizeLine/\∀ p,H1 p=none->Q (.ref p) (upd H1 p (.lst xs))
theorem yH {x1} (h:PA X es t):PE X (.Tuple es x1 pos) (ac1 t):=by
 intro pins s σ H Q I hq
 refine wpAny_Tuple_spliced (thn (h pos pins s σ H _ I hq) fun us s1 ⟨xs,H1,I1,r,z,q⟩=>⟨by rw[<-r.length];exact z,?_⟩)
 have hf:H1 s1.heap.objs.size=none:=I1.hok.fresh (Nat.le_refl _)
 refine⟨.ref s1.heap.objs.size,upd H1 s1.heap.objs.size (.tup xs),I1.laid (t':=s1.toks) (fun b u e=>Heap.get?_push_of_some _ e) (Nat.le_refl _) ?_,rfl,q _ hf⟩
 exact⟨z,us,r,⟨_,Heap.get?_push_size _ rfl,rfl,_,rfl⟩⟩
theorem zX (h:PA X es t):PE X (.List es pos) (ac2 t):=by
 intro pins s σ H Q I hq
 refine wpAny_List_spliced (thn (h pos pins s σ H _ I hq) fun us s1 ⟨xs,H1,I1,r,z,q⟩=>⟨by rw[<-r.length];exact z,?_⟩)
 have hf:H1 s1.heap.objs.size=none:=I1.hok.fresh (Nat.le_refl _)
 refine⟨.ref s1.heap.objs.size,upd H1 s1.heap.objs.size (.lst xs),I1.laid (t':=s1.toks) (fun b u e=>Heap.get?_push_of_some _ e) (Nat.le_refl _) ?_,rfl,q _ hf⟩
 exact⟨z,us,0,r,Heap.get?_push_size _ rfl⟩
end
abbrev Sp:=List V->Hp->VK->XK->Prop
abbrev CXT:=List Env->Hp->Shared->XK->Value->Shared->Prop
structure Env0 (P:Program) (w:World) (K:PySem.W.Frag) (mg:Str->Option Value) (base:Heap) (A:Around) (outer:List Env) (s:Shared) (H:Hp):Prop where
 frames:A.frames=some outer
 mod:Mod K mg base
 bs:∀ b o,base.get? b=some o->s.heap.get? b=some o/\H b=none
 bsz:base.objs.size<=s.heap.objs.size
 funs:s.heap.FunFrames base outer
 frf:∀ b∈frs outer,H b=none
 hok:HOk P w H s.heap
 bare:AllBare s.gens
def CE (outer:List Env) (P:Program) (w:World) (H:Hp) (s:Shared) (Q:VK) (u:Value) (s':Shared):Prop :=
 ∃ v H',s'.os=s.os/\AllBare s'.gens/\Un (frs outer) [] H H' s.heap s'.heap/\HOk P w H' s'.heap/\RelV v u/\Q v H'
def CR (CX:CXT) (outer:List Env) (P:Program) (w:World) (H:Hp) (s:Shared) (Q:VK) (E:XK) (r:Result) (s':Shared):Prop :=
 match r with
 | .ok (.ret u)=>CE outer P w H s Q u s'
 | .ok _=>False
 | .error e=>CX outer H s E e s'
structure zU (P:Program) (w:World) (K:PySem.W.Frag) (mg:Str->Option Value) (base:Heap) (CX:CXT) (k:Nat) (f:Addr) (fd:FuncData) (ps:List Str) (sp:Sp):Prop where
 len:∀ vs H Q E,sp vs H Q E->vs.length=ps.length
 run:∀ (A:Around) (outer:List Env) (s:Shared) (H:Hp) (args:Args) (us:List Value) (vs:List V) (Q:VK) (E:XK),Room k A->Env0 P w K mg base A outer s H->BindsTo s fd args (ps.zip us)->Vals vs us->sp vs H Q E ->
  codeAny (model P w) A (.call (.ref f) args) (CR CX outer P w H s Q E) s
theorem Env0.make {P:Program}{w:World}{K:PySem.W.Frag}{mg:Str->Option Value}{base:Heap}{A:Around}{outer:List Env}{s:Shared}{H:Hp} (e:Env0 P w K mg base A outer s H) (C:Addr) (us:List Value) (kw:List (Str × Value)) :
 Env0 P w K mg base (A.under (.builtin "type.__call__" ⟨.ref C::us,kw⟩)) outer s H:=⟨by first | exact e.frames | (simpa [Around.under,Code.envs,Code.isFrame,pushEnvs] using e.frames),e.mod,e.bs,e.bsz,e.funs,e.frf,e.hok,e.bare⟩
section
variable {X:Cx}{pins:List (Addr × Obj)}{σ:St}{H:Hp}{s s':Shared}
theorem Inv.env0 (I:Inv X pins σ H s):Env0 X.prog X.w X.K X.mg X.base X.A X.stack s H :=
 ⟨I.ok.frames,I.ok.mod,I.bs,Nat.le_trans I.ok.bsz I.sz,I.stack,I.stkFree,I.hok,I.bare⟩
theorem Inv.after {Q:VK}{u:Value} (I:Inv X pins σ H s) (h:CE X.stack X.prog X.w H s Q u s'):EP X pins σ Q u s':=by
 obtain⟨v,H',os,bare,un,hok,r,q⟩:=h
 obtain⟨hh,g,d,t,os'⟩:=s'
 obtain rfl:os'=s.os:=os
 exact⟨v,H',I.call (h':=hh) (g':=g) (d':=d) (t':=t) (ch:=[]) un hok bare (fun b z=>absurd z (by simp)),r,q⟩
end
def WU (sp:Sp) (dvs:List V) (E:XK) (t:TA):TE:=fun σ H Q=>t σ H fun vs H1=>sp (vs++dvs) H1 Q E
def wk (C:Addr) (sp:Sp) (dvs:List V) (E:XK) (t:TA):TE:=fun σ H Q=>t σ H fun vs H1=>∀ x dx,H1 x=none->H1 dx=none->dx≠x ->
 sp (.ref x::(vs++dvs)) (upd (upd H1 dx (.own x)) x (.ins C dx [])) (fun v H2=>v=.non/\Q (.ref x) H2) E
def Binds (K:PySem.W.Frag) (fd:FuncData) (ps:List Str) (ds:List Value):Prop :=
 ∀ (s:Shared) (us:List Value),K.In s.heap->(us++ds).length=ps.length->BindsTo s fd ⟨us,[]⟩ (ps.zip (us++ds))
theorem Binds.all {K:PySem.W.Frag}{fd:FuncData}{ps:List Str} (h:∀ us:List Value,us.length=ps.length->bindArgs fd ⟨us,[]⟩=pure (ps.zip us)):Binds K fd ps []:=fun s us _ hl=>by
 rw[List.append_nil] at hl ⊢
 exact .of_eq (h us hl)
def QA (CX:CXT) (X:Cx) (E:XK):Prop:=∀ (pins:List (Addr × Obj)) (σ:St) (H:Hp) (s:Shared) (e:Value) (s':Shared),Inv X pins σ H s->CX X.stack H s E e s'->X.xe e s'
section
variable {X:Cx}{CX:CXT}{k:Nat}{f C:Addr}{fd:FuncData}{ps:List Str}{sp:Sp}{dvs:List V}{ds:List Value}{E:XK}{x m:Str}{p pos apos:Pos}{e o:Expr}{es:List Expr}{ta:TE}{t:TA}
theorem acn {pins:List (Addr × Obj)}{σ:St}{H:Hp}{s:Shared}{Q:VK}{us:List Value}{vs:List V} (F:zU X.prog X.w X.K X.mg X.base CX k f fd ps sp) (hr:Room k X.A) (hb:Binds X.K fd ps ds) (hd:Vals dvs ds) (hx:QA CX X E)
 (I:Inv X pins σ H s) (r:Vals vs us) (h:sp (vs++dvs) H Q E):wpAny (model X.prog X.w) X.A (call (.ref f) us) (EP X pins σ Q) X.xe s:=by
 have r2:Vals (vs++dvs) (us++ds):=r.append hd
 have hl:(us++ds).length=ps.length:=by rw[<-r2.length];exact F.len _ _ _ _ h
 refine wpAny_call (codeAny_mono (F.run X.A X.stack s H ⟨us,[]⟩ (us++ds) (vs++dvs) Q E hr I.env0 (hb s us I.kIn hl) r2 h) fun r s' hq=>?_)
 cases r with
 | error e=>exact hx pins σ H s e s' I hq
 | ok fl =>
  cases fl with
  | ret u=>exact I.after hq
  | next=>exact False.elim hq
  | brk=>exact False.elim hq
  | cont=>exact False.elim hq
theorem abE (F:zU X.prog X.w X.K X.mg X.base CX k f fd ps sp) (hr:Room k X.A) (hg:Gl X x) (hm:X.mg x=some (.ref f)) (hk:PySem.W.keepIn X.K (.ref f)=true) (hb:Binds X.K fd ps ds) (hd:Vals dvs ds) (hx:QA CX X E)
 (ha:PA X (e::es) t) (hdb:(x == ("__debug__":Str))=false:=by decide) (he:starEach (e::es) X.env=(false,eval e X.env)::starEach es X.env:=by rfl) (hpl:(backTo pos (starEach es X.env)).any (·.1)=false:=by rfl) :
 PE X (.Call (.Name x p) (e::es) [] pos) (WU sp dvs E t):=by
 intro pins s σ H Q I h
 refine wpAny_Call_Name_kw (JF I hg hm ?_ hdb)
 refine PySem.W.callWith_K (h₀:=X.base) I.ok.mod.kin hk (thn (ha pos pins s σ H _ I h) fun us s1 ⟨vs,H1,I1,r,q⟩=>⟨I1.kIn,?_⟩) he hpl
 exact acn F hr hb hd hx I1 r q
structure Mk (K:PySem.W.Frag) (C f:Addr):Prop where
 makes:PySem.W.makesIn K C=true
 init:PySem.W.findIn K (.ref C) "__init__"=some (some (.ref f))
 fn:PySem.W.isFn K (.ref f)=true
 kp:PySem.W.keepIn K (.ref C)=true
theorem Xa {pins:List (Addr × Obj)}{σ:St}{H:Hp}{s:Shared}{Q:VK}{us:List Value}{vs:List V} (M:Mk X.K C f) (F:zU X.prog X.w X.K X.mg X.base CX k f fd ps sp) (hr:Room (k+1) X.A) (hb:Binds X.K fd ps ds) (hd:Vals dvs ds)
 (hx:QA CX X E) (I:Inv X pins σ H s) (r:Vals vs us)
 (h:∀ x dx,H x=none->H dx=none->dx≠x->sp (.ref x::(vs++dvs)) (upd (upd H dx (.own x)) x (.ins C dx [])) (fun v H2=>v=.non/\Q (.ref x) H2) E) :
 wpAny (model X.prog X.w) X.A (call (.ref C) us) (EP X pins σ Q) X.xe s:=by
 have hq:=h (s.heap.objs.size+1) s.heap.objs.size (I.hok.fresh (Nat.le_succ _)) (I.hok.fresh (Nat.le_refl _)) (Nat.ne_of_lt (Nat.lt_succ_self _))
 have I2:=Inv.made (C:=C) I
 have r2:Vals (V.ref (s.heap.objs.size+1)::(vs++dvs)) (Value.ref (s.heap.objs.size+1)::(us++ds)):=.cons rfl (r.append hd)
 have hl:(Value.ref (s.heap.objs.size+1)::us++ds).length=ps.length:=by
  have e:=r2.length
  rw[F.len _ _ _ _ hq] at e
  exact e.symm
 refine wpAny_call (aaG (f:=f) I.kIn M.makes M.init (beq_iff_eq.mp M.fn) (codeAny_mono (F.run _ X.stack _ _ ⟨Value.ref (s.heap.objs.size+1)::us,[]⟩ (Value.ref (s.heap.objs.size+1)::(us++ds)) _ _ E (hr.make C us [])
  (I2.env0.make C us []) (hb _ (Value.ref (s.heap.objs.size+1)::us) I2.kIn hl) r2 hq) fun r s' hq'=>?_))
 cases r with
 | error e=>exact hx pins σ _ _ e s' I2 hq'
 | ok fl =>
  cases fl with
  | ret u =>
   obtain⟨v,H',I3,rv,ev,q3⟩:=I2.after hq'
   subst ev
   exact⟨rv,⟨V.ref (s.heap.objs.size+1),H',I3,rfl,q3⟩⟩
  | next=>exact False.elim hq'
  | brk=>exact False.elim hq'
  | cont=>exact False.elim hq'
theorem abF (M:Mk X.K C f) (F:zU X.prog X.w X.K X.mg X.base CX k f fd ps sp) (hr:Room (k+1) X.A) (hg:Gl X x) (hm:X.mg x=some (.ref C)) (hb:Binds X.K fd ps ds) (hd:Vals dvs ds) (hx:QA CX X E)
 (ha:PA X (e::es) t) (hdb:(x == ("__debug__":Str))=false:=by decide) (he:starEach (e::es) X.env=(false,eval e X.env)::starEach es X.env:=by rfl) (hpl:(backTo pos (starEach es X.env)).any (·.1)=false:=by rfl) :
 PE X (.Call (.Name x p) (e::es) [] pos) (wk C sp dvs E t):=by
 intro pins s σ H Q I h
 refine wpAny_Call_Name_kw (JF I hg hm ?_ hdb)
 refine PySem.W.callWith_K (h₀:=X.base) I.ok.mod.kin M.kp (thn (ha pos pins s σ H _ I h) fun us s1 ⟨vs,H1,I1,r,q⟩=>⟨I1.kIn,?_⟩) he hpl
 exact Xa M F hr hb hd hx I1 r q
theorem aaH (M:Mk X.K C f) (F:zU X.prog X.w X.K X.mg X.base CX k f fd ps sp) (hr:Room (k+1) X.A) (hg:Gl X x) (hm:X.mg x=some (.ref C)) (hb:Binds X.K fd ps ds) (hd:Vals dvs ds) (hx:QA CX X E)
 (hdb:(x == ("__debug__":Str))=false:=by decide):PE X (.Call (.Name x p) [] [] pos) (wk C sp dvs E xF):=by
 intro pins s σ H Q I h
 refine wpAny_Call_Name_kw (JF I hg hm ?_ hdb)
 exact PySem.W.callWith_K0 I.kIn M.kp (Xa (us:=[]) M F hr hb hd hx I .nil h)
end
section
variable {X:Cx}{CX:CXT}{k:Nat}{f C:Addr}{fd:FuncData}{ps ks:List Str}{sp:Sp}{E:XK}{x m:Str}{p pos apos kpos:Pos}{e o:Expr}{es:List Expr}{kws:List Keyword}{te ta:TE}{t tk:TA}{nm:Option Str}
variable {g:List Value->List Value->List Value}{gV:List V->List V->List V}
end
structure zu (N P:List Str) (sc:Scope):Prop where
 kind:sc.kind=.function
 co:sc.isCoroutine=false
 gen:sc.isGenerator=false
 nd:N.Nodup
 pre:N.take P.length=P
 par:∀ x∈P,sc.names.lookup x=some .local∨sc.names.lookup x=some .cell
 nofree:∀ y∈sc.names,y.2≠.free
theorem Vp {kindOf:Str->Option NameKind}{x:Str}:∀ {binds:List (Str × Value)}{m:Str->Option Value},(∀ v,(x,v) ∉ binds)->bindL kindOf binds m x=m x
 | [],_,_=>rfl
 | (n,v)::r,m,h=>by
  unfold bindL
  rw[Vp fun w hw=>h w (List.mem_cons_of_mem _ hw)]
  split
  . have:x≠n:=by rintro rfl;exact h v List.mem_cons_self
    simp[this]
  . rfl
theorem Vq {kindOf:Str->Option NameKind}{x:Str}:∀ {binds:List (Str × Value)}{m:Str->Option Value},(∀ v,(x,v) ∉ binds)->bindC kindOf binds m x=m x
 | [],_,_=>rfl
 | (n,v)::r,m,h=>by
  unfold bindC
  rw[Vq fun w hw=>h w (List.mem_cons_of_mem _ hw)]
  split
  . rfl
  . have:x≠n:=by rintro rfl;exact h v List.mem_cons_self
    simp[this]
theorem Vr {kindOf:Str->Option NameKind}{x:Str}{v:Value}:∀ {P:List Str}{vs:List Value}{i:Nat}{m:Str->Option Value},P.Nodup->P[i]?=some x->vs[i]?=some v->kindOf x=some .local ->
 bindL kindOf (P.zip vs) m x=some v
 | [],_,_,_,_,h,_,_=>by simp at h
 | _::_,[],_,_,_,_,h,_=>by simp at h
 | p::P,w::vs,0,m,nd,h1,h2,hk=>by
  simp at h1 h2;subst h1;subst h2
  show bindL kindOf ((p,w)::P.zip vs) m p=_
  unfold bindL
  rw[Vp fun v hv=>(List.nodup_cons.mp nd).1 (List.of_mem_zip hv).1,if_pos hk]
  simp
 | p::P,w::vs,i+1,m,nd,h1,h2,hk=>by
  show bindL kindOf ((p,w)::P.zip vs) m x=_
  unfold bindL
  exact Vr (i:=i) (List.nodup_cons.mp nd).2 (by simpa using h1) (by simpa using h2) hk
theorem Vs {kindOf:Str->Option NameKind}{x:Str}{v:Value}:∀ {P:List Str}{vs:List Value}{i:Nat}{m:Str->Option Value},P.Nodup->P[i]?=some x->vs[i]?=some v->kindOf x≠some .local ->
 bindC kindOf (P.zip vs) m x=some v
 | [],_,_,_,_,h,_,_=>by simp at h
 | _::_,[],_,_,_,_,h,_=>by simp at h
 | p::P,w::vs,0,m,nd,h1,h2,hk=>by
  simp at h1 h2;subst h1;subst h2
  show bindC kindOf ((p,w)::P.zip vs) m p=_
  unfold bindC
  rw[Vq fun v hv=>(List.nodup_cons.mp nd).1 (List.of_mem_zip hv).1,if_neg hk]
  simp
 | p::P,w::vs,i+1,m,nd,h1,h2,hk=>by
  show bindC kindOf ((p,w)::P.zip vs) m x=_
  unfold bindC
  exact Vs (i:=i) (List.nodup_cons.mp nd).2 (by simpa using h1) (by simpa using h2) hk
def start (N:List Str) (vs:List V):St:=vs.map some++List.replicate (N.length - vs.length) none
def Uy (CX:CXT) (P:Program) (w:World) (K:PySem.W.Frag) (mg:Str->Option Value) (base:Heap) (N:List Str) (qual:Str) (scope:Scope) (f:Addr) (cd:Value) (A:Around) (outer:List Env) (s:Shared) (H:Hp) (E:XK):Cx where
 prog:=P
 w:=w
 K:=K
 mg:=mg
 base:=base
 A:=A.deeper (envOfC qual scope s.heap.objs.size f cd)
 N:=N
 s_0:=s
 H_0:=H
 env:=envOfC qual scope s.heap.objs.size f cd
 outer:=outer
 stack:=envOfC qual scope s.heap.objs.size f cd::outer
 ex:=[]
 calm:=true
 fn:=fun _=>true
 pn:=[]
 xe:=fun e s'=>wpAny (model P w) (A.deeper (envOfC qual scope s.heap.objs.size f cd)) (leaving (envOfC qual scope s.heap.objs.size f cd) e) (fun _ s''=>CX outer H s E e s'') (fun e' s''=>CX outer H s E e' s'') s'
theorem Xb {sc:Scope}{n:Nat}{x:Str} (h:sc.names.lookup x=some .cell):∃ c,(cellsFrom n sc.names []).lookup x=some c:=by
 have q:=PySem.W.cellsFrom_some sc.names n [] (.inl h)
 exact Option.isSome_iff_exists.mp q
theorem Uz {CX:CXT}{P:Program}{w:World}{K:PySem.W.Frag}{mg:Str->Option Value}{base:Heap}{N ps:List Str}{qual:Str}{scope:Scope}{f:Addr}{cd:Value}{A:Around}{outer:List Env}{s s1:Shared}{H:Hp}{E:XK}{us:List Value}{vs:List V}
 (S:zu N ps scope) (hd:A.handled=none) (e0:Env0 P w K mg base A outer s H) (hl:vs.length=ps.length) (r:Vals vs us)
 (x:InCallC s s.heap.objs.size (bindL (envOfC qual scope s.heap.objs.size f cd).kindOf (ps.zip us) fun _=>none) (cellsFrom (s.heap.objs.size+1) scope.names []) (bindC (envOfC qual scope s.heap.objs.size f cd).kindOf (ps.zip us) fun _=>none) s1) :
 Inv (Uy CX P w K mg base N qual scope f cd A outer s H E) [] (start N vs) H s1:=by
 have hpl:ps.length<=N.length:=by have:=congrArg List.length S.pre;rw[List.length_take] at this;omega
 obtain⟨h1,tk,rfl,hk⟩:=x.done
 have noA:∀ b:Addr,b ∉ (Uy CX P w K mg base N qual scope f cd A outer s H E).ex:=fun b z=>absurd (show b∈([]:List Addr) from z) (by simp)
 refine⟨⟨e0.mod,S.kind,rfl,rfl,Nat.le_refl _,fun y z c h1 h2=>?_,fun y hy=>?_,fun y c _ h=>?_,fun _=>hd,Around.frames_deeper e0.frames,.inr ⟨rfl,rfl⟩,fun b z=>absurd z (noA b),e0.bs,e0.bsz,fun b _ _=>noA b,fun b z=>absurd z (noA b),e0.funs,e0.frf⟩,
  rfl,e0.bare,Un.kept hk,⟨_,x.toInCall.ns,fun i y v h1 h2 h3=>?_⟩,fun y c h=>⟨_,x.cell y c h⟩,e0.hok.fresh (Nat.le_refl _),fun y c h=>?_,fun p hp=>absurd (show p∈([]:List (Addr × Obj)) from hp) (by simp),e0.hok.kept hk,?_⟩
 . exact name_of_addr x.apart (PySem.mem_of_lookup h1) (PySem.mem_of_lookup h2)
 . have hy:scope.names.lookup y=some .cell∨scope.names.lookup y=some .free:=hy
   rcases hy with hy | hy
   . exact Xb hy
   . exact absurd rfl (S.nofree _ (PySem.mem_of_lookup hy))
 . exact Nat.le_of_lt (x.above y c (PySem.mem_of_lookup h))
 . have hi:i<vs.length:=by
    unfold start at h2
    by_cases hi:i<vs.length
    . exact hi
    . rw[List.getElem?_append_right (by simpa using hi)] at h2
      rw[List.getElem?_replicate] at h2
      split at h2 <;> cases h2
   have ha:vs[i]?=some v:=by
    unfold start at h2
    rw[List.getElem?_append_left (by simpa using hi),List.getElem?_map] at h2
    cases e:vs[i]? with
    | none=>rw[e] at h2;cases h2
    | some a=>rw[e] at h2;cases h2;rfl
   obtain⟨u,hu,rv⟩:=r.get ha
   have hp:ps[i]?=some y:=by
    rw[<-S.pre,List.getElem?_take_of_lt (by omega)];exact h1
   have ndP:ps.Nodup:=by rw[<-S.pre];exact S.nd.sublist (List.take_sublist _ _)
   refine⟨u,rv,?_⟩
   rcases S.par y (List.mem_of_getElem? hp) with k | k
   . exact .inl ⟨k,Vr ndP hp hu k⟩
   . obtain⟨c,e⟩:=Xb (n:=s.heap.objs.size+1) k
     refine .inr ⟨.inl k,c,e,?_⟩
     have q:=x.cell y c e
     rw[Vs ndP hp hu (by show scope.names.lookup y≠_;rw[k];decide)] at q
     exact q
 . exact e0.hok.fresh (Nat.le_of_lt (x.above y c (PySem.mem_of_lookup h)))
 . unfold start
   show _=N.length
   rw[List.length_append,List.length_map,List.length_replicate]
   omega
theorem ac3 {CX:CXT}{P:Program}{w:World}{K:PySem.W.Frag}{mg:Str->Option Value}{base:Heap}{k:Nat}{f:Addr}{name qual:Str}{params:Arguments}{body:List Stmt}{scope:Scope}{dV kV doc pm cdv ct oc:Value}{an od:Option Addr}
 {osl:Array (Option Value)}{N ps:List Str}{sp:Sp} (lk:K.lookup f=some ⟨oc,od,.func (PySem.W.fnOf name qual params body scope dV kV doc pm an cdv ct),osl⟩) (hcd:PySem.W.codeIn K cdv qual=true) (S:zu N ps scope)
 (len:∀ vs H Q E,sp vs H Q E->vs.length=ps.length)
 (hbody:∀ (A:Around) (outer:List Env) (s:Shared) (H:Hp) (vs:List V) (Q:VK) (E:XK),Room k (A.deeper (envOfC qual scope s.heap.objs.size f cdv))->sp vs H Q E ->
  ∃ t,PSs (Uy CX P w K mg base N qual scope f cdv A outer s H E) body t/\t { nx:=fun _ H'=>Q .non H',rt:=Q } (start N vs) H) :
 zU P w K mg base CX (k+1) f (PySem.W.fnOf name qual params body scope dV kV doc pm an cdv ct) ps sp:=by
 refine⟨len,fun A outer s H args us vs Q E hr e0 hb r hsp=>?_⟩
 have hl:=len _ _ _ _ hsp
 have KX:K.In s.heap:=e0.mod.kin.keeps fun b o e=>(e0.bs b o e).1
 have lim:s.heap.NoLimit:=e0.mod.nolimit.keeps fun b o e=>(e0.bs b o e).1
 have hkind:∀ y∈ps.zip us,scope.names.lookup y.1=some .local∨(scope.names.lookup y.1=some .cell/\((cellsFrom (s.heap.objs.size+1) scope.names []).lookup y.1).isSome=true):=fun⟨n,v⟩ hy=>by
  rcases S.par n (List.of_mem_zip hy).1 with q | q
  . exact .inl q
  . exact .inr ⟨q,PySem.W.cellsFrom_some _ _ _ (.inl q)⟩
 refine codeAny_call_function hr.depth (KX _ _ lk) rfl S.co S.gen rfl (PySem.W.codeRec_of KX hcd) (hb _ _ _ _ ?_)
 refine wpAny_newFunctionEnv_cells S.kind hkind fun env he s1 x=>?_
 subst he
 refine⟨lim.keeps x.toInCall.keep,codeAny_func ?_⟩
 obtain⟨t,ht,hq⟩:=hbody A outer s H vs Q E (hr.deeper _) hsp
 have I:Inv (Uy CX P w K mg base N qual scope f cdv A outer s H E) [] (start N vs) H s1:=Uz S hr.hd e0 hl r x
 refine wpAny_mono (ht [] s1 (start N vs) H _ I hq) (fun fl s' hs=>?_) fun e s' hs=>hs
 have fin:∀ {σ':St}{H':Hp}{v:V}{u:Value},Inv (Uy CX P w K mg base N qual scope f cdv A outer s H E) [] σ' H' s'->RelV v u->Q v H'->CE outer P w H s Q u s' :=
  fun {σ' H' v u} J rv q=>⟨v,H',J.os,J.bare,J.base,J.hok,rv,q⟩
 cases fl with
 | ret u =>
  obtain⟨v,σ',H',J,rv,q⟩:=hs
  exact fin J rv q
 | next =>
  obtain⟨σ',H',J,q⟩:=hs
  exact fin (v:=V.non) (u:=Value.none) J rfl q
 | brk =>
  obtain⟨_,_,_,q⟩:=hs
  exact False.elim q
 | cont =>
  obtain⟨_,_,_,q⟩:=hs
  exact False.elim q
end L2
namespace L2
open PySem PySem.Spec PyProof.Rows
section
variable {X:Cx}{x:Str}{p pos:Pos}{e:Expr}{es:List Expr}{t:TA}{id T:String}{r:List V->Hp->VK->Prop}
def tCB (r:List V->Hp->VK->Prop) (t:TA):TE:=fun σ H Q=>t σ H fun vs H1=>r vs H1 Q
theorem zP (hc:ZE X (.builtin id) r) (hg:Gl X x) (hm:X.mg x=none) (hv:bootBuiltins x=some (.builtin id)) (ha:PA X (e::es) t) (hn:x≠"__name__":=by decide) (hdb:(x == ("__debug__":Str))=false:=by decide)
 (he:starEach (e::es) X.env=(false,eval e X.env)::starEach es X.env:=by rfl) (hpl:(backTo pos (starEach es X.env)).any (·.1)=false:=by rfl):PE X (.Call (.Name x p) (e::es) [] pos) (tCB r t):=by
 intro pins s σ H Q I h
 refine wpAny_Call_Name_kw (wN I hg hm hv ?_ hn hdb)
 exact PyProof.Rows.callWith_builtin1 (thn (ha pos pins s σ H _ I h) fun us s1 ⟨vs,H1,I1,r1,q1⟩=>hc pins s1 σ H1 vs us Q I1 r1 q1) he hpl
theorem Vt (hc:ZE X (.type T) r) (hg:Gl X x) (hm:X.mg x=none) (hv:bootBuiltins x=some (.type T)) (ha:PA X (e::es) t) (hn:x≠"__name__":=by decide) (hdb:(x == ("__debug__":Str))=false:=by decide)
 (he:starEach (e::es) X.env=(false,eval e X.env)::starEach es X.env:=by rfl) (hpl:(backTo pos (starEach es X.env)).any (·.1)=false:=by rfl):PE X (.Call (.Name x p) (e::es) [] pos) (tCB r t):=by
 intro pins s σ H Q I h
 refine wpAny_Call_Name_kw (wN I hg hm hv ?_ hn hdb)
 exact PyProof.Rows.callWith_type1 (thn (ha pos pins s σ H _ I h) fun us s1 ⟨vs,H1,I1,r1,q1⟩=>hc pins s1 σ H1 vs us Q I1 r1 q1) he hpl
end
end L2
namespace HT
open PySem PyProof.Rows
section
open PySem.SeqAt
open PySem.AutoSeq1 (wpAny_loadPart')
open PySem.MeetsSeq PySem.MeetsSeq2 PySem.MeetsSeq3
end
section
variable {prog:Program}{w:World}{A:Around}{E:Value->Shared->Prop}{s:Shared}
def sIx (n d:Nat):Option Int->Nat
 | none=>d
 | some v=>if v<0 then (v+(n:Int)).toNat else min v.toNat n
theorem sIx_none (n d:Nat):sIx n d none=d:=rfl
theorem sIx_nat (n d k:Nat):sIx n d (some (k:Int))=min k n:=by
 show (if (k:Int)<0 then ((k:Int)+(n:Int)).toNat else min (k:Int).toNat n)=min k n
 rw[if_neg (by omega),Int.toNat_natCast]
end
end HT
namespace L2
open PySem PySem.Spec PyProof.Rows
abbrev TO:=St->Hp->(Option Int->Hp->Prop)->Prop
def PO (X:Cx) (e:Option Expr) (t:TO):Prop :=
 ∀ (pins:List (Addr × Obj)) (s:Shared) (σ:St) (H:Hp) (Q:Option Int->Hp->Prop),Inv X pins σ H s->t σ H Q ->
  wpAny (model X.prog X.w) X.A (evalPart e X.env) (fun u s'=>∃ o H',Inv X pins σ H' s'/\IsPart u o/\Q o H') X.xe s
def abG:TO:=fun _ H Q=>Q none H
def ac4 (t:TE):TO:=fun σ H Q=>t σ H fun x H1=>∃ i,x=.int i/\Q (some i) H1
section
variable {X:Cx}{e:Expr}{te:TE}{lo hi:Option Expr}{tl th:TO}{pos p2:Pos}
theorem Y5:PO X none abG:=by
 intro pins s σ H Q I h
 rw[evalPart_none]
 exact wpAny_pure ⟨none,H,I,.none,h⟩
theorem jS (h:PE X e te):PO X (some e) (ac4 te):=by
 intro pins s σ H Q I hw
 rw[evalPart_some]
 refine thn (h pins s σ H _ I hw) fun u s1 ⟨x,H1,I1,r1,q1⟩=>?_
 obtain⟨i,rfl,q⟩:=q1
 obtain⟨t,rfl⟩:=r1
 exact⟨some i,H1,I1,.int i t,q⟩
def SlR (X:Cx) (r:V->Option Int->Option Int->Hp->VK->Prop):Prop :=
 ∀ (pins:List (Addr × Obj)) (s:Shared) (σ:St) (H:Hp) (x:V) (v vl vu:Value) (lo hi:Option Int) (sl:Addr) (Q:VK),Inv X pins σ H s->RelV x v->s.heap.IsSliceOf sl vl vu .none->IsPart vl lo->IsPart vu hi->r x lo hi H Q ->
  ∃ T id,typeLookup (.type T) "__getitem__"=pure (some (.builtin id))/\s.TypeIs v T/\wpAny (model X.prog X.w) X.A (getItem v (.ref sl)) (EP X pins σ Q) X.xe s
def tSl (r:V->Option Int->Option Int->Hp->VK->Prop) (te:TE) (tl th:TO):TE:=fun σ H Q=>te σ H fun x H1=>tl σ H1 fun l H2=>th σ H2 fun u H3=>r x l u H3 Q
theorem vK {r:V->Option Int->Option Int->Hp->VK->Prop} (hr:SlR X r) (he:PE X e te) (hl:PO X lo tl) (hu:PO X hi th):PE X (.Subscript e (.Slice lo hi none p2) pos) (tSl r te tl th):=by
 intro pins s σ H Q I h
 refine Subscript_ (thn (he pins s σ H _ I h) fun v s1 ⟨x,H1,I1,r1,q1⟩=>?_)
 refine wpAny_Slice (thn (hl pins s1 σ H1 _ I1 q1) fun vl s2 ⟨l,H2,I2,pl,q2⟩=>thn (hu pins s2 σ H2 _ I2 q2) fun vu s3 ⟨u,H3,I3,pu,q3⟩=>?_)
 rw[evalPart_none]
 refine wpAny_pure ?_
 have I4:Inv X pins σ H3 { s3 with heap:=s3.heap.push { cls:=.type "slice",data:=.fields #[vl,vu,.none] } }:=I3.kept (t':=s3.toks) fun b ob q=>Heap.get?_push_of_some _ q
 obtain⟨T,id,hT,ht,hg⟩:=hr pins { s3 with heap:=s3.heap.push { cls:=.type "slice",data:=.fields #[vl,vu,.none] } } σ H3 x v vl vu l u s3.heap.objs.size Q I4 r1 (Heap.IsSliceOf.new ..) pl pu q3
 show wpAny (model X.prog X.w) X.A (subscriptTail e (.Slice lo hi none p2) v (.ref s3.heap.objs.size)) (EP X pins σ Q) X.xe { s3 with heap:=s3.heap.push { cls:=.type "slice",data:=.fields #[vl,vu,.none] } }
 exact tail_any (ops:=[.ref s3.heap.objs.size,v]) ht hT hg (by with_unfolding_all rfl)
def uz (xs:List V) (lo hi:Option Int):List V:=(xs.drop (HT.sIx xs.length 0 lo)).take (HT.sIx xs.length xs.length hi - HT.sIx xs.length 0 lo)
theorem Xc (xs:List V) (lo hi:Option Int):(uz xs lo hi).length<=xs.length:=by
 unfold uz
 rw[List.length_take,List.length_drop]
 omega
end
end L2
namespace L2
open PySem PySem.Spec PyProof.Rows
def ixN (n:Nat) (i:Int):Option Nat:=if 0<=i then (if i<n then some i.toNat else none) else if -(n:Int)<=i then some (i+n).toNat else none
def atI {α:Type} (xs:List α) (i:Int):Option α:=(ixN xs.length i).bind fun j=>xs[j]?
theorem Y6 {n:Nat}{i:Int}{j:Nat} (h:ixN n i=some j):seqIndex? i n=some j/\j<n/\-(n:Int)<=i/\i<n:=by
 unfold ixN at h
 by_cases h0:0<=i
 . rw[if_pos h0] at h
   by_cases h1:i<n
   . rw[if_pos h1] at h
     have e:i.toNat=j:=Option.some.inj h
     exact⟨by rw[seqIndex_of h0 h1,e],by omega,by omega,h1⟩
   . rw[if_neg h1] at h;cases h
 . rw[if_neg h0] at h
   by_cases h1:-(n:Int)<=i
   . rw[if_pos h1] at h
     have e:(i+n).toNat=j:=Option.some.inj h
     exact⟨by rw[seqIndex_neg (by omega) h1,e],by omega,h1,by omega⟩
   . rw[if_neg h1] at h;cases h
theorem WV {α:Type}{xs:List α}{i:Int}{v:α} (h:atI xs i=some v):∃ j,seqIndex? i xs.length=some j/\xs[j]?=some v/\j<xs.length/\-(xs.length:Int)<=i/\i<xs.length:=by
 unfold atI at h
 cases e:ixN xs.length i with
 | none=>rw[e] at h;cases h
 | some j =>
  rw[e] at h
  obtain⟨h1,h2,h3,h4⟩:=Y6 e
  exact⟨j,h1,h,h2,h3,h4⟩
theorem zV {α:Type}{xs:List α}{j:Nat}{v:α} (h:xs[j]?=some v):atI xs (j:Int)=some v:=by
 have hj:j<xs.length:=(List.getElem?_eq_some_iff.mp h).1
 have e:ixN xs.length (j:Int)=some j:=by
  unfold ixN
  rw[if_pos (by omega),if_pos (by omega)];simp
 unfold atI;rw[e];exact h
theorem aaI {α:Type} (xs:List α) (v:α):atI (xs++[v]) (-1)=some v:=by
 have hl:(xs++[v]).length=xs.length+1:=by simp
 have e:ixN (xs++[v]).length (-1)=some xs.length:=by
  unfold ixN
  rw[hl,if_neg (by decide),if_pos (by omega)]
  congr 1
  omega
 unfold atI
 rw[e]
 show (xs++[v])[xs.length]?=some v
 simp
def abH (b:Expr):Prop:=∀ o i,subscripted b false o i=operate [o,i] (getItem o i)
def IxR (X:Cx) (r:R2):Prop :=
 ∀ (value slice:Expr) (pins:List (Addr × Obj)) (s:Shared) (σ:St) (H:Hp) (x y:V) (v u:Value) (Q:VK),Inv X pins σ H s->RelV x v->RelV y u->r x y H Q ->
  subscripted slice false v u=operate [v,u] (getItem v u)->wpAny (model X.prog X.w) X.A (subscriptTail value slice v u) (EP X pins σ Q) X.xe s
def MtR (X:Cx) (id:String) (r:V->List V->Hp->VK->Prop):Prop :=
 ∀ (pins:List (Addr × Obj)) (s:Shared) (σ:St) (H:Hp) (x:V) (xs:List V) (v:Value) (us:List Value) (Q:VK),Inv X pins σ H s->RelV x v->Vals xs us->r x xs H Q ->
  wpAny (model X.prog X.w) X.A (call (.builtin id) (v::us)) (EP X pins σ Q) X.xe s
section
variable {X:Cx}{a b:Expr}{ta tb:TE}{pos:Pos}
theorem qk {r:R2} (hr:IxR X r) (ha:PE X a ta) (hb:PE X b tb) (hs:abH b):PE X (.Subscript a b pos) (tOp r ta tb):=by
 intro pins s σ H Q I h
 exact Subscript_ (ack ha hb I h fun v u s2 x y H2 I2 rx ry q=>hr a b pins s2 σ H2 x y v u Q I2 rx ry q (hs _ _))
def adq (K:PySem.W.Frag):R2:=fun x y H Q=>∃ p xs i v,x=.ref p/\y=.int i/\SqL K H p xs/\atI xs i=some v/\Q v H
def adr (K:PySem.W.Frag):R2:=fun x y H Q=>∃ p xs i v,x=.ref p/\y=.int i/\SqT K H p xs/\atI xs i=some v/\Q v H
theorem qb:IxR X (adq X.K):=by
 intro value slice pins s σ H x y v u Q I rx ry h hs
 obtain⟨p,xs,i,z,rfl,rfl,hq,he,q⟩:=h
 cases rx
 obtain⟨t,rfl⟩:=ry
 obtain⟨its,r,pl,hz⟩:=I.list hq
 obtain⟨j,h1,h2,h3,h4,h5⟩:=WV he
 obtain⟨w,ew,rw'⟩:=r.get h2
 have hl:=r.length
 have hn:=Y4
 have fin:EP X pins σ Q w s:=⟨z,H,I,rw',q⟩
 by_cases h0:0<=i
 . have hj:i.toNat=j:=by
    rw[seqIndex_of h0 h5] at h1
    exact Option.some.inj h1
   exact item_listR pl.isList h0 (by omega) (by rw[hj];simpa using ew) fin hs
 . have hj:(i+(its.toArray.size:Int)).toNat=j:=by
    rw[seqIndex_neg (by omega) h4] at h1
    rw[List.size_toArray,<-hl]
    exact Option.some.inj h1
   exact subscriptTail_builtinR (x:=w) pl.isList.typeIs slot_list_getitem.lookup
    (wpAny_getItem_list_neg (Q:=fun r s'=>r=w/\EP X pins σ Q r s') pl.isList (by omega) (by rw[List.size_toArray] <;> omega) (by omega) (by rw[hj];simpa using ew) ⟨rfl,fin⟩) hs
theorem kL:IxR X (adr X.K):=by
 intro value slice pins s σ H x y v u Q I rx ry h hs
 obtain⟨p,xs,i,z,rfl,rfl,hq,he,q⟩:=h
 cases rx
 obtain⟨t,rfl⟩:=ry
 obtain⟨its,r,pl,hz⟩:=I.tuple hq
 obtain⟨j,h1,h2,h3,h4,h5⟩:=WV he
 obtain⟨w,ew,rw'⟩:=r.get h2
 have hl:=r.length
 have hn:=Y4
 have fin:EP X pins σ Q w s:=⟨z,H,I,rw',q⟩
 exact subscriptTail_builtinR (x:=w) pl.typeIs slot_tuple_getitem.lookup
  (getItem_tuple (j:=j) (Q:=fun r s'=>r=w/\EP X pins σ Q r s') pl (by omega) (by omega) (by rw[List.size_toArray,<-hl];exact h1) (by simpa using ew) ⟨rfl,fin⟩) hs
theorem Wg (its:List Value) (n j:Nat) (u:Value):Obj.mapSeq (·.setIfInBounds j u) { cls:=.type "list",data:=.seq its.toArray n }={ cls:=.type "list",data:=.seq (its.set j u).toArray n }:=by
 simp[Obj.mapSeq]
theorem Inv.lst {pins:List (Addr × Obj)}{σ:St}{H:Hp}{s:Shared}{p:Addr}{xs:List V} (I:Inv X pins σ H s) (h:H p=some (.lst xs)) :
 ∃ (its:List Value) (n:Nat),Vals xs its/\s.heap.get? p=some { cls:=.type "list",data:=.seq its.toArray n }/\xs.length<=sizeLine:=by
 obtain⟨z,its,n,r,e⟩:=I.hok p _ h
 exact⟨its,n,r,e,z⟩
theorem Inv.lstUpd {pins:List (Addr × Obj)}{σ:St}{H:Hp}{s:Shared}{p:Addr}{xs ys:List V}{its its':List Value}{n n':Nat}{f:Obj->Obj} (I:Inv X pins σ H s) (h:H p=some (.lst xs))
 (ho:s.heap.get? p=some { cls:=.type "list",data:=.seq its.toArray n }) (hf:f { cls:=.type "list",data:=.seq its.toArray n }={ cls:=.type "list",data:=.seq its'.toArray n' }) (r:Vals ys its') (hz:ys.length<=sizeLine) (t:Nat) :
 Inv X pins σ (upd H p (.lst ys)) { s with heap:=s.heap.update p f,toks:=t }:=by
 have e:(s.heap.update p f).get? p=some { cls:=.type "list",data:=.seq its'.toArray n' }:=by
  rw[Heap.get?_update_self f ho (by rw[hf] <;> rfl),hf]
 refine I.write (x:=p) (e:=p) (by rw[h];trivial) (.inl rfl) (fun b u hb q=>(Heap.get?_update_other _ _ (Ne.symm hb)).trans q) ⟨_,e⟩ ?_
 exact⟨hz,its',n',r,e⟩
def ac5:V->V->V->Hp->(Hp->Prop)->Prop:=fun o i v H Q=>∃ p xs k j,o=.ref p/\i=.int k/\H p=some (.lst xs)/\ixN xs.length k=some j/\Q (upd H p (.lst (xs.set j v)))
theorem Xf:acS X ac5:=by
 intro pins s σ H o i v ov iv u Q I ro ri rv h
 obtain⟨p,xs,k,j,rfl,rfl,hp,hj,q⟩:=h
 cases ro
 obtain⟨t,rfl⟩:=ri
 obtain⟨its,n,r,ho,hz⟩:=I.lst hp
 obtain⟨h1,h2,h3,h4⟩:=Y6 hj
 have hl:=r.length
 have hn:=Y4
 have I':Inv X pins σ (upd H p (.lst (xs.set j v))) { s with heap:=s.heap.update p (Obj.mapSeq (·.setIfInBounds j u)) } :=
  I.lstUpd hp ho (Wg its n j u) (r.set rv j) (by rw[List.length_set];exact hz) s.toks
 by_cases h0:0<=k
 . have hk:k.toNat=j:=by
    rw[seqIndex_of h0 h4] at h1
    exact Option.some.inj h1
   exact PySem.W.ki_setAt ho h0 (by omega) (by rw[List.size_toArray,<-hl];exact h4) (by rw[hk];exact⟨_,I',q⟩)
 . have hk:(k+(its.toArray.size:Int)).toNat=j:=by
    rw[seqIndex_neg (by omega) h3] at h1
    rw[List.size_toArray,<-hl]
    exact Option.some.inj h1
   exact PySem.W.ki_setBack ho (by omega) (by rw[List.size_toArray,<-hl];exact h3) (by omega) (by rw[hk];exact⟨_,I',q⟩)
theorem Y7 (lo hi:Option Int) (n:Nat):(sliceBounds lo hi none n).1=((HT.sIx n 0 lo:Nat):Int)/\(sliceBounds lo hi none n).2.1=((HT.sIx n n hi:Nat):Int)/\(sliceBounds lo hi none n).2.2=1:=by
 refine⟨?_,?_,rfl⟩
 . cases lo with
   | none=>simp[sliceBounds,HT.sIx]
   | some i =>
    simp only[sliceBounds,HT.sIx,Option.getD_none,show (1:Int) > 0 by decide,if_true]
    by_cases h:i<0
    . simp only[h,if_true] <;> omega
    . simp only[h,if_false] <;> omega
 . cases hi with
   | none=>simp[sliceBounds,HT.sIx]
   | some i =>
    simp only[sliceBounds,HT.sIx,Option.getD_none,show (1:Int) > 0 by decide,if_true]
    by_cases h:i<0
    . simp only[h,if_true] <;> omega
    . simp only[h,if_false] <;> omega
theorem KQ (its:List Value) (lo hi:Option Int):slicePick its.toArray lo hi none=((its.drop (HT.sIx its.length 0 lo)).take (HT.sIx its.length its.length hi - HT.sIx its.length 0 lo)).toArray:=by
 obtain⟨h1,h2,h3⟩:=Y7 lo hi its.toArray.size
 unfold slicePick
 rw[h1,h2,h3]
 simp only[sliceRange_one,pick_run,List.size_toArray] <;> rfl
def ads (K:PySem.W.Frag):V->Option Int->Option Int->Hp->VK->Prop:=fun x lo hi H Q=>∃ a xs,x=.ref a/\SqL K H a xs/\∀ p,H p=none->Q (.ref p) (upd H p (.lst (uz xs lo hi)))
theorem yS:SlR X (ads X.K):=by
 intro pins s σ H x v vl vu lo hi sl Q I rx hs pl pu h
 obtain⟨a,xs,rfl,hx,q⟩:=h
 cases rx
 obtain⟨its,r,ht,hz⟩:=I.list hx
 have hlen:=r.length
 refine⟨"list",_,slot_list_getitem.lookup,ht.isList.typeIs,?_⟩
 refine wpAny_getItem_list_slice ht.isList hs pl pu .none (by simp) ?_ (by rw[List.size_toArray] <;> omega)
 rw[KQ,<-hlen]
 refine⟨.ref s.heap.objs.size,_,I.laid (t':=s.toks) (o:=.lst (uz xs lo hi)) (fun b ob q=>Heap.get?_push_of_some _ q) (Nat.le_refl _) ?_,rfl,q _ (I.hok.fresh (Nat.le_refl _))⟩
 exact⟨Nat.le_trans (Xc xs lo hi) hz,_,0,(r.drop (HT.sIx xs.length 0 lo)).take (HT.sIx xs.length xs.length hi - HT.sIx xs.length 0 lo),Heap.get?_push_size _ rfl⟩
def ZF:V->Bool
 | .non=>true
 | .bl _=>true
 | .int _=>true
 | .str _=>true
 | _=>false
def eqV:V->V->Bool
 | .non,.non=>true
 | .bl a,.bl b=>a == b
 | .bl a,.int b=>(if a then 1 else 0) == b
 | .int a,.bl b=>a == (if b then 1 else 0)
 | .int a,.int b=>a == b
 | .str a,.str b=>a == b
 | _,_=>false
theorem aco {A:Around}{s:Shared}{y x:V}{u v:Value} (ry:RelV y u) (rx:RelV x v) (fy:ZF y=true) (fx:ZF x=true):SeqAt.EqAt A s u v (eqV y x):=by
 cases y with
 | non =>
  cases ry
  cases x with
  | non=>cases rx;exact SeqAt.EqAt.same _
  | bl b=>cases rx;exact SeqAt.EqAt.none_bool b
  | int b=>obtain⟨t,rfl⟩:=rx;exact SeqAt.EqAt.none_int b t
  | str b=>obtain⟨t,rfl⟩:=rx;exact SeqAt.EqAt.none_str b t
  | _=>exact absurd (show false=true from fx) Bool.false_ne_true
 | bl a =>
  cases ry
  cases x with
  | non=>cases rx;exact SeqAt.EqAt.bool_none a
  | bl b=>cases rx;exact SeqAt.EqAt.bool_bool a b
  | int b=>obtain⟨t,rfl⟩:=rx;exact SeqAt.EqAt.bool_int a b t
  | str b=>obtain⟨t,rfl⟩:=rx;exact SeqAt.EqAt.bool_str a b t
  | _=>exact absurd (show false=true from fx) Bool.false_ne_true
 | int a =>
  obtain⟨t',rfl⟩:=ry
  cases x with
  | non=>cases rx;exact SeqAt.EqAt.int_none a t'
  | bl b=>cases rx;exact SeqAt.EqAt.int_bool a t' b
  | int b=>obtain⟨t,rfl⟩:=rx;exact SeqAt.EqAt.int_int a t' b t
  | str b=>obtain⟨t,rfl⟩:=rx;exact SeqAt.EqAt.int_str a t' b t
  | _=>exact absurd (show false=true from fx) Bool.false_ne_true
 | str a =>
  obtain⟨t',rfl⟩:=ry
  cases x with
  | non=>cases rx;exact SeqAt.EqAt.str_none a t'
  | bl b=>cases rx;exact SeqAt.EqAt.str_bool a t' b
  | int b=>obtain⟨t,rfl⟩:=rx;exact SeqAt.EqAt.str_int a t' b t
  | str b=>obtain⟨t,rfl⟩:=rx;exact SeqAt.EqAt.str_str a t' b t
  | _=>exact absurd (show false=true from fx) Bool.false_ne_true
 | _=>exact absurd (show false=true from fy) Bool.false_ne_true
def eqU (x:V) (u:Value):Bool:=match u with
 | .none=>eqV .non x
 | .bool b=>eqV (.bl b) x
 | .int i _=>eqV (.int i) x
 | .str z _=>eqV (.str z) x
 | _=>false
theorem aaJ {x y:V}{u:Value} (r:RelV y u) (f:ZF y=true):eqU x u=eqV y x:=by
 cases y with
 | non=>cases r;rfl
 | bl b=>cases r;rfl
 | int i=>obtain⟨t,rfl⟩:=r;rfl
 | str z=>obtain⟨t,rfl⟩:=r;rfl
 | _=>exact absurd (show false=true from f) Bool.false_ne_true
theorem ZG {x:V}:∀ {xs:List V}{us:List Value},Vals xs us->xs.all ZF=true->us.any (eqU x)=xs.any fun y=>eqV y x
 | _,_,.nil,_=>rfl
 | y::xs,u::us,.cons r t,f=>by
  rw[List.all_cons,Bool.and_eq_true] at f
  rw[List.any_cons,List.any_cons,aaJ r f.1,ZG t f.2]
theorem wO {A:Around}{s:Shared}{x:V}{v:Value} (rx:RelV x v) (fx:ZF x=true):∀ {xs:List V}{us:List Value},Vals xs us->xs.all ZF=true->∀ u∈us,SeqAt.EqAt A s u v (eqU x u)
 | _,_,.nil,_=>fun u hu=>by cases hu
 | y::xs,u::us,.cons r t,f=>fun u' hu=>by
  rw[List.all_cons,Bool.and_eq_true] at f
  rcases List.mem_cons.mp hu with rfl | hu
  . rw[aaJ r f.1];exact aco r rx f.1 fx
  . exact wO rx fx t f.2 u' hu
def inV (x:V) (xs:List V):Bool:=xs.any fun y=>eqV y x
def rIn (K:PySem.W.Frag) (neg:Bool):R2:=fun x y H Q=>∃ p xs,y=.ref p/\(SqL K H p xs∨SqT K H p xs)/\ZF x=true/\xs.all ZF=true/\Q (.bl (if neg then !inV x xs else inV x xs)) H
theorem Vu:OpR X (compareOp .In) (rIn X.K false):=by
 intro pins s σ H x y v u Q I rx ry h
 obtain⟨p,xs,rfl,hq,fx,fs,q⟩:=h
 cases ry
 rcases hq with hq | hq
 . obtain⟨its,r,pl,hz⟩:=I.list hq
   refine SeqAt.in_listAt (eqU x) pl.isList (fun w hw=>wO rx fx r fs w (by simpa using hw)) ⟨.bl _,H,I,rfl,?_⟩
   rw[show its.toArray.any (eqU x)=its.any (eqU x) by simp,ZG r fs]
   exact q
 . obtain⟨its,r,pl,hz⟩:=I.tuple hq
   refine SeqAt.in_tupleAt (eqU x) pl (fun w hw=>wO rx fx r fs w (by simpa using hw)) ⟨.bl _,H,I,rfl,?_⟩
   rw[show its.toArray.any (eqU x)=its.any (eqU x) by simp,ZG r fs]
   exact q
theorem ZH:OpR X (compareOp .NotIn) (rIn X.K true):=by
 intro pins s σ H x y v u Q I rx ry h
 obtain⟨p,xs,rfl,hq,fx,fs,q⟩:=h
 cases ry
 rcases hq with hq | hq
 . obtain⟨its,r,pl,hz⟩:=I.list hq
   refine SeqAt.notIn_listAt (eqU x) pl.isList (fun w hw=>wO rx fx r fs w (by simpa using hw)) ⟨.bl _,H,I,rfl,?_⟩
   rw[show its.toArray.any (eqU x)=its.any (eqU x) by simp,ZG r fs]
   exact q
 . obtain⟨its,r,pl,hz⟩:=I.tuple hq
   refine SeqAt.notIn_tupleAt (eqU x) pl (fun w hw=>wO rx fx r fs w (by simpa using hw)) ⟨.bl _,H,I,rfl,?_⟩
   rw[show its.toArray.any (eqU x)=its.any (eqU x) by simp,ZG r fs]
   exact q
theorem Y8:ZE X (.builtin "len") (fun xs H Q=>∃ p ys,xs=[.ref p]/\(SqL X.K H p ys∨SqT X.K H p ys)/\Q (.int ys.length) H):=by
 intro pins s σ H xs us Q I r h
 obtain⟨p,ys,rfl,hq,q⟩:=h
 obtain⟨u,rfl,rx⟩:=ab5 r
 cases rx
 have hn:=Y4
 rcases hq with hq | hq
 . obtain⟨its,r',pl,hz⟩:=I.list hq
   have hlen:=r'.length
   exact Calls.call_len_list pl.isList (by simp only[List.size_toArray] <;> omega) ⟨.int ys.length,H,I.tok _,⟨s.toks+1,by rw[List.size_toArray,hlen]⟩,q⟩
 . obtain⟨its,r',pl,hz⟩:=I.tuple hq
   have hlen:=r'.length
   exact len_tuple pl (by simp only[List.size_toArray] <;> omega) ⟨.int ys.length,H,I.tok _,⟨s.toks+1,by rw[List.size_toArray,hlen]⟩,q⟩
theorem ZI:ZE X (.type "list") (fun xs H Q=>∃ p ys,xs=[.ref p]/\(SqL X.K H p ys∨SqT X.K H p ys)/\∀ l,H l=none->Q (.ref l) (upd H l (.lst ys))):=by
 intro pins s σ H xs us Q I r h
 obtain⟨p,ys,rfl,hq,q⟩:=h
 obtain⟨u,rfl,rx⟩:=ab5 r
 cases rx
 have fin:∀ (its:List Value),Vals ys its->ys.length<=sizeLine->∀ (h':Heap) (c':Nat),(∀ b o',s.heap.get? b=some o'->h'.get? b=some o') ->
  h'.get? s.heap.objs.size=some { cls:=.type "list",dict:=none,data:=.seq its.toArray c',slots:=#[] }->EP X pins σ Q (.ref s.heap.objs.size) { s with heap:=h' }:=fun its r' hz h' c' kp e =>
  ⟨.ref s.heap.objs.size,_,I.laid (t':=s.toks) kp (Nat.le_refl _) (show ObjOk X.prog X.w _ h' _ (.lst ys) from⟨hz,its,c',r',e⟩),rfl,q _ (I.hok.fresh (Nat.le_refl _))⟩
 rcases hq with hq | hq
 . obtain⟨its,r',pl,hz⟩:=I.list hq
   have hlen:=r'.length
   obtain⟨o,ho,hc,n,hd⟩:=pl.isList
   exact call_list_seq p (.inl rfl) ho hc hd (fun h' c' kp e=>fin its r' hz h' c' kp e) (by simp only[List.size_toArray] <;> omega)
 . obtain⟨its,r',pl,hz⟩:=I.tuple hq
   have hlen:=r'.length
   obtain⟨o,ho,hc,n,hd⟩:=pl
   exact call_list_seq p (.inr rfl) ho hc hd (fun h' c' kp e=>fin its r' hz h' c' kp e) (by simp only[List.size_toArray] <;> omega)
def tyV (K:PySem.W.Frag) (T:String) (x:V) (H:Hp):Prop:=match x with
 | .str _=>T="str"
 | .int _=>T="int"
 | .ref p=>(T="list"/\∃ xs,SqL K H p xs)∨(T="tuple"/\∃ o,K.lookup p=some o/\o.cls=.type "tuple"/\o.dict=none) ∨
  (T="dict"/\((∃ kvs,H p=some (.dK kvs))∨∃ kvs,H p=some (.dT kvs)))∨(T="set"/\∃ S n,H p=some (.set S n))
 | _=>False
theorem acp {pins:List (Addr × Obj)}{σ:St}{H:Hp}{s:Shared}{T:String}{x:V}{v:Value} (I:Inv X pins σ H s) (r:RelV x v) (ty:tyV X.K T x H) :
 s.TypeIs v T/\∀ a,v=.ref a->∃ ob,s.heap.get? a=some ob/\ob.dict=none:=by
 cases x with
 | str z =>
  obtain⟨t,rfl⟩:=r
  cases (show T="str" from ty)
  exact⟨typeIs_str s z t,fun _ e=>nomatch e⟩
 | int i =>
  obtain⟨t,rfl⟩:=r
  cases (show T="int" from ty)
  exact⟨typeIs_int s i t,fun _ e=>nomatch e⟩
 | ref p =>
  cases r
  rcases ty with ⟨rfl,xs,hq⟩ | ⟨rfl,o,hk,hc,hd⟩ | ⟨rfl,hk⟩ | ⟨rfl,S,n,hk⟩
  . obtain⟨its,_,pl,_⟩:=I.list hq
    refine⟨pl.isList.typeIs,fun a e=>?_⟩
    cases e
    obtain⟨o,n,e,c,hd,_⟩:=pl
    exact⟨o,e,hd⟩
  . refine⟨⟨o,I.kIn p o hk,hc⟩,fun a e=>?_⟩
    cases e
    exact⟨o,I.kIn _ o hk,hd⟩
  . have z:∃ o,s.heap.get? p=some o/\o.ExactDict:=by
     rcases hk with ⟨kvs,hk⟩ | ⟨kvs,hk⟩
     . obtain⟨_,_,_,_,o,_,_,e,ex,_⟩:=I.hok p _ hk
       exact⟨o,e,ex⟩
     . obtain⟨_,_,_,_,o,_,_,e,ex,_⟩:=I.hok p _ hk
       exact⟨o,e,ex⟩
    obtain⟨o,e,ex⟩:=z
    refine⟨⟨o,e,ex.1⟩,fun a e2=>?_⟩
    cases e2
    exact⟨o,e,ex.2.1⟩
  . obtain⟨o,_,_,_,e,ex,_⟩:=I.hok p _ hk
    refine⟨⟨o,e,ex.1⟩,fun a e2=>?_⟩
    cases e2
    exact⟨o,e,ex.2.1⟩
 | _=>exact False.elim ty
def tBM (K:PySem.W.Frag) (T:String) (r:V->List V->Hp->VK->Prop) (to:TE) (t:TA):TE:=fun σ H Q=>to σ H fun x H1=>tyV K T x H1/\t σ H1 fun xs H2=>r x xs H2 Q
variable {o e:Expr}{es:List Expr}{to:TE}{t:TA}{name:Str}{apos cpos:Pos}{T id:String}{r:V->List V->Hp->VK->Prop}
theorem jF (pa:PlainAttrs T) (slot:Slot T name id) (hty:typeOf (.builtin id)=pure (.type "method_descriptor")) (hm:MtR X id r) (ho:PE X o to) (ha:PA X (e::es) t)
 (hbase:attributeBase o name X.env (eval o X.env)=eval o X.env:=by rfl)
 (hfew:((backTo cpos (starEach (e::es) X.env)).all (fun x=>!x.1) && (backToKw cpos (keywordEach [] X.env)).all (fun x=>x.1.isSome)
  && decide ((e::es).length+([]:List Keyword).length+(if ([]:List Keyword).isEmpty then 0 else 1)<30))=true:=by rfl)
 (hline:(apos.endLine == cpos.line)=true:=by rfl) (hs:starEach (e::es) X.env=(false,eval e X.env)::starEach es X.env:=by rfl) (hplain:(backTo cpos (starEach es X.env)).any (·.1)=false:=by rfl) :
 PE X (.Call (.Attribute o name apos) (e::es) [] cpos) (tBM X.K T r to t):=by
 intro pins s σ H Q I h
 refine wpAny_Call_method_late hbase hfew hline rfl (thn (ho pins s σ H _ I h) fun v s1 ⟨x,H1,I1,r1,ty,q1⟩=>?_)
 obtain⟨h1,h2⟩:=acp I1 r1 ty
 refine⟨T,id,pa,slot,hty,h1,h2,?_⟩
 have hA:=ha cpos pins s1 σ H1 _ I1 q1
 rw[hs] at hA ⊢
 refine Calls.callWith_builtin (by show (false || (backTo cpos (starEach es X.env)).any (·.1))=false;rw[hplain] <;> rfl) (Calls.evalArgs_plain ?_)
 exact thn hA fun us s2 ⟨vs,H2,I2,r2,q2⟩=>hm pins s2 σ H2 x vs v us Q I2 r1 r2 q2
end
end L2
namespace L2
open PySem PySem.Spec PyProof.Rows
def MtM (X:Cx) (id:String) (r:V->List V->Hp->VK->Prop):Prop :=
 ∀ (pins:List (Addr × Obj)) (s:Shared) (σ:St) (H:Hp) (x:V) (xs:List V) (v:Value) (us:List Value) (Q:VK),Inv X pins σ H s->RelV x v->Vals xs us->r x xs H Q ->
  wpAny (model X.prog X.w) X.A (call (.builtin id) (v::us)) (EP X pins σ Q) X.xe s
theorem Vals.one:∀ {x:V}{us:List Value},Vals [x] us->∃ u,us=[u]/\RelV x u
 | _,_,.cons r .nil=>⟨_,rfl,r⟩
theorem Vals.two:∀ {x y:V}{us:List Value},Vals [x,y] us->∃ u v,us=[u,v]/\RelV x u/\RelV y v
 | _,_,_,.cons r (.cons q .nil)=>⟨_,_,rfl,r,q⟩
theorem Vals.eraseIdx:∀ {xs:List V}{us:List Value} (i:Nat),Vals xs us->Vals (xs.eraseIdx i) (us.eraseIdx i)
 | _,_,_,.nil=>.nil
 | _,_,0,.cons _ t=>t
 | _,_,i+1,.cons r t=>.cons r (Vals.eraseIdx i t)
theorem Vv {α:Type}:∀ (l:List α) (i:Nat),(l.eraseIdx i).length<=l.length
 | [],_=>Nat.le_refl _
 | _::_,0=>Nat.le_succ _
 | _::r,i+1=>Nat.succ_le_succ (Vv r i)
section
variable {X:Cx}{pins:List (Addr × Obj)}{σ:St}{H:Hp}{s:Shared}{l b:Addr}{xs ys zs:List V}
theorem Inv.lset {its its':List Value}{n:Nat}{f:Array Value->Array Value}{t':Nat} (I:Inv X pins σ H s) (hH:H l=some (.lst xs))
 (e:s.heap.get? l=some { cls:=.type "list",data:=.seq its.toArray n }) (hf:f its.toArray=its'.toArray) (hv:Vals ys its') (hz:ys.length<=sizeLine) :
 Inv X pins σ (upd H l (.lst ys)) { s with heap:=s.heap.update l (Obj.mapSeq f),toks:=t' }:=by
 have q:=PySem.IsL.update e f
 rw[hf] at q
 refine I.write (x:=l) (e:=l) (by rw[hH];exact trivial) (.inl rfl) (fun b' u hb hu=>(Heap.get?_update_other s.heap (Obj.mapSeq f) (Ne.symm hb)).trans hu) ⟨_,q⟩ ?_
 exact⟨hz,its',_,hv,q⟩
theorem Inv.lnew {its:List Value}{t':Nat} (I:Inv X pins σ H s) (hv:Vals ys its) (hz:ys.length<=sizeLine) :
 Inv X pins σ (upd H s.heap.objs.size (.lst ys)) { s with heap:=s.heap.push { cls:=.type "list",data:=.seq its.toArray },toks:=t' } :=
 I.laid (fun _ _ q=>Heap.get?_push_of_some _ q) (Nat.le_refl _) ⟨hz,its,0,hv,Heap.get?_push_size _ rfl⟩
theorem Inv.fresh (I:Inv X pins σ H s):H s.heap.objs.size=none:=I.hok.fresh (Nat.le_refl _)
theorem Inv.lstM (I:Inv X pins σ H s) (hH:H l=some (.lst xs)):xs.length<=sizeLine/\∃ (its:List Value) (n:Nat),Vals xs its/\xs.length=its.length/\s.heap.get? l=some { cls:=.type "list",data:=.seq its.toArray n }:=by
 obtain⟨z,its,n,r,e⟩:=I.hok l _ hH
 exact⟨z,its,n,r,r.length,e⟩
theorem aaK {n:Nat} (h:n<=sizeLine):Builtin.List.listTooLong n=false:=by
 unfold Builtin.List.listTooLong
 exact decide_eq_false (by omega)
end
section
variable {X:Cx}
def Y9:V->List V->Hp->VK->Prop:=fun x vs H Q=>∃ l xs y,x=.ref l/\vs=[y]/\H l=some (.lst xs)/\xs.length<sizeLine/\Q .non (upd H l (.lst (xs++[y])))
theorem jc:MtM X "list.append" Y9:=by
 intro pins s σ H x vs v us Q I rx rv h
 obtain⟨l,xs,y,rfl,rfl,hH,hz,q⟩:=h
 cases rx
 obtain⟨u,rfl,ru⟩:=rv.one
 obtain⟨z,its,n,r,hl,e⟩:=I.lstM hH
 refine call_meets F.slot_list_append ⟨_,e,rfl⟩ F.entry_list_append (F.args_list_append_2 _ _) (PySem.list_append l its.toArray n u (by rw[List.size_toArray];omega)) ⟨e,?_⟩
 refine⟨.non,_,I.lset (its':=its++[u]) hH e (by simp) (r.append (.cons ru .nil)) ?_,rfl,q⟩
 rw[List.length_append,List.length_singleton]
 omega
def WW:V->List V->Hp->VK->Prop:=fun x vs H Q=>∃ l b xs zs,x=.ref l/\vs=[.ref b]/\H l=some (.lst xs)/\H b=some (.lst zs)/\xs.length+zs.length<=sizeLine/\Q .non (upd H l (.lst (xs++zs)))
theorem jy:MtM X "list.extend" WW:=by
 intro pins s σ H x vs v us Q I rx rv h
 obtain⟨l,b,xs,zs,rfl,rfl,hH,hB,hz,q⟩:=h
 cases rx
 obtain⟨u,rfl,ru⟩:=rv.one
 cases ru
 obtain⟨z,its,n,r,hl,e⟩:=I.lstM hH
 obtain⟨z2,its2,n2,r2,hl2,e2⟩:=I.lstM hB
 have hsz:its.toArray.size+its2.toArray.size<=sizeLine:=by rw[List.size_toArray,List.size_toArray];omega
 have hlong:¬(!its.toArray.isEmpty && Builtin.List.listTooLong (its.toArray.size+its2.toArray.size))=true:=by
  rw[aaK hsz,Bool.and_false]
  exact Bool.false_ne_true
 refine call_meets F.slot_list_extend ⟨_,e,rfl⟩ F.entry_list_extend (F.args_list_extend_2 _ _)
  (AutoSeq1.list_extend_list_list_0 l its.toArray n b its2.toArray n2 hlong (by rw[List.size_toArray];omega) (by omega)) ⟨e,e2,?_⟩
 refine⟨.non,_,I.lset (its':=its++its2) hH e (by simp) (r.append r2) ?_,rfl,q⟩
 rw[List.length_append]
 omega
def acq:V->List V->Hp->VK->Prop:=fun x vs H Q=>∃ l xs i k y,x=.ref l/\vs=[.int i]/\H l=some (.lst xs)/\-(2 ^ 63)<=i/\i<2 ^ 63/\seqIndex? i xs.length=some k/\xs[k]?=some y/\Q y (upd H l (.lst (xs.eraseIdx k)))
theorem aaL:MtM X "list.pop" acq:=by
 intro pins s σ H x vs v us Q I rx rv h
 obtain⟨l,xs,i,k,y,rfl,rfl,hH,h1,h2,hk,hy,q⟩:=h
 cases rx
 obtain⟨u,rfl,ru⟩:=rv.one
 obtain⟨t,rfl⟩:=ru
 obtain⟨z,its,n,r,hl,e⟩:=I.lstM hH
 obtain⟨w,hw,rw'⟩:=r.get hy
 refine call_meets F.slot_list_pop ⟨_,e,rfl⟩ F.entry_list_pop (F.args_list_pop_2 _ _)
  (MeetsSeq.list_pop_at l its.toArray n i t k w (fitsIndex_both h1 h2) (by rw[List.size_toArray,<-hl];exact hk) (by rw[<-Array.getElem?_toList];exact hw) (by rw[List.size_toArray];omega)) ⟨e,?_⟩
 refine⟨y,_,I.lset (its':=its.eraseIdx k) hH e ?_ (r.eraseIdx k) ?_,rw',q⟩
 . show its.toArray.eraseIdxIfInBounds k=(its.eraseIdx k).toArray
   rw[List.eraseIdxIfInBounds_toArray]
 . have:=Vv xs k
   omega
def ac6:R2:=fun x y H Q=>∃ l b xs zs,x=.ref l/\y=.ref b/\H l=some (.lst xs)/\H b=some (.lst zs)/\xs.length+zs.length<=sizeLine/\∀ p,H p=none->Q (.ref p) (upd H p (.lst (xs++zs)))
theorem yI:OpR X (binaryOp .Add) ac6:=by
 intro pins s σ H x y v u Q I rx ry h
 obtain⟨l,b,xs,zs,rfl,rfl,hH,hB,hz,q⟩:=h
 cases rx
 cases ry
 obtain⟨z,its,n,r,hl,e⟩:=I.lstM hH
 obtain⟨z2,its2,n2,r2,hl2,e2⟩:=I.lstM hB
 refine PySem.P.add_list e e2 ?_ (by rw[List.size_toArray,List.size_toArray];omega)
 have ea:its.toArray++its2.toArray=(its++its2).toArray:=by simp
 rw[ea]
 exact⟨.ref _,_,I.lnew (t':=s.toks) (r.append r2) (by rw[List.length_append];omega),rfl,q _ I.fresh⟩
end
end L2
namespace L2
open PySem PySem.Spec PyProof.Rows
theorem Vals.ints:∀ {ns:List Int}{us:List Value},Vals (ns.map V.int) us->IntsAre us ns
 | [],us,h=>by
  rw[List.map_nil] at h
  cases h
  exact IntsAre.nil
 | n::ns,us,h=>by
  rw[List.map_cons] at h
  cases h with
  | cons r t =>
   obtain⟨k,rfl⟩:=r
   exact IntsAre.cons n k (Vals.ints t)
theorem Vals.bls:∀ {bs:List Bool}{us:List Value},Vals (bs.map V.bl) us->us=bs.map Value.bool
 | [],us,h=>by
  rw[List.map_nil] at h
  cases h
  rfl
 | b::bs,us,h=>by
  rw[List.map_cons] at h
  cases h with
  | cons r t =>
   cases r
   rw[Vals.bls t,List.map_cons]
theorem Vals.ref1 {a:Addr}{us:List Value} (r:Vals [V.ref a] us):us=[Value.ref a]:=by
 cases r with
 | cons r t =>
  cases t
  cases r
  rfl
theorem K3 {prog:Program}{w:World}{A:Around}{E:Value->Shared->Prop}{s:Shared}{l:Addr}{items:Array Value}{Q:Value->Shared->Prop} (hl:s.heap.IsList l items)
 (h:∀ s₂:Shared,s₂={ s with heap:=s.heap.push { cls:=.type "list_iterator",data:=.fields #[.ref l,.int 0 0] } } ->
  (s₂.heap.IsListIter s.heap.objs.size l 0/\s₂.heap.IsList l items)->l≠s.heap.objs.size->Q (.ref s.heap.objs.size) s₂):wpAny (model prog w) A (pyIter (.ref l)) Q E s:=by
 have hlt:l<s.heap.objs.size:=by obtain⟨_,e,_⟩:=hl;exact Heap.lt_size e
 exact wpAny_pyIter_list hl (h _ rfl ⟨⟨_,Heap.get?_push_size _ rfl,rfl,rfl⟩,hl.push _⟩ (Nat.ne_of_lt hlt))
theorem QZ {prog:Program}{w:World}{A:Around}{bs:List Bool}{its:List Value} (e:its=bs.map Value.bool) :
 TruthOf prog w A (fun i v=>its.toArray[i]?=some v) (fun i=>bs.getD i false):=fun i v s Q E hv hq=>by
 have hv':its[i]?=some v:=by simpa using hv
 rw[e,List.getElem?_map] at hv'
 obtain⟨b,hb,rfl⟩:=Option.map_eq_some_iff.mp hv'
 have hg:bs.getD i false=b:=by rw[List.getD_eq_getElem?_getD,hb] <;> rfl
 have hq':Q (bs.getD i false) s:=hq
 rw[hg] at hq'
 exact wpAny_truthy_bool hq'
theorem Vw:∀ bs:List Bool,(List.range bs.length).any (fun i=>bs.getD i false)=bs.any id
 | []=>rfl
 | b::bs=>by
  rw[List.length_cons,List.range_succ_eq_map,List.any_cons,List.any_map,List.any_cons,<-Vw bs]
  all_goals rfl
theorem Vx:∀ bs:List Bool,(List.range bs.length).all (fun i=>bs.getD i false)=bs.all id
 | []=>rfl
 | b::bs=>by
  rw[List.length_cons,List.range_succ_eq_map,List.all_cons,List.all_map,List.all_cons,<-Vx bs]
  all_goals rfl
section
variable {X:Cx}
def adt (K:PySem.W.Frag):List V->Hp->VK->Prop:=fun vs H Q=>∃ (a:Addr) (bs:List Bool),vs=[V.ref a]/\SqL K H a (bs.map V.bl)/\Q (.bl (bs.any id)) H
def adu (K:PySem.W.Frag):List V->Hp->VK->Prop:=fun vs H Q=>∃ (a:Addr) (bs:List Bool),vs=[V.ref a]/\SqL K H a (bs.map V.bl)/\Q (.bl (bs.all id)) H
theorem aaM (hc:X.calm=true):ZE X (.builtin "any") (adt X.K):=by
 intro pins s σ H vs us Q I r h
 obtain⟨a,bs,rfl,hs,q⟩:=h
 obtain⟨its,rv,hl,_⟩:=I.list hs
 rw[Vals.ref1 r]
 have hb:=rv.bls
 refine call_any_walk (K3 hl.isList fun s₂ e2 st hne=>?_)
 subst e2
 refine⟨_,_,_,_,_,_,_,rfl,Walks.list (A:=X.A.in1) (I.ok.hd hc) _ a hne its.toArray,st,QZ hb,fun h' tk hk=>?_⟩
 refine⟨.bl _,H,I.kept fun b o eo=>hk b o (fun hmem=>?_) (Heap.get?_push_of_some _ eo),?_,q⟩
 . rcases List.mem_cons.mp hmem with e1 | hmem
   . exact absurd (e1▸Heap.lt_size eo) (Nat.lt_irrefl _)
   . cases hmem
 . show Value.bool _=Value.bool _
   rw[<-Vw,hb,List.size_toArray,List.length_map]
theorem aaN (hc:X.calm=true):ZE X (.builtin "all") (adu X.K):=by
 intro pins s σ H vs us Q I r h
 obtain⟨a,bs,rfl,hs,q⟩:=h
 obtain⟨its,rv,hl,_⟩:=I.list hs
 rw[Vals.ref1 r]
 have hb:=rv.bls
 refine call_all_walk (K3 hl.isList fun s₂ e2 st hne=>?_)
 subst e2
 refine⟨_,_,_,_,_,_,_,rfl,Walks.list (A:=X.A.in1) (I.ok.hd hc) _ a hne its.toArray,st,QZ hb,fun h' tk hk=>?_⟩
 refine⟨.bl _,H,I.kept fun b o eo=>hk b o (fun hmem=>?_) (Heap.get?_push_of_some _ eo),?_,q⟩
 . rcases List.mem_cons.mp hmem with e1 | hmem
   . exact absurd (e1▸Heap.lt_size eo) (Nat.lt_irrefl _)
   . cases hmem
 . show Value.bool _=Value.bool _
   rw[<-Vx,hb,List.size_toArray,List.length_map]
end
mutual
inductive Dp (K:PySem.W.Frag) (H:Hp):V->PyData->Prop
 | non:Dp K H .non .none
 | bl (b:Bool):Dp K H (.bl b) (.bool b)
 | int (i:Int):Dp K H (.int i) (.int i)
 | str (x:Str):Dp K H (.str x) (.str x)
 | lst {a:Addr}{xs:List V}{ds:List PyData}:SqL K H a xs->uM K H xs ds->Dp K H (.ref a) (.list ds)
 | tup {a:Addr}{xs:List V}{ds:List PyData}:SqT K H a xs->uM K H xs ds->Dp K H (.ref a) (.tuple ds)
inductive uM (K:PySem.W.Frag) (H:Hp):List V->List PyData->Prop
 | nil:uM K H [] []
 | cons {v:V}{vs:List V}{d:PyData}{ds:List PyData}:Dp K H v d->uM K H vs ds->uM K H (v::vs) (d::ds)
end
section
variable {X:Cx}{pins:List (Addr × Obj)}{σ:St}{H:Hp}{s:Shared}
mutual
theorem Dp.reads (I:Inv X pins σ H s):∀ (d:PyData) (v:V) (u:Value),Dp X.K H v d->RelV v u->∃ as,Reads s.heap u d as
 | .none,_,_,h,r=>by
  cases h
  cases r
  exact⟨_,Reads.none⟩
 | .bool b,_,_,h,r=>by
  cases h
  cases r
  exact⟨_,Reads.bool b⟩
 | .int i,_,_,h,r=>by
  cases h
  obtain⟨t,rfl⟩:=r
  exact⟨_,Reads.int i t⟩
 | .str x,_,_,h,r=>by
  cases h
  obtain⟨t,rfl⟩:=r
  exact⟨_,Reads.str x t⟩
 | .list ds,_,_,h,r=>by
  cases h with
  | lst hs ha =>
   cases r
   obtain⟨its,rv,⟨o,n,ho,hc,_,hd⟩,_⟩:=I.list hs
   obtain⟨as,hr⟩:=Dp.readsAll I ds _ its ha rv
   exact⟨_,Reads.list ho hc hd hr⟩
 | .tuple ds,_,_,h,r=>by
  cases h with
  | tup hs ha =>
   cases r
   obtain⟨its,rv,⟨o,ho,hc,n,hd⟩,_⟩:=I.tuple hs
   obtain⟨as,hr⟩:=Dp.readsAll I ds _ its ha rv
   exact⟨_,Reads.tuple ho hc hd hr⟩
 | .dict _,_,_,h,_=>by cases h
theorem Dp.readsAll (I:Inv X pins σ H s):∀ (ds:List PyData) (vs:List V) (us:List Value),uM X.K H vs ds->Vals vs us->∃ as,ReadsAll s.heap us ds as
 | [],_,_,h,r=>by
  cases h
  cases r
  exact⟨_,ReadsAll.nil⟩
 | d::ds,_,_,h,r=>by
  cases h with
  | cons h1 h2 =>
   cases r with
   | cons r1 r2 =>
    obtain⟨as,q1⟩:=Dp.reads I d _ _ h1 r1
    obtain⟨bs,q2⟩:=Dp.readsAll I ds _ _ h2 r2
    exact⟨_,ReadsAll.cons q1 q2⟩
end
end
section
variable {X:Cx}
def adv (K:PySem.W.Frag):R2:=fun x y H Q=>∃ d e,Dp K H x d/\Dp K H y e/\SeqAt.shaped d=true/\SeqAt.shaped e=true/\Q (.bl (PyData.eqv d e)) H
def adw (K:PySem.W.Frag):R2:=fun x y H Q=>∃ d e,Dp K H x d/\Dp K H y e/\SeqAt.shaped d=true/\SeqAt.shaped e=true/\Q (.bl (!PyData.eqv d e)) H
theorem wP (hu:X.A.units+64<cLine):OpR X (compareOp .Eq) (adv X.K):=by
 intro pins s σ H x y v u Q I rx ry h
 obtain⟨d,e,hd,he,sd,se,q⟩:=h
 obtain⟨as,r1⟩:=Dp.reads I d x v hd rx
 obtain⟨bs,r2⟩:=Dp.reads I e y u he ry
 exact SeqAt.compareEq_shaped r1 r2 sd se hu ⟨.bl _,H,I,rfl,q⟩
theorem acr (hu:X.A.units+64<cLine):OpR X (compareOp .NotEq) (adw X.K):=by
 intro pins s σ H x y v u Q I rx ry h
 obtain⟨d,e,hd,he,sd,se,q⟩:=h
 obtain⟨as,r1⟩:=Dp.reads I d x v hd rx
 obtain⟨bs,r2⟩:=Dp.reads I e y u he ry
 exact SeqAt.compareNe_shaped r1 r2 sd se hu ⟨.bl _,H,I,rfl,q⟩
end
end L2
namespace L2
open PySem PySem.Spec PyProof.Rows
abbrev CellAt (h:Heap) (c:Addr) (v:Option Value):Prop:=h.IsCell c v
def adx (scope sc:Scope):Scope :=
 { scope with names:=scope.names.map fun (n,k)=>if (k == .free && sc.kind == .function && sc.names.lookup n == some .cell) then (n,.cell) else (n,k) }
def qG (cells:List (Str × Addr)):List (Str × NameKind)->List (Str × Addr)->List (Str × Addr)
 | [],acc=>acc
 | (n,k)::r,acc=>if k == .free then qG cells r ((n,(cells.lookup n).getD 0)::acc) else qG cells r acc
theorem ZJ (env:Env) (f:Str × NameKind->List (Str × Addr)->Sem (ForInStep (List (Str × Addr))))
 (hf:∀ n k c,f (n,k) c=if k == .free then (do let a <-cellOf env n;pure (.yield ((n,a)::c))) else pure (.yield c)) :
 ∀ (names:List (Str × NameKind)) (acc:List (Str × Addr)),(∀ y∈names,y.2=.free->∃ c,env.cells.lookup y.1=some c)->forIn names acc f=pure (qG env.cells names acc)
 | [],acc,_=>by rw[List.forIn_nil];rfl
 | (n,k)::r,acc,h=>by
  rw[List.forIn_cons,hf]
  have ih:=fun acc=>ZJ env f hf r acc fun y hy=>h y (List.mem_cons_of_mem _ hy)
  unfold qG
  by_cases hk:(k == NameKind.free)=true
  . rw[if_pos hk,if_pos hk]
    obtain⟨c,hc⟩:=h (n,k) List.mem_cons_self (by simpa using hk)
    have e:cellOf env n=pure c:=by unfold cellOf;rw[hc]
    rw[e]
    have e2:(env.cells.lookup n).getD 0=c:=by rw[hc];rfl
    rw[e2]
    exact ih _
  . rw[if_neg hk,if_neg hk]
    exact ih _
theorem Wh {scope:Scope}{env:Env} (h:∀ y∈scope.names,y.2=.free->∃ c,env.cells.lookup y.1=some c):closureFor scope env=pure (qG env.cells scope.names []):=by
 simp only[closureFor]
 rw[ZJ env _ (fun n k c=>rfl) scope.names [] h]
 rfl
theorem Z4 {α:Type}:∀ {l:List (Str × α)}{n:Str}{c:α},(n,c)∈l->∃ c',l.lookup n=some c'
 | (k,v)::r,n,c,h=>by
  rw[List.lookup_cons]
  cases hb:n == k with
  | true=>exact⟨_,rfl⟩
  | false =>
   rcases List.mem_cons.mp h with e | h
   . cases e;simp at hb
   . exact Z4 h
theorem yT {cells:List (Str × Addr)}:∀ {names:List (Str × NameKind)}{acc:List (Str × Addr)}{n:Str}{c:Addr},(n,c)∈qG cells names acc->(n,c)∈acc∨((n,.free)∈names/\c=(cells.lookup n).getD 0)
 | [],_,_,_,h=>.inl h
 | (m,k)::r,acc,n,c,h=>by
  unfold qG at h
  split at h
  . rename_i hk
    have hk:k=.free:=by simpa using hk
    rcases yT h with h | ⟨h1,h2⟩
    . rcases List.mem_cons.mp h with e | h
      . cases e;exact .inr ⟨hk▸List.mem_cons_self,rfl⟩
      . exact .inl h
    . exact .inr ⟨List.mem_cons_of_mem _ h1,h2⟩
  . rcases yT h with h | ⟨h1,h2⟩
    . exact .inl h
    . exact .inr ⟨List.mem_cons_of_mem _ h1,h2⟩
theorem wQ {cells:List (Str × Addr)}:∀ {names:List (Str × NameKind)}{acc:List (Str × Addr)}{p:Str × Addr},p∈acc->p∈qG cells names acc
 | [],_,_,h=>h
 | (m,k)::r,acc,p,h=>by
  unfold qG
  split
  . exact wQ (List.mem_cons_of_mem _ h)
  . exact wQ h
theorem wR {cells:List (Str × Addr)}:∀ {names:List (Str × NameKind)}{acc:List (Str × Addr)}{n:Str},(n,.free)∈names->(n,(cells.lookup n).getD 0)∈qG cells names acc
 | (m,k)::r,acc,n,h=>by
  unfold qG
  rcases List.mem_cons.mp h with e | h
  . cases e
    exact wQ List.mem_cons_self
  . split
    . exact wR h
    . exact wR h
theorem xG:∀ {names:List (Str × NameKind)}{h:Heap}{acc:List (Str × Addr)}{x:Str}{c:Addr},(x,c)∈cellsFrom h.objs.size names acc ->
 (x,c)∈acc∨((x,.cell)∈names/\h.objs.size<=c/\CellAt (pushCells h names) c none)
 | [],_,_,_,_,h=>.inl h
 | (n,k)::r,h,acc,x,c,hm=>by
  unfold cellsFrom at hm
  unfold pushCells
  split at hm
  . rename_i hk
    rw[if_pos hk]
    have hk:k=.cell:=by simpa using hk
    rw[<-Heap.size_push h { cls:=.type "cell",data:=.cell none }] at hm
    rcases xG hm with hm | ⟨h1,h2,h3⟩
    . rcases List.mem_cons.mp hm with e | hm
      . cases e
        exact .inr ⟨hk▸List.mem_cons_self,Nat.le_refl _,_,pushCells_keeps r _ _ _ (Heap.get?_push_size _ rfl),rfl⟩
      . exact .inl hm
    . rw[Heap.size_push] at h2
      exact .inr ⟨List.mem_cons_of_mem _ h1,Nat.le_of_succ_le h2,h3⟩
  . rename_i hk
    rw[if_neg hk]
    rcases xG hm with hm | ⟨h1,h2,h3⟩
    . exact .inl hm
    . exact .inr ⟨List.mem_cons_of_mem _ h1,h2,h3⟩
theorem uo:∀ {names:List (Str × NameKind)}{n:Nat}{acc:List (Str × Addr)}{p:Str × Addr},p∈acc->p∈cellsFrom n names acc
 | [],_,_,_,h=>h
 | (m,k)::r,n,acc,p,h=>by
  unfold cellsFrom
  split
  . exact uo (List.mem_cons_of_mem _ h)
  . exact uo h
theorem QB:∀ {names:List (Str × NameKind)}{n:Nat}{acc:List (Str × Addr)}{x:Str},(x,.cell)∈names->∃ c,(x,c)∈cellsFrom n names acc
 | (m,k)::r,n,acc,x,h=>by
  unfold cellsFrom
  rcases List.mem_cons.mp h with e | h
  . cases e
    exact⟨n,uo List.mem_cons_self⟩
  . split
    . exact QB h
    . exact QB h
theorem QC:∀ {names:List (Str × NameKind)}{h:Heap}{acc:List (Str × Addr)}{x y:Str}{c:Addr},(∀ p∈acc,p.2<h.objs.size)->(∀ x y c,(x,c)∈acc->(y,c)∈acc->x=y) ->
 (x,c)∈cellsFrom h.objs.size names acc->(y,c)∈cellsFrom h.objs.size names acc->x=y
 | [],_,_,_,_,_,_,hi,h1,h2=>hi _ _ _ h1 h2
 | (n,k)::r,h,acc,x,y,c,hl,hi,h1,h2=>by
  unfold cellsFrom at h1 h2
  split at h1
  . rename_i hk
    rw[if_pos hk] at h2
    rw[<-Heap.size_push h { cls:=.type "cell",data:=.cell none }] at h1 h2
    refine QC (h:=h.push _) (fun p hp=>?_) (fun x y c a b=>?_) h1 h2
    . rw[Heap.size_push]
      rcases List.mem_cons.mp hp with rfl | hp
      . exact Nat.lt_succ_self _
      . exact Nat.lt_succ_of_lt (hl p hp)
    . rcases List.mem_cons.mp a with e | a <;> rcases List.mem_cons.mp b with e' | b
      . cases e;cases e';rfl
      . cases e;exact absurd (hl _ b) (Nat.lt_irrefl _)
      . cases e';exact absurd (hl _ a) (Nat.lt_irrefl _)
      . exact hi _ _ _ a b
  . rename_i hk
    rw[if_neg hk] at h2
    exact QC hl hi h1 h2
theorem Xg {M:Model}{A:Around}{E:Value->Shared->Prop}{s:Shared}{scope:Scope}{globals:Addr}{closure:List (Str × Addr)}{qual:Str}{func:Option Addr}{code:Value}{around:Env}{builtins:Addr}{Q:Env->Shared->Prop}
 (h:Q (newEnv scope s.heap.objs.size globals (cellsFrom (s.heap.objs.size+1) scope.names closure) qual func code (some around) builtins)
  { s with heap:=pushCells (s.heap.push { cls:=.type "dict",data:=.dict #[] }) scope.names }) :
 wpAny M A (newFunctionEnv scope globals closure [] qual func code (some around) builtins) Q E s:=by
 simp only[newFunctionEnv,Option.isSome_some,if_true]
 refine wpAny_bind (wpAny_alloc ?_)
 refine wpAny_bind (wpAny_layCells _ (fun n k c=>rfl) scope.names closure _ _ ?_)
 rw[show ({ s with heap:=s.heap.push { cls:=.type "dict",data:=.dict #[] } }:Shared).heap.objs.size=s.heap.objs.size+1 from Heap.size_push ..]
 rw[List.forIn_nil]
 exact wpAny_bind (wpAny_pure (wpAny_pure h))
theorem wS {sc:Scope}:∀ {names:List (Str × NameKind)}{x:Str}{k:NameKind},
 (names.map fun (n,k)=>if (k == NameKind.free && sc.kind == .function && sc.names.lookup n == some .cell) then (n,NameKind.cell) else (n,k)).lookup x=some k ->
 ∃ k',names.lookup x=some k'/\(k=k'∨(k'=.free/\k=.cell))
 | [],_,_,h=>by simp at h
 | (n,k₀)::r,x,k,h=>by
  have ih:=@wS sc r x k
  have h':List.lookup x ((if (k₀ == NameKind.free && sc.kind == .function && sc.names.lookup n == some .cell)=true then (n,NameKind.cell) else (n,k₀))::(r.map _))=some k:=h
  cases hx:x == n with
  | true =>
   simp only[List.lookup_cons,hx]
   by_cases hc:(k₀ == NameKind.free && sc.kind == .function && sc.names.lookup n == some .cell)=true
   . rw[if_pos hc] at h'
     simp only[List.lookup_cons,hx] at h'
     cases h'
     simp only[Bool.and_eq_true,beq_iff_eq] at hc
     exact⟨k₀,rfl,.inr ⟨hc.1.1,rfl⟩⟩
   . rw[if_neg hc] at h'
     simp only[List.lookup_cons,hx] at h'
     cases h'
     exact⟨_,rfl,.inl rfl⟩
  | false =>
   simp only[List.lookup_cons,hx]
   by_cases hc:(k₀ == NameKind.free && sc.kind == .function && sc.names.lookup n == some .cell)=true
   . rw[if_pos hc] at h'
     simp only[List.lookup_cons,hx] at h'
     exact ih h'
   . rw[if_neg hc] at h'
     simp only[List.lookup_cons,hx] at h'
     exact ih h'
structure Xh (N:List Str) (sc scope:Scope) (own:List (Str × Nat)):Prop where
 kind:scope.kind=.function
 uniq:∀ y∈scope.names,scope.names.lookup y.1=some y.2
 ix:∀ p∈own,N[p.2]?=some p.1
 free:∀ y∈scope.names,y.2=.free->sc.names.lookup y.1=some .cell∨sc.names.lookup y.1=some .free
 own:∀ y∈scope.names,y.2=.local∨y.2=.cell->y.1∈own.map (·.1)∨y.1 ∉ N
def qK (σ:St):List Nat->St
 | []=>σ
 | v::vs=>(qK σ vs).set v none
theorem wT (σ:St):∀ vs:List Nat,(qK σ vs).length=σ.length
 | []=>rfl
 | v::vs=>by unfold qK;rw[List.length_set,wT σ vs]
theorem QD {σ:St}{i:Nat}{x:V}:∀ {vs:List Nat},(qK σ vs)[i]?=some (some x)->σ[i]?=some (some x)/\i ∉ vs
 | [],h=>⟨h,by simp⟩
 | v::vs,h=>by
  unfold qK at h
  by_cases hi:v=i
  . subst hi
    by_cases hv:v<(qK σ vs).length
    . rw[List.getElem?_set_self hv] at h;cases h
    . rw[List.getElem?_eq_none (by simpa using hv)] at h;cases h
  . rw[List.getElem?_set_ne hi] at h
    obtain⟨h1,h2⟩:=QD h
    exact⟨h1,by simp only[List.mem_cons,not_or];exact⟨fun e=>hi e.symm,h2⟩⟩
abbrev Cx.blk (X:Cx) (s:Shared) (H:Hp) (scope:Scope) (cenv:Env) (fp:List Addr):Cx:={ X with s_0:=s,H_0:=H,env:=cenv,outer:=X.stack,ex:=fp,fn:=fun x=>scope.names.lookup x == some .cell,pn:=[],xe:=fun _ _=>False }
section
variable {X:Cx}{pins:List (Addr × Obj)}{σ:St}{H:Hp}{s:Shared}
theorem Xi {scope:Scope}{own:List (Str × Nat)}{fp:List Addr} (I:Inv X pins σ H s) (ok:Xh X.N X.env.scope scope own) (hN:X.N.Nodup) (hfp:∀ b∈fp,Je X pins H b/\b<s.heap.objs.size) :
 Inv (X.blk s H scope (compEnvC scope (cellsFrom (s.heap.objs.size+1) scope.names (qG X.env.cells scope.names [])) s.heap.objs.size X.env) fp) [] (qK σ (own.map (·.2))) H { s with heap:=pushCells (s.heap.push { cls:=.type "dict",data:=.dict #[] }) scope.names }:=by
 have hfree:∀ y∈scope.names,y.2=.free->∃ c,X.env.cells.lookup y.1=some c:=fun y hy e=>by
  rcases ok.free y hy e with k | k
  . exact I.ok.has _ (.inl k)
  . exact I.ok.has _ (.inr k)
 generalize hcenv:compEnvC scope (cellsFrom (s.heap.objs.size+1) scope.names (qG X.env.cells scope.names [])) s.heap.objs.size X.env=cenv
 have kp:∀ b o,s.heap.get? b=some o->(pushCells (s.heap.push { cls:=.type "dict",data:=.dict #[] }) scope.names).get? b=some o:=fun b o e=>pushCells_keeps _ _ _ _ (Heap.get?_push_of_some _ e)
 have hL:cenv.locals=s.heap.objs.size:=by rw[<-hcenv];rfl
 have hcl:cenv.cells=cellsFrom (s.heap.objs.size+1) scope.names (qG X.env.cells scope.names []):=by rw[<-hcenv];rfl
 have hsc:cenv.scope=adx scope X.env.scope:=by rw[<-hcenv];rfl
 rw[<-Heap.size_push s.heap { cls:=.type "dict",data:=.dict #[] }] at hcl
 have cm:∀ {y c},(y,c)∈qG X.env.cells scope.names []->X.env.cells.lookup y=some c/\c<s.heap.objs.size:=fun {y c} hm=>by
  rcases yT hm with hm | ⟨h1,rfl⟩
  . cases hm
  . obtain⟨c,hc⟩:=hfree _ h1 rfl
    rw[hc]
    obtain⟨w,z⟩:=I.cell _ _ hc
    exact⟨rfl,z.lt⟩
 have mem:∀ {y c},cenv.cells.lookup y=some c->(X.env.cells.lookup y=some c/\c<s.heap.objs.size)∨(s.heap.objs.size+1<=c/\CellAt (pushCells (s.heap.push { cls:=.type "dict",data:=.dict #[] }) scope.names) c none):=fun {y c} e=>by
  rw[hcl] at e
  rcases xG (PySem.mem_of_lookup e) with hm | ⟨_,h2,h3⟩
  . exact .inl (cm hm)
  . rw[Heap.size_push] at h2;exact .inr ⟨h2,h3⟩
 have look:∀ {y},scope.names.lookup y=some .free->∃ c,cenv.cells.lookup y=some c/\X.env.cells.lookup y=some c:=fun {y} hl=>by
  have hy:(y,NameKind.free)∈scope.names:=PySem.mem_of_lookup hl
  obtain⟨c',e'⟩:=Z4 (uo (names:=scope.names) (n:=(s.heap.push { cls:=.type "dict",data:=.dict #[] }).objs.size) (wR (cells:=X.env.cells) (acc:=[]) hy))
  rw[<-hcl] at e'
  refine⟨c',e',?_⟩
  rw[hcl] at e'
  rcases xG (PySem.mem_of_lookup e') with hm | ⟨h1,_,_⟩
  . exact (cm hm).1
  . have:=ok.uniq _ h1
    rw[hl] at this;cases this
 have okB:(X.blk s H scope cenv fp).Ok:=by
  refine⟨I.ok.mod,by show cenv.scope.kind=_;rw[hsc];exact ok.kind,by show cenv.globals=_;rw[<-hcenv];exact I.ok.glob,by show cenv.builtins=_;rw[<-hcenv];exact I.ok.blt,by show s.heap.objs.size<=cenv.locals;rw[hL];exact Nat.le_refl _,
   fun y z c e1 e2=>?_,fun y hy=>?_,fun y c z e=>?_,I.ok.hd,I.ok.frames,.inl rfl,fun b hb=>⟨?_,fun y c e z=>?_⟩,I.bs,Nat.le_trans I.ok.bsz I.sz,fun b o e hb=>?_,fun b hb z=>?_,I.stack,I.stkFree⟩
  . have e1:cenv.cells.lookup y=some c:=e1
    have e2:cenv.cells.lookup z=some c:=e2
    rw[hcl] at e1 e2
    refine QC (fun p hp=>?_) (fun y z c a b=>I.ok.inj y z c (cm a).1 (cm b).1) (PySem.mem_of_lookup e1) (PySem.mem_of_lookup e2)
    rw[Heap.size_push]
    exact Nat.lt_succ_of_lt (cm (y:=p.1) (c:=p.2) hp).2
  . show ∃ c,cenv.cells.lookup y=some c
    have key:∀ k,cenv.kindOf y=some k->(k=.cell∨k=.free)->∃ c,cenv.cells.lookup y=some c:=fun k hk hk'=>by
     unfold Env.kindOf at hk
     rw[hsc] at hk
     obtain⟨k',e,r⟩:=wS hk
     have:k'=.cell∨k'=.free:=by
      rcases r with rfl | ⟨rfl,_⟩
      . exact hk'
      . exact .inr rfl
     rcases this with rfl | rfl
     . obtain⟨c,hm⟩:=QB (n:=(s.heap.push { cls:=.type "dict",data:=.dict #[] }).objs.size) (acc:=qG X.env.cells scope.names []) (PySem.mem_of_lookup e)
       obtain⟨c',e'⟩:=Z4 hm
       exact⟨c',by rw[hcl];exact e'⟩
     . obtain⟨c,h1,_⟩:=look e
       exact⟨c,h1⟩
    rcases hy with hy | hy
    . exact key _ hy (.inl rfl)
    . exact key _ hy (.inr rfl)
  . have z:(scope.names.lookup y == some NameKind.cell)=true:=z
    have z:scope.names.lookup y=some .cell:=by simpa using z
    have e:cenv.cells.lookup y=some c:=e
    rw[hcl] at e
    rcases xG (PySem.mem_of_lookup e) with hm | ⟨_,h2,_⟩
    . rcases yT hm with hm | ⟨h1,_⟩
      . cases hm
      . have q:=ok.uniq _ h1
        rw[z] at q;cases q
    . rw[Heap.size_push] at h2
      exact Nat.le_of_succ_le h2
  . show b≠cenv.locals
    rw[hL];exact Nat.ne_of_lt (hfp b hb).2
  . have e:cenv.cells.lookup y=some c:=e
    rcases mem e with ⟨h1,_⟩ | ⟨h1,_⟩
    . exact (hfp b hb).1.2.2.2.2.1 y c h1 z
    . have h2:s.heap.objs.size+1<=b:=by rw[<-z];exact h1
      exact absurd (Nat.lt_of_lt_of_le (hfp b hb).2 (Nat.le_of_succ_le h2)) (Nat.lt_irrefl _)
  . rcases (hfp b hb).1.2.2.2.1 with z | z
    . exact I.ok.noex b o e z
    . exact absurd (Nat.lt_of_lt_of_le (Heap.lt_size e) (Nat.le_trans I.ok.bsz z)) (Nat.lt_irrefl _)
  . rcases List.mem_cons.mp (I.stkSub b z) with z | z
    . exact (hfp b hb).1.2.1 z
    . exact (hfp b hb).1.2.2.1 z
 refine⟨okB,rfl,I.bare,Un.kept kp,⟨fun _=>none,?_,fun i y av e1 e2 e3=>?_⟩,fun y c e=>?_,?_,fun y c e=>?_,fun p hp=>?_,I.hok.kept kp,by rw[wT];exact I.len⟩
 . show Heap.Ns _ cenv.locals _
   rw[hL]
   exact Heap.Ns.keeps (Heap.Ns.new ..) fun b o e=>pushCells_keeps _ _ _ _ e
 . obtain⟨e2,hne⟩:=QD e2
   have hfr:scope.names.lookup y=some .free/\(cenv.kindOf y=some .cell∨cenv.kindOf y=some .free):=by
    have key:∀ k,cenv.scope.names.lookup y=some k->k=.local∨k=.cell∨k=.free->scope.names.lookup y=some .free/\(cenv.kindOf y=some .cell∨cenv.kindOf y=some .free):=fun k hk hk'=>by
     have hk0:=hk
     rw[hsc] at hk
     obtain⟨k',e,r⟩:=wS hk
     have no:¬(k'=.local∨k'=.cell):=fun hh=>by
      rcases ok.own _ (PySem.mem_of_lookup e) hh with e' | e'
      . obtain⟨p,hp,hpy⟩:=List.mem_map.mp e'
        have e3:=ok.ix p hp
        have:p.1=y:=hpy
        rw[this] at e3
        exact hne (List.mem_map.mpr ⟨p,hp,JZ hN e3 e1⟩)
      . exact e' (List.mem_of_getElem? e1)
     rcases r with rfl | ⟨rfl,rfl⟩
     . rcases hk' with rfl | rfl | rfl
       . exact absurd (.inl rfl) no
       . exact absurd (.inr rfl) no
       . exact⟨e,.inr hk0⟩
     . exact⟨e,.inl hk0⟩
    have e3:Vis cenv.scope y:=e3
    rcases e3 with e3 | e3 | e3
    . exact key _ e3 (.inl rfl)
    . exact key _ e3 (.inr (.inl rfl))
    . exact key _ e3 (.inr (.inr rfl))
   obtain⟨m,hn,hl⟩:=I.loc
   have hvis:Vis X.env.scope y:=(ok.free _ (PySem.mem_of_lookup hfr.1) rfl).elim (fun k=>.inr (.inl k)) (fun k=>.inr (.inr k))
   obtain⟨w,r,q⟩:=hl i y av e1 e2 hvis
   refine⟨w,r,.inr ⟨hfr.2,?_⟩⟩
   obtain⟨c,h1,h2⟩:=look hfr.1
   rcases q with ⟨k,_⟩ | ⟨_,c',e',z⟩
   . have k:X.env.scope.names.lookup y=some .local:=k
     rcases ok.free _ (PySem.mem_of_lookup hfr.1) rfl with k' | k' <;> rw[show X.env.scope.names.lookup y=_ from k'] at k <;> cases k
   . rw[h2] at e';cases e'
     exact⟨c,h1,z.keeps kp⟩
 . have e:cenv.cells.lookup y=some c:=e
   rcases mem e with ⟨h1,_⟩ | ⟨_,z⟩
   . obtain⟨w,z⟩:=I.cell y c h1
     exact⟨w,z.keeps kp⟩
   . exact⟨_,z⟩
 . show H cenv.locals=none
   rw[hL];exact I.hok.fresh (Nat.le_refl _)
 . have e:cenv.cells.lookup y=some c:=e
   rcases mem e with ⟨h1,_⟩ | ⟨h1,_⟩
   . exact I.freeC y c h1
   . exact I.hok.fresh (Nat.le_of_succ_le h1)
 . exact absurd (show p∈([]:List (Addr × Obj))++[] from hp) (by simp)
theorem acs {E:Value->Shared->Prop}{D:Addr}{xs:List V}{y:V}{v:Value}{Q:Value->Shared->Prop} (I:Inv X pins σ H s) (hD:H D=some (.lst xs)) (hz:xs.length<sizeLine) (r:RelV y v)
 (h:∀ s',Inv X pins σ (upd H D (.lst (xs++[y]))) s'->Q .none s'):wpAny (model X.prog X.w) X.A (call (.builtin "list.append") [.ref D,v]) Q E s:=by
 obtain⟨hz',its,n,ri,e⟩:=I.hok D _ hD
 have hl:=ri.length
 refine append_at (hsz:=by rw[List.size_toArray];omega) e fun h' sb ho'=>?_
 refine h { s with heap:=h' } (I.write (t':=s.toks) (by rw[hD];trivial) (.inl rfl) (fun b u hb q=>(sb.2 b hb).trans q) ⟨_,ho'⟩ ⟨by rw[List.length_append];exact hz,its++[v],n+1,ri.append (.cons r .nil),?_⟩)
 rw[ho']
 simp
def PTs (X:Cx) (ifs:List Expr) (t:TT):Prop :=
 ∀ (pins:List (Addr × Obj)) (s:Shared) (σ:St) (H:Hp) (Q:Bool->Hp->Prop),Inv X pins σ H s->t σ H Q ->
  wpAny (model X.prog X.w) X.A (forIn ifs true fun c r=>if r=true then do let ok <-isTrue c X.env (eval c X.env);pure (ForInStep.yield ok) else pure (ForInStep.yield r)) (TP X pins σ Q) X.xe s
def K4:TT:=fun _ H Q=>Q true H
theorem ke:PTs X [] K4:=fun _ _ _ H _ I h=>wpAny_tests_nil ⟨H,I,h⟩
theorem xW {c:Expr}{t:TT} (h:PT X c t):PTs X [c] t:=fun pins s σ H Q I hw=>wpAny_tests_one (h pins s σ H Q I hw)
end
theorem UA {α:Type}{t:Sem α}{Q Q':α->Shared->Prop}{M:Model}{A:Around}{E:Value->Shared->Prop}{s:Shared} (h:wpAny M A t Q (fun _ _=>False) s) (hQ:∀ a s,Q a s->Q' a s):wpAny M A t Q' E s:=wpAny_mono h hQ fun _ _ z=>False.elim z
theorem Ya {prog:Program}{w:World}{A:Around}{R:Result->Shared->Prop}{s:Shared}{elt target iter:Expr}{ifs:List Expr}{scope:Scope}{pos:Pos}{it acc:Value}{env:Env} (I:Nat->Shared->Prop)
 (turn:∀ n s,I n s->wpAny (model prog w) A (pyNext it) (fun r s₁=>match r with
  | none=>R (.ok .next) s₁
  | some v=>wpAny (model prog w) A (letOwnedTupleGo target it v) (fun _ s₁'=>wpAny (model prog w) A (assign target env v) (fun _ s₂ =>
   wpAny (model prog w) A (forIn ifs true fun c r=>if r=true then do let ok <-isTrue c env (eval c env);pure (ForInStep.yield ok) else pure (ForInStep.yield r)) (fun ok s₃ =>
    if ok=true then wpAny (model prog w) A (eval elt env) (fun x s₄ =>
     wpAny (model prog w) A (call (.builtin "list.append") [acc,x]) (fun _ s₅=>∃ m,m<n/\I m s₅) (notedBy (model prog w) A env fun e s'=>R (.error e) s') s₄) (notedBy (model prog w) A env fun e s'=>R (.error e) s') s₃
    else ∃ m,m<n/\I m s₃) (notedBy (model prog w) A env fun e s'=>R (.error e) s') s₂) (notedBy (model prog w) A env fun e s'=>R (.error e) s') s₁') (notedBy (model prog w) A env fun e s'=>R (.error e) s') s₁) (notedBy (model prog w) A env fun e s'=>R (.error e) s') s)
 (n:Nat) (h:I n s) :
 codeAny (model prog w) A (.compLoop (.ListComp elt [⟨target,iter,ifs,0⟩] scope pos) 0 it acc env) R s:=by
 refine codeAny_loop rfl I (fun n s hI=>?_) n h
 show wpAny _ A ((compTurn (.ListComp elt [⟨target,iter,ifs,0⟩] scope pos) 0 it acc env).onRaise (fun x=>do noteFrame x env;theTreesLotGoes x)) _ _ s
 refine wpAny_noted ?_
 rw[compTurn_list]
 refine wpAny_bind (wpAny_standAt (wpAny_bind (wpAny_mono (turn n s hI) (fun r s₁ h₁=>?_) fun _ _ h'=>h')))
 cases r with
 | none=>exact wpAny_pure h₁
 | some v =>
  refine wpAny_bind (wpAny_mono h₁ (fun _ s₁' h₁'=>?_) fun _ _ h'=>h')
  refine wpAny_bind (wpAny_mono h₁' (fun _ s₂ h₂=>wpAny_bind (wpAny_mono h₂ (fun ok s₃ h₃=>?_) fun _ _ h'=>h')) fun _ _ h'=>h')
  cases ok with
  | false=>exact wpAny_pure ⟨rfl,h₃⟩
  | true =>
   exact wpAny_bind (wpAny_bind (wpAny_mono h₃ (fun x s₄ h₄=>wpAny_bind (wpAny_mono h₄ (fun _ s₅ h₅=>wpAny_pure (wpAny_pure ⟨rfl,h₅⟩)) fun _ _ h'=>h')) fun _ _ h'=>h'))
section
variable {X:Cx}
def tLc (wi:TI) (g:TG) (tt:TT) (te:TE) (vs:List Nat):TE:=fun σ H Q=>wi σ H fun J H1=>∀ D,H1 D=none->∃ W:Nat->Nat->Hp->Prop,(∃ m,W 0 m (upd H1 D (.lst [])))/\∀ i m H,W i m H ->
 (J.stop i H/\Q (.ref D) H)∨(J.go i H/\∃ Nx:Hp->Prop,(∀ H',Nx H'->∃ m',m'<m/\W (i+1) m' H')/\∀ x H',J.yld i H x H'->g x (qK σ vs) H' fun σ2 H2=>qK σ2 vs=qK σ vs/\tt σ2 H2 fun b H3 =>
  if b=true then te σ2 H3 fun y H4=>∃ acc,H4 D=some (.lst acc)/\acc.length<sizeLine/\Nx (upd H4 D (.lst (acc++[y]))) else Nx H3)
theorem WX {pins:List (Addr × Obj)}{s:Shared}{σ:St}{H:Hp}{Q:VK}{elt tg iter:Expr}{ifs:List Expr}{scope:Scope}{own:List (Str × Nat)}{pos pos':Pos}{wi:TI}{g:TG}{tt:TT}{te:TE}{use:Option (Value->Sem Unit)}{Qf:Value->Shared->Prop}
 (hc:X.calm=true) (hN:X.N.Nodup) (I:Inv X pins σ H s) (hi:PI X tg iter wi) (ok:Xh X.N X.env.scope scope own)
 (hg:∀ (s:Shared) (H:Hp) (C:Addr) (cl:List (Str × Addr)) (fp:List Addr),PG (X.blk s H scope (compEnvC scope cl C X.env) fp) tg g) (ht:∀ (s:Shared) (H:Hp) (C:Addr) (cl:List (Str × Addr)) (fp:List Addr),PTs (X.blk s H scope (compEnvC scope cl C X.env) fp) ifs tt)
 (he:∀ (s:Shared) (H:Hp) (C:Addr) (cl:List (Str × Addr)) (fp:List Addr),PE (X.blk s H scope (compEnvC scope cl C X.env) fp) elt te) (hs:∀ x,foldedSetIterable iter X.env x=pure x)
 (h:tLc wi g tt te (own.map (·.2)) σ H Q)
 (hRR:∀ D C s' m H',Inv X pins σ H' s'->Q (.ref D) H'->s'.heap.Ns C m->Je X pins H' C->compPost (model X.prog X.w) X.A X.xe use Qf (.ref D) C (.ok .next) s') :
 wpAny (model X.prog X.w) X.A (comprehension (.ListComp elt [⟨tg,iter,ifs,0⟩] scope pos) scope X.env pos' (newList []) false (eval iter X.env) use) Qf X.xe s:=by
 have hfree:∀ y∈scope.names,y.2=.free->∃ c,X.env.cells.lookup y.1=some c:=fun y hy e=>by
  rcases ok.free y hy e with k | k
  . exact I.ok.has _ (.inl k)
  . exact I.ok.has _ (.inr k)
 refine wpAny_comprehension_free (use:=use) rfl hs (Wh hfree) ok.kind (fun y hy e=>by rw[ok.uniq y hy,e])
  (thn (hi pins s σ H _ I h) fun xv s1 hx=>thn hx fun itv s2 h2=>?_)
 obtain⟨it,fp,tn,J,H2,e,I2,T,st2,f2,q⟩:=h2
 subst e
 refine wpAny_newObj_type (Xg ?_) (by show 0<=sizeLine;decide)
 generalize hD:s2.heap.objs.size=D
 have hDn:H2 D=none:=I2.hok.fresh (Nat.le_of_eq hD)
 obtain⟨W,⟨m0,w0⟩,turn⟩:=q D hDn
 generalize hs3:({ s2 with heap:=s2.heap.push { cls:=.type "list",data:=.seq ([]:List Value).toArray } }:Shared)=s3
 have I3:Inv X pins σ (upd H2 D (.lst [])) s3:=by
  rw[<-hs3]
  refine I2.laid (t':=s2.toks) (fun b o e=>Heap.get?_push_of_some _ e) (Nat.le_of_eq hD) ⟨Nat.zero_le _,[],0,.nil,?_⟩
  rw[<-hD]
  exact Heap.get?_push_size _ rfl
 have h3:s3.heap=s2.heap.push { cls:=.type "list",data:=.seq ([]:List Value).toArray }:=by rw[<-hs3]
 have sz:∀ b∈fp,b<s2.heap.objs.size:=fun b hb=>by
  obtain⟨o,e,_⟩:=T.obj _ _ st2 b hb
  exact Heap.lt_size e
 have f3:∀ b∈fp,Je X pins (upd H2 D (.lst [])) b/\b<s3.heap.objs.size:=fun b hb=>by
  have hlt:=sz b hb
  refine⟨⟨?_,(f2 b hb).2⟩,by rw[h3,Heap.size_push];exact Nat.lt_succ_of_lt hlt⟩
  rw[z8 (by rw[<-hD];exact Nat.ne_of_lt hlt)]
  exact (f2 b hb).1
 have st3:tn 0 s3.heap:=T.keep _ _ _ st2 fun b _ o e=>by rw[h3];exact Heap.get?_push_of_some _ e
 have I4:=Xi I3 ok hN f3
 have pg:=hg s3 (upd H2 D (.lst [])) s3.heap.objs.size (cellsFrom (s3.heap.objs.size+1) scope.names (qG X.env.cells scope.names [])) fp
 have pt:=ht s3 (upd H2 D (.lst [])) s3.heap.objs.size (cellsFrom (s3.heap.objs.size+1) scope.names (qG X.env.cells scope.names [])) fp
 have pe:=he s3 (upd H2 D (.lst [])) s3.heap.objs.size (cellsFrom (s3.heap.objs.size+1) scope.names (qG X.env.cells scope.names [])) fp
 show codeAny _ _ (.compStart (.ListComp elt [⟨tg,iter,ifs,0⟩] scope pos) 0 (.ref it) (.ref D) (compEnvC scope (cellsFrom (s3.heap.objs.size+1) scope.names (qG X.env.cells scope.names [])) s3.heap.objs.size X.env)) (compPost (model X.prog X.w) X.A X.xe use Qf (.ref D) s3.heap.objs.size) { s3 with heap:=pushCells (s3.heap.push { cls:=.type "dict",data:=.dict #[] }) scope.names }
 have nfp:∀ b∈fp,(upd H2 D (.lst [])) b=none:=fun b hb=>(f3 b hb).1.1
 generalize hce:compEnvC scope (cellsFrom (s3.heap.objs.size+1) scope.names (qG X.env.cells scope.names [])) s3.heap.objs.size X.env=ce at I4 pg pt pe ⊢
 have cL:ce.locals=s3.heap.objs.size:=by subst hce;rfl
 generalize hH3:upd H2 D (.lst [])=H3 at I3 I4 pg pt pe w0 nfp f3
 generalize hs4:({ s3 with heap:=pushCells (s3.heap.push { cls:=.type "dict",data:=.dict #[] }) scope.names }:Shared)=s4 at I4 ⊢
 have st4:tn 0 s4.heap:=T.keep _ _ _ st3 fun b _ o e=>by rw[<-hs4];exact pushCells_keeps _ _ _ _ (Heap.get?_push_of_some _ e)
 have stat:∀ {σ':St}{H':Hp}{s':Shared},Inv (X.blk s3 H3 scope ce fp) [] σ' H' s'->(∀ b∈fp,H' b=none)->∀ b∈fp,Je (X.blk s3 H3 scope ce fp) [] H' b:=fun {σ' H' s'} I' hn b hb =>
  ⟨hn b hb,(I'.ok.exf b hb).1,I'.ok.exfs b hb,.inl hb,fun x c e=>(I'.ok.exf b hb).2 x c e,fun p hp=>absurd (show p∈([]:List (Addr × Obj))++[] from hp) (by simp)⟩
 have loop:codeAny (model X.prog X.w) X.A (.compLoop (.ListComp elt [⟨tg,iter,ifs,0⟩] scope pos) 0 (.ref it) (.ref D) ce) (compPost (model X.prog X.w) X.A X.xe use Qf (.ref D) s3.heap.objs.size) s4:=by
  refine Ya (fun n s'=>∃ i H',Inv (X.blk s3 H3 scope ce fp) [] (qK σ (own.map (·.2))) H' s'/\tn i s'.heap/\(∀ b∈fp,H' b=none)/\W i n H') ?_ m0 ⟨0,H3,I4,st4,nfp,w0⟩
  rintro n s5 ⟨i,H5,I5,st5,n5,w5⟩
  rcases turn i n H5 w5 with ⟨stop,qq⟩ | ⟨go,Nx,hNx,step⟩
  . have td:=T.done (X.blk s3 H3 scope ce fp) rfl rfl rfl hc i [] s5 _ H5 (fun _ _=>False) I5 (stat I5 n5) st5 stop
    refine UA td fun r s6 ⟨hr,I6⟩=>?_
    subst hr
    have I7:Inv X pins σ H5 s6:=I3.call' (ch:=fp) I6.os I6.base I6.hok I6.bare fun b hb=>⟨(f3 b hb).1.2.2.2.1,(f3 b hb).1.2.1,(f3 b hb).1.2.2.2.2.1,(f3 b hb).1.2.2.2.2.2⟩
    have nC:H5 s3.heap.objs.size=none:=by
     have z:H5 ce.locals=none:=I6.free
     rw[cL] at z
     exact z
    obtain⟨m,hn,_⟩:=I6.loc
    have hn:s6.heap.Ns ce.locals m:=hn
    rw[cL] at hn
    exact hRR D s3.heap.objs.size s6 m H5 I7 qq hn (I3.fpOk (Nat.le_refl _) nC)
  . have ti:=T.item (X.blk s3 H3 scope ce fp) rfl rfl rfl hc i [] s5 _ H5 (fun _ _=>False) I5 (stat I5 n5) st5 go
    refine UA ti fun r s6 ⟨u,hr,h6⟩=>?_
    subst hr
    refine UA h6 fun _ s7 ⟨x,H7,I7,r7,y7,st7,n7⟩=>?_
    have I7':=I7.pinned (stat I7 n7) (T.obj _ _ st7)
    refine UA (pg _ s7 _ H7 x u _ I7' r7 (step x H7 y7)) fun _ s8 ⟨σ8,H8,I8,hw8,q8⟩=>?_
    refine UA (pt _ s8 σ8 H8 _ I8 q8) fun b s9 ⟨H9,I9,q9⟩=>?_
    have fin:∀ {s':Shared}{H':Hp},Inv (X.blk s3 H3 scope ce fp) ([]++K1 fp s7.heap) σ8 H' s'->Nx H'->∃ m,m<n/\∃ i H',Inv (X.blk s3 H3 scope ce fp) [] (qK σ (own.map (·.2))) H' s'/\tn i s'.heap/\(∀ b∈fp,H' b=none)/\W i m H':=fun {s' H'} I' nx=>by
     obtain⟨m',hm,w'⟩:=hNx H' nx
     have pin':∀ b∈fp,∀ o,s7.heap.get? b=some o->s'.heap.get? b=some o/\H' b=none:=fun b hb o e =>
      let z:=I'.pin (b,o) (List.mem_append_right _ (List.mem_append_right _ (Z3 hb e)))
      ⟨z.1,z.2.1⟩
     have hl:(qK σ (own.map (·.2))).length=σ8.length:=by rw[<-hw8,wT]
     refine⟨m',hm,i+1,H',(I'.unpinned (pins:=[])).weak hl (fun j v e=>?_),T.keep _ _ _ st7 fun b hb o e=>(pin' b hb o e).1,fun b hb=>?_,w'⟩
     . rw[<-hw8] at e
       exact (QD e).1
     . obtain⟨o,e,_⟩:=T.obj _ _ st7 b hb
       exact (pin' b hb o e).2
    cases b with
    | false =>
     simp only[Bool.false_eq_true,if_false] at q9 ⊢
     exact fin I9 q9
    | true =>
     simp only[if_true] at q9 ⊢
     refine UA (pe _ s9 σ8 H9 _ I9 q9) fun z s10 ⟨yv,H10,I10,r10,acc,hD10,hz10,nx⟩=>?_
     exact acs (X:=X.blk s3 H3 scope ce fp) I10 hD10 hz10 r10 fun s11 I11=>fin I11 nx
 exact codeAny_compStart_list loop (T.self X.A 0 _ _ _ st4 loop)
theorem wU {elt tg iter:Expr}{ifs:List Expr}{scope:Scope}{own:List (Str × Nat)}{pos:Pos}{wi:TI}{g:TG}{tt:TT}{te:TE} (hc:X.calm=true) (hN:X.N.Nodup) (hi:PI X tg iter wi) (ok:Xh X.N X.env.scope scope own)
 (hg:∀ (s:Shared) (H:Hp) (C:Addr) (cl:List (Str × Addr)) (fp:List Addr),PG (X.blk s H scope (compEnvC scope cl C X.env) fp) tg g) (ht:∀ (s:Shared) (H:Hp) (C:Addr) (cl:List (Str × Addr)) (fp:List Addr),PTs (X.blk s H scope (compEnvC scope cl C X.env) fp) ifs tt)
 (he:∀ (s:Shared) (H:Hp) (C:Addr) (cl:List (Str × Addr)) (fp:List Addr),PE (X.blk s H scope (compEnvC scope cl C X.env) fp) elt te) (hs:∀ x,foldedSetIterable iter X.env x=pure x:=by intro _;rfl) :
 PE X (.ListComp elt [⟨tg,iter,ifs,0⟩] scope pos) (tLc wi g tt te (own.map (·.2))):=by
 intro pins s σ H Q I h
 rw[eval_ListComp]
 refine WX hc hN I hi ok hg ht he hs h fun D C s' m H' I' q hn f=>⟨m,hn,fun h'' sb=>?_⟩
 obtain⟨f0,f1,f2,f3,f4,f5⟩:=f
 exact⟨.ref D,H',I'.turned (t':=s'.toks) (fun b o hb e=>(sb.2 b hb).trans e) f0 f1 f3 f4 f5,rfl,q⟩
theorem vL {i:Nat}{y:Str}{py:Pos}{elt tg iter:Expr}{ifs:List Expr}{scope:Scope}{own:List (Str × Nat)}{pos spos:Pos}{wi:TI}{g:TG}{tt:TT}{te:TE} (hc:X.calm=true) (hN:X.N.Nodup) (hy:X.N[i]?=some y) (hyl:X.env.scope.names.lookup y=some .local)
 (hsw:swapsWith (.ListComp elt [⟨tg,iter,ifs,0⟩] scope pos) (some (.Name y py)) spos.line X.env=pure true) (hi:PI X tg iter wi) (ok:Xh X.N X.env.scope scope own)
 (hg:∀ (s:Shared) (H:Hp) (C:Addr) (cl:List (Str × Addr)) (fp:List Addr),PG (X.blk s H scope (compEnvC scope cl C X.env) fp) tg g) (ht:∀ (s:Shared) (H:Hp) (C:Addr) (cl:List (Str × Addr)) (fp:List Addr),PTs (X.blk s H scope (compEnvC scope cl C X.env) fp) ifs tt)
 (he:∀ (s:Shared) (H:Hp) (C:Addr) (cl:List (Str × Addr)) (fp:List Addr),PE (X.blk s H scope (compEnvC scope cl C X.env) fp) elt te) (hs:∀ x,foldedSetIterable iter X.env x=pure x:=by intro _;rfl) :
 PS X (.Assign [.Name y py] (.ListComp elt [⟨tg,iter,ifs,0⟩] scope pos) spos) (Y3 (tLc wi g tt te (own.map (·.2))) (wj i)):=by
 intro pins s σ H D I h
 rw[exec_Assign_Name_used _ _ _ _ hsw]
 refine wpAny_bind (wpAny_standAt (wpAny_bind ?_))
 show wpAny _ X.A (do let _ <-comprehension (.ListComp elt [⟨tg,iter,ifs,0⟩] scope pos) scope X.env (firstIterPos [⟨tg,iter,ifs,0⟩] pos) (newList []) false (eval iter X.env) (some (assign (.Name y py) X.env))) _ _ s
 have h:tLc wi g tt te (own.map (·.2)) σ H (fun x H1=>wj i x σ H1 D.nx):=h
 refine wpAny_bind (thn (WX (Qf:=fun _ s'=>SP X pins D .next s') hc hN I hi ok hg ht he hs h fun L C s' m H' I' q hn f=>?_) fun _ s' hq=>wpAny_pure (wpAny_pure hq))
 show wpAny _ _ (assign (.Name y py) X.env (.ref L)) _ _ _
 refine wpAny_assign_Name (Vo (v:=V.ref L) I' hN hy (.inl hyl) rfl (fun s2 I2 ⟨a,sb,ha⟩=>?_) (.inr hyl))
 obtain⟨f0,f1,f2,f3,f4,f5⟩:=f
 have haC:C≠a:=by
  rcases ha with z | z
  . rw[z];exact f1
  . exact fun e=>f4 y a z e.symm
 refine⟨m,hn.sameBut sb haC,fun h3 sb3=>?_⟩
 exact⟨_,H',I2.turned (t':=s2.toks) (fun b o hb e=>(sb3.2 b hb).trans e) f0 f1 f3 f4 f5,q⟩
theorem yU {elt:Expr}{gs:List Comprehension}{scope:Scope}{pos py:Pos}{y:Str}{l:Nat}{env:Env} (hk:env.scope.kind=.function) (hy:env.scope.names.lookup y=some .local) (hl:(py.line == pos.line)=true)
 (ha:(scope.names.any fun (n,k)=>n == y && (k == .local || k == .cell))=false):swapsWith (.ListComp elt gs scope pos) (some (.Name y py)) l env=pure true:=by
 have ky:env.kindOf y=some .local:=hy
 have hb:env.blockKind=.function:=by unfold Env.blockKind;rw[hk];rfl
 unfold swapsWith
 simp only[hb,ky,ha,Expr.pos,hl]
 rfl
end
theorem WY {K:PySem.W.Frag}{a:Addr}{xs:List V}{g:TG}{tt:TT}{te:TE}{vs:List Nat}{σ:St}{H1:Hp}{D:Addr}{Qd:Hp->Prop} (Pv:Nat->Hp->Prop) (h0:Pv 0 (upd H1 D (.lst []))) (hl:∀ i H,i<=xs.length->Pv i H->SqL K H a xs)
 (hs:∀ i x H,xs[i]?=some x->Pv i H->g x (qK σ vs) H fun σ2 H2=>qK σ2 vs=qK σ vs/\tt σ2 H2 fun b H3 =>
  if b=true then te σ2 H3 fun y H4=>∃ acc,H4 D=some (.lst acc)/\acc.length<sizeLine/\Pv (i+1) (upd H4 D (.lst (acc++[y]))) else Pv (i+1) H3) (hd:∀ H,Pv xs.length H->Qd H) :
 ∃ W:Nat->Nat->Hp->Prop,(∃ m,W 0 m (upd H1 D (.lst [])))/\∀ i m H,W i m H ->
  ((Itl K a).stop i H/\Qd H)∨((Itl K a).go i H/\∃ Nx:Hp->Prop,(∀ H',Nx H'->∃ m',m'<m/\W (i+1) m' H')/\∀ x H',(Itl K a).yld i H x H'->g x (qK σ vs) H' fun σ2 H2=>qK σ2 vs=qK σ vs/\tt σ2 H2 fun b H3 =>
   if b=true then te σ2 H3 fun y H4=>∃ acc,H4 D=some (.lst acc)/\acc.length<sizeLine/\Nx (upd H4 D (.lst (acc++[y]))) else Nx H3):=by
 refine⟨fun i m H=>m=xs.length - i/\i<=xs.length/\Pv i H,⟨xs.length,by simp,Nat.zero_le _,h0⟩,?_⟩
 rintro i m H ⟨rfl,hi,p⟩
 have q:=hl i H hi p
 by_cases hlt:i<xs.length
 . refine .inr ⟨⟨xs,xs[i],q,by simp[hlt]⟩,Pv (i+1),fun H' p'=>⟨xs.length - (i+1),by omega,rfl,hlt,p'⟩,fun x H' y=>?_⟩
   obtain⟨e,y⟩:=y
   subst e
   exact hs i x _ (y xs q) p
 . have e:i=xs.length:=by omega
   subst e
   exact .inl ⟨⟨xs,q,Nat.le_refl _⟩,hd H p⟩
def ac7 (N:List Str) (sc scope:Scope) (own:List (Str × Nat)):Bool :=
 (match scope.kind with | .function=>true | _=>false) && (scope.names.all fun y=>decide (scope.names.lookup y.1=some y.2)) && (own.all fun p=>decide (N[p.2]?=some p.1)) &&
  (scope.names.all fun y=>match y.2 with
   | .free=>(match sc.names.lookup y.1 with | some .cell=>true | some .free=>true | _=>false)
   | .local=>decide (y.1∈own.map (·.1)) || decide (y.1 ∉ N)
   | .cell=>decide (y.1∈own.map (·.1)) || decide (y.1 ∉ N)
   | _=>true)
theorem qy {N:List Str}{sc scope:Scope}{own:List (Str × Nat)} (h:ac7 N sc scope own=true):Xh N sc scope own:=by
 unfold ac7 at h
 simp only[Bool.and_eq_true,List.all_eq_true,decide_eq_true_eq] at h
 obtain⟨⟨⟨h1,h2⟩,h3⟩,h4⟩:=h
 refine⟨?_,h2,h3,fun y hy e=>?_,fun y hy e=>?_⟩
 . split at h1
   . assumption
   . cases h1
 . have q:=h4 y hy
   simp only[e] at q
   split at q <;> first | exact .inl (by assumption) | exact .inr (by assumption) | cases q
 . have q:=h4 y hy
   rcases e with e | e <;> (simp only[e,Bool.or_eq_true,decide_eq_true_eq] at q;exact q)
end L2
namespace L2
open PySem PySem.Spec PyProof.Rows
end L2
namespace L2
open PySem PySem.Spec PyProof.Rows
section
variable {κ:Type} [DecidableEq κ]
def ww (kvs:List (κ × V)) (k:κ):Option V:=(kvs.find? fun kv=>decide (kv.1=k)).map (·.2)
def ye (kvs:List (κ × V)) (k:κ) (v:V):List (κ × V) :=
 if (kvs.any fun kv=>decide (kv.1=k))=true then kvs.map (fun kv=>if kv.1=k then (kv.1,v) else kv) else kvs++[(k,v)]
theorem yJ {p:κ × V}{r:List (κ × V)}{k:κ} (e:p.1=k):ww (p::r) k=some p.2:=by simp[ww,List.find?_cons,e]
theorem vM {p:κ × V}{r:List (κ × V)}{k:κ} (e:¬p.1=k):ww (p::r) k=ww r k:=by simp[ww,List.find?_cons,e]
theorem Xj (k:κ):∀ kvs:List (κ × V),(kvs.any fun kv=>decide (kv.1=k))=(ww kvs k).isSome
 | []=>rfl
 | p::r=>by
  rw[List.any_cons]
  by_cases e:p.1=k
  . simp only[yJ e,decide_eq_true e,Bool.true_or,Option.isSome_some]
  . rw[vM e,decide_eq_false e,Bool.false_or];exact Xj k r
theorem wV (kvs:List (κ × V)) (k:κ) (v:V):(ye kvs k v).length<=kvs.length+1:=by
 unfold ye
 split
 . rw[List.length_map];omega
 . rw[List.length_append,List.length_cons,List.length_nil];omega
theorem RelO.isSome_eq {o:Option V}{u:Option Value} (r:RelO o u):o.isSome=u.isSome:=by
 cases o with
 | none=>cases u with
  | none=>rfl
  | some _=>exact (show False from r).elim
 | some _=>cases u with
  | none=>exact (show False from r).elim
  | some _=>rfl
theorem RelO.getD {o:Option V}{u:Option Value}{d:V}{d':Value} (r:RelO o u) (rd:RelV d d'):RelV (o.getD d) (u.getD d'):=by
 cases o with
 | none=>cases u with
  | none=>exact rd
  | some _=>exact (show False from r).elim
 | some _=>cases u with
  | none=>exact (show False from r).elim
  | some _=>exact r
theorem KV.val {kvs:List (κ × V)}{vs:List (κ × Value)} (r:KV kvs vs) (k:κ):RelO (ww kvs k) (valueAt vs k):=by
 unfold KV at r
 induction r with
 | nil=>exact True.intro
 | @cons p q ps qs h t ih =>
  obtain⟨h1,h2⟩:=h
  by_cases e:p.1=k
  . have e':q.1=k:=h1.symm.trans e
    have b:valueAt (q::qs) k=some q.2:=by simp[valueAt,List.find?_cons,e']
    rw[yJ e,b];exact h2
  . have e':¬q.1=k:=fun z=>e (h1.trans z)
    have b:valueAt (q::qs) k=valueAt qs k:=by simp[valueAt,List.find?_cons,e']
    rw[vM e,b];exact ih
theorem KV.any {kvs:List (κ × V)}{vs:List (κ × Value)} (r:KV kvs vs) (k:κ):(kvs.any fun kv=>decide (kv.1=k))=vs.any fun kv=>decide (kv.1=k):=by
 unfold KV at r
 induction r with
 | nil=>rfl
 | cons h t ih=>rw[List.any_cons,List.any_cons,ih,h.1]
theorem KV.repl {kvs:List (κ × V)}{vs:List (κ × Value)} (r:KV kvs vs) (k:κ) {y:V}{u:Value} (ry:RelV y u) :
 KV (kvs.map fun kv=>if kv.1=k then (kv.1,y) else kv) (vs.map fun kv=>if kv.1=k then (kv.1,u) else kv):=by
 unfold KV at r ⊢
 induction r with
 | nil=>exact .nil
 | @cons p q ps qs h t ih =>
  rw[List.map_cons,List.map_cons]
  refine .cons ?_ ih
  obtain⟨h1,h2⟩:=h
  by_cases e:p.1=k
  . rw[if_pos e,if_pos (h1.symm.trans e)];exact⟨h1,ry⟩
  . rw[if_neg e,if_neg (fun z=>e (h1.trans z))];exact⟨h1,h2⟩
theorem KV.put {kvs:List (κ × V)}{vs:List (κ × Value)} (r:KV kvs vs) (k:κ) {y:V}{u:Value} (ry:RelV y u):KV (ye kvs k y) (stored vs k u):=by
 unfold ye stored
 rw[r.any k]
 by_cases e:(vs.any fun kv=>decide (kv.1=k))=true
 . rw[if_pos e,if_pos e];exact r.repl k ry
 . rw[if_neg e,if_neg e];exact Paired.snoc r ⟨rfl,ry⟩
theorem KV.length {kvs:List (κ × V)}{vs:List (κ × Value)} (r:KV kvs vs):kvs.length=vs.length:=Paired.length r
end
theorem Vy {P:Program}{w:World}{k:Key}{u:Value} (r:RelV (kV k) u):(j0 P w).is k u=true:=by
 cases k with
 | inl i=>obtain⟨t,e⟩:=(show ∃ t,u=Value.int i t from r);subst e;exact X7 P w i t
 | inr x=>obtain⟨t,e⟩:=(show ∃ t,u=Value.str x t from r);subst e;exact X8 P w x t
theorem Vz {P:Program}{w:World}:∀ {ks:List Key}{us:List Value},Vals (ks.map kV) us->ItemsAre (j0 P w) ks us
 | [],_,r=>by rw[List.map_nil] at r;cases r;exact .nil
 | k::ks,_,r=>by
  rw[List.map_cons] at r
  cases r with
  | cons h t=>exact .cons (Vy h) (Vz t)
abbrev KT (H:Hp):List (List Key × V)->List (List Key × Addr × Value)->Prop:=Paired fun p q=>p.1=q.1/\H q.2.1=some (.tup (p.1.map kV))/\RelV p.2 q.2.2
theorem KT.val {H:Hp}{kvs:List (List Key × V)}{xs:List (List Key × Addr × Value)} (r:KT H kvs xs) (k:List Key):RelO (ww kvs k) ((atKey xs k).map (·.2)):=by
 induction r with
 | nil=>exact True.intro
 | @cons p q ps qs h t ih =>
  obtain⟨h1,_,h2⟩:=h
  by_cases e:p.1=k
  . have e':q.1=k:=h1.symm.trans e
    have b:atKey (q::qs) k=some q.2:=by simp[atKey,List.find?_cons,e']
    rw[yJ e,b];exact h2
  . have e':¬q.1=k:=fun z=>e (h1.trans z)
    have b:atKey (q::qs) k=atKey qs k:=by simp[atKey,List.find?_cons,e']
    rw[vM e,b];exact ih
theorem KT.repl {H:Hp}{kvs:List (List Key × V)}{xs:List (List Key × Addr × Value)} (r:KT H kvs xs) (k:List Key) {y:V}{u:Value} (ry:RelV y u) :
 KT H (kvs.map fun kv=>if kv.1=k then (kv.1,y) else kv) (xs.map (putAt k u)):=by
 induction r with
 | nil=>exact .nil
 | @cons p q ps qs h t ih =>
  rw[List.map_cons,List.map_cons]
  refine .cons ?_ ih
  obtain⟨h1,h2,h3⟩:=h
  unfold putAt
  by_cases e:p.1=k
  . rw[if_pos e,if_pos (h1.symm.trans e)];exact⟨h1,h2,ry⟩
  . rw[if_neg e,if_neg (fun z=>e (h1.trans z))];exact⟨h1,h2,h3⟩
theorem KT.put {H:Hp}{kvs:List (List Key × V)}{xs:List (List Key × Addr × Value)} (r:KT H kvs xs) (k:List Key) {b:Addr}{y:V}{u:Value} (hb:H b=some (.tup (k.map kV))) (ry:RelV y u) :
 KT H (ye kvs k y) (storedH xs k b u):=by
 have e:(kvs.any fun kv=>decide (kv.1=k))=(atKey xs k).isSome:=by
  rw[Xj,(r.val k).isSome_eq,Option.isSome_map]
 unfold ye storedH
 rw[e]
 by_cases q:(atKey xs k).isSome=true
 . rw[if_pos q,if_pos q];exact r.repl k ry
 . rw[if_neg q,if_neg q];exact Paired.snoc r ⟨rfl,hb,ry⟩
theorem KT.keeps {H H':Hp}{kvs:List (List Key × V)}{xs:List (List Key × Addr × Value)} (r:KT H kvs xs) (ht:∀ b ys,H b=some (.tup ys)->H' b=some (.tup ys)):KT H' kvs xs :=
 Paired.mapP r fun _ _ z=>⟨z.1,ht _ _ z.2.1,z.2.2⟩
section
variable {P:Program}{w:World}{H:Hp}{h:Heap}{a:Addr}
theorem ab6 {u:HO} (ok:HOk P w H h) (e:Rd H a u):ObjOk P w H h a u:=e.ok ok
theorem VA {kvs:List (Key × V)} (ok:HOk P w H h) (e:Rd H a (.dK kvs)):kvs.length<=sizeLine/\(a == sysModules)=false/\∃ vs,KV kvs vs/\h.DictOf (j0 P w) a vs :=
 show ObjOk P w H h a (.dK kvs) from ab6 ok e
theorem ab7 {kvs:List (Key × V)} (ok:HOk P w H h) (e:H a=some (.dK kvs)):kvs.length<=sizeLine/\(a == sysModules)=false/\∃ vs,KV kvs vs/\h.DictOf (j0 P w) a vs:=VA ok (.inl e)
theorem K5 {ks:List Key} (ok:HOk P w H h) (e:H a=some (.tup (ks.map kV))):(tupleKind (j0 P w)).is h ks a:=by
 obtain⟨_,its,r,o,h1,h2,n,h3⟩:=(show ObjOk P w H h a (.tup (ks.map kV)) from ok a _ e)
 exact⟨o,its.toArray,n,h1,h2,h3,by simpa using Vz r⟩
theorem VB {kvs:List (List Key × V)} (ok:HOk P w H h) (e:Rd H a (.dT kvs)):kvs.length<=sizeLine/\(a == sysModules)=false /\
 ∃ xs,KT H kvs xs/\h.DictOfH (tupleKind (j0 P w)) a xs:=by
 obtain⟨z,y,xs,r,o,es,ep,h1,h2,h3,h4,h5⟩:=(show ObjOk P w H h a (.dT kvs) from ab6 ok e)
 refine⟨z,y,xs,r,o,es,ep,h1,h2,h3,h4,fun x hx=>?_,h5⟩
 have all:∀ {l:List (List Key × V)}{m:List (List Key × Addr × Value)},KT H l m->∀ x∈m,(tupleKind (j0 P w)).is h x.1 x.2.1:=by
  intro l m q
  induction q with
  | nil=>intro x hx;exact nomatch hx
  | @cons p q ps qs hq t ih =>
   intro x hx
   rcases List.mem_cons.mp hx with e | hx
   . subst e
     exact K5 ok (by rw[<-hq.1];exact hq.2.1)
   . exact ih x hx
 exact all r x hx
theorem ac8 {kvs:List (List Key × V)} (ok:HOk P w H h) (e:H a=some (.dT kvs)):kvs.length<=sizeLine/\(a == sysModules)=false /\
 ∃ xs,KT H kvs xs/\h.DictOfH (tupleKind (j0 P w)) a xs:=VB ok (.inl e)
end
def DGet (H:Hp) (a:Addr) (y:V) (r:Option V):Prop :=
 (∃ kvs k,Rd H a (.dK kvs)/\y=kV k/\r=ww kvs k)∨∃ kvs k b,Rd H a (.dT kvs)/\y=.ref b/\H b=some (.tup (k.map kV))/\r=ww kvs k
def DPut (H:Hp) (a:Addr) (y v:V) (H':Hp):Prop :=
 (∃ kvs k,H a=some (.dK kvs)/\y=kV k/\kvs.length<sizeLine/\H'=upd H a (.dK (ye kvs k v))) ∨
 ∃ kvs k b,H a=some (.dT kvs)/\y=.ref b/\H b=some (.tup (k.map kV))/\kvs.length<sizeLine/\H'=upd H a (.dT (ye kvs k v))
theorem DGet.k {H:Hp}{a:Addr}{kvs:List (Key × V)}{k:Key} (e:H a=some (.dK kvs)):DGet H a (kV k) (ww kvs k):=.inl ⟨kvs,k,.inl e,rfl,rfl⟩
theorem DGet.t {H:Hp}{a b:Addr}{kvs:List (List Key × V)}{k:List Key} (e:H a=some (.dT kvs)) (eb:H b=some (.tup (k.map kV))):DGet H a (.ref b) (ww kvs k):=.inr ⟨kvs,k,b,.inl e,rfl,eb,rfl⟩
theorem DPut.k {H:Hp}{a:Addr}{kvs:List (Key × V)}{k:Key}{v:V} (e:H a=some (.dK kvs)) (hl:kvs.length<sizeLine):DPut H a (kV k) v (upd H a (.dK (ye kvs k v))):=.inl ⟨kvs,k,e,rfl,hl,rfl⟩
theorem DPut.t {H:Hp}{a b:Addr}{kvs:List (List Key × V)}{k:List Key}{v:V} (e:H a=some (.dT kvs)) (eb:H b=some (.tup (k.map kV))) (hl:kvs.length<sizeLine) :
 DPut H a (.ref b) v (upd H a (.dT (ye kvs k v))):=.inr ⟨kvs,k,b,e,rfl,eb,hl,rfl⟩
section
variable {X:Cx}{pins:List (Addr × Obj)}{σ:St}{H:Hp}{s:Shared}{a:Addr}{y v:V}{u r:Value}{o:Option V}{A:Around}{E:Value->Shared->Prop}
theorem Inv.big (I:Inv X pins σ H s):sysModules<s.heap.objs.size:=by
 have h:mainGlobals<s.heap.objs.size:=(I.mod.glob.keeps I.bk).lt
 exact Nat.lt_trans (by decide) h
theorem UB {Q:Value->Shared->Prop} (hu:A.units+1<cLine) (I:Inv X pins σ H s) (g:DGet H a y (some v)) (ry:RelV y u) (h:∀ w' s',Inv X pins σ H s'->RelV v w'->Q w' s') :
 wpAny (model X.prog X.w) A (getItem (.ref a) u) Q E s:=by
 rcases g with ⟨kvs,k,e,ey,l⟩ | ⟨kvs,k,b,e,ey,eb,l⟩
 . subst ey
   obtain⟨z,hd,vs,rel,dd⟩:=VA I.hok e
   obtain⟨w',hw,rw'⟩:=RelO.some_of (v:=v) (o:=valueAt vs k) (by rw[l];exact rel.val k)
   exact wpAny_getItem_of (Vy ry) dd.mapOf hw (h w' _ (I.tok _) rw')
 . subst ey
   cases (show u=Value.ref b from ry)
   obtain⟨z,hd,xs,rel,dd⟩:=VB I.hok e
   obtain⟨w',hw,rw'⟩:=RelO.some_of (v:=v) (o:=(atKey xs k).map (·.2)) (by rw[l];exact rel.val k)
   obtain⟨p,hp,hp2⟩:=Option.map_eq_some_iff.mp hw
   refine wpAny_getItem_heap (tupleKind_room_in1 hu) (K5 I.hok eb) dd hp ?_
   rw[hp2]
   exact h w' _ (I.tok _) rw'
theorem abI {Q:Value->Shared->Prop} (hu:A.units+1<cLine) (I:Inv X pins σ H s) (g:DGet H a y o) (ry:RelV y u) (h:∀ s',Inv X pins σ H s'->Q (.bool (!o.isSome)) s') :
 wpAny (model X.prog X.w) A (compareOp .NotIn u (.ref a)) Q E s:=by
 rcases g with ⟨kvs,k,e,ey,l⟩ | ⟨kvs,k,b,e,ey,eb,l⟩
 . subst ey
   obtain⟨z,hd,vs,rel,dd⟩:=VA I.hok e
   refine wpAny_notIn_of (Vy ry) hd dd.mapOf ?_
   rw[<-(rel.val k).isSome_eq,<-l]
   exact h _ (I.tok _)
 . subst ey
   cases (show u=Value.ref b from ry)
   obtain⟨z,hd,xs,rel,dd⟩:=VB I.hok e
   refine wpAny_notIn_heap (tupleKind_room_in1 hu) (K5 I.hok eb) hd dd ?_
   have q:=(rel.val k).isSome_eq
   rw[Option.isSome_map] at q
   rw[<-q,<-l]
   exact h _ (I.tok _)
theorem Yb {h':Heap}{t':Nat}{ob:HO} (I:Inv X pins σ H s) (mu:Mut (H a)) (hs:Heap.SameBut a s.heap h') (he:∃ q,h'.get? a=some q) (new:ObjOk X.prog X.w (upd H a ob) h' a ob) :
 Inv X pins σ (upd H a ob) { s with heap:=h',toks:=t' } :=
 I.write (x:=a) (e:=a) mu (.inl rfl) (fun b q hb z=>(hs.2 b hb).trans z) he new
theorem aaO {P:Program}{w:World}{H':Hp}{h':Heap}{kvs:List (Key × V)}{vs:List (Key × Value)} (z:kvs.length<=sizeLine) (hd:(a == sysModules)=false) (rel:KV kvs vs) (dd:h'.DictOf (j0 P w) a vs) :
 ObjOk P w H' h' a (.dK kvs):=⟨z,hd,vs,rel,dd⟩
theorem UC {H':Hp}{Q:Unit->Shared->Prop} (hu:A.units+1<cLine) (I:Inv X pins σ H s) (g:DPut H a y v H') (ry:RelV y u) (rv:RelV v r) (h:∀ s',Inv X pins σ H' s'->Q () s') :
 wpAny (model X.prog X.w) A (setItem (.ref a) u r) Q E s:=by
 rcases g with ⟨kvs,k,e,ey,l,eH⟩ | ⟨kvs,k,b,e,ey,eb,l,eH⟩
 . subst ey eH
   obtain⟨z,hd,vs,rel,dd⟩:=ab7 I.hok e
   have hz:vs.length<=sizeLine:=by rw[<-rel.length];exact z
   have hl:(ye kvs k v).length<=sizeLine:=by have:=wV kvs k v;omega
   refine wpAny_setItem_pairs (hsz:=hz) (Vy ry) dd fun h' dd' hs=>h _ ?_
   have he:∃ q,h'.get? a=some q:=let ⟨q,_,_,hq,_⟩:=dd';⟨q,hq⟩
   exact Yb I (by rw[e];exact True.intro) hs he (aaO hl hd (rel.put k rv) dd')
 . subst ey eH
   cases (show u=Value.ref b from ry)
   obtain⟨z,hd,xs,rel,dd⟩:=ac8 I.hok e
   have hz:xs.length<=sizeLine:=by rw[<-Paired.length rel];exact z
   have hl:(ye kvs k v).length<=sizeLine:=by have:=wV kvs k v;omega
   refine wpAny_setItem_heap (hsz:=hz) (tupleKind_room_in1 hu) (K5 I.hok eb) dd fun h' dd' hs=>h _ ?_
   obtain⟨q,es,ep,hq,h2,h3,h4,_,h5⟩:=dd'
   refine Yb I (by rw[e];exact True.intro) hs ⟨q,hq⟩ ⟨hl,hd,_,(rel.put k eb rv).keeps fun c ys ec=>?_,q,es,ep,hq,h2,h3,h4,h5⟩
   rw[z8 (aat ec e (fun z=>nomatch z))]
   exact ec
end
def ac9 (i:Expr):Prop:=∀ ov iv,subscripted i false ov iv=operate [ov,iv] (getItem ov iv)
theorem abJ {prog:Program}{w:World}{A:Around}{E:Value->Shared->Prop}{s:Shared}{env:Env}{value slice:Expr}{pos:Pos}{T id:String}{Q:Value->Shared->Prop}
 (hl:typeLookup (.type T) "__getitem__"=pure (some (.builtin id))) (hs:ac9 slice)
 (h:wpAny (model prog w) A (eval value env) (fun o s₁=>wpAny (model prog w) A (eval slice env) (fun i s₂=>s₂.TypeIs o T/\wpAny (model prog w) A (getItem o i) Q E s₂) E s₁) E s) :
 wpAny (model prog w) A (eval (.Subscript value slice pos) env) Q E s:=by
 refine Subscript_ (wpAny_mono h (fun o s₁ h₁=>wpAny_mono h₁ (fun i s₂ h₂=>?_) fun _ _ x=>x) fun _ _ x=>x)
 obtain⟨hT,h₂⟩:=h₂
 unfold subscriptTail
 refine wpAny_bind ?_
 rw[getitemInPython_of_ne hT.not_modules]
 refine wpAny_bind (wpAny_specialOf hT hl ?_)
 have fin:wpAny (model prog w) A (subscripted slice false o i) (fun r s₃=>wpAny (model prog w) A (letTemporaryGo value o r >>= fun _=>pure r) Q E s₃) E s₂:=by
  rw[hs o i]
  exact wpAny_operating (wpAny_mono h₂ (fun r s₃ h₃=>wpAny_bind (wpAny_letTemporaryGo (wpAny_pure h₃))) fun _ _ x=>x)
 first
  | exact wpAny_pure (wpAny_bind fin)
  | exact wpAny_bind (wpAny_pure (wpAny_bind fin))
  | exact wpAny_bind fin
theorem Xk {X:Cx}{pins:List (Addr × Obj)}{σ:St}{H:Hp}{s:Shared}{a:Addr}{y:V}{o:Option V} (I:Inv X pins σ H s) (g:DGet H a y o):s.TypeIs (.ref a) "dict":=by
 rcases g with ⟨kvs,k,e,_,_⟩ | ⟨kvs,k,b,e,_,_,_⟩
 . obtain⟨_,_,vs,_,dd⟩:=VA I.hok e
   exact dd.typeIs
 . obtain⟨_,_,xs,_,dd⟩:=VB I.hok e
   exact dd.typeIs
def K6 (td ty:TE):TE:=fun σ H Q=>td σ H fun x H1=>ty σ H1 fun y H2=>∃ a v,x=.ref a/\DGet H2 a y (some v)/\Q v H2
def abK (ty td:TE):TE:=fun σ H Q=>ty σ H fun y H1=>td σ H1 fun x H2=>∃ a o,x=.ref a/\DGet H2 a y o/\Q (.bl (!o.isSome)) H2
def ab8 (td ty tv:TE):TS:=fun D σ H=>tv σ H fun v H1=>td σ H1 fun x H2=>ty σ H2 fun y H3=>∃ a H4,x=.ref a/\DPut H3 a y v H4/\D.nx σ H4
section
variable {X:Cx}{o i e value:Expr}{pos pos' tpos:Pos}{td ty tv:TE}
theorem qc (hu:X.A.units+1<cLine) (ho:PE X o td) (hi:PE X i ty) (hs:ac9 i):PE X (.Subscript o i pos) (K6 td ty):=by
 intro pins s σ H Q I h
 refine abJ PySem.F.slot_dict_getitem.lookup hs (thn (ho pins s σ H _ I h) fun u s1 ⟨x,H1,I1,rx,q1⟩=>thn (hi pins s1 σ H1 _ I1 q1) fun iv s2 ⟨y,H2,I2,ry,a,v,ex,g,q2⟩=>?_)
 subst ex
 obtain rfl:u=Value.ref a:=rx
 exact⟨Xk I2 g,UB hu I2 g ry fun w' s3 I3 rw'=>⟨v,H2,I3,rw',q2⟩⟩
theorem vk (hu:X.A.units+1<cLine) (hi:PE X i ty) (ho:PE X o td):PC X .NotIn i o (abK ty td):=by
 intro pins s σ H Q I h
 refine thn (hi pins s σ H _ I h) fun iv s1 ⟨y,H1,I1,ry,q1⟩=>thn (ho pins s1 σ H1 _ I1 q1) fun u s2 ⟨x,H2,I2,rx,a,ov,ex,g,q2⟩=>?_
 subst ex
 obtain rfl:u=Value.ref a:=rx
 exact abI hu I2 g ry fun s3 I3=>⟨.bl (!ov.isSome),H2,I3,rfl,q2⟩
theorem ZK (hu:X.A.units+1<cLine) (ho:PE X o td) (hi:PE X i ty) (hv:PE X value tv) (hs:swapsWith value (some (.Subscript o i pos')) pos.line X.env=pure false) :
 PS X (.Assign [.Subscript o i pos'] value pos) (ab8 td ty tv):=by
 intro pins s σ H D I h
 refine wpAny_Assign_Subscript (thn (hv pins s σ H _ I h) fun r s1 ⟨v,H1,I1,rv,q1⟩=>thn (ho pins s1 σ H1 _ I1 q1) fun u s2 ⟨x,H2,I2,rx,q2⟩=>thn (hi pins s2 σ H2 _ I2 q2) fun iv s3 ⟨y,H3,I3,ry,a,H4,ex,g,q3⟩=>?_) hs
 subst ex
 obtain rfl:u=Value.ref a:=rx
 exact UC hu I3 g ry rv fun s4 I4=>⟨σ,H4,I4,q3⟩
end
theorem aaP {P:Program}{w:World}{H:Hp} (h:Heap) (hb:sysModules<h.objs.size):ObjOk P w H (h.push { cls:=.type "dict",data:=.dict #[] }) h.objs.size (.dK []) :=
 ⟨Nat.zero_le _,beq_eq_false_iff_ne.mpr (Ne.symm (Nat.ne_of_lt hb)),[],.nil,Heap.DictOf.new h⟩
theorem aaQ {P:Program}{w:World}{H:Hp} (h:Heap) (hb:sysModules<h.objs.size):ObjOk P w H (h.push { cls:=.type "dict",data:=.dict #[] }) h.objs.size (.dT []) :=
 ⟨Nat.zero_le _,beq_eq_false_iff_ne.mpr (Ne.symm (Nat.ne_of_lt hb)),[],.nil,_,#[],0,Heap.get?_push_size _ rfl,⟨rfl,rfl,rfl⟩,rfl,rfl,List.nodup_nil⟩
def act:TE:=fun _ H Q=>∀ p,H p=none->Q (.ref p) (upd H p (.dT []))
section
variable {X:Cx}{pos:Pos}
theorem wW:PE X (.Dict [] [] pos) act:=fun pins s σ H Q I h =>
 wpAny_Dict_empty ⟨.ref s.heap.objs.size,_,I.laid (a:=s.heap.objs.size) (o:=.dT []) (t':=s.toks) (fun _ _ q=>Heap.get?_push_of_some _ q) (Nat.le_refl _) (aaQ s.heap I.big),rfl,h _ (I.hok.fresh (Nat.le_refl _))⟩
end
def Wi:List (TE × TE)->St->Hp->(List (V × V)->Hp->Prop)->Prop
 | [],_,H,Q=>Q [] H
 | (tk,tv)::r,σ,H,Q=>tk σ H fun x H1=>tv σ H1 fun y H2=>Wi r σ H2 fun ps H3=>Q ((x,y)::ps) H3
abbrev VV:List (V × V)->List (Value × Value)->Prop:=Paired fun p q=>RelV p.1 q.1/\RelV p.2 q.2
def PPs (X:Cx) (pos:Pos) (keys:List (Option Expr)) (values:List Expr) (trs:List (TE × TE)):Prop :=
 ∀ (pins:List (Addr × Obj)) (s:Shared) (σ:St) (H:Hp) (Q:List (V × V)->Hp->Prop),Inv X pins σ H s->Wi trs σ H Q ->
  wpAny (model X.prog X.w) X.A (evalPairs (pairTrees keys values X.env pos)) (fun vs s'=>∃ ps H',Inv X pins σ H' s'/\VV ps vs/\Q ps H') X.xe s
theorem ZL {X:Cx}{pos:Pos}:PPs X pos [] [] []:=fun pins s σ H Q I h=>pairTrees_nil_walk ⟨[],H,I,.nil,h⟩
theorem kM {X:Cx}{pos:Pos}{k v:Expr}{ks:List (Option Expr)}{vs:List Expr}{tk tv:TE}{trs:List (TE × TE)} (hk:PE X k tk) (hv:PE X v tv) (hr:PPs X pos ks vs trs) :
 PPs X pos (some k::ks) (v::vs) ((tk,tv)::trs):=fun pins s σ H Q I h =>
 pairTrees_cons_walk (thn (hk pins s σ H _ I h) fun u s1 ⟨x,H1,I1,rx,q1⟩=>thn (hv pins s1 σ H1 _ I1 q1) fun w2 s2 ⟨y,H2,I2,ry,q2⟩ =>
  thn (hr pins s2 σ H2 _ I2 q2) fun ws s3 ⟨ps,H3,I3,rel,q3⟩=>⟨(x,y)::ps,H3,I3,.cons ⟨rx,ry⟩ rel,q3⟩)
def wX (kvs more:List (Key × V)):List (Key × V):=more.foldl (fun acc kv=>ye acc kv.1 kv.2) kvs
theorem KV.merge:∀ {more:List (Key × V)}{rs:List (Key × Value)}{kvs:List (Key × V)}{vs:List (Key × Value)},KV more rs->KV kvs vs->KV (wX kvs more) (merged vs rs):=by
 intro more rs kvs vs r
 unfold KV at r
 induction r generalizing kvs vs with
 | nil=>intro q;exact q
 | @cons p q ps qs h t ih =>
  intro r0
  have e:KV (ye kvs p.1 p.2) (stored vs q.1 q.2):=by
   have:=r0.put p.1 h.2
   rw[<-h.1];exact this
  exact ih e
theorem uN:∀ (more kvs:List (Key × V)),(wX kvs more).length<=kvs.length+more.length
 | [],kvs=>by show kvs.length<=kvs.length+0;omega
 | p::r,kvs=>by
  have h1:=uN r (ye kvs p.1 p.2)
  have h2:=wV kvs p.1 p.2
  show (wX (ye kvs p.1 p.2) r).length<=_
  rw[List.length_cons];omega
theorem K7 {P:Program}{w:World}:∀ {kvs:List (Key × V)}{ws:List (Value × Value)},VV (kvs.map fun kv=>(kV kv.1,kv.2)) ws->∃ rs,Carries (j0 P w) ws rs/\KV kvs rs
 | [],_,r=>by rw[List.map_nil] at r;cases r;exact⟨[],True.intro,.nil⟩
 | p::kvs,_,r=>by
  rw[List.map_cons] at r
  cases r with
  | @cons a b as bs h t =>
   obtain⟨rs,c,q⟩:=K7 (P:=P) (w:=w) t
   obtain⟨b1,b2⟩:=b
   exact⟨(p.1,b2)::rs,⟨Vy h.1,rfl,c⟩,.cons ⟨rfl,h.2⟩ q⟩
def ac_ (trs:List (TE × TE)):TE:=fun σ H Q=>∀ p,H p=none->Wi trs σ (upd H p (.dK [])) fun ps H2=>H2 p=some (.dK [])/\∃ kvs:List (Key × V),ps=kvs.map (fun kv=>(kV kv.1,kv.2))/\kvs.length<=15/\Q (.ref p) (upd H2 p (.dK (wX [] kvs)))
theorem ZM {X:Cx}{pos:Pos}{keys:List (Option Expr)}{values:List Expr}{trs:List (TE × TE)} (h:PPs X pos keys values trs) (hall:keys.all (·.isSome)=true) (hl:keys.length=values.length) (h0:keys≠[])
 (h15:keys.length<=15):PE X (.Dict keys values pos) (ac_ trs):=by
 intro pins s σ H Q I q
 have hn:=I.hok.fresh (Nat.le_refl s.heap.objs.size)
 have I1:=I.laid (a:=s.heap.objs.size) (o:=.dK []) (h':=s.heap.push { cls:=.type "dict",data:=.dict #[] }) (t':=s.toks) (fun _ _ q=>Heap.get?_push_of_some _ q) (Nat.le_refl _) (aaP s.heap I.big)
 refine wpAny_Dict_walk (knd:=j0 X.prog X.w) hall hl h0 h15 (thn (h pins _ σ _ _ I1 (q _ hn)) fun ws s2 ⟨ps,H2,I2,rel,e,kvs,ep,lk,q2⟩=>?_)
 subst ep
 obtain⟨rs,c,rk⟩:=K7 (P:=X.prog) (w:=X.w) rel
 obtain⟨z,hd,vs0,r0,dd⟩:=ab7 I2.hok e
 cases r0
 refine⟨rs,c,dd,fun h' dd' hs=>⟨.ref s.heap.objs.size,_,?_,rfl,q2⟩⟩
 have hz:(wX [] kvs).length<=sizeLine:=by
  have h1:=uN kvs []
  rw[List.length_nil] at h1
  rw[sizeLine_eq];omega
 have he:∃ q,h'.get? s.heap.objs.size=some q:=let ⟨q,_,_,hq,_⟩:=dd';⟨q,hq⟩
 exact Yb I2 (by rw[e];exact True.intro) hs he (aaO hz hd (rk.merge .nil) dd')
structure M2 (X:Cx) (o:Expr) (m:Str) (apos:Pos) (e f:Expr) (cpos:Pos):Prop where
 base:attributeBase o m X.env (eval o X.env)=eval o X.env
 few:((backTo cpos (starEach [e,f] X.env)).all (fun x=>!x.1) && (backToKw cpos (keywordEach [] X.env)).all (fun x=>x.1.isSome)
  && decide (([e,f]:List Expr).length+([]:List Keyword).length+(if ([]:List Keyword).isEmpty then 0 else 1)<30))=true
 line:(apos.endLine == cpos.line)=true
 trees:backTo cpos (starEach [e,f] X.env)=[(false,eval e X.env),(false,eval f X.env)]
def IsD (H:Hp) (a:Addr):Prop:=(∃ kvs,Rd H a (.dK kvs))∨∃ kvs,Rd H a (.dT kvs)
theorem acu {X:Cx}{pins:List (Addr × Obj)}{σ:St}{H:Hp}{s:Shared}{a:Addr} (I:Inv X pins σ H s) (d:IsD H a) :
 s.TypeIs (.ref a) "dict"/\(∀ b,Value.ref a=.ref b->∃ ob,s.heap.get? b=some ob/\ob.dict=none)/\(a == sysModules)=false:=by
 rcases d with ⟨kvs,e⟩ | ⟨kvs,e⟩
 . obtain⟨_,hd,vs,_,dd⟩:=VA I.hok e
   refine⟨dd.typeIs,fun b q=>?_,hd⟩
   cases q
   obtain⟨ob,_,_,h1,h2,_⟩:=dd
   exact⟨ob,h1,h2.2.1⟩
 . obtain⟨_,hd,xs,_,dd⟩:=VB I.hok e
   refine⟨dd.typeIs,fun b q=>?_,hd⟩
   cases q
   obtain⟨ob,_,_,h1,h2,_⟩:=dd
   exact⟨ob,h1,h2.2.1⟩
section
variable {X:Cx}{pins:List (Addr × Obj)}{σ:St}{H:Hp}{s:Shared}{a:Addr}{y d:V}{u r:Value}{o:Option V}{A:Around}{E:Value->Shared->Prop}
theorem acv {Q:Value->Shared->Prop} (hu:A.units+1<cLine) (I:Inv X pins σ H s) (g:DGet H a y o) (ry:RelV y u) (rd:RelV d r) (h:∀ w' s',Inv X pins σ H s'->RelV (o.getD d) w'->Q w' s') :
 wpAny (model X.prog X.w) A (call (.builtin "dict.get") [.ref a,u,r]) Q E s:=by
 rcases g with ⟨kvs,k,e,ey,l⟩ | ⟨kvs,k,b,e,ey,eb,l⟩
 . subst ey
   obtain⟨z,hd,vs,rel,dd⟩:=VA I.hok e
   refine call_meetsIn PySem.F.slot_dict_get dd.typeIs PySem.F.entry_dict_get (PySem.F.args_dict_get_3 _ _ _) (meets_dict_get_default (j0 X.prog X.w) a (Vy ry) hd r) ⟨_,dd.mapOf,h _ _ (I.tok _) ?_⟩
   rw[l]
   exact (rel.val k).getD rd
 . subst ey
   cases (show u=Value.ref b from ry)
   obtain⟨z,hd,xs,rel,dd⟩:=VB I.hok e
   refine call_meetsIn PySem.F.slot_dict_get dd.typeIs PySem.F.entry_dict_get (PySem.F.args_dict_get_3 _ _ _) (meetsH_dict_get_default (tupleKind (j0 X.prog X.w)) a b hd r) ⟨tupleKind_room_in1 hu,k,xs,K5 I.hok eb,dd,h _ _ (I.tok _) ?_⟩
   rw[l]
   exact (rel.val k).getD rd
end
def acw (td ty tx:TE):TE:=fun σ H Q=>td σ H fun x H1=>∃ a,x=.ref a/\IsD H1 a/\ty σ H1 fun y H2=>tx σ H2 fun z H3=>∃ o,DGet H3 a y o/\Q (o.getD z) H3
section
variable {X:Cx}{o e f:Expr}{apos cpos:Pos}{td ty tx:TE}
theorem aaR (hu:X.A.units+1<cLine) (ho:PE X o td) (he:PE X e ty) (hf:PE X f tx) (m:M2 X o "get" apos e f cpos):PE X (.Call (.Attribute o "get" apos) [e,f] [] cpos) (acw td ty tx):=by
 intro pins s σ H Q I h
 refine wpAny_Call_method m.base m.few m.line PySem.F.plainAttrs_dict PySem.F.slot_dict_get PySem.F.type_dict_get (thn (ho pins s σ H _ I h) fun u s1 ⟨x,H1,I1,rx,a,ex,d,q1⟩=>?_)
 subst ex
 obtain rfl:u=Value.ref a:=rx
 obtain⟨t1,t2,_⟩:=acu I1 d
 refine⟨t1,t2,?_⟩
 rw[m.trees]
 refine Calls.callWith_builtin rfl (Calls.evalArgs_plain (Calls.spliced_cons (thn (he pins s1 σ H1 _ I1 q1) fun iv s2 ⟨y,H2,I2,ry,q2⟩ =>
  Calls.spliced_cons (thn (hf pins s2 σ H2 _ I2 q2) fun fv s3 ⟨z,H3,I3,rz,ov,g,q3⟩=>Calls.spliced_nil ?_))))
 exact acv hu I3 g ry rz fun w' s4 I4 rw'=>⟨_,H3,I4,rw',q3⟩
end
end L2
namespace L2
open PySem PySem.Spec PyProof.Rows
end L2
namespace L2
open PySem PySem.Spec PyProof.Rows
theorem K8:bootBuiltins "reversed"=some (.type "reversed"):=by decide +kernel
section
variable {X:Cx}{pins:List (Addr × Obj)}{σ:St}{H:Hp}{s:Shared}{h':Heap}
theorem Inv.turnedL {t':Nat}{ch:List Addr} (I:Inv X pins σ H s) (k:∀ b o,b ∉ ch->s.heap.get? b=some o->h'.get? b=some o) (hf:∀ b∈ch,Je X pins H b):Inv X pins σ H { s with heap:=h',toks:=t' }:=by
 have nit:∀ b u,H b=some u->b ∉ ch:=fun b u e z=>by
  have q:=(hf b z).1
  rw[q] at e;cases e
 refine I.step (g':=s.gens) (d':=s.drawn) (ch:=ch) (fun b hb=>⟨(hf b hb).2.2.2.1,(hf b hb).2.1,(hf b hb).2.2.2.2.1,(hf b hb).2.2.2.2.2⟩) (fun b o _ _ hc e _=>k b o hc e) (fun b o _ _ hc e _=>⟨o.slots,k b o hc e⟩)
  (fun _ _ _ _ n=>n) (fun b o hc e=>⟨o,k b o hc e⟩) (fun _ _ e=>e) (fun _ _ _ e=>e) (fun b ps e=>⟨#[],by rw[e];simp⟩) (fun m hm=>?_) (fun b u e=>?_) I.bare
 . obtain⟨o,es,ep,ho,r⟩:=hm
   exact⟨o,es,ep,k _ o (fun z=>(hf _ z).2.1 rfl) ho,r⟩
 . refine (I.hok b u e).stay (fun c v hc q=>k c v ?_ q) (fun _ q=>q) fun _ _ q=>q
   rcases hc with z | z
   . rw[z];exact nit b u e
   . exact nit c _ z
theorem Inv.turnedNew {t':Nat}{ch:List Addr}{T:Addr}{ob:HO} (I:Inv X pins σ H s) (k:∀ b o,b ∉ ch->s.heap.get? b=some o->h'.get? b=some o) (hf:∀ b∈ch,Je X pins H b) (hT:s.heap.objs.size<=T)
 (new:ObjOk X.prog X.w (upd H T ob) h' T ob):Inv X pins σ (upd H T ob) { s with heap:=h',toks:=t' }:=by
 have hn:H T=none:=I.hok.fresh hT
 have nit:∀ b u,H b=some u->b ∉ ch:=fun b u e z=>by
  have q:=(hf b z).1
  rw[q] at e;cases e
 refine I.step (g':=s.gens) (d':=s.drawn) (ch:=ch) (fun b hb=>⟨(hf b hb).2.2.2.1,(hf b hb).2.1,(hf b hb).2.2.2.2.1,(hf b hb).2.2.2.2.2⟩) (fun b o _ _ hc e _=>k b o hc e) (fun b o _ _ hc e _=>⟨o.slots,k b o hc e⟩)
  (fun b o _ e n=>?_) (fun b o hc e=>⟨o,k b o hc e⟩) (fun b xs e=>?_) (fun b o u e=>?_) (fun b ps e=>⟨#[],?_⟩) (fun m hm=>?_) (fun b u e=>?_) I.bare
 . rw[z8 (Nat.ne_of_lt (Nat.lt_of_lt_of_le (Heap.lt_size e) hT))];exact n
 . rw[z8 (z7 e hn)];exact e
 . rw[z8 (z7 e hn)];exact e
 . rw[z8 (z7 e hn),e];simp
 . obtain⟨o,es,ep,ho,r⟩:=hm
   exact⟨o,es,ep,k _ o (fun z=>(hf _ z).2.1 rfl) ho,r⟩
 . by_cases hb:b=T
   . subst hb
     rw[z6] at e
     cases e
     exact new
   . rw[z8 hb] at e
     refine (I.hok b u e).stay (fun c v hc q=>k c v ?_ q) (fun c q=>by rw[z8 (z7 q hn)];exact q) fun c xs q=>by rw[z8 (z7 q hn)];exact q
     rcases hc with z | z
     . rw[z];exact nit b u e
     . exact nit c _ z
theorem Inv.lock {d:Addr}{u:HO} (I:Inv X pins σ H s) (h:H d=some u) (mu:Mut (some u)):∃ od,Inv X pins σ (upd H d (.frz od u)) s:=by
 have x:=I.hok d u h
 have ex:∃ od,s.heap.get? d=some od:=by
  cases u with
  | lst xs=>obtain⟨_,_,_,_,e⟩:=x;exact⟨_,e⟩
  | dK kvs=>obtain⟨_,_,_,_,o,_,_,e,_⟩:=x;exact⟨o,e⟩
  | dT kvs=>obtain⟨_,_,_,_,o,_,_,e,_⟩:=x;exact⟨o,e⟩
  | set S n=>obtain⟨o,_,_,_,e,_⟩:=x;exact⟨o,e⟩
  | ins C dx fs=>obtain⟨_,_,_,e,_⟩:=x;exact⟨_,e⟩
  | ext φ=>obtain⟨_,⟨_,e⟩,_⟩:=x;exact⟨_,e⟩
  | _=>exact False.elim mu
 obtain⟨od,e⟩:=ex
 have new:ObjOk X.prog X.w (upd H d (.frz od u)) s.heap d (.frz od u):=by
  refine⟨e,x.stay (fun b v _ q=>q) (fun b q=>?_) fun b xs q=>?_⟩
  . rw[z8 (fun z=>by rw[z,h] at q;cases q;exact mu)];exact q
  . rw[z8 (fun z=>by rw[z,h] at q;cases q;exact mu)];exact q
 exact⟨od,I.write (x:=d) (e:=d) (t':=s.toks) (h':=s.heap) (by rw[h];exact mu) (.inl rfl) (fun b v _ q=>q) ⟨od,e⟩ new⟩
theorem Inv.nofrz {d:Addr}{u:HO} (I:Inv X pins σ H s) (h:H d=some u) (mu:Mut (some u)):∀ o' u',X.H_0 d≠some (.frz o' u'):=fun o' u' e=>by
 have q:=I.base.frzs d o' u' e
 rw[h] at q
 cases q
 exact mu
theorem Inv.unlock {d:Addr}{od:Obj}{u:HO} (I:Inv X pins σ H s) (h:H d=some (.frz od u)) (hn:∀ o' u',X.H_0 d≠some (.frz o' u')):Inv X pins σ (upd H d u) s:=by
 have neH:∀ b o,H b=some o->(∀ o' u',o≠.frz o' u')->b≠d:=fun b o e hne z=>by
  rw[z,h] at e
  cases e
  exact hne _ _ rfl
 have neN:∀ b,H b=none->b≠d:=fun b e z=>by rw[z,h] at e;cases e
 refine⟨I.ok,I.os,I.bare,⟨I.base.keep,I.base.slot,fun b o e n hx=>?_,I.base.there,fun b xs e=>?_,fun b o x e=>?_,fun b ps e=>?_⟩,I.loc,I.cell,?_,fun x c e=>?_,fun p hp=>?_,fun b o e=>?_,I.len⟩
 . rw[z8 (neN b (I.base.free b o e n hx))];exact I.base.free b o e n hx
 . have q:=I.base.tups b xs e
   rw[z8 (neH b _ q (fun _ _ z=>nomatch z))];exact q
 . have q:=I.base.frzs b o x e
   rw[z8 (fun z=>by rw[z] at e;exact hn _ _ e)];exact q
 . obtain⟨m,q⟩:=I.base.tbls b ps e
   exact⟨m,by rw[z8 (neH b _ q (fun _ _ z=>nomatch z))];exact q⟩
 . rw[z8 (neN _ I.free)];exact I.free
 . rw[z8 (neN c (I.freeC x c e))];exact I.freeC x c e
 . obtain⟨e,n,r⟩:=I.pin p hp
   exact⟨e,by rw[z8 (neN _ n)];exact n,r⟩
 . by_cases hb:b=d
   . rw[hb,z6] at e
     cases e
     rw[hb]
     obtain⟨_,x⟩:=I.hok d _ h
     exact x.stay (fun c v _ q=>q) (fun c q=>by rw[z8 (neH c _ q (fun _ _ z=>nomatch z))];exact q) fun c xs q=>by rw[z8 (neH c _ q (fun _ _ z=>nomatch z))];exact q
   . rw[z8 hb] at e
     exact (I.hok b o e).stay (fun c v _ q=>q) (fun c q=>by rw[z8 (neH c _ q (fun _ _ z=>nomatch z))];exact q) fun c xs q=>by rw[z8 (neH c _ q (fun _ _ z=>nomatch z))];exact q
end
def ada (t:TS):TS:=fun D σ H=>∃ d u,H d=some u/\Mut (some u)/\∀ od,t ⟨fun σ' H'=>H' d=some (.frz od u)/\D.nx σ' (upd H' d u),fun v H'=>H' d=some (.frz od u)/\D.rt v (upd H' d u),fun σ' H'=>H' d=some (.frz od u)/\D.bk σ' (upd H' d u),fun σ' H'=>H' d=some (.frz od u)/\D.ct σ' (upd H' d u)⟩ σ (upd H d (.frz od u))
section
variable {X:Cx}
theorem abL {st:Stmt}{t:TS} (h:PS X st t):PS X st (ada t):=by
 intro pins s σ H D I hw
 obtain⟨d,u,hd,mu,hw⟩:=hw
 obtain⟨od,I1⟩:=I.lock hd mu
 refine thn (h pins s σ _ _ I1 (hw od)) fun f s1 q=>?_
 cases f with
 | next=>obtain⟨σ',H',I2,e,q⟩:=q;exact⟨σ',_,I2.unlock e (I.nofrz hd mu),q⟩
 | brk=>obtain⟨σ',H',I2,e,q⟩:=q;exact⟨σ',_,I2.unlock e (I.nofrz hd mu),q⟩
 | cont=>obtain⟨σ',H',I2,e,q⟩:=q;exact⟨σ',_,I2.unlock e (I.nofrz hd mu),q⟩
 | ret v=>obtain⟨x,σ',H',I2,r,e,q⟩:=q;exact⟨x,σ',_,I2.unlock e (I.nofrz hd mu),r,q⟩
theorem acx {tg:Expr}{pins:List (Addr × Obj)}{σ:St}{H:Hp}{s:Shared}{R:It->Hp->Prop}{J:It}{tn:Nat->Heap->Prop}{tk:Nat} (I:Inv X pins σ H s) (o:Obj)
 (T:Wa X.prog X.w X.K tg J [s.heap.objs.size] s.heap.objs.size tn) (st:tn 0 (s.heap.push o)) (q:R J H):PIE X pins σ tg R (.ref s.heap.objs.size) { s with heap:=s.heap.push o,toks:=tk }:=by
 refine⟨s.heap.objs.size,[s.heap.objs.size],tn,J,H,rfl,I.kept fun b ob e=>Heap.get?_push_of_some _ e,T,st,fun b hb=>?_,q⟩
 have e:b=s.heap.objs.size:=by simpa using hb
 subst e
 exact I.fpOk (Nat.le_refl _) (I.hok.fresh (Nat.le_refl _))
end
theorem K9 {α β:Type}{G:α->β->Prop}{l₁:List α}{l₂:List β} (h:Paired G l₁ l₂):∀ {i:Nat}{a:α},l₁[i]?=some a->∃ b,l₂[i]?=some b/\G a b:=by
 induction h with
 | nil=>intro i a e;simp at e
 | @cons a b l₁ l₂ r t ih =>
  intro i a' e
  cases i with
  | zero =>
   simp only[List.getElem?_cons_zero,Option.some.injEq] at e
   subst e
   exact⟨b,rfl,r⟩
  | succ j =>
   simp only[List.getElem?_cons_succ] at e ⊢
   exact ih e
theorem WZ {o:Obj}{es es':Array DictEntry}{ep ep':Nat} (h:o.data=.dict es ep) (h':o.data=.dict es' ep'):es'=es/\ep'=ep:=by
 rw[h] at h'
 cases h'
 exact⟨rfl,rfl⟩
def Ite (K:PySem.W.Frag) (a:Addr):It :=
 ⟨fun i H=>∃ (xs:List V) (x:V),SqL K H a xs/\xs[i]?=some x,fun i H v H'=>∃ T x,v=.ref T/\H T=none/\H'=upd H T (.tup [.int (i:Nat),x])/\∀ xs,SqL K H a xs->xs[i]?=some x,fun i H=>∃ xs:List V,SqL K H a xs/\xs.length<=i⟩
theorem UD {P:Program}{w:World}{K:PySem.W.Frag}{elts:List Expr}{kk:Nat}{tpos:Pos} (a e it:Addr) :
 Wa P w K (.Tuple elts kk tpos) (Ite K a) [e,it] e (fun i h=>(∃ old,IsEnum h e it ((i:Nat):Int) old)/\h.IsListIter it a i/\e≠it) where
 mem:=by simp
 obj:=fun i h st b hb=>by
  obtain⟨⟨old,he⟩,⟨o,ho,hc,hd⟩,_⟩:=st
  have e':b=e∨b=it:=by simpa using hb
  rcases e' with z | z
  . rw[z];exact⟨_,he,fun v q=>nomatch q⟩
  . rw[z];exact⟨o,ho,fun v q=>by rw[hd] at q;cases q⟩
 keep:=fun i h h' st k=>let ⟨⟨old,he⟩,hi,hne⟩:=st;⟨⟨old,k e (by simp) _ he⟩,hi.at fun o q=>k it (by simp) o q,hne⟩
 item:=by
  intro X hP hw hK hc i pins s σ H E I hf st hg
  subst hP hw hK
  obtain⟨⟨old,he⟩,hit,hne⟩:=st
  obtain⟨xs,x,hq,hx⟩:=hg
  obtain⟨its,rv,p,hz⟩:=I.list hq
  obtain⟨u,hu,ru⟩:=rv.get hx
  have hel:e<s.heap.objs.size:=Heap.lt_size he
  have hil:it<s.heap.objs.size:=by obtain⟨_,q,_⟩:=hit;exact Heap.lt_size q
  refine wpAny_pyNext_enum_item he hit p.isList (x:=u) (by simpa using hu) hne fun h' ho hit' hT hsz hk=>?_
  refine⟨_,rfl,wpAny_letOwnedTupleGo_enum (s:={ s with heap:=h',toks:=s.toks+1 }) ho fun h'' he' sb=>?_⟩
  have hT2:h''.get? s.heap.objs.size=some { cls:=.type "tuple",data:=.seq #[.int i s.toks,u] }:=(sb.2 _ (Nat.ne_of_gt hel)).trans hT
  have new:ObjOk X.prog X.w (upd H s.heap.objs.size (.tup [.int (i:Nat),x])) h'' s.heap.objs.size (.tup [.int (i:Nat),x]) :=
   ⟨by show 2<=sizeLine;decide,[.int i s.toks,u],.cons ⟨_,rfl⟩ (.cons ru .nil),⟨_,hT2,rfl,_,rfl⟩⟩
  have I1:Inv X pins σ (upd H s.heap.objs.size (.tup [.int (i:Nat),x])) { s with heap:=h'',toks:=s.toks+1 } :=
   I.turnedNew (ch:=[e,it]) (fun b ob hb q=>(sb.2 b (fun z=>hb (by simp[z]))).trans (hk b ob (fun z=>hb (by simp[z])) (fun z=>hb (by simp[z])) q)) hf (Nat.le_refl _) new
  refine⟨.ref s.heap.objs.size,_,I1,rfl,⟨_,x,rfl,I.hok.fresh (Nat.le_refl _),rfl,fun ys hy=>by rw[I.list_inj hy hq];exact hx⟩,⟨⟨u,?_⟩,hit'.at fun o q=>(sb.2 it (Ne.symm hne)).trans q,hne⟩,fun b hb=>?_⟩
  . have e1:((i+1:Nat):Int)=(i:Int)+1:=by omega
    rw[e1];exact he'
  . have hb':b<s.heap.objs.size:=by
     have e':b=e∨b=it:=by simpa using hb
     rcases e' with z | z
     . rw[z];exact hel
     . rw[z];exact hil
    rw[z8 (Nat.ne_of_lt hb')]
    exact (hf b hb).1
 done:=by
  intro X hP hw hK hc i pins s σ H E I hf st hg
  subst hP hw hK
  obtain⟨⟨old,he⟩,hit,hne⟩:=st
  obtain⟨xs,hq,hx⟩:=hg
  obtain⟨its,rv,p,hz⟩:=I.list hq
  obtain⟨f0,f1,f2,f3,f4,f5⟩:=hf it (by simp)
  have hl:=rv.length
  exact wpAny_pyNext_enum_end (I.ok.hd hc) he hit p.isList (by simp;omega) fun h' eb=>⟨rfl,I.turned (t':=s.toks) (fun b o hb q=>eb b o hb q) f0 f1 f3 f4 f5⟩
 self:=fun A i s Q E st h=>let ⟨⟨_,he⟩,_⟩:=st;wpAny_pyIter_enum he h
def adb (K:PySem.W.Frag) (ta:TA):TI:=fun σ H R=>ta σ H fun vs H1=>∃ a xs,vs=[.ref a]/\SqL K H1 a xs/\R (Ite K a) H1
theorem abM {X:Cx}{e:Expr}{ta:TA}{p pos tpos:Pos}{elts:List Expr}{kk:Nat} (hg:Gl X "enumerate") (hm:X.mg "enumerate"=none) (ha:PA X [e] ta) (hs:starEach [e] X.env=[(false,eval e X.env)]:=by rfl) :
 PI X (.Tuple elts kk tpos) (.Call (.Name "enumerate" p) [e] [] pos) (adb X.K ta):=by
 intro pins s σ H R I h
 refine Call_ (wN I hg hm boot_enumerate (PyProof.Rows.callWith_type1 (thn (ha pos pins s σ H _ I h) fun us s1 ⟨vs,H1,I1,r1,q1⟩=>?_) hs rfl))
 obtain⟨a,xs,ex,hq,q⟩:=q1
 subst ex
 cases r1 with
 | cons r rr =>
  cases rr
  cases r
  obtain⟨its,rv,p',hz⟩:=I1.list hq
  refine call_enumerate_list p'.isList fun h' he hit hsz hk=>wpAny_pyIter_enum he ?_
  have I2:Inv X pins σ H1 { s1 with heap:=h' }:=I1.kept (t':=s1.toks) hk
  refine⟨s1.heap.objs.size+1,[s1.heap.objs.size+1,s1.heap.objs.size],_,_,H1,rfl,I2,UD a (s1.heap.objs.size+1) s1.heap.objs.size,⟨⟨.none,he⟩,hit,Nat.succ_ne_self _⟩,fun b hb=>?_,q⟩
  have e':b=s1.heap.objs.size+1∨b=s1.heap.objs.size:=by simpa using hb
  have hle:s1.heap.objs.size<=b:=by
   rcases e' with z | z
   . rw[z];exact Nat.le_add_right _ _
   . rw[z];exact Nat.le_refl _
  exact I1.fpOk hle (I1.hok.fresh hle)
theorem UE:bootBuiltins "zip"=some (.type "zip"):=by decide +kernel
def Itz (K:PySem.W.Frag) (a b:Addr):It :=
 ⟨fun i H=>∃ (xs ys:List V) (x y:V),SqL K H a xs/\SqL K H b ys/\xs[i]?=some x/\ys[i]?=some y,
  fun i H v H'=>∃ T x y,v=.ref T/\H T=none/\H'=upd H T (.tup [x,y])/\(∀ xs,SqL K H a xs->xs[i]?=some x)/\∀ ys,SqL K H b ys->ys[i]?=some y,
  fun i H=>∃ xs ys:List V,SqL K H a xs/\SqL K H b ys/\(xs.length<=i∨ys.length<=i)⟩
theorem aaS {P:Program}{w:World}{K:PySem.W.Frag}{elts:List Expr}{kk:Nat}{tpos:Pos}{a b z TI TO i1 i2:Addr} (D:ZipApart z TI TO i1 i2 a b) :
 Wa P w K (.Tuple elts kk tpos) (Itz K a b) [z,TI,TO,i1,i2] z (fun i h=>IsZip h z TI TO .none/\IsPair h TI (.ref i1) (.ref i2)/\(∃ x y,IsPair h TO x y)/\h.IsListIter i1 a i/\h.IsListIter i2 b i) where
 mem:=by simp
 obj:=fun i h st c hc=>by
  obtain⟨hz,hTI,⟨x,y,hTO⟩,⟨o1,e1,_,d1⟩,⟨o2,e2,_,d2⟩⟩:=st
  have e':c=z∨c=TI∨c=TO∨c=i1∨c=i2:=by simpa using hc
  rcases e' with q | q | q | q | q
  . rw[q];exact⟨_,hz,fun v q=>nomatch q⟩
  . rw[q];exact⟨_,hTI,fun v q=>nomatch q⟩
  . rw[q];exact⟨_,hTO,fun v q=>nomatch q⟩
  . rw[q];exact⟨o1,e1,fun v q=>by rw[d1] at q;cases q⟩
  . rw[q];exact⟨o2,e2,fun v q=>by rw[d2] at q;cases q⟩
 keep:=fun i h h' st k=>by
  obtain⟨hz,hTI,⟨x,y,hTO⟩,h1,h2⟩:=st
  exact⟨k z (by simp) _ hz,k TI (by simp) _ hTI,⟨x,y,k TO (by simp) _ hTO⟩,h1.at fun o q=>k i1 (by simp) o q,h2.at fun o q=>k i2 (by simp) o q⟩
 item:=by
  intro X hP hw hK hc i pins s σ H E I hf st hg
  subst hP hw hK
  obtain⟨hz,hTI,⟨x0,y0,hTO⟩,h1,h2⟩:=st
  obtain⟨xs,ys,x,y,hqx,hqy,hx,hy⟩:=hg
  obtain⟨its,rv,p,_⟩:=I.list hqx
  obtain⟨its2,rv2,p2,_⟩:=I.list hqy
  obtain⟨u,hu,ru⟩:=rv.get hx
  obtain⟨u2,hu2,ru2⟩:=rv2.get hy
  have hzl:z<s.heap.objs.size:=Heap.lt_size hz
  refine wpAny_pyNext_zip_item D hz hTI hTO h1 h2 p.isList p2.isList (x:=u) (y:=u2) (by simpa using hu) (by simpa using hu2) fun h' z' TO' h1' h2' hT hsz hk=>?_
  refine⟨_,rfl,wpAny_letOwnedTupleGo_zip (s:={ s with heap:=h' }) z' fun h'' z'' sb=>?_⟩
  have hT2:h''.get? s.heap.objs.size=some { cls:=.type "tuple",data:=.seq #[u,u2] }:=(sb.2 _ (Nat.ne_of_gt hzl)).trans hT
  have new:ObjOk X.prog X.w (upd H s.heap.objs.size (.tup [x,y])) h'' s.heap.objs.size (.tup [x,y]) :=
   ⟨by show 2<=sizeLine;decide,[u,u2],.cons ru (.cons ru2 .nil),⟨_,hT2,rfl,_,rfl⟩⟩
  have I1:Inv X pins σ (upd H s.heap.objs.size (.tup [x,y])) { s with heap:=h'' } :=
   I.turnedNew (t':=s.toks) (ch:=[z,TI,TO,i1,i2]) (fun c o hb q=>(sb.2 c (fun q'=>hb (by simp[q']))).trans (hk c o (fun q'=>hb (by simp[q'])) (fun q'=>hb (by simp[q'])) (fun q'=>hb (by simp[q'])) (fun q'=>hb (by simp[q'])) q)) hf (Nat.le_refl _) new
  refine⟨.ref s.heap.objs.size,_,I1,rfl,⟨_,x,y,rfl,I.hok.fresh (Nat.le_refl _),rfl,fun l hl=>by rw[I.list_inj hl hqx];exact hx,fun l hl=>by rw[I.list_inj hl hqy];exact hy⟩,⟨z'',?_,⟨u,u2,?_⟩,?_,?_⟩,fun c hcm=>?_⟩
  . exact (sb.2 _ D.TIz).trans (hk _ _ D.TIz D.TITO D.TIi1 D.TIi2 hTI)
  . exact (sb.2 _ D.TOz).trans TO'
  . exact h1'.at fun o q=>(sb.2 _ D.i1z).trans q
  . exact h2'.at fun o q=>(sb.2 _ D.i2z).trans q
  . have hlt:c<s.heap.objs.size:=by
     have e':c=z∨c=TI∨c=TO∨c=i1∨c=i2:=by simpa using hcm
     rcases e' with q | q | q | q | q
     . rw[q];exact hzl
     . rw[q];exact Heap.lt_size hTI
     . rw[q];exact Heap.lt_size hTO
     . rw[q];obtain⟨_,e1,_⟩:=h1;exact Heap.lt_size e1
     . rw[q];obtain⟨_,e2,_⟩:=h2;exact Heap.lt_size e2
    rw[z8 (Nat.ne_of_lt hlt)]
    exact (hf c hcm).1
 done:=by
  intro X hP hw hK hc i pins s σ H E I hf st hg
  subst hP hw hK
  obtain⟨hz,hTI,⟨x0,y0,hTO⟩,h1,h2⟩:=st
  obtain⟨xs,ys,hqx,hqy,hend⟩:=hg
  obtain⟨its,rv,p,_⟩:=I.list hqx
  obtain⟨its2,rv2,p2,_⟩:=I.list hqy
  have l1:=rv.length
  have l2:=rv2.length
  have he:its.toArray[i]?=none∨its2.toArray[i]?=none:=by
   rcases hend with q | q
   . exact .inl (by simp;omega)
   . exact .inr (by simp;omega)
  exact wpAny_pyNext_zip_end (I.ok.hd hc) D hz hTI hTO h1 h2 p.isList p2.isList he fun h' hk=>⟨rfl,I.turnedL (t':=s.toks) (ch:=[z,TI,TO,i1,i2]) (fun c o hb q =>
   hk c o (fun q'=>hb (by simp[q'])) (fun q'=>hb (by simp[q'])) (fun q'=>hb (by simp[q'])) (fun q'=>hb (by simp[q'])) q) hf⟩
 self:=fun A i s Q E st h=>wpAny_pyIter_zip st.1 h
def ady (K:PySem.W.Frag) (ta:TA):TI:=fun σ H R=>ta σ H fun vs H1=>∃ a b xs ys,vs=[.ref a,.ref b]/\SqL K H1 a xs/\SqL K H1 b ys/\R (Itz K a b) H1
theorem acy {X:Cx}{e e2:Expr}{ta:TA}{p pos tpos:Pos}{elts:List Expr}{kk:Nat} (hg:Gl X "zip") (hm:X.mg "zip"=none) (ha:PA X [e,e2] ta)
 (hs:starEach [e,e2] X.env=(false,eval e X.env)::starEach [e2] X.env:=by rfl) (hpl:(backTo pos (starEach [e2] X.env)).any (·.1)=false:=by rfl) :
 PI X (.Tuple elts kk tpos) (.Call (.Name "zip" p) [e,e2] [] pos) (ady X.K ta):=by
 intro pins s σ H R I h
 refine Call_ (wN I hg hm UE (PyProof.Rows.callWith_type1 (thn (ha pos pins s σ H _ I h) fun us s1 ⟨vs,H1,I1,r1,q1⟩=>?_) hs hpl))
 obtain⟨a,b,xs,ys,ex,hqx,hqy,q⟩:=q1
 subst ex
 cases r1 with
 | cons r rr =>
  cases rr with
  | cons r' rr =>
   cases rr
   cases r
   cases r'
   obtain⟨its,rv,p1,_⟩:=I1.list hqx
   obtain⟨its2,rv2,p2,_⟩:=I1.list hqy
   have la:a<s1.heap.objs.size:=p1.lt
   have lb:b<s1.heap.objs.size:=p2.lt
   refine call_zip_2 p1.isList p2.isList fun h' hz hTI hTO h1 h2 hsz hk=>wpAny_pyIter_zip hz ?_
   have I2:Inv X pins σ H1 { s1 with heap:=h' }:=I1.kept (t':=s1.toks) hk
   refine⟨s1.heap.objs.size+4,[s1.heap.objs.size+4,s1.heap.objs.size+2,s1.heap.objs.size+3,s1.heap.objs.size,s1.heap.objs.size+1],_,_,H1,rfl,I2,aaS (PySem.W.ktu_apart s1.heap.objs.size a b la lb),⟨hz,hTI,⟨_,_,hTO⟩,h1,h2⟩,fun c hcm=>?_,q⟩
   have e':c=s1.heap.objs.size+4∨c=s1.heap.objs.size+2∨c=s1.heap.objs.size+3∨c=s1.heap.objs.size∨c=s1.heap.objs.size+1:=by simpa using hcm
   have hle:s1.heap.objs.size<=c:=by
    rcases e' with z | z | z | z | z
    . rw[z];exact Nat.le_add_right _ _
    . rw[z];exact Nat.le_add_right _ _
    . rw[z];exact Nat.le_add_right _ _
    . rw[z];exact Nat.le_refl _
    . rw[z];exact Nat.le_add_right _ _
   exact I1.fpOk hle (I1.hok.fresh hle)
end L2
section
namespace Bits
open PySem PyProof.Rows
end Bits
end
section
namespace TL
open PySem PySem.Builtin PySem.Builtin.Str PySem.StrLaws
end TL
end
namespace L2
open PySem PySem.Spec PyProof.Rows
end L2
namespace L2
open PySem PySem.Spec PyProof.Rows
end L2
namespace Att
open PySem PySem.W PySem.Calls PyProof.Rows
end Att
namespace L2
open PySem PySem.Spec PyProof.Rows
end L2
namespace L2
open PySem PySem.Spec PyProof.Rows
end L2
namespace L2
open PySem PySem.Spec PyProof.Rows
def uq (s:Stmt) (j:Nat):Stmt:=match s with
 | .ClassDef _ _ _ body _ _ _ _ _ _ _=>body.getD j (.Pass ⟨0,0,0,0⟩)
 | _=>.Pass ⟨0,0,0,0⟩
def xX (s:Stmt):Arguments:=match s with
 | .FunctionDef _ a _ _ _ _ _ _ _ _=>a
 | _=>{ posonlyargs:=[],args:=[],vararg:=none,kwonlyargs:=[],kw_defaults:=[],kwarg:=none,defaults:=[] }
def yV (s:Stmt):List Stmt:=match s with
 | .FunctionDef _ _ b _ _ _ _ _ _ _=>b
 | _=>[]
def zh (s:Stmt):Scope:=match s with
 | .FunctionDef _ _ _ _ _ _ sc _ _ _=>sc
 | _=>{ kind:=.function,names:=[],isGenerator:=false,isCoroutine:=false }
abbrev CX0:CXT:=fun _ _ _ _ _ _=>False
abbrev E0:XK:=fun _ _ _=>False
theorem aaT {X:Cx}:QA CX0 X E0:=fun _ _ _ _ _ _ _ h=>h.elim
structure Fun (K:PySem.W.Frag) (x qual:Str) (st:Stmt) (f:Addr) (fd:FuncData):Prop where
 ex:∃ (oc:Value) (od:Option Addr) (kV doc pm:Value) (an:Option Addr) (cdv ct:Value) (osl:Array (Option Value)),
  fd=PySem.W.fnOf x qual (xX st) (yV st) (zh st) .none kV doc pm an cdv ct/\K.lookup f=some ⟨oc,od,.func fd,osl⟩/\PySem.W.codeIn K cdv qual=true
 kp:PySem.W.keepIn K (.ref f)=true
section
variable {P:Program}{w:World}{K:PySem.W.Frag}{mg:Str->Option Value}{base:Heap}
theorem Fun.ok {x qual:Str}{st:Stmt}{f:Addr}{fd:FuncData}{N ps:List Str}{k:Nat}{sp:Sp} (F:Fun K x qual st f fd) (S:zu N ps (zh st)) (len:∀ vs H Q E,sp vs H Q E->vs.length=ps.length)
 (hbody:∀ (cdv:Value) (A:Around) (outer:List Env) (s:Shared) (H:Hp) (vs:List V) (Q:VK) (E:XK),Room k (A.deeper (envOfC qual (zh st) s.heap.objs.size f cdv))->sp vs H Q E ->
  ∃ t,PSs (Uy CX0 P w K mg base N qual (zh st) f cdv A outer s H E).nox (yV st) t/\t { nx:=fun _ H'=>Q .non H',rt:=Q } (start N vs) H):zU P w K mg base CX0 (k+1) f fd ps sp:=by
 obtain⟨oc,od,kV,doc,pm,an,cdv,ct,osl,rfl,lk,hcd⟩:=F.ex
 refine ac3 lk hcd S len fun A outer s H vs Q E hr hsp=>?_
 obtain⟨t,h,q⟩:=hbody cdv A outer s H vs Q E hr hsp
 exact⟨t,h.nox,q⟩
theorem Fun.binds {x qual:Str}{st:Stmt}{f:Addr}{fd:FuncData}{ps:List Str} (F:Fun K x qual st f fd)
 (h:∀ (kV doc pm:Value) (an:Option Addr) (cdv ct:Value) (us:List Value),us.length=ps.length->bindArgs (PySem.W.fnOf x qual (xX st) (yV st) (zh st) .none kV doc pm an cdv ct) ⟨us,[]⟩=pure (ps.zip us)):Binds K fd ps []:=by
 obtain⟨oc,od,kV,doc,pm,an,cdv,ct,osl,rfl,lk,hcd⟩:=F.ex
 exact .all (h kV doc pm an cdv ct)
theorem aaU {x qual:Str}{st:Stmt}{f:Addr}{oc:Value}{od an:Option Addr}{osl:Array (Option Value)}{kV doc pm cdv ct:Value} (l:K.lookup f=some ⟨oc,od,.func (PySem.W.fnOf x qual (xX st) (yV st) (zh st) .none kV doc pm an cdv ct),osl⟩)
 (c:PySem.W.codeIn K cdv qual=true) (k:PySem.W.keepIn K (.ref f)=true):Fun K x qual st f (PySem.W.fnOf x qual (xX st) (yV st) (zh st) .none kV doc pm an cdv ct):=⟨⟨oc,od,kV,doc,pm,an,cdv,ct,osl,rfl,l,c⟩,k⟩
end
theorem jL {A:Around}{k:Nat} (hr:Room k A):A.units+1<cLine:=Nat.lt_of_le_of_lt (Nat.add_le_add_left (by decide:1<=64) _) hr.units
section
variable {X:Cx}
theorem pv (i:Nat) {x:Str}{pos:Pos} (hN:X.N[i]?=some x:=by rfl) (hv:Vis X.env.scope x:=by first | exact Or.inl rfl | exact Or.inr (Or.inl rfl) | exact Or.inr (Or.inr rfl)) (hd:(x == ("__debug__":Str))=false:=by decide)
 (hcd:(x == ("__classdict__":Str))=false:=by decide):PE X (.Name x pos) (qv i):=ace hN hv hd hcd
end
theorem zy {A B:Prop} (h:B):if false=true then A else B:=by
 rw[if_neg Bool.false_ne_true]
 exact h
theorem zF {A B:Prop} (h:A):if true=true then A else B:=by
 rw[if_pos rfl]
 exact h
theorem wY {c A B:Prop} [Decidable c] (h1:c->A) (h2:¬c->B):if c then A else B:=by
 by_cases h:c
 . rw[if_pos h]
   exact h1 h
 . rw[if_neg h]
   exact h2 h
def Same (H H':Hp):Prop:=∀ b o,H b=some o->H' b=some o
theorem Same.refl (H:Hp):Same H H:=fun _ _ h=>h
theorem Same.trans {H H1 H2:Hp} (a:Same H H1) (b:Same H1 H2):Same H H2:=fun c o h=>b c o (a c o h)
theorem Same.free {H H':Hp} (e:Same H H') {l:Addr} (h:H' l=Option.none):H l=Option.none:=by
 cases q:H l with
 | none=>rfl
 | some o =>
  rw[e l o q] at h
  cases h
theorem Same.seq {K:PySem.W.Frag}{H H':Hp}{a:Addr}{xs:List V} (e:Same H H') (h:SqL K H a xs):SqL K H' a xs:=by
 rcases h with (h | ⟨o,h⟩) | h
 . exact .inl (.inl (e _ _ h))
 . exact .inl (.inr ⟨o,e _ _ h⟩)
 . exact .inr h
section
variable {κ:Type} [DecidableEq κ]
theorem Yc:∀ {l:List κ}{k:κ},l.Nodup->¬k∈l->(l++[k]).Nodup
 | [],k,_,_=>by simp
 | a::r,k,h,hk=>by
  obtain⟨h1,h2⟩:=List.nodup_cons.mp h
  show (a::(r++[k])).Nodup
  refine List.nodup_cons.mpr ⟨fun m=>?_,Yc h2 fun m=>hk (List.mem_cons.mpr (Or.inr m))⟩
  rcases List.mem_append.mp m with q | q
  . exact h1 q
  . exact hk (List.mem_cons.mpr (Or.inl (List.mem_singleton.mp q).symm))
end
theorem aaV {α:Type}{l:List α} (hN:l.Nodup) {i j:Nat}{x:α} (a:l[i]?=some x) (b:l[j]?=some x):i=j:=by
 obtain⟨h1,e1⟩:=List.getElem?_eq_some_iff.mp a
 obtain⟨h2,e2⟩:=List.getElem?_eq_some_iff.mp b
 exact (List.getElem_inj hN).mp (e1.trans e2.symm)
end L2
end
section
namespace L2
open PySem PySem.Spec PyProof.Rows
open PySem.W (WData Codec OpenSpec Well WellAll ReadsW ReadsAllW)
mutual
inductive Dw (K:PySem.W.Frag) (H:Hp):V->WData->Prop
 | non:Dw K H .non .none
 | bl (b:Bool):Dw K H (.bl b) (.bool b)
 | int (i:Int):Dw K H (.int i) (.int i)
 | str (x:Str):Dw K H (.str x) (.str x)
 | byt (b:Array UInt8):Dw K H (.byt b) (.bytes b.toList)
 | lst {a:Addr}{xs:List V}{ds:List WData}:SqL K H a xs->wm K H xs ds->Dw K H (.ref a) (.list ds)
 | tup {a:Addr}{xs:List V}{ds:List WData}:SqT K H a xs->wm K H xs ds->Dw K H (.ref a) (.tuple ds)
inductive wm (K:PySem.W.Frag) (H:Hp):List V->List WData->Prop
 | nil:wm K H [] []
 | cons {v:V}{vs:List V}{d:WData}{ds:List WData}:Dw K H v d->wm K H vs ds->wm K H (v::vs) (d::ds)
end
theorem W_ {K:PySem.W.Frag}{H:Hp}:∀ ns:List Int,wm K H (ns.map V.int) (ns.map WData.int)
 | []=>.nil
 | n::r=>.cons (.int n) (W_ r)
theorem U0 {K:PySem.W.Frag}{H:Hp}:∀ (ns:List Int) (xs:List V),wm K H xs (ns.map WData.int)->xs=ns.map V.int
 | [],xs,h=>by
  cases h
  rfl
 | n::r,xs,h=>by
  cases h with
  | cons h1 h2 =>
   cases h1
   rw[U0 r _ h2] <;> rfl
section
variable {P:Program}{w:World}{K:PySem.W.Frag}{H:Hp}{h:Heap}{R:PySem.W.WRecords}{cl:Str->Option Addr}
theorem acz {a:Addr}{xs:List V} (hok:HOk P w H h) (KX:K.In h) (q:SqL K H a xs):∃ (its:List Value) (o:Obj) (n:Nat),Vals xs its/\h.get? a=some o/\o.cls=.type "list"/\o.data=.seq its.toArray n:=by
 rcases q with q | ⟨o,its,n,e,hc,_,hd,_,hv⟩
 . obtain⟨_,its,n,hv,e⟩:=(show ObjOk P w H h a (.lst xs) from q.ok hok)
   exact⟨its,_,n,hv,e,rfl,rfl⟩
 . exact⟨its.toList,o,n,hv,KX _ _ e,hc,by simp[hd]⟩
theorem acA {a:Addr}{xs:List V} (hok:HOk P w H h) (KX:K.In h) (q:SqT K H a xs):∃ (its:List Value) (o:Obj) (n:Nat),Vals xs its/\h.get? a=some o/\o.cls=.type "tuple"/\o.data=.seq its.toArray n:=by
 rcases q with q | ⟨o,its,n,e,hc,hd,_,hv⟩
 . obtain⟨_,its,hv,o,e,hc,n,hd⟩:=(show ObjOk P w H h a (.tup xs) from q.ok hok)
   exact⟨its,o,n,hv,e,hc,hd⟩
 . exact⟨its.toList,o,n,hv,KX _ _ e,hc,by simp[hd]⟩
mutual
theorem Dw.reads (hok:HOk P w H h) (KX:K.In h):∀ (d:WData) (v:V) (u:Value),Dw K H v d->RelV v u->∃ as,ReadsW R cl h u d as
 | .none,_,_,x,r=>by
  cases x
  cases r
  exact⟨_,ReadsW.none⟩
 | .bool b,_,_,x,r=>by
  cases x
  cases r
  exact⟨_,ReadsW.bool b⟩
 | .int i,_,_,x,r=>by
  cases x
  obtain⟨t,rfl⟩:=r
  exact⟨_,ReadsW.int i t⟩
 | .str s,_,_,x,r=>by
  cases x
  obtain⟨t,rfl⟩:=r
  exact⟨_,ReadsW.str s t⟩
 | .bytes b,_,_,x,r=>by
  cases x
  obtain⟨t,rfl⟩:=r
  exact⟨_,ReadsW.bytes _ t⟩
 | .list ds,_,_,x,r=>by
  cases x with
  | lst hs ha =>
   cases r
   obtain⟨its,o,n,rv,ho,hc,hd⟩:=acz hok KX hs
   obtain⟨as,hr⟩:=Dw.readsAll hok KX ds _ its ha rv
   exact⟨_,ReadsW.list ho hc hd hr⟩
 | .tuple ds,_,_,x,r=>by
  cases x with
  | tup hs ha =>
   cases r
   obtain⟨its,o,n,rv,ho,hc,hd⟩:=acA hok KX hs
   obtain⟨as,hr⟩:=Dw.readsAll hok KX ds _ its ha rv
   exact⟨_,ReadsW.tuple ho hc hd hr⟩
 | .float _,_,_,x,_=>by cases x
 | .dict _,_,_,x,_=>by cases x
 | .bytearray _,_,_,x,_=>by cases x
 | .set _,_,_,x,_=>by cases x
 | .frozenset _,_,_,x,_=>by cases x
 | .obj _ _,_,_,x,_=>by cases x
theorem Dw.readsAll (hok:HOk P w H h) (KX:K.In h):∀ (ds:List WData) (vs:List V) (us:List Value),wm K H vs ds->Vals vs us->∃ as,ReadsAllW R cl h us ds as
 | [],_,_,x,r=>by
  cases x
  cases r
  exact⟨_,ReadsAllW.nil⟩
 | d::ds,_,_,x,r=>by
  cases x with
  | cons h1 h2 =>
   cases r with
   | cons r1 r2 =>
    obtain⟨as,q1⟩:=Dw.reads hok KX d _ _ h1 r1
    obtain⟨bs,q2⟩:=Dw.readsAll hok KX ds _ _ h2 r2
    exact⟨_,ReadsAllW.cons q1 q2⟩
end
end
mutual
def plW:WData->Bool
 | .none=>true
 | .bool _=>true
 | .int _=>true
 | .str _=>true
 | .bytes _=>true
 | .list xs=>Jf xs
 | .tuple xs=>Jf xs
 | _=>false
def Jf:List WData->Bool
 | []=>true
 | x::r=>plW x && Jf r
end
theorem Xl {α:Type}{f:α->WData} (h:∀ a,plW (f a)=true):∀ l:List α,Jf (l.map f)=true
 | []=>rfl
 | x::r=>by
  show (plW (f x) && Jf (r.map f))=true
  rw[h x,Xl h r] <;> rfl
theorem wZ:∀ (c:Codec) (a:c.denote),plW (c.enc a)=true
 | .unit,_=>rfl
 | .bool,_=>rfl
 | .int _ _,_=>rfl
 | .nat _ _,_=>rfl
 | .u8,_=>rfl
 | .bytes _ _,_=>rfl
 | .text _ _ _ _,_=>rfl
 | .list _ _ c,a=>Xl (fun x=>wZ c x) a
 | .pair c d,a=>by
  show (plW (c.enc a.1) && (plW (d.enc a.2) && true))=true
  rw[wZ c a.1,wZ d a.2] <;> rfl
 | .triple c d e,a=>by
  show (plW (c.enc a.1) && (plW (d.enc a.2.1) && (plW (e.enc a.2.2) && true)))=true
  rw[wZ c a.1,wZ d a.2.1,wZ e a.2.2] <;> rfl
 | .option c,none=>rfl
 | .option c,some x=>wZ c x
theorem VC:∀ (cs:List Codec) (a:Codec.denoteAll cs),Jf (Codec.encAll cs a)=true
 | [],_=>rfl
 | c::cs,a=>by
  show (plW (c.enc a.1) && Jf (Codec.encAll cs a.2))=true
  rw[wZ c a.1,VC cs a.2] <;> rfl
theorem Z5:∀ {xs:List WData}{d:WData},d∈xs->d.weight<=WData.weightAll xs
 | [],d,h=>absurd h (by simp)
 | x::r,d,h=>by
  show d.weight<=x.weight+1+WData.weightAll r
  rcases List.mem_cons.mp h with e | m
  . rw[e]
    omega
  . have z:=Z5 m
    omega
def toV:Value->V
 | .none=>.non
 | .bool b=>.bl b
 | .int i _=>.int i
 | .str x _=>.str x
 | .bytes b _=>.byt b
 | .ref a=>.ref a
 | _=>.non
def OkU (A:List Addr):Value->Prop
 | .none=>True
 | .bool _=>True
 | .int _ _=>True
 | .str _ _=>True
 | .bytes _ _=>True
 | .ref a=>a∈A
 | _=>False
theorem OkU.mono {A B:List Addr} (h:∀ a∈A,a∈B):∀ {u:Value},OkU A u->OkU B u:=fun {u} x=>by
 cases u with
 | ref a=>exact h a x
 | none=>trivial
 | bool b=>trivial
 | int i t=>trivial
 | str s t=>trivial
 | bytes b t=>trivial
 | _=>exact False.elim x
theorem aaW {A:List Addr}{u:Value} (x:OkU A u):RelV (toV u) u:=by
 cases u with
 | ref a=>rfl
 | none=>rfl
 | bool b=>rfl
 | int i t=>exact⟨t,rfl⟩
 | str s t=>exact⟨t,rfl⟩
 | bytes b t=>exact⟨t,rfl⟩
 | _=>exact False.elim x
theorem xH {A:List Addr}:∀ {vs:List Value},(∀ u∈vs,OkU A u)->Vals (vs.map toV) vs
 | [],_=>.nil
 | u::r,h=>.cons (aaW (h u (List.mem_cons_self ..))) (xH fun x hx=>h x (List.mem_cons_of_mem _ hx))
def ArgOb (h:Heap) (A:List Addr) (a:Addr):Prop:=∃ vs:List Value,vs.length<=sizeLine/\(∀ u∈vs,OkU A u) /\
 (h.get? a=some { cls:=.type "list",data:=.seq vs.toArray }∨h.get? a=some { cls:=.type "tuple",data:=.seq vs.toArray })
theorem ArgOb.mono {h:Heap}{A B:List Addr}{a:Addr} (k:∀ a∈A,a∈B) (x:ArgOb h A a):ArgOb h B a:=by
 obtain⟨vs,h1,h2,h3⟩:=x
 exact⟨vs,h1,fun u hu=>(h2 u hu).mono k,h3⟩
theorem yW {P:Params}{h:Heap}:∀ {vs:List Value}{ds:List WData},WellAll P h vs ds->vs.length=ds.length
 | _,_,.nil=>rfl
 | _,_,.cons _ b=>by
  show _+1=_+1
  rw[yW b]
theorem VD {P:Params}{h:Heap}{v:Value}{ds:List WData} (x:Well P h v (.list ds)):∃ (a:Addr) (vs:List Value),v=.ref a/\h.get? a=some { cls:=.type "list",data:=.seq vs.toArray }/\WellAll P h vs ds:=by
 cases x with
 | list ho hall=>exact⟨_,_,rfl,ho,hall⟩
theorem Ka {P:Params}{h:Heap}{v:Value}{ds:List WData} (x:Well P h v (.tuple ds)):∃ (a:Addr) (vs:List Value),v=.ref a/\h.get? a=some { cls:=.type "tuple",data:=.seq vs.toArray }/\WellAll P h vs ds:=by
 cases x with
 | tuple ho hall=>exact⟨_,_,rfl,ho,hall⟩
theorem VE {P:Params}{h:Heap}{us:List Value}{d:WData}{ds:List WData} (x:WellAll P h us (d::ds)):∃ (v:Value) (vs:List Value),us=v::vs/\Well P h v d/\WellAll P h vs ds:=by
 cases x with
 | cons a b=>exact⟨_,_,rfl,a,b⟩
theorem U1 {n:Nat} (h:n<=1048576):n<=sizeLine:=Nat.le_trans h (by decide)
section
variable {P:Params}{h:Heap}
mutual
theorem aaX:∀ (d:WData) (v:Value),Well P h v d->plW d=true->d.weight<=1048576->∃ A:List Addr,OkU A v/\∀ a∈A,ArgOb h A a
 | .none,_,x,_,_=>by
  cases x
  exact⟨[],trivial,fun a m=>absurd m (by simp)⟩
 | .bool b,_,x,_,_=>by
  cases x
  exact⟨[],trivial,fun a m=>absurd m (by simp)⟩
 | .int i,_,x,_,_=>by
  cases x
  exact⟨[],trivial,fun a m=>absurd m (by simp)⟩
 | .str s,_,x,_,_=>by
  cases x
  exact⟨[],trivial,fun a m=>absurd m (by simp)⟩
 | .bytes b,_,x,_,_=>by
  cases x
  exact⟨[],trivial,fun a m=>absurd m (by simp)⟩
 | .list ds,_,x,p,z=>by
  obtain⟨a,vs,rfl,ho,hall⟩:=VD x
  have z2:WData.weightAll ds<=1048576:=z
  obtain⟨A,h1,h2⟩:=ZN ds _ hall p fun d hd=>Nat.le_trans (Z5 hd) z2
  have k:∀ b∈A,b∈a::A:=fun b hb=>List.mem_cons_of_mem _ hb
  refine⟨a::A,List.mem_cons_self ..,fun b hb=>?_⟩
  rcases List.mem_cons.mp hb with e | m
  . rw[e]
    exact⟨vs,U1 (by rw[yW hall];exact Nat.le_trans (PySem.W.length_le_weightAllW ds) z2),fun u hu=>(h1 u hu).mono k,.inl ho⟩
  . exact (h2 b m).mono k
 | .tuple ds,_,x,p,z=>by
  obtain⟨a,vs,rfl,ho,hall⟩:=Ka x
  have z2:WData.weightAll ds<=1048576:=z
  obtain⟨A,h1,h2⟩:=ZN ds _ hall p fun d hd=>Nat.le_trans (Z5 hd) z2
  have k:∀ b∈A,b∈a::A:=fun b hb=>List.mem_cons_of_mem _ hb
  refine⟨a::A,List.mem_cons_self ..,fun b hb=>?_⟩
  rcases List.mem_cons.mp hb with e | m
  . rw[e]
    exact⟨vs,U1 (by rw[yW hall];exact Nat.le_trans (PySem.W.length_le_weightAllW ds) z2),fun u hu=>(h1 u hu).mono k,.inr ho⟩
  . exact (h2 b m).mono k
 | .float _,_,_,p,_=>Bool.noConfusion (show false=true from p)
 | .dict _,_,_,p,_=>Bool.noConfusion (show false=true from p)
 | .bytearray _,_,_,p,_=>Bool.noConfusion (show false=true from p)
 | .set _,_,_,p,_=>Bool.noConfusion (show false=true from p)
 | .frozenset _,_,_,p,_=>Bool.noConfusion (show false=true from p)
 | .obj _ _,_,_,p,_=>Bool.noConfusion (show false=true from p)
theorem ZN:∀ (ds:List WData) (vs:List Value),WellAll P h vs ds->Jf ds=true->(∀ d∈ds,d.weight<=1048576)->∃ A:List Addr,(∀ u∈vs,OkU A u)/\∀ a∈A,ArgOb h A a
 | [],_,x,_,_=>by
  cases x
  exact⟨[],fun u m=>absurd m (by simp),fun a m=>absurd m (by simp)⟩
 | d::ds,_,x,p,z=>by
  obtain⟨v,vs,rfl,x1,x2⟩:=VE x
  have q:plW d=true/\Jf ds=true:=Bool.and_eq_true_iff.mp p
  obtain⟨A,a1,a2⟩:=aaX d v x1 q.1 (z d (List.mem_cons_self ..))
  obtain⟨B,b1,b2⟩:=ZN ds vs x2 q.2 fun e he=>z e (List.mem_cons_of_mem _ he)
  have kA:∀ b∈A,b∈A++B:=fun b hb=>List.mem_append.mpr (.inl hb)
  have kB:∀ b∈B,b∈A++B:=fun b hb=>List.mem_append.mpr (.inr hb)
  refine⟨A++B,fun u hu=>?_,fun b hb=>?_⟩
  . rcases List.mem_cons.mp hu with e | m
    . rw[e]
      exact a1.mono kA
    . exact (b1 u m).mono kB
  . rcases List.mem_append.mp hb with m | m
    . exact (a2 b m).mono kA
    . exact (b2 b m).mono kB
end
end
def abN (o:Obj):Option HO:=match o.data with
 | .seq vs _=>if (o.cls == Value.type "list")=true then some (.frz o (.lst (vs.toList.map toV))) else some (.frz o (.tup (vs.toList.map toV)))
 | _=>none
def xY (K:PySem.W.Frag) (h:Heap) (A:List Addr):Hp:=fun b=>if b∈A then (if (K.lookup b).isNone=true then (h.get? b).bind abN else none) else none
def Xm (H:Hp):Prop:=∀ b,H b=none∨∃ o u,H b=some (.frz o u)
theorem Xn (vs:List Value):abN { cls:=.type "list",data:=.seq vs.toArray }=some (.frz { cls:=.type "list",data:=.seq vs.toArray } (.lst (vs.map toV))):=by
 show (if (Value.type "list" == Value.type "list")=true then some (HO.frz { cls:=.type "list",data:=.seq vs.toArray } (.lst (vs.toArray.toList.map toV))) else some (HO.frz { cls:=.type "list",data:=.seq vs.toArray } (.tup (vs.toArray.toList.map toV))))=_
 rw[if_pos (beq_self_eq_true _)]
theorem Xo (vs:List Value):abN { cls:=.type "tuple",data:=.seq vs.toArray }=some (.frz { cls:=.type "tuple",data:=.seq vs.toArray } (.tup (vs.map toV))):=by
 show (if (Value.type "tuple" == Value.type "list")=true then some (HO.frz { cls:=.type "tuple",data:=.seq vs.toArray } (.lst (vs.toArray.toList.map toV))) else some (HO.frz { cls:=.type "tuple",data:=.seq vs.toArray } (.tup (vs.toArray.toList.map toV))))=_
 rw[if_neg (by decide)]
section
variable {P:Program}{w:World}{K:PySem.W.Frag}{h:Heap}{A:List Addr}
theorem JH {b:Addr}{o:Obj} (hb:b∈A) (hk:K.lookup b=none) (e:h.get? b=some o):xY K h A b=abN o:=by
 unfold xY
 rw[if_pos hb,hk,if_pos (show (none:Option Obj).isNone=true from rfl),e] <;> rfl
theorem abO {b:Addr}{u:HO} (q:xY K h A b=some u):b∈A/\K.lookup b=none:=by
 unfold xY at q
 by_cases hb:b∈A
 . rw[if_pos hb] at q
   cases hk:K.lookup b with
   | none=>exact⟨hb,rfl⟩
   | some o =>
    rw[hk,if_neg (by simp)] at q
    cases q
 . rw[if_neg hb] at q
   cases q
theorem JI (ar:∀ a∈A,ArgOb h A a) {b:Addr}{u:HO} (q:xY K h A b=some u):K.lookup b=none/\∃ vs:List Value,vs.length<=sizeLine/\(∀ u∈vs,OkU A u) /\
 ((h.get? b=some { cls:=.type "list",data:=.seq vs.toArray }/\u=.frz { cls:=.type "list",data:=.seq vs.toArray } (.lst (vs.map toV))) ∨
  (h.get? b=some { cls:=.type "tuple",data:=.seq vs.toArray }/\u=.frz { cls:=.type "tuple",data:=.seq vs.toArray } (.tup (vs.map toV)))):=by
 obtain⟨hb,hk⟩:=abO q
 obtain⟨vs,h1,h2,h3⟩:=ar b hb
 refine⟨hk,vs,h1,h2,?_⟩
 rcases h3 with e | e
 . rw[JH hb hk e,Xn] at q
   exact .inl ⟨e,(Option.some.inj q).symm⟩
 . rw[JH hb hk e,Xo] at q
   exact .inr ⟨e,(Option.some.inj q).symm⟩
theorem UF (ar:∀ a∈A,ArgOb h A a):Xm (xY K h A):=fun b=>by
 cases q:xY K h A b with
 | none=>exact .inl rfl
 | some u =>
  obtain⟨_,vs,_,_,⟨_,e⟩ | ⟨_,e⟩⟩:=JI ar q
  . exact .inr ⟨_,_,by rw[e]⟩
  . exact .inr ⟨_,_,by rw[e]⟩
theorem abP (ar:∀ a∈A,ArgOb h A a):HOk P w (xY K h A) h:=fun b u q=>by
 obtain⟨_,vs,h1,h2,⟨e,rfl⟩ | ⟨e,rfl⟩⟩:=JI ar q
 . exact⟨e,by rw[List.length_map];exact h1,vs,_,xH h2,e⟩
 . exact⟨e,by rw[List.length_map];exact h1,vs,xH h2,_,e,rfl,_,rfl⟩
theorem JJ {c c':Value}{vs us:List Value} (e:(some { cls:=c,data:=.seq vs.toArray }:Option Obj)=some { cls:=c',data:=.seq us.toArray }):c=c'/\vs=us:=by
 have e1:=Option.some.inj e
 have e2:c=c':=congrArg Obj.cls e1
 have e3:Data.seq vs.toArray=Data.seq us.toArray:=congrArg Obj.data e1
 injection e3 with e4
 refine⟨e2,?_⟩
 have e5:=congrArg Array.toList e4
 simpa using e5
theorem adz (KX:K.In h) (ar:∀ a∈A,ArgOb h A a) {a:Addr}{vs:List Value} (ha:a∈A) (e:h.get? a=some { cls:=.type "list",data:=.seq vs.toArray }):(∀ u∈vs,OkU A u)/\SqL K (xY K h A) a (vs.map toV):=by
 obtain⟨us,h1,h2,h3⟩:=ar a ha
 have hu:us=vs:=by
  rcases h3 with q | q
  . rw[e] at q
    exact (JJ q).2.symm
  . rw[e] at q
    exact absurd (Value.type.inj (JJ q).1) (by decide)
 subst hu
 refine⟨h2,?_⟩
 cases hk:K.lookup a with
 | none=>exact .inl (.inr ⟨_,by rw[JH ha hk e,Xn]⟩)
 | some o =>
  have e2:=KX a o hk
  rw[e] at e2
  obtain rfl:=Option.some.inj e2
  exact .inr ⟨_,us.toArray,_,hk,rfl,rfl,rfl,by rw[List.size_toArray];exact h1,by simpa using xH h2⟩
theorem adA (KX:K.In h) (ar:∀ a∈A,ArgOb h A a) {a:Addr}{vs:List Value} (ha:a∈A) (e:h.get? a=some { cls:=.type "tuple",data:=.seq vs.toArray }):(∀ u∈vs,OkU A u)/\SqT K (xY K h A) a (vs.map toV):=by
 obtain⟨us,h1,h2,h3⟩:=ar a ha
 have hu:us=vs:=by
  rcases h3 with q | q
  . rw[e] at q
    exact absurd (Value.type.inj (JJ q).1) (by decide)
  . rw[e] at q
    exact (JJ q).2.symm
 subst hu
 refine⟨h2,?_⟩
 cases hk:K.lookup a with
 | none=>exact .inl (.inr ⟨_,by rw[JH ha hk e,Xo]⟩)
 | some o =>
  have e2:=KX a o hk
  rw[e] at e2
  obtain rfl:=Option.some.inj e2
  exact .inr ⟨_,us.toArray,_,hk,rfl,rfl,by rw[List.size_toArray];exact h1,by simpa using xH h2⟩
mutual
theorem acB {Pm:Params} (KX:K.In h) (ar:∀ a∈A,ArgOb h A a):∀ (d:WData) (v:Value),Well Pm h v d->plW d=true->OkU A v->Dw K (xY K h A) (toV v) d
 | .none,_,x,_,_=>by
  cases x
  exact .non
 | .bool b,_,x,_,_=>by
  cases x
  exact .bl b
 | .int i,_,x,_,_=>by
  cases x
  exact .int i
 | .str s,_,x,_,_=>by
  cases x
  exact .str s
 | .bytes b,_,x,_,_=>by
  cases x
  have z:=Dw.byt (K:=K) (H:=xY K h A) b.toArray
  exact z
 | .list ds,_,x,p,hu=>by
  obtain⟨a,vs,rfl,ho,hall⟩:=VD x
  obtain⟨h2,hs⟩:=adz KX ar hu ho
  exact .lst hs (Yd KX ar ds _ hall p h2)
 | .tuple ds,_,x,p,hu=>by
  obtain⟨a,vs,rfl,ho,hall⟩:=Ka x
  obtain⟨h2,hs⟩:=adA KX ar hu ho
  exact .tup hs (Yd KX ar ds _ hall p h2)
 | .float _,_,_,p,_=>Bool.noConfusion (show false=true from p)
 | .dict _,_,_,p,_=>Bool.noConfusion (show false=true from p)
 | .bytearray _,_,_,p,_=>Bool.noConfusion (show false=true from p)
 | .set _,_,_,p,_=>Bool.noConfusion (show false=true from p)
 | .frozenset _,_,_,p,_=>Bool.noConfusion (show false=true from p)
 | .obj _ _,_,_,p,_=>Bool.noConfusion (show false=true from p)
theorem Yd {Pm:Params} (KX:K.In h) (ar:∀ a∈A,ArgOb h A a):∀ (ds:List WData) (vs:List Value),WellAll Pm h vs ds->Jf ds=true->(∀ u∈vs,OkU A u)->wm K (xY K h A) (vs.map toV) ds
 | [],_,x,_,_=>by
  cases x
  exact .nil
 | d::ds,_,x,p,hu=>by
  obtain⟨v,vs,rfl,x1,x2⟩:=VE x
  have q:plW d=true/\Jf ds=true:=Bool.and_eq_true_iff.mp p
  exact .cons (acB KX ar d v x1 q.1 (hu _ (List.mem_cons_self ..))) (Yd KX ar ds vs x2 q.2 fun u m=>hu u (List.mem_cons_of_mem _ m))
end
end
theorem UG {P:Program}{w:World}{K:PySem.W.Frag}{mg mb:Str->Option Value}{CX:CXT}{k:Nat}{fa:Addr}{fd:FuncData}{ps:List Str}{sp:Sp}{s₁:Shared}{vals:List Value}{ds:List WData}{R:PySem.W.WRecords}{cl:Str->Option Addr}{d0:WData}
 (KX:K.In s₁.heap) (hns:s₁.heap.Ns mainGlobals mg) (hb:s₁.heap.Ns builtinsNs mb) (hbb:∀ x:Str,x≠"__name__"->mb x=bootBuiltins x) (hlim:s₁.heap.NoLimit) (hg:s₁.gens=#[])
 (hwl:WellAll w.params s₁.heap vals ds) (hpl:Jf ds=true) (hwt:∀ d∈ds,d.weight<=1048576) (hr:Room k callerA)
 (F:∀ base:Heap,K.In base->base.Ns mainGlobals mg->zU P w K mg base CX k fa fd ps sp) (hbind:∀ (s:Shared) (us:List Value),us.length=ps.length->BindsTo s fd ⟨us,[]⟩ (ps.zip us)) (hlen:ds.length=ps.length)
 (hsp:∀ (H:Hp) (xs:List V),Xm H->wm K H xs ds->sp xs H (fun v H'=>Dw K H' v d0) fun _ _ _=>False)
 (hCX:∀ H e s',CX [] H s₁ (fun _ _ _=>False) e s'->False) :
 codeAny (model P w) callerA (.call (.ref fa) ⟨vals,[]⟩) (fun r s'=>∃ u as,r=.ok (.ret u)/\ReadsW R cl s'.heap u d0 as/\OldK s₁.heap s'.heap/\s'.os=s₁.os/\AllBare s'.gens) s₁:=by
 obtain⟨A,ho,ar⟩:=ZN ds vals hwl hpl hwt
 have hO:Xm (xY K s₁.heap A):=UF ar
 have hok:HOk P w (xY K s₁.heap A) s₁.heap:=abP ar
 have hS:=Yd KX ar ds vals hwl hpl ho
 have hV:=xH ho
 have hK:∀ b u,xY K s₁.heap A b=some u->K.lookup b=none:=fun b u q=>(JI ar q).1
 have noA:∀ {b:Addr}{o:Obj}{es:Array DictEntry}{ep:Nat},s₁.heap.get? b=some o->o.data=.dict es ep->xY K s₁.heap A b=none:=fun {b o es ep} e d=>by
  cases q:xY K s₁.heap A b with
  | none=>rfl
  | some u =>
   obtain⟨_,vs,_,_,⟨e2,_⟩ | ⟨e2,_⟩⟩:=JI ar q
   . rw[e2] at e
     cases e
     have d':Data.seq vs.toArray _=Data.dict es ep:=d
     cases d'
   . rw[e2] at e
     cases e
     have d':Data.seq vs.toArray _=Data.dict es ep:=d
     cases d'
 generalize xY K s₁.heap A=H at hO hok hS hK noA
 have base_of:∀ {b:Addr}{o:Obj},s₁.heap.get? b=some o->H b=none->(VZ s₁.heap H).get? b=some o:=fun e n=>aau e n
 have nsK:∀ {b:Addr}{m:Str->Option Value},s₁.heap.Ns b m->(VZ s₁.heap H).Ns b m:=fun {b m} ⟨o,es,ep,e,d,r⟩=>⟨o,es,ep,base_of e (noA e d),d,r⟩
 have nK:∀ b o,K.lookup b=some o->H b=none:=fun b o e=>by
  cases q:H b with
  | none=>rfl
  | some u =>
   rw[hK b u q] at e
   cases e
 have hKb:K.In (VZ s₁.heap H):=fun b o e=>base_of (KX b o e) (nK b o e)
 have hM:Mod K mg (VZ s₁.heap H):=⟨hKb,nsK hns,⟨mb,nsK hb,hbb⟩,let ⟨mc,h1,h2⟩:=hlim;⟨mc,nsK h1,h2⟩⟩
 have e0:Env0 P w K mg (VZ s₁.heap H) callerA [] s₁ H:=⟨rfl,hM,fun b o e=>aby e,Nat.le_of_eq (Us _ _),trivial,fun b hb=>absurd (show b∈([]:List Addr) from hb) (by simp),hok,.of_eq hg⟩
 have hl:vals.length=ps.length:=by rw[yW hwl];exact hlen
 refine codeAny_mono ((F _ hKb (nsK hns)).run callerA [] s₁ H ⟨vals,[]⟩ vals (vals.map toV) _ _ hr e0 (hbind s₁ vals hl) hV (hsp H _ hO hS)) fun r s' x=>?_
 cases r with
 | error e=>exact (hCX H e s' x).elim
 | ok fl =>
  cases fl with
  | next=>exact False.elim x
  | brk=>exact False.elim x
  | cont=>exact False.elim x
  | ret u =>
   obtain⟨v,H',os,bare,un,hok',r',q⟩:=x
   have kept:∀ b o,s₁.heap.get? b=some o->s'.heap.get? b=some o:=fun b o e=>by
    cases q2:H b with
    | none=>exact un.keep b o e q2 (by intro z;exact absurd (show b∈([]:List Addr) from z) (by simp)) (by simp)
    | some u2 =>
     rcases hO b with z | ⟨ob,u3,z⟩
     . rw[q2] at z
       cases z
     . have z2:=un.frzs b ob _ z
       obtain⟨e1,_⟩:=hok b _ z
       obtain⟨e2,_⟩:=hok' b _ z2
       rw[e] at e1
       cases e1
       exact e2
   have KX':K.In s'.heap:=fun b o e=>kept b o (KX b o e)
   obtain⟨as,hrd⟩:=Dw.reads (R:=R) (cl:=cl) hok' KX' d0 v u q r'
   exact⟨u,as,rfl,hrd,OldK.of_keep kept,os,bare⟩
theorem Kb {ds:List WData} (h:WData.layableAll ds=true):∀ d∈ds,d.weight<=1048576:=fun d hd =>
 (PySem.W.layableW_iff.mp (List.all_eq_true.mp h d hd)).2.2
theorem Kc:∀ (cs:List Codec) (a:Codec.denoteAll cs),(Codec.encAll cs a).length=cs.length
 | [],_=>rfl
 | c::cs,a=>by
  show (Codec.encAll cs a.2).length+1=cs.length+1
  rw[Kc cs a.2]
theorem UH {r:OpenSpec}{k:Nat}{q:Program}{loose:List Str}{XP:(Str->Option Value)->Heap->Prop}{YP:World->Heap->Prop}{d:DefRec}{K:Params->PySem.W.Frag}{CX:World->CXT}{ps:List Str}{sp:World->Sp}
 (hwell:r.wellSaid=true) (hdf:d.params.defaults=[]) (hlen:r.args.length=ps.length) (hr:Room k callerA)
 (hY:∀ (w:World) (h:Heap),YP w h->(K w.params).In h)
 (F:∀ (w:World) (mg:Str->Option Value) (fa:Addr) (h:Heap),YP w h->(K w.params).In h->h.Ns mainGlobals mg->mg d.name=some (.ref fa) ->
  ∃ fd:FuncData,(∀ (s:Shared) (us:List Value),us.length=ps.length->BindsTo s fd ⟨us,[]⟩ (ps.zip us)) /\
   ∀ base:Heap,(K w.params).In base->base.Ns mainGlobals mg->zU r.prog w (K w.params) mg base (CX w) k fa fd ps (sp w))
 (hsp:∀ (w:World) (H:Hp) (xs:List V) (a:Codec.denoteAll r.args),Xm H->Codec.withinAll r.args a=true->Codec.app r.args r.asked a=true->wm (K w.params) H xs (Codec.encAll r.args a) ->
  sp w xs H (fun v H'=>Dw (K w.params) H' v (r.ret.enc (Codec.app r.args r.f a))) fun _ _ _=>False)
 (hCX:∀ (w:World) (H:Hp) (s:Shared) (e:Value) (s':Shared),CX w [] H s (fun _ _ _=>False) e s'->False) :
 PySem.W.WalkOS q loose XP YP r d [] (fun f vs=>PySem.call f vs):=by
 intro w s_0 s₁ mg mb G Y fa o pm cd doc dV kV ho hd hcd hD hmg hg args vals as hpre hlay hrd hwl hlo
 obtain⟨a,e1,e2⟩:=PySem.W.os_pre_some hpre
 obtain⟨e3,hwi⟩:=Codec.encAll_of_decAll r.args args a e1
 subst e3
 have KX:=hY w _ Y
 obtain⟨fd,hb,hF⟩:=F w mg fa _ Y KX G.T.g hmg
 refine PySem.W.enter_call (codeAny_mono (UG (R:=[]) (cl:=classAt s_0.heap) (d0:=r.ret.enc (Codec.app r.args r.f a)) KX G.T.g G.T.b G.T.builtins G.T.nolimit hg hwl (VC _ _) (Kb hlay) hr hF hb (by rw[Kc];exact hlen)
  (fun H xs hO hS=>hsp w H xs a hO hwi e2 hS) fun H e s'=>hCX w H s₁ e s') fun r' s' hq=>?_)
 obtain⟨u,as',rfl,h1,h2,h3,h4⟩:=hq
 exact⟨.inl ⟨u,_,as',rfl,fun _=>rfl,h1,(OpenSpec.post_iff hwell hwi _ _).mpr rfl,fun z=>Bool.noConfusion (show false=true from z)⟩,h2,h3,h4⟩
theorem Wj {r:OpenSpec}{k:Nat}{q:Program}{loose:List Str}{XP:(Str->Option Value)->Heap->Prop}{YP:World->Heap->Prop}{d:DefRec}{K:Params->PySem.W.Frag}{CX:CXT}{ps:List Str}{sp:PySem.W.Frag->Sp}
 (hwell:r.wellSaid=true) (hdf:d.params.defaults=[]) (hlen:r.args.length=ps.length) (hr:Room k callerA)
 (hY:∀ (w:World) (h:Heap),YP w h->(K w.params).In h)
 (F:∀ (w:World) (mg:Str->Option Value) (fa:Addr) (h:Heap),YP w h->(K w.params).In h->h.Ns mainGlobals mg->mg d.name=some (.ref fa) ->
  ∃ fd:FuncData,(∀ (s:Shared) (us:List Value),us.length=ps.length->BindsTo s fd ⟨us,[]⟩ (ps.zip us)) /\
   ∀ base:Heap,(K w.params).In base->base.Ns mainGlobals mg->zU r.prog w (K w.params) mg base CX k fa fd ps (sp (K w.params)))
 (hsp:∀ (K:PySem.W.Frag) (H:Hp) (xs:List V) (a:Codec.denoteAll r.args),Xm H->Codec.withinAll r.args a=true->Codec.app r.args r.asked a=true->wm K H xs (Codec.encAll r.args a) ->
  sp K xs H (fun v H'=>Dw K H' v (r.ret.enc (Codec.app r.args r.f a))) fun _ _ _=>False)
 (hCX:∀ (H:Hp) (s:Shared) (e:Value) (s':Shared),CX [] H s (fun _ _ _=>False) e s'->False) :
 PySem.W.WalkOS q loose XP YP r d [] (fun f vs=>PySem.call f vs) :=
 UH (K:=K) (CX:=fun _=>CX) (sp:=fun w=>sp (K w.params)) hwell hdf hlen hr hY F (fun w H xs a h1 h2 h3 h4=>hsp (K w.params) H xs a h1 h2 h3 h4) fun _ H s e s'=>hCX H s e s'
end L2
end
section
namespace L2
open PySem PySem.Spec PyProof.Rows
section
variable {X:Cx}
theorem pgi {x:Str}{n:Int}{pos:Pos} (hm:∃ t,X.mg x=some (Value.int n t)) (hg:Gl X x:=by rfl) (hd:(x == ("__debug__":Str))=false:=by decide):PE X (.Name x pos) (tC (.int n)):=by
 obtain⟨t,hm⟩:=hm
 exact ZC hg hm ⟨t,rfl⟩ hd
end
structure Def (P:Program) (w:World) (K:PySem.W.Frag) (mg:Str->Option Value) (base:Heap) (x:Str) (k:Nat) (ps:List Str) (sp:Sp) (f:Addr) (fd:FuncData):Prop where
 mgf:mg x=some (.ref f)
 kp:PySem.W.keepIn K (.ref f)=true
 bd:Binds K fd ps []
 ok:zU P w K mg base CX0 k f fd ps sp
structure Cdf (P:Program) (w:World) (K:PySem.W.Frag) (mg:Str->Option Value) (base:Heap) (x:Str) (k:Nat) (ps:List Str) (sp:Sp) (C f:Addr) (fd:FuncData):Prop where
 mgc:mg x=some (.ref C)
 mkc:Mk K C f
 bd:Binds K fd ps []
 ok:zU P w K mg base CX0 k f fd ps sp
section
variable {X:Cx}{k j:Nat}{f C:Addr}{fd:FuncData}{ps:List Str}{sp:Sp}{x:Str}{p pos:Pos}{e:Expr}{es:List Expr}{t:TA}
theorem ze (D:Def X.prog X.w X.K X.mg X.base x k ps sp f fd) (hr:Room k X.A) (ha:PA X (e::es) t) (hg:Gl X x:=by rfl) (hdb:(x == ("__debug__":Str))=false:=by decide)
 (he:starEach (e::es) X.env=(false,eval e X.env)::starEach es X.env:=by rfl) (hpl:(backTo pos (starEach es X.env)).any (·.1)=false:=by rfl) :
 PE X (.Call (.Name x p) (e::es) [] pos) (WU sp [] E0 t):=abE D.ok hr hg D.mgf D.kp D.bd .nil aaT ha hdb he hpl
theorem qj (D:Cdf X.prog X.w X.K X.mg X.base x k ps sp C f fd) (hr:Room (k+1) X.A) (ha:PA X (e::es) t) (hg:Gl X x:=by rfl) (hdb:(x == ("__debug__":Str))=false:=by decide)
 (he:starEach (e::es) X.env=(false,eval e X.env)::starEach es X.env:=by rfl) (hpl:(backTo pos (starEach es X.env)).any (·.1)=false:=by rfl) :
 PE X (.Call (.Name x p) (e::es) [] pos) (wk C sp [] E0 t):=abF D.mkc D.ok hr hg D.mgc D.bd .nil aaT ha hdb he hpl
theorem UI (D:Cdf X.prog X.w X.K X.mg X.base x k ps sp C f fd) (hr:Room (k+1) X.A) (hg:Gl X x:=by rfl) (hdb:(x == ("__debug__":Str))=false:=by decide) :
 PE X (.Call (.Name x p) [] [] pos) (wk C sp [] E0 xF):=aaH D.mkc D.ok hr hg D.mgc D.bd .nil aaT hdb
end
section
variable {X:Cx}
def abQ:V->List V->Hp->VK->Prop:=fun x vs H Q=>∃ l xs i y,x=.ref l/\vs=[.int ((i:Nat):Int),y]/\H l=some (.lst xs)/\i<=xs.length/\xs.length<sizeLine/\Q .non (upd H l (.lst (xs.take i++y::xs.drop i)))
theorem VF:MtM X "list.insert" abQ:=by
 intro pins s σ H x vs v us Q I rx rv h
 obtain⟨l,xs,i,y,rfl,rfl,hH,hi,hz,q⟩:=h
 cases rx
 obtain⟨u1,u,rfl,⟨t1,rfl⟩,ru⟩:=rv.two
 obtain⟨z,its,n,r,hl,e⟩:=I.lstM hH
 have hfit:Builtin.List.listFitsIndex (i:Int)=true:=by
  have:=sizeLine_eq
  unfold Builtin.List.listFitsIndex
  simp
  omega
 have hnf:¬(!Builtin.List.listFitsIndex (i:Int))=true:=by rw[hfit];decide
 have hsz:its.toArray.size<=sizeLine:=by rw[List.size_toArray];omega
 obtain⟨x,hx⟩:∃ x:Int,x=(i:Int):=⟨_,rfl⟩
 rw[<-hx] at hnf ⊢
 have M:=PySem.AutoSeq1.list_insert_list_int_val_1 l its.toArray n x t1 u hnf hsz
 refine call_meets F.slot_list_insert ⟨_,e,rfl⟩ F.entry_list_insert (F.args_list_insert_3 _ _ _) M ⟨e,?_⟩
 subst hx
 refine⟨.non,_,I.lset (its':=its.take i++u::its.drop i) (ys:=xs.take i++y::xs.drop i) hH e ?_ ((r.take i).append (.cons ru (r.drop i))) ?_,rfl,q⟩
 . have hk:(if (i:Int)<0 then ((i:Int)+((its.toArray.size:Nat):Int)).toNat else min (i:Int).toNat its.toArray.size)=i:=by
    rw[if_neg (by omega),List.size_toArray]
    omega
   show (its.toArray.extract 0 _).push u++its.toArray.extract _=_
   simp only[hk]
   apply Array.ext'
   simp[List.take_of_length_le]
 . rw[List.length_append,List.length_cons,List.length_take,List.length_drop]
   omega
end
end L2
end
section
namespace L2
open PySem PySem.Spec PyProof.Rows
section
variable {prog:Program}{w:World}{A:Around}{R:Result->Shared->Prop}{I:Addr}{fp wr:List Addr}{n:Nat}{P:Nat->Value->Prop}{St:Nat->Heap->Prop}
theorem abR (kw:List (Str × Value)) (W:Walks prog w A.in1 I fp wr n P St) (bt:Nat->Nat->Bool) (hcmp:CmpOf prog w A.in1 .Gt P bt) (B:Addr) (hBf:B ∉ fp) :
 ∀ (k j:Nat) (z:Shared) (vb:Value) (c:Nat),n - (j+1)=k->j+1<=n->St (j+1) z.heap->P (argBest bt j) vb ->
  z.heap.get? B=some { cls:=.type "list",dict:=none,data:=.seq #[vb,vb] c,slots:=#[] } ->
  (∀ v h' tk,P (argBest bt (n - 1)) v->(∀ b o,b ∉ wr->b≠B->z.heap.get? b=some o->h'.get? b=some o)->R (.ok (.ret v)) { z with heap:=h',toks:=tk }) ->
  codeAny (model prog w) A (.builtin "max.loop" ⟨[.ref I,.none,.ref B],kw⟩) R z:=by
 have hBw:B ∉ wr:=fun h=>hBf (W.sub _ h)
 have nm:(toString "max"++toString ".loop":String)="max.loop":=by decide
 intro k
 induction k with
 | zero =>
  intro j z vb c hk hj hst hPb hB hR
  have jn:j+1=n:=by omega
  refine codeAny_builtin PySem.F.entry_max_loop ?_
  rw[Around.under_plainId PySem.F.plain_max_loop _]
  show wpAny _ A.in1 (seqItems? (.ref B) >>= _) _ _ z
  refine wpAny_bind (wpAny_seqItems hB rfl ?_)
  show wpAny _ A.in1 (tryCatch (pyNext (.ref I)) _ >>= _) _ _ z
  refine wpAny_bind (wpAny_tryCatch (W.done z _ _ (jn▸hst) fun h' tk kp=>?_))
  have hB':=kp B _ hBw hB
  show wpAny _ A.in1 (updateSeq B (fun _=>#[]) >>= _) _ _ _
  refine wpAny_bind ?_
  refine wpAny_updateSeq hB' rfl (wpAny_bind (wpAny_letGo (wpAny_pure ?_)))
  exact hR vb _ tk (by rw[<-jn];exact hPb) fun b o nb nB e=>(Heap.get?_update_other _ _ (Ne.symm nB)).trans (kp b o nb e)
 | succ k ih =>
  intro j z vb c hk hj hst hPb hB hR
  have jn:j+1<n:=by omega
  refine codeAny_builtin PySem.F.entry_max_loop ?_
  rw[Around.under_plainId PySem.F.plain_max_loop _]
  show wpAny _ A.in1 (seqItems? (.ref B) >>= _) _ _ z
  refine wpAny_bind (wpAny_seqItems hB rfl ?_)
  show wpAny _ A.in1 (tryCatch (pyNext (.ref I)) _ >>= _) _ _ z
  refine wpAny_bind (wpAny_tryCatch (W.item (j+1) z _ _ jn hst fun v h' tk hP st' kp=>?_))
  have hB':=kp B _ hBw hB
  show wpAny _ A.in1 (tryCatch (holding [v,v] (richCompare .Gt v vb >>= _)) _ >>= _) _ _ _
  refine wpAny_bind (wpAny_tryCatch (wpAny_holding (wpAny_bind (hcmp (j+1) (argBest bt j) v vb _ _ _ hP hPb ?_))))
  refine wpAny_bind (wpAny_holding (wpAny_truthy_bool ?_))
  refine wpAny_bind (wpAny_letGo (wpAny_pure ?_))
  cases yb:bt (j+1) (argBest bt j) with
  | true =>
   simp only[if_true]
   refine wpAny_bind ?_
   refine wpAny_updateSeq hB' rfl (wpAny_bind (wpAny_letGo ?_))
   rw[nm]
   refine wpAny_pure ⟨plainId_quiet PySem.F.plain_max_loop _,ih (j+1) _ v _ (by omega) jn (W.frame _ _ _ st' fun b nb o e=>?_) (by simp only[argBest,yb,if_true];exact hP) (Heap.get?_update_self _ hB' rfl) fun v' h2 t2 hP' kp2=>?_⟩
   . exact (Heap.get?_update_other _ _ (fun h:B=b=>hBf (by rw[h];exact nb))).trans e
   . exact hR v' h2 t2 hP' fun b o nb nB e=>kp2 b o nb nB ((Heap.get?_update_other _ _ (Ne.symm nB)).trans (kp b o nb e))
  | false =>
   simp only[Bool.false_eq_true,if_false]
   refine wpAny_bind (wpAny_letGo ?_)
   rw[nm]
   refine wpAny_pure ⟨plainId_quiet PySem.F.plain_max_loop _,ih (j+1) _ vb c (by omega) jn st' (by simp only[argBest,yb,Bool.false_eq_true,if_false];exact hPb) hB' fun v' h2 t2 hP' kp2=>?_⟩
   exact hR v' h2 t2 hP' fun b o nb nB e=>kp2 b o nb nB (kp b o nb e)
theorem Wk (d:Value) (W:Walks prog w A.in1 I fp wr n P St) (bt:Nat->Nat->Bool) (hcmp:CmpOf prog w A.in1 .Gt P bt) (B:Addr) (hBf:B ∉ fp) {z:Shared}{c:Nat} (hst:St 0 z.heap)
 (hB:z.heap.get? B=some { cls:=.type "list",dict:=none,data:=.seq #[] c,slots:=#[] })
 (h0:n=0->∀ h' tk,(∀ b o,b ∉ wr->b≠B->z.heap.get? b=some o->h'.get? b=some o)->R (.ok (.ret d)) { z with heap:=h',toks:=tk })
 (hR:0<n->∀ v h' tk,P (argBest bt (n - 1)) v->(∀ b o,b ∉ wr->b≠B->z.heap.get? b=some o->h'.get? b=some o)->R (.ok (.ret v)) { z with heap:=h',toks:=tk }) :
 codeAny (model prog w) A (.builtin "max.loop" ⟨[.ref I,.none,.ref B],[(Str.ofString "default",d)]⟩) R z:=by
 have hBw:B ∉ wr:=fun h=>hBf (W.sub _ h)
 have nm:(toString "max"++toString ".loop":String)="max.loop":=by decide
 refine codeAny_builtin PySem.F.entry_max_loop ?_
 rw[Around.under_plainId PySem.F.plain_max_loop _]
 show wpAny _ A.in1 (seqItems? (.ref B) >>= _) _ _ z
 refine wpAny_bind (wpAny_seqItems hB rfl ?_)
 show wpAny _ A.in1 (tryCatch (pyNext (.ref I)) _ >>= _) _ _ z
 by_cases hn:0<n
 . refine wpAny_bind (wpAny_tryCatch (W.item 0 z _ _ hn hst fun v h' tk hP st' kp=>?_))
   have hB':=kp B _ hBw hB
   show wpAny _ A.in1 (updateSeq B (fun _=>#[v,v]) >>= _) _ _ _
   refine wpAny_bind ?_
   refine wpAny_updateSeq hB' rfl ?_
   rw[nm]
   refine wpAny_pure ⟨plainId_quiet PySem.F.plain_max_loop _,abR _ W bt hcmp B hBf _ 0 _ v _ rfl hn (W.frame _ _ _ st' fun b nb o e=>?_) hP (Heap.get?_update_self _ hB' rfl) fun v' h2 t2 hP' kp2=>?_⟩
   . exact (Heap.get?_update_other _ _ (fun h:B=b=>hBf (by rw[h];exact nb))).trans e
   . exact hR hn v' h2 t2 hP' fun b o nb nB e=>kp2 b o nb nB ((Heap.get?_update_other _ _ (Ne.symm nB)).trans (kp b o nb e))
 . have n0:n=0:=by omega
   refine wpAny_bind (wpAny_tryCatch (W.done z _ _ (n0.symm▸hst) fun h' tk kp=>?_))
   refine wpAny_bind (wpAny_rule (wpAny_pure ?_))
   exact h0 n0 h' tk fun b o nb _ e=>kp b o nb e
end
theorem UJ (a v:Value):argsOk "max" ⟨[a],[(Str.ofString "default",v)]⟩:=by unfold argsOk;kernel_rfl
section
variable {prog:Program}{w:World}{A:Around}{E:Value->Shared->Prop}{s:Shared}{l:Addr}{its:List Value}{ns:List Int}{Q:Value->Shared->Prop}
theorem aaY {d:Value} (hh:A.handled=none) (hl:s.heap.IsList l its.toArray) (hi:IntsAre its ns)
 (h0:ns=[]->∀ h' tk,(∀ b o,s.heap.get? b=some o->h'.get? b=some o)->Q d { s with heap:=h',toks:=tk })
 (h:∀ h' tk M t',(∀ b o,s.heap.get? b=some o->h'.get? b=some o)->M∈ns->(∀ a,a∈ns->a<=M)->Q (.int M t') { s with heap:=h',toks:=tk }) :
 wpAny (model prog w) A (call (.builtin "max") [.ref l] [(Str.ofString "default",d)]) Q E s:=by
 have nm:(toString "max"++toString ".loop":String)="max.loop":=by decide
 obtain⟨xs,e⟩:=hi.allInts.items
 have hn:numsOf (intItems xs).toList=ns:=by rw[<-e];exact hi.numsOf
 rw[nums_intItems] at hn
 subst hn
 rw[e] at hl
 have hlt:l<s.heap.objs.size:=by obtain⟨_,q,_⟩:=hl;exact Heap.lt_size q
 refine PyProof.Rows.kmk_tree PySem.F.kind_max PySem.F.plain_max PySem.F.entry_max (UJ _ _) ?_
 show wpAny _ A.in1 (Builtin.Builtins.bindParams "max" ["key","default"] 0 ⟨[],[(Str.ofString "default",d)]⟩ >>= _) _ _ s
 refine wpAny_bind (wpAny_of_eq (show Builtin.Builtins.bindParams "max" ["key","default"] 0 ⟨[],[(Str.ofString "default",d)]⟩=pure [none,some d] from rfl) ?_)
 refine wpAny_bind (wpAny_pure ?_)
 refine wpAny_bind (K3 hl fun s₂ e2 st hne=>?_)
 subst e2
 refine wpAny_bind (wpAny_newList ?_ (Nat.zero_le _))
 rw[nm]
 have hz:(s.heap.push { cls:=.type "list_iterator",data:=.fields #[.ref l,.int 0 0] }).objs.size=s.heap.objs.size+1:=Heap.size_push ..
 have kept:∀ {h':Heap},(∀ b o,b ∉ [s.heap.objs.size]->b≠(s.heap.push { cls:=.type "list_iterator",data:=.fields #[.ref l,.int 0 0] }).objs.size ->
  ((s.heap.push { cls:=.type "list_iterator",data:=.fields #[.ref l,.int 0 0] }).push { cls:=.type "list",data:=.seq #[] }).get? b=some o->h'.get? b=some o) ->
  ∀ b o,s.heap.get? b=some o->h'.get? b=some o:=fun kp b o eo=>kp b o (fun m=>Nat.ne_of_lt (Heap.lt_size eo) (List.mem_singleton.mp m)) (by
   rw[hz]
   exact Nat.ne_of_lt (Nat.lt_succ_of_lt (Heap.lt_size eo))) (Heap.get?_push_of_some _ (Heap.get?_push_of_some _ eo))
 refine wpAny_pure ⟨plainId_quiet PySem.F.plain_max_loop _,Wk d (Walks.list (A:=A.in1) hh _ l hne (intItems xs)) _ (CmpOf.ints_gt (numAt xs) (fun _ _=>intItems_at)) _ ?_ ⟨st.1.at fun o q=>Heap.get?_push_of_some _ q,st.2.push _⟩ (Heap.get?_push_size _ rfl) (fun n0 h' tk kp=>?_) fun n1 v h' tk hP kp=>?_⟩
 . rw[hz]
   intro m
   rcases List.mem_cons.mp m with m | m
   . exact absurd m (Nat.succ_ne_self _)
   . have m:=List.mem_singleton.mp m
     rw[<-m] at hlt
     exact absurd hlt (Nat.not_lt.mpr (Nat.le_succ _))
 . exact h0 (by
    have:xs.size=0:=by simpa [intItems] using n0
    rw[Array.size_eq_zero_iff.mp this]
    rfl) h' tk (kept kp)
 . have hP':(intItems xs)[argBest (fun i j=>decide (numAt xs i > numAt xs j)) (xs.size - 1)]?=some v:=by simpa [intItems] using hP
   have hsz:0<xs.size:=by simpa [intItems] using n1
   obtain⟨t,rfl⟩:=intItems_at hP'
   obtain⟨h1,h2⟩:=argBest_gt (numAt xs) (xs.size - 1)
   refine h h' tk _ t (kept kp) ?_ fun a ha=>?_
   . rw[numAt_eq]
     exact PySem.getD_mem (by rw[List.length_map,Array.length_toList];omega)
   . obtain⟨j,hj,rfl⟩:=mem_getD ha
     rw[List.length_map,Array.length_toList] at hj
     rw[<-numAt_eq]
     exact h2 j (by omega)
end
section
variable {X:Cx}{e d:Expr}{te td:TE}{p pos kp:Pos}
def adc (K:PySem.W.Frag) (te td:TE):TE:=fun σ H Q=>te σ H fun x H1=>td σ H1 fun y H2=>∃ (a:Addr) (ns:List Int),x=.ref a/\SqL K H2 a (ns.map V.int)/\(ns=[]->Q y H2)/\∀ m,m∈ns->(∀ z,z∈ns->z<=m)->Q (.int m) H2
theorem abS (hm:X.mg "max"=none) (he:PE X e te) (hd:PE X d td) (hc:X.calm=true:=by rfl) (hg:Gl X "max":=by rfl) (hs:starEach [e] X.env=[(false,eval e X.env)]:=by rfl) :
 PE X (.Call (.Name "max" p) [e] [⟨some (Str.ofString "default"),d,kp⟩] pos) (adc X.K te td):=by
 intro pins s σ H Q I h
 refine wpAny_Call_Name_kw (wN I hg hm boot_max ?_)
 have hb:backTo pos (starEach [e] X.env)=(false,eval e X.env)::backTo pos (starEach [] X.env):=by rw[hs];rfl
 refine PyProof.Rows.callWith_kw (env:=X.env) ?_ hb (by rw[hb];rfl)
 rw[hb]
 refine Calls.spliced_cons (thn (he pins s σ H _ I h) fun u s1 ⟨x,H1,I1,r1,q1⟩=>?_)
 refine Calls.spliced_nil ?_
 refine kws_cons (thn (hd pins s1 σ H1 _ I1 q1) fun ud s2 ⟨y,H2,I2,r2,a,ns,ex,hq,q0,q2⟩=>kws_nil ?_)
 subst ex
 cases r1
 obtain⟨its,rv,hl,_⟩:=I2.list hq
 exact aaY (I2.ok.hd hc) hl.isList rv.ints (fun n0 h' tk hk=>⟨y,H2,I2.kept hk,r2,q0 n0⟩) fun h' tk m t' hk h1 h2=>⟨.int _,H2,I2.kept hk,⟨_,rfl⟩,q2 m h1 h2⟩
end
end L2
end
section
namespace L2
open PySem PySem.Spec PyProof.Rows
theorem Wl (a v:Value):checkTypeCall "enumerate" ⟨[a],[(Str.ofString "start",v)]⟩=pure ():=by kernel_rfl
theorem UK (a v:Value):checkBuiltinCall "enumerate.__new__" ⟨[.type "enumerate",a],[(Str.ofString "start",v)]⟩=pure ():=by kernel_rfl
theorem Wm (a b v:Value):argsOk "object.__init__" ⟨[a,b],[(Str.ofString "start",v)]⟩:=by unfold argsOk;kernel_rfl
theorem Xp (l:Addr) (items:Array Value) (n:Nat) (dct:Option Addr) (sl:Array (Option Value)) (i:Int) (t:Tok) (hi:Builtin.SmallTypes.fitsIndex i=true) :
 Meets (Builtin.«enumerate.__new__» ⟨[.type "enumerate",.ref l],[(Str.ofString "start",.int i t)]⟩) (fun _ R s=>s.heap.get? l=some { cls:=.type "list",dict:=dct,data:=.seq items n,slots:=sl } /\
  R (.ok (.ret (.ref (s.heap.push { cls:=.type "list_iterator",data:=.fields #[.ref l,.int 0 0] }).objs.size)))
   { s with heap:=(s.heap.push { cls:=.type "list_iterator",data:=.fields #[.ref l,.int 0 0] }).push { cls:=.type "enumerate",data:=.fields #[.none,.bool false,.ref s.heap.objs.size,rawInt i,.none,.none] } }) :=
 .of_wp fun prog w A R s h=>by
  obtain⟨hp,g,d,tk,os⟩:=s
  obtain⟨hl,h⟩:=h
  have hsub:=sub_enumerate
  have hL:Heap.IsList (Shared.heap ⟨hp,g,d,tk,os⟩) l items:=⟨_,hl,rfl,n,rfl⟩
  wp_walk using AutoSeq1.wpAny_loadPart' hl
  refine wpAny_stack_any fun st=>wpAny_pure ?_
  split
  . rename_i c _ _ _ _ _
    cases (c == Value.type "enumerate")
    . wp_walk using AutoSeq1.wpAny_loadPart' hl,wpAny_pyIter_list hL
      exact⟨_,rfl,h⟩
    . wp_walk using AutoSeq1.wpAny_loadPart' hl,wpAny_pyIter_list hL
      exact⟨_,rfl,h⟩
  . wp_walk using AutoSeq1.wpAny_loadPart' hl,wpAny_pyIter_list hL
    exact⟨_,rfl,h⟩
section
variable {prog:Program}{w:World}{A:Around}{E:Value->Shared->Prop}{s:Shared}
theorem Wn {T newId:String}{Bn:Builtin}{args:List Value}{kw:List (Str × Value)}{S:PySem.Spec}{Q:Value->Shared->Prop} (ft:TypeCalled T newId "object.__init__")
 (hct:checkTypeCall T ⟨args,kw⟩=pure ()) (hcn:checkBuiltinCall newId ⟨.type T::args,kw⟩=pure ())
 (hok:∀ obj,argsOk "object.__init__" ⟨obj::args,kw⟩) (entryN:entryFor table newId=some Bn) (g:Meets (Bn ⟨.type T::args,kw⟩) S)
 (gi:∀ obj,Meets (Builtin.«object.__init__» ⟨obj::args,kw⟩) (fun _ R s=>s.TypeIs obj T/\R (.ok (.ret .none)) s))
 (h:S A.in1 (wants (fun obj s₁=>s₁.TypeIs obj T/\Q obj s₁) E) s):wpAny (model prog w) A (call (.type T) args kw) Q E s:=by
 obtain⟨c,tl,hmro⟩:=ft.mro
 have hmade:=ft.made
 have hsub:=ft.sub
 refine wpAny_call (codeAny_of_tree ?_)
 show wpAny _ _ (callAny (.type T) _) _ _ _
 refine wpAny_pure ⟨Code.quiet_builtin _ (by decide +kernel),codeAny_builtin F.entry_type_call ?_⟩
 rw[Around.under_plain (weight_type_call_type T args kw) (units_type_call_type T args kw)]
 have h1:=ft.notType
 have h2:=ft.canCreate
 repeat (any_goals (first | assumption | wp_step))
 refine codeAny_mono (codeAny_call_builtin ft.plain entryN (wpAny_of_eq hcn (g prog w A.in1 _ s h))) fun r s₁ hr=>?_
 cases r with
 | error e=>exact hr
 | ok fl =>
  cases fl with
  | ret obj =>
   obtain⟨hT,hq⟩:=hr
   have hli:=ft.init.lookup
   have hbi:=ft.init.bind obj
   repeat (any_goals (first | assumption | wp_step))
   refine codeAny_mono (codeAny_call_builtin ft.init.plain F.entry_object_init (ft.init.check _ _ _ _ _ _ _ _ hT (hok obj) (gi obj prog w A.in1 (wants (fun r s₂=>r=.none/\Q obj s₂) E) s₁ ⟨hT,rfl,hq⟩))) fun r₂ s₂ hr₂=>?_
   cases r₂ with
   | error e=>exact hr₂
   | ok fl₂ =>
    cases fl₂ with
    | ret r =>
     obtain⟨rfl,hq2⟩:=hr₂
     repeat (any_goals (first | assumption | wp_step))
    | _=>exact hr₂.elim
  | _=>exact hr.elim
theorem Ye (self a v:Value):Meets (Builtin.«object.__init__» ⟨[self,a],[(Str.ofString "start",v)]⟩) (fun _ R s=>s.TypeIs self "enumerate"/\R (.ok (.ret .none)) s):=by
 have hl:=F.called_enumerate.init.lookup
 have hm:=F.called_enumerate.made
 refine Meets.of_wp fun prog w A R s hs=>?_
 obtain⟨hT,hq⟩:=hs
 have hne:(some "enumerate.__new__" != some "object.__new__")=true:=by decide
 repeat (any_goals (first | assumption | wp_step))
 exact⟨_,rfl,hq⟩
theorem Wo {l:Addr}{items:Array Value}{i:Int}{t:Tok}{Q:Value->Shared->Prop} (hi:Builtin.SmallTypes.fitsIndex i=true) (hL:s.heap.IsList l items)
 (h:∀ h',IsEnum h' (s.heap.objs.size+1) s.heap.objs.size i .none->h'.IsListIter s.heap.objs.size l 0->(∀ b o,s.heap.get? b=some o->h'.get? b=some o)->Q (.ref (s.heap.objs.size+1)) { s with heap:=h' }) :
 wpAny (model prog w) A (call (.type "enumerate") [.ref l] [(Str.ofString "start",.int i t)]) Q E s:=by
 obtain⟨⟨c,dct,dt,sl⟩,hl,hc,n,hd⟩:=hL
 replace hc:c=.type "list":=hc
 replace hd:dt=.seq items n:=hd
 subst hc hd
 refine Wn F.called_enumerate (Wl _ _) (UK _ _) (fun obj=>Wm obj _ _) F.entry_enumerate_new (Xp l items n dct sl i t hi) (fun obj=>Ye obj _ _) ⟨hl,?_⟩
 have hz:(s.heap.push { cls:=.type "list_iterator",data:=.fields #[.ref l,.int 0 0] }).objs.size=s.heap.objs.size+1:=Heap.size_push ..
 show _/\_
 rw[hz]
 have he:IsEnum ((s.heap.push { cls:=.type "list_iterator",data:=.fields #[.ref l,.int 0 0] }).push
  { cls:=.type "enumerate",data:=.fields #[.none,.bool false,.ref s.heap.objs.size,rawInt i,.none,.none] }) (s.heap.objs.size+1) s.heap.objs.size i .none:=by
  have:=Heap.get?_push_size (s.heap.push { cls:=.type "list_iterator",data:=.fields #[.ref l,.int 0 0] })
   (o:={ cls:=.type "enumerate",data:=.fields #[.none,.bool false,.ref s.heap.objs.size,rawInt i,.none,.none] }) rfl
  rw[hz] at this
  exact this
 exact⟨⟨_,he,rfl⟩,h _ he ⟨_,Heap.get?_push_of_some _ (Heap.get?_push_size _ rfl),rfl,rfl⟩ fun b o x=>Heap.get?_push_of_some _ (Heap.get?_push_of_some _ x)⟩
theorem acC {it:Addr}{fp:List Addr}{n:Nat}{P:Nat->Value->Prop}{St:Nat->Heap->Prop} (k:Nat) (D:Draws prog w A it fp n P St):Draws prog w A it fp (n+k) (fun i x=>∃ j,i=j+k/\P j x) (fun i h=>∃ j,i=j+k/\St j h) where
 live:=fun i h ⟨j,_,st⟩=>D.live j h st
 frame:=fun i h h' ⟨j,e,st⟩ kp=>⟨j,e,D.frame j h h' st kp⟩
 item:=fun i s Q E hi ⟨j,e,st⟩ hQ=>D.item j s Q E (by omega) st fun x h' tk hP st' sb=>hQ x h' tk ⟨j,e,hP⟩ ⟨j+1,by omega,st'⟩ sb
 done:=fun s Q E ⟨j,e,st⟩ hE=>by
  obtain rfl:j=n:=by omega
  exact D.done s Q E st hE
end
theorem adB {prog:Program}{w:World}{A:Around}{items:Array Value}{i:Nat} (hh:A.handled=none) (it l:Addr) (hx:items[i]?=none):Draws prog w A it [it,l] i (fun _ _=>True) (fun j h=>j=i/\h.IsListIter it l i/\h.IsList l items) where
 live:=fun _ _ st=>let ⟨o,ho,_⟩:=st.2.1;⟨o,ho⟩
 frame:=fun _ _ _ st hk=>⟨st.1,st.2.1.at fun o e=>hk it (by simp) o e,st.2.2.at fun o e=>hk l (by simp) o e⟩
 item:=fun j s Q E hj st _=>by have:=st.1;omega
 done:=fun s Q E st hE=>wpAny_nextOf_list_end hh st.2.1 st.2.2 hx hE
def aaZ (K:PySem.W.Frag) (a:Addr) (k:Nat):It :=
 ⟨fun i H=>∃ (xs:List V) (x:V),SqL K H a xs/\xs[i]?=some x,fun i H v H'=>∃ T x,v=.ref T/\H T=none/\H'=upd H T (.tup [.int ((i+k:Nat):Int),x])/\∀ xs,SqL K H a xs->xs[i]?=some x,fun i H=>∃ xs:List V,SqL K H a xs/\xs.length<=i⟩
theorem Wp {P:Program}{w:World}{K:PySem.W.Frag}{elts:List Expr}{kk:Nat}{tpos:Pos} (k:Nat) (a e it:Addr) :
 Wa P w K (.Tuple elts kk tpos) (aaZ K a k) [e,it] e (fun i h=>(∃ old,IsEnum h e it ((i+k:Nat):Int) old)/\h.IsListIter it a i/\e≠it/\e≠a/\it≠a) where
 mem:=by simp
 obj:=fun i h st b hb=>by
  obtain⟨⟨old,he⟩,⟨o,ho,hc,hd⟩,_⟩:=st
  have e':b=e∨b=it:=by simpa using hb
  rcases e' with z | z
  . rw[z];exact⟨_,he,fun v q=>nomatch q⟩
  . rw[z];exact⟨o,ho,fun v q=>by rw[hd] at q;cases q⟩
 keep:=fun i h h' st k=>let ⟨⟨old,he⟩,hi,hne⟩:=st;⟨⟨old,k e (by simp) _ he⟩,hi.at fun o q=>k it (by simp) o q,hne⟩
 item:=by
  intro X hP hw hK hc i pins s σ H E I hf st hg
  subst hP hw hK
  obtain⟨⟨old,he⟩,hit,hne,hea,hia⟩:=st
  obtain⟨xs,x,hq,hx⟩:=hg
  obtain⟨its,rv,p,hz⟩:=I.list hq
  obtain⟨u,hu,ru⟩:=rv.get hx
  have hel:e<s.heap.objs.size:=Heap.lt_size he
  have hil:it<s.heap.objs.size:=by obtain⟨_,q,_⟩:=hit;exact Heap.lt_size q
  have hlt:i<its.toArray.size:=by
   rw[List.size_toArray]
   exact (List.getElem?_eq_some_iff.mp hu).1
  refine wpAny_pyNext_enum_itemD (acC k (Draws.list (prog:=X.prog) (w:=X.w) (A:=X.A.in1) (I.ok.hd hc) it a (Ne.symm hia) its.toArray)) he ⟨i,rfl,hit,p.isList⟩ (by omega) hne (by simp[hne,hea]) fun x2 h' tk hP ho hst' hT hsz hk=>?_
  obtain⟨j,ej,hP⟩:=hP
  obtain rfl:j=i:=by omega
  have ex:x2=u:=by
   have hP':its.toArray[j]?=some x2:=hP
   rw[List.getElem?_toArray,hu] at hP'
   exact (Option.some.inj hP').symm
  subst ex
  obtain⟨j',ej',hit',_⟩:=hst'
  obtain rfl:j'=j+1:=by omega
  refine⟨_,rfl,wpAny_letOwnedTupleGo_enum (s:={ s with heap:=h',toks:=tk+1 }) ho fun h'' he' sb=>?_⟩
  have hT2:h''.get? s.heap.objs.size=some { cls:=.type "tuple",data:=.seq #[.int ((j+k:Nat):Int) tk,x2] }:=(sb.2 _ (Nat.ne_of_gt hel)).trans hT
  have new:ObjOk X.prog X.w (upd H s.heap.objs.size (.tup [.int ((j+k:Nat):Int),x])) h'' s.heap.objs.size (.tup [.int ((j+k:Nat):Int),x]) :=
   ⟨by show 2<=sizeLine;decide,[.int ((j+k:Nat):Int) tk,x2],.cons ⟨_,rfl⟩ (.cons ru .nil),⟨_,hT2,rfl,_,rfl⟩⟩
  have I1:Inv X pins σ (upd H s.heap.objs.size (.tup [.int ((j+k:Nat):Int),x])) { s with heap:=h'',toks:=tk+1 } :=
   I.turnedNew (ch:=[e,it]) (fun b ob hb q=>(sb.2 b (fun z=>hb (by simp[z]))).trans (hk b ob (fun z=>hb (by simp[z])) (fun z=>hb (by simp[z])) q)) hf (Nat.le_refl _) new
  refine⟨.ref s.heap.objs.size,_,I1,rfl,⟨_,x,rfl,I.hok.fresh (Nat.le_refl _),rfl,fun ys hy=>by rw[I.list_inj hy hq];exact hx⟩,⟨⟨x2,?_⟩,hit'.at fun o q=>(sb.2 it (Ne.symm hne)).trans q,hne,hea,hia⟩,fun b hb=>?_⟩
  . have e1:((j+1+k:Nat):Int)=((j+k:Nat):Int)+1:=by omega
    rw[e1];exact he'
  . have hb':b<s.heap.objs.size:=by
     have e':b=e∨b=it:=by simpa using hb
     rcases e' with z | z
     . rw[z];exact hel
     . rw[z];exact hil
    rw[z8 (Nat.ne_of_lt hb')]
    exact (hf b hb).1
 done:=by
  intro X hP hw hK hc i pins s σ H E I hf st hg
  subst hP hw hK
  obtain⟨⟨old,he⟩,hit,hne,hea,hia⟩:=st
  obtain⟨xs,hq,hx⟩:=hg
  obtain⟨its,rv,p,hz⟩:=I.list hq
  obtain⟨f0,f1,f2,f3,f4,f5⟩:=hf it (by simp)
  have hl:=rv.length
  exact wpAny_pyNext_enum_endD (adB (prog:=X.prog) (w:=X.w) (A:=X.A.in1) (i:=i) (I.ok.hd hc) it a (items:=its.toArray) (by simp;omega)) he ⟨rfl,hit,p.isList⟩ fun h' eb=>⟨rfl,I.turned (t':=s.toks) (fun b o hb q=>eb b o hb q) f0 f1 f3 f4 f5⟩
 self:=fun A i s Q E st h=>let ⟨⟨_,he⟩,_⟩:=st;wpAny_pyIter_enum he h
end L2
end
section
namespace L2
open PySem PySem.Spec PyProof.Rows
def acD (K:PySem.W.Frag) (te td:TE):TI:=fun σ H R=>te σ H fun x H1=>td σ H1 fun y H2=>∃ (a:Addr) (xs:List V) (k:Nat),x=.ref a/\y=.int (k:Int)/\k<1000/\SqL K H2 a xs/\R (aaZ K a k) H2
section
variable {M:Model}{A:Around}{E:Value->Shared->Prop}{s:Shared}{env:Env}
theorem Wq {pos:Pos}{T:String}{e:Expr}{kws:List Keyword}{Q:Value->Shared->Prop} (he:starEach [e] env=[(false,eval e env)])
 (h:wpAny M A (eval e env) (fun v s₁=>wpAny M A (evalAll ((backToKw pos (keywordEach kws env)).map (·.2)))
  (fun kvs s₂=>wpAny M A (call (.type T) [v] (((backToKw pos (keywordEach kws env)).filterMap (·.1)).zip kvs)) Q E s₂) E s₁) E s)
 (hall:(backToKw pos (keywordEach kws env)).all (·.1.isSome)=true:=by rfl) (hkw:(backToKw pos (keywordEach kws env)).any (·.1.isNone)=false:=by rfl) :
 wpAny M A (callWith pos (.type T) [] (backTo pos (starEach [e] env)) (backToKw pos (keywordEach kws env))) Q E s:=by
 have hb:backTo pos (starEach [e] env)=[(false,eval e env)]:=by rw[he];rfl
 rw[hb]
 have hplain:([(false,eval e env)]:List (Bool × Sem Value)).any (·.1)=false:=rfl
 have h2:wpAny M A (evalArgs (.type T) true [(false,eval e env)] (backToKw pos (keywordEach kws env))) (fun a s₁=>wpAny M A (call (.type T) ([]++a.pos) a.kw) Q E s₁) E s:=by
  refine evalArgs_kwB hall (Calls.spliced_cons ?_)
  exact wpAny_mono h (fun v s1 h1=>Calls.spliced_nil h1) fun _ _ z=>z
 unfold callWith
 refine wpAny_bind (wpAny_holding (wpAny_mono h2 (fun a z h1=>wpAny_bind (wpAny_standAt ?_)) fun _ _ z=>z))
 simp only[hplain,hkw,Bool.or_false]
 refine wpAny_bind (wpAny_pure ?_)
 exact wpAny_bind (wpAny_mono h1 (fun r z hr=>wpAny_bind (wpAny_holding (wpAny_point (wpAny_pure hr)))) fun _ _ z=>z)
end
theorem aa0 {k:Nat} (h:k<1000):Builtin.SmallTypes.fitsIndex (k:Int)=true:=by
 unfold Builtin.SmallTypes.fitsIndex
 simp
 omega
theorem aa1 {X:Cx}{e d:Expr}{te td:TE}{p pos tpos kp:Pos}{elts:List Expr}{kk:Nat} (hm:X.mg "enumerate"=none) (he:PE X e te) (hd:PE X d td) (hg:Gl X "enumerate":=by rfl) (hs:starEach [e] X.env=[(false,eval e X.env)]:=by rfl) :
 PI X (.Tuple elts kk tpos) (.Call (.Name "enumerate" p) [e] [⟨some (Str.ofString "start"),d,kp⟩] pos) (acD X.K te td):=by
 intro pins s σ H R I h
 refine wpAny_Call_Name_kw (wN I hg hm boot_enumerate ?_)
 refine Wq hs (thn (he pins s σ H _ I h) fun u s1 ⟨x,H1,I1,r1,q1⟩=>?_)
 refine kws_cons (thn (hd pins s1 σ H1 _ I1 q1) fun ud s2 ⟨y,H2,I2,r2,a,xs,k,ex,ey,hk,hq,q⟩=>kws_nil ?_)
 subst ex ey
 cases r1
 obtain⟨t,rfl⟩:=r2
 obtain⟨its,rv,p',hz⟩:=I2.list hq
 have hal:a<s2.heap.objs.size:=by obtain⟨_,z,_⟩:=p'.isList;exact Heap.lt_size z
 refine Wo (aa0 hk) p'.isList fun h' hen hit kpt=>wpAny_pyIter_enum hen ?_
 have I3:Inv X pins σ H2 { s2 with heap:=h' }:=I2.kept (t':=s2.toks) kpt
 refine⟨s2.heap.objs.size+1,[s2.heap.objs.size+1,s2.heap.objs.size],_,_,H2,rfl,I3,Wp k a (s2.heap.objs.size+1) s2.heap.objs.size,⟨⟨.none,by rw[Nat.zero_add];exact hen⟩,hit,Nat.succ_ne_self _,Nat.ne_of_gt (Nat.lt_succ_of_lt hal),Nat.ne_of_gt hal⟩,fun b hb=>?_,q⟩
 have e':b=s2.heap.objs.size+1∨b=s2.heap.objs.size:=by simpa using hb
 have hle:s2.heap.objs.size<=b:=by
  rcases e' with z | z
  . rw[z];exact Nat.le_add_right _ _
  . rw[z];exact Nat.le_refl _
 exact I2.fpOk hle (I2.hok.fresh hle)
end L2
end
section
namespace L2
open PySem PySem.Spec PyProof.Rows
section
variable {X:Cx}
def adC (K:PySem.W.Frag):R2:=fun x y H Q=>∃ d e,Dp K H x d/\Dp K H y e/\SeqAt.shaped d=true/\SeqAt.shaped e=true/\TbRaw.yF d e=true/\Q (.bl (TbRaw.ltv d e)) H
theorem acE (hu:X.A.units+64<cLine):OpR X (compareOp .Lt) (adC X.K):=by
 intro pins s σ H x y v u Q I rx ry h
 obtain⟨d,e,hd,he,sd,se,hc,q⟩:=h
 obtain⟨as,r1⟩:=Dp.reads I d x v hd rx
 obtain⟨bs,r2⟩:=Dp.reads I e y u he ry
 exact TbRaw.JX d e X.A s v u as bs r1 r2 (SeqAt.canLay_of_shaped sd) (SeqAt.canLay_of_shaped se) hc (SeqAt.room_of_shaped sd hu) X.prog X.w X.xe _ ⟨.bl _,H,I,rfl,q⟩
def adD (K:PySem.W.Frag) (neg:Bool):R2:=fun x y H Q=>∃ p xs ds d,y=.ref p/\SqL K H p xs/\uM K H xs ds/\Dp K H x d/\SeqAt.shaped d=true/\(∀ e,e∈ds->SeqAt.shaped e=true) /\
 Q (.bl (if neg then !(ds.any fun e=>PyData.eqv e d) else ds.any fun e=>PyData.eqv e d)) H
open Classical in
theorem U2 {X:Cx}{s:Shared}{v:Value}{d:PyData}{bs:List Addr} (rd:Reads s.heap v d bs) (sd:SeqAt.shaped d=true):∀ {ds:List PyData}{us:List Value}{as:List Addr},ReadsAll s.heap us ds as->(∀ e,e∈ds->SeqAt.shaped e=true)->X.A.units+64+1<cLine ->
 (∀ y,y∈us->SeqAt.EqAt X.A.in1 s y v (decide (∃ d' as',Reads s.heap y d' as'/\SeqAt.shaped d'=true/\PyData.eqv d' d=true))) /\
 us.any (fun y=>decide (∃ d' as',Reads s.heap y d' as'/\SeqAt.shaped d'=true/\PyData.eqv d' d=true))=ds.any fun e=>PyData.eqv e d
 | [],_,_,h,_,_=>by
  cases h
  exact⟨fun y hy=>(nomatch hy),rfl⟩
 | e::ds,_,_,h,hs,hu=>by
  cases h with
  | @cons u us _ _ as1 as2 h1 h2 =>
   obtain⟨i1,i2⟩:=U2 (X:=X) rd sd h2 (fun x hx=>hs x (List.mem_cons_of_mem _ hx)) hu
   have se:=hs e (List.mem_cons_self ..)
   have key:decide (∃ d' as',Reads s.heap u d' as'/\SeqAt.shaped d'=true/\PyData.eqv d' d=true)=PyData.eqv e d:=by
    cases q:PyData.eqv e d with
    | true=>exact decide_eq_true ⟨e,as1,h1,se,q⟩
    | false =>
     refine decide_eq_false fun⟨d',as',r',_,q'⟩=>?_
     rw[<-SeqAt.Reads.unique e d' u as1 as' (SeqAt.canLay_of_shaped se) h1 r',q] at q'
     cases q'
   refine⟨fun y hy=>?_,?_⟩
   . rcases List.mem_cons.mp hy with z | z
     . subst z
       rw[key]
       refine SeqAt.eqAt_reads e d X.A.in1 s y v as1 bs h1 rd (SeqAt.canLay_of_shaped se) (SeqAt.canLay_of_shaped sd) (SeqAt.room_of_shaped se ?_)
       show X.A.units+1+64<cLine
       omega
     . exact i1 y z
   . rw[List.any_cons,List.any_cons,key,i2]
theorem UL (hu:X.A.units+64+1<cLine):OpR X (compareOp .NotIn) (adD X.K true):=by
 intro pins s σ H x y v u Q I rx ry h
 obtain⟨p,xs,ds,d,rfl,hq,ha,hd,sd,se,q⟩:=h
 cases ry
 obtain⟨its,rv,pl,hz⟩:=I.list hq
 obtain⟨as,r1⟩:=Dp.readsAll I ds xs its ha rv
 obtain⟨bs,r2⟩:=Dp.reads I d x v hd rx
 obtain⟨i1,i2⟩:=U2 (X:=X) r2 sd r1 se hu
 refine SeqAt.notIn_listAt _ pl.isList (fun y hy=>i1 y (by simpa using hy)) ⟨.bl _,H,I,?_,q⟩
 show Value.bool _=Value.bool _
 rw[<-i2]
 simp
theorem Room.units1 {k:Nat}{A:Around} (r:Room k A):A.units+64+1<cLine:=by have:=r.un;omega
def aa2 (K:PySem.W.Frag) (te:TE):TE:=fun σ H Q=>te σ H fun x H1=>∃ a xs,x=.ref a/\SqL K H1 a xs/\∀ p,H1 p=none->Q (.ref p) (upd H1 p (.lst xs.reverse))
theorem Yf {xs:List V}{us:List Value} (r:Vals xs us):Vals xs.reverse us.reverse:=by
 induction r with
 | nil=>exact .nil
 | @cons a b l1 l2 h t ih =>
  rw[List.reverse_cons,List.reverse_cons]
  exact ih.append (.cons h .nil)
theorem Kd {e:Expr}{te:TE}{p pos p2 pos2:Pos} (hl:X.mg "list"=none) (hm:X.mg "reversed"=none) (he:PE X e te) (hc:X.calm=true:=by rfl) (hg:Gl X "list":=by rfl) (hg2:Gl X "reversed":=by rfl)
 (hs:starEach [e] X.env=[(false,eval e X.env)]:=by rfl) (hs2:starEach [.Call (.Name "reversed" p2) [e] [] pos2] X.env=[(false,eval (.Call (.Name "reversed" p2) [e] [] pos2) X.env)]:=by rfl) :
 PE X (.Call (.Name "list" p) [.Call (.Name "reversed" p2) [e] [] pos2] [] pos) (aa2 X.K te):=by
 intro pins s σ H Q I h
 refine Call_ (wN I hg hl boot_list (PyProof.Rows.callWith_type1 ?_ hs2 rfl))
 rw[hs2]
 refine Calls.spliced_cons (?_:wpAny _ _ (eval (.Call (.Name "reversed" p2) [e] [] pos2) X.env) _ _ s)
 refine Call_ (wN I hg2 hm K8 (PyProof.Rows.callWith_type1 ?_ hs rfl))
 rw[hs]
 refine Calls.spliced_cons (thn (he pins s σ H _ I h) fun u s1 ⟨x,H1,I1,r1,a,xs,ex,hq,q⟩=>Calls.spliced_nil ?_)
 subst ex
 cases r1
 obtain⟨its,rv,pl,hz⟩:=I1.list hq
 refine call_reversed_list pl.isList (Calls.spliced_nil ?_)
 have hlt:a<s1.heap.objs.size:=pl.lt
 have hlen:=rv.length
 refine TbRaw.aaq (items:=its.toArray) (I1.ok.hd hc) (Nat.ne_of_lt hlt) ⟨_,Heap.get?_push_size _ rfl,rfl,rfl⟩ (pl.isList.at fun o e=>Heap.get?_push_of_some _ e) (by simp only[List.size_toArray];omega) fun h' tk acc' c' hk hS hacc=>?_
 have hsz:(s1.heap.push (revObj a ((its.toArray.size:Int) - 1))).objs.size=s1.heap.objs.size+1:=Heap.size_push ..
 rw[hsz] at hS
 refine⟨.ref (s1.heap.objs.size+1),upd H1 (s1.heap.objs.size+1) (.lst xs.reverse),I1.laid (t':=tk) (fun b ob e=>hk b ob (Nat.ne_of_lt (Heap.lt_size e)) (Heap.get?_push_of_some _ e)) (Nat.le_succ _) ?_,by show Value.ref _=Value.ref _;rw[hsz],q _ (I1.hok.fresh (Nat.le_succ _))⟩
 have ea:=TbRaw.Uo hacc
 refine⟨by rw[List.length_reverse];exact hz,its.reverse,c',Yf rv,?_⟩
 rw[hS]
 congr 3
 apply Array.ext'
 simpa using ea
end
def aa3 (d:Addr) (o:Obj) (kvs:List (List Key × V)):It :=
 ⟨fun i H=>H d=some (.frz o (.dT kvs))/\i<kvs.length,fun i H x H'=>∃ T k v q,kvs[i]?=some (k,v)/\x=.ref T/\H T=none/\H q=some (.tup (k.map kV))/\H'=upd H T (.tup [.ref q,v]),fun i H=>H d=some (.frz o (.dT kvs))/\kvs.length<=i⟩
theorem Inv.frzT2 {X:Cx}{pins:List (Addr × Obj)}{σ:St}{H:Hp}{s:Shared}{d:Addr}{o:Obj}{kvs:List (List Key × V)} (I:Inv X pins σ H s) (h:H d=some (.frz o (.dT kvs))) :
 (d == sysModules)=false/\s.heap.get? d=some o/\o.ExactDict/\∃ (es:Array DictEntry) (ep:Nat),o.data=.dict es ep/\es.size=kvs.length /\
  ∀ (i:Nat) (k:List Key) (v:V),kvs[i]?=some (k,v)->∃ (en:DictEntry) (q:Addr),es[i]?=some en/\en.key=.ref q/\H q=some (.tup (k.map kV))/\RelV v en.val:=by
 obtain⟨hd,z,hs,xs,pr,o',es,ep,ho,hx,hdt,he,_⟩:=I.hok d _ h
 rw[hd] at ho
 cases ho
 refine⟨hs,hd,hx,es,ep,hdt,?_,fun i k v e=>?_⟩
 . have l1:es.size=xs.length:=size_of_entries he
   have l2:kvs.length=xs.length:=Paired.length pr
   omega
 . obtain⟨b,hb,e1,e2,e3⟩:=K9 pr e
   have q:=entry_at he i
   rw[hb] at q
   exact⟨_,b.2.1,q,rfl,e2,e3⟩
theorem Xr {P:Program}{w:World}{K:PySem.W.Frag}{d:Addr}{o:Obj}{es:Array DictEntry}{ep:Nat}{kvs:List (List Key × V)}{elts:List Expr}{kk:Nat}{tpos:Pos} (it:Addr) (hod:o.data=.dict es ep) :
 Wa P w K (.Tuple elts kk tpos) (aa3 d o kvs) [it] it (fun i h=>∃ ok ov,IsItemIter h it d i kvs.length ep ok ov) where
 mem:=by simp
 obj:=fun i h st b hb=>by
  have e:b=it:=by simpa using hb
  subst e
  obtain⟨ok,ov,e⟩:=st
  exact⟨_,e,fun v z=>nomatch z⟩
 keep:=fun i h h' st k=>let ⟨ok,ov,e⟩:=st;⟨ok,ov,k it (by simp) _ e⟩
 item:=by
  intro X hP hw hK hc i pins s σ H E I hf st hg
  subst hP hw hK
  obtain⟨hd,hi⟩:=hg
  obtain⟨hs,hgd,hx,es',ep',hdt,hsz,ent⟩:=I.frzT2 hd
  obtain⟨rfl,rfl⟩:=WZ hod hdt
  obtain⟨⟨k,v⟩,hkv⟩:∃ p,kvs[i]?=some p:=⟨kvs[i],List.getElem?_eq_getElem hi⟩
  obtain⟨en,q,hen,hkey,hq,rv⟩:=ent i k v hkv
  obtain⟨ok,ov,he⟩:=st
  have hlt:it<s.heap.objs.size:=Heap.lt_size he
  refine TbRaw.W5 he hgd hdt hsz hen fun h' ho hT hz hk=>?_
  refine⟨_,rfl,wpAny_letOwnedTupleGo_items (s:={ s with heap:=h' }) ho fun h'' he' sb=>?_⟩
  have hT2:h''.get? s.heap.objs.size=some { cls:=.type "tuple",data:=.seq #[en.key,en.val] }:=(sb.2 _ (Nat.ne_of_gt hlt)).trans hT
  have new:ObjOk X.prog X.w (upd H s.heap.objs.size (.tup [.ref q,v])) h'' s.heap.objs.size (.tup [.ref q,v]) :=
   ⟨by show 2<=sizeLine;decide,[en.key,en.val],.cons hkey (.cons rv .nil),⟨_,hT2,rfl,_,rfl⟩⟩
  have I1:Inv X pins σ (upd H s.heap.objs.size (.tup [.ref q,v])) { s with heap:=h'' } :=
   I.turnedNew (t':=s.toks) (ch:=[it]) (fun b ob hb e=>(sb.2 b (by simpa using hb)).trans (hk b ob (by simpa using hb) e)) hf (Nat.le_refl _) new
  refine⟨.ref s.heap.objs.size,_,I1,rfl,⟨_,k,v,q,hkv,rfl,I.hok.fresh (Nat.le_refl _),hq,rfl⟩,⟨en.key,en.val,he'⟩,fun b hb=>?_⟩
  have e:b=it:=by simpa using hb
  rw[e,z8 (Nat.ne_of_lt hlt)]
  exact (hf it (by simp)).1
 done:=by
  intro X hP hw hK hc i pins s σ H E I hf st hg
  subst hP hw hK
  obtain⟨hd,hi⟩:=hg
  obtain⟨f0,f1,f2,f3,f4,f5⟩:=hf it (by simp)
  obtain⟨hs,hgd,hx,es',ep',hdt,hsz,ent⟩:=I.frzT2 hd
  obtain⟨rfl,rfl⟩:=WZ hod hdt
  obtain⟨ok,ov,he⟩:=st
  exact TbRaw.Uk (I.ok.hd hc) he hgd hdt hsz hi fun h' eb=>⟨rfl,I.turned (t':=s.toks) (fun b ob hb e=>eb b ob hb e) f0 f1 f3 f4 f5⟩
 self:=fun A i s Q E st h=>let ⟨_,_,e⟩:=st;PySem.W.kcp_self e h
def abT (td:TE):TI:=fun σ H R=>td σ H fun x H1=>∃ d o kvs,x=.ref d/\H1 d=some (.frz o (.dT kvs))/\R (aa3 d o kvs) H1
theorem UM {X:Cx}{e:Expr}{td:TE}{apos cpos:Pos}{elts:List Expr}{kk:Nat}{tpos:Pos} (he:PE X e td) (hbase:attributeBase e "items" X.env (eval e X.env)=eval e X.env:=by rfl) (hline:(apos.endLine == cpos.line)=true:=by rfl) :
 PI X (.Tuple elts kk tpos) (.Call (.Attribute e "items" apos) [] [] cpos) (abT td):=by
 intro pins s σ H R I h
 refine wpAny_Call_method (T:="dict") (id:="dict.items") hbase rfl hline F.plainAttrs_dict F.slot_dict_items F.type_dict_items (thn (he pins s σ H _ I h) fun u s1 ⟨x,H1,I1,rx,d,o,kvs,ex,hd,q⟩=>?_)
 subst ex
 obtain rfl:u=Value.ref d:=rx
 obtain⟨hs,hgd,hx,es,ep,hdt,hsz,ent⟩:=I1.frzT2 hd
 have ht:s1.TypeIs (.ref d) "dict":=⟨o,hgd,hx.1⟩
 refine⟨ht,fun a e=>(by cases e;exact⟨o,hgd,hx.2.1⟩),?_⟩
 have I2:Inv X pins σ H1 { s1 with heap:=s1.heap.push { cls:=.type "dict_items",data:=.fields #[.ref d] } }:=I1.kept (t':=s1.toks) fun b ob q=>Heap.get?_push_of_some _ q
 have fin:wpAny (model X.prog X.w) X.A (pyIter (.ref s1.heap.objs.size)) (PIE X pins σ (.Tuple elts kk tpos) R) X.xe { s1 with heap:=s1.heap.push { cls:=.type "dict_items",data:=.fields #[.ref d] } }:=by
  refine TbRaw.W4 (d:=d) ⟨_,Heap.get?_push_size _ rfl,rfl,rfl⟩ (Heap.get?_push_of_some _ hgd) hdt (acx (tk:=s1.toks) I2 _ (Xr _ hdt) ⟨.none,.none,?_⟩ q)
  rw[<-hsz]
  exact Heap.get?_push_size _ rfl
 show wpAny _ _ (callWith cpos (.builtin "dict.items") [.ref d] [] []) _ X.xe s1
 exact method_meetsIn F.slot_dict_items F.entry_dict_items rfl (PySem.evalArgs_none ⟨rfl,ht,F.args_dict_items_1 _,_,TbRaw.W3 d hs,ht,fin⟩)
theorem qR:bootBuiltins "len"=some (.builtin "len"):=by decide +kernel
theorem aa4:bootBuiltins "all"=some (.builtin "all"):=by decide +kernel
theorem aa5:bootBuiltins "any"=some (.builtin "any"):=by decide +kernel
theorem acF:bootBuiltins "min"=some (.builtin "min"):=by decide +kernel
theorem U3:bootBuiltins "list"=some (.type "list"):=by decide +kernel
def abU (K:PySem.W.Frag):List V->Hp->VK->Prop:=fun xs H Q=>∃ p ys,xs=[.ref p]/\(SqL K H p ys∨SqT K H p ys)/\Q (.int ys.length) H
theorem qS {X:Cx}:ZE X (.builtin "len") (abU X.K):=Y8
section
variable {X:Cx}{K:PySem.W.Frag}
theorem jG {e:Expr}{f:Str}{pos:Pos}{ta:TE} (hK:X.K=K) (he:PE X e ta) (hb:attributeBase e f X.env (eval e X.env)=eval e X.env):PE X (.Attribute e f pos) (yd K ta f):=by
 subst hK
 exact zf he hb
theorem abV (hK:X.K=K):ZE X (.builtin "len") (abU K):=by
 subst hK
 exact qS
theorem Z6 (hK:X.K=K):OpR X (compareOp .In) (rIn K false):=by
 subst hK
 exact Vu
theorem U4 {es:List Expr}{k:Nat}{pos:Pos}{t:TGs}{n:Nat} (hK:X.K=K) (hc:X.calm=true) (h:PGs X es t) (hn:(assignEach es X.env).length=n:=by rfl) (hst:(assignEach es X.env).findIdx? (·.1)=none:=by rfl):PG X (.Tuple es k pos) (acU K n t):=by
 subst hK
 exact Y2 hc h hn hst
end
end L2
end
section
namespace Tb
open PySem PySem.Spec PyProof.Rows L2
def top (i:Nat):Stmt:=PySem.Challenge.pw_twobooks_s01_answers.main.body.getD i (.Pass ⟨0,0,0,0⟩)
abbrev yX:Stmt:=uq (top 21) 0
abbrev yY:Stmt:=uq (top 42) 0
abbrev yf:Stmt:=uq (top 43) 0
abbrev vw:Stmt:=uq (top 56) 0
abbrev jH:Stmt:=uq (top 96) 0
abbrev kN:Stmt:=uq (top 97) 0
abbrev yg:Stmt:=top 22
abbrev jl:Stmt:=top 23
abbrev xZ:Stmt:=top 24
abbrev ur:Stmt:=top 25
abbrev yh:Stmt:=top 26
abbrev kO:Stmt:=top 27
abbrev kP:Stmt:=top 28
abbrev kQ:Stmt:=top 44
abbrev kR:Stmt:=top 45
abbrev x_:Stmt:=top 46
abbrev yZ:Stmt:=top 47
abbrev yi:Stmt:=top 48
abbrev j7:Stmt:=top 49
abbrev yj:Stmt:=top 50
abbrev ZO:Stmt:=top 52
abbrev ZP:Stmt:=top 53
abbrev w4:Stmt:=top 57
abbrev ut:Stmt:=top 58
abbrev jm:Stmt:=top 59
abbrev y_:Stmt:=top 60
abbrev jT:Stmt:=top 61
abbrev vx:Stmt:=top 62
abbrev kf:Stmt:=top 64
abbrev kS:Stmt:=top 65
abbrev x5:Stmt:=top 66
abbrev vy:Stmt:=top 67
abbrev kT:Stmt:=top 68
abbrev x6:Stmt:=top 69
abbrev qL:Stmt:=top 70
abbrev jU:Stmt:=top 71
abbrev ZQ:Stmt:=top 72
abbrev w6:Stmt:=top 74
abbrev jI:Stmt:=top 75
abbrev yk:Stmt:=top 76
abbrev x8:Stmt:=top 77
abbrev x9:Stmt:=top 78
abbrev xa:Stmt:=top 79
abbrev yl:Stmt:=top 88
abbrev kg:Stmt:=top 89
abbrev ym:Stmt:=top 90
abbrev jo:Stmt:=top 91
abbrev kU:Stmt:=top 92
abbrev vz:Stmt:=top 93
abbrev kW:Stmt:=top 98
abbrev j3:Stmt:=top 99
abbrev yn:Stmt:=top 100
abbrev vA:Stmt:=top 101
abbrev xb:Stmt:=top 102
abbrev jV:Stmt:=top 103
abbrev jW:Stmt:=top 104
abbrev w8:Stmt:=top 105
abbrev xf:Stmt:=top 106
abbrev w9:Stmt:=top 107
abbrev vB:Stmt:=top 108
abbrev kX:Stmt:=top 109
abbrev JK:Stmt:=top 110
abbrev jX:Stmt:=top 130
abbrev vC:Stmt:=top 131
abbrev jY:Stmt:=top 132
abbrev xg:Stmt:=top 133
abbrev uu:Stmt:=top 134
theorem Yg:zu ["self","number","mark","text"] ["self","number","mark","text"] (zh yX):=⟨rfl,rfl,rfl,by decide +kernel,rfl,by decide +kernel,by decide +kernel⟩
theorem Yh:zu ["self","cells","next_number"] ["self","cells","next_number"] (zh yY):=⟨rfl,rfl,rfl,by decide +kernel,rfl,by decide +kernel,by decide +kernel⟩
theorem KR:zu ["self"] ["self"] (zh yf):=⟨rfl,rfl,rfl,by decide +kernel,rfl,by decide +kernel,by decide +kernel⟩
theorem Ke:zu ["self","begin","end","new_lines"] ["self","begin","end","new_lines"] (zh vw):=⟨rfl,rfl,rfl,by decide +kernel,rfl,by decide +kernel,by decide +kernel⟩
theorem Z7:zu ["self","cell","on_left","on_right"] ["self","cell","on_left","on_right"] (zh jH):=⟨rfl,rfl,rfl,by decide +kernel,rfl,by decide +kernel,by decide +kernel⟩
theorem Jg:zu ["self","refusal","merged"] ["self","refusal","merged"] (zh kN):=⟨rfl,rfl,rfl,by decide +kernel,rfl,by decide +kernel,by decide +kernel⟩
theorem sc_only_bytes:zu ["text","number"] ["text"] (zh yg):=⟨rfl,rfl,rfl,by decide +kernel,rfl,by decide +kernel,by decide +kernel⟩
theorem sc_refusal_of_texts:zu ["texts","text"] ["texts"] (zh jl):=⟨rfl,rfl,rfl,by decide +kernel,rfl,by decide +kernel,by decide +kernel⟩
theorem sc_place_of:zu ["cells","number","place","cell"] ["cells","number"] (zh xZ):=⟨rfl,rfl,rfl,by decide +kernel,rfl,by decide +kernel,by decide +kernel⟩
theorem sc_cell_of:zu ["cells","number","place"] ["cells","number"] (zh ur):=⟨rfl,rfl,rfl,by decide +kernel,rfl,by decide +kernel,by decide +kernel⟩
theorem sc_numbers_of:zu ["cells","cell"] ["cells"] (zh yh):=⟨rfl,rfl,rfl,by decide +kernel,rfl,by decide +kernel,by decide +kernel⟩
theorem sc_place_behind:zu ["cells","after","place"] ["cells","after"] (zh kO):=⟨rfl,rfl,rfl,by decide +kernel,rfl,by decide +kernel,by decide +kernel⟩
theorem Jh:zu ["cells"] ["cells"] (zh kP):=⟨rfl,rfl,rfl,by decide +kernel,rfl,by decide +kernel,by decide +kernel⟩
theorem Ji:zu ["books"] ["books"] (zh kQ):=⟨rfl,rfl,rfl,by decide +kernel,rfl,by decide +kernel,by decide +kernel⟩
theorem sc_texts_of_row:zu ["row","texts","place","begin","end"] ["row"] (zh kR):=⟨rfl,rfl,rfl,by decide +kernel,rfl,by decide +kernel,by decide +kernel⟩
theorem sc_set_base:zu ["books","row","texts","refusal","number","text"] ["books","row"] (zh x_):=⟨rfl,rfl,rfl,by decide +kernel,rfl,by decide +kernel,by decide +kernel⟩
theorem sc_copy_side:zu ["books","side","other"] ["books","side"] (zh yZ):=⟨rfl,rfl,rfl,by decide +kernel,rfl,by decide +kernel,by decide +kernel⟩
theorem KS:zu ["books","side"] ["books","side"] (zh yi):=⟨rfl,rfl,rfl,by decide +kernel,rfl,by decide +kernel,by decide +kernel⟩
theorem sc_exchanged_choices:zu ["choices","exchanged","conflict","choice"] ["choices"] (zh j7):=⟨rfl,rfl,rfl,by decide +kernel,rfl,by decide +kernel,by decide +kernel⟩
theorem KU:zu ["books"] ["books"] (zh yj):=⟨rfl,rfl,rfl,by decide +kernel,rfl,by decide +kernel,by decide +kernel⟩
theorem UN:zu ["base","left","right"] ["base","left","right"] (zh ZO):=⟨rfl,rfl,rfl,by decide +kernel,rfl,by decide +kernel,by decide +kernel⟩
theorem UO:zu ["choice","base","left","right"] ["choice","base","left","right"] (zh ZP):=⟨rfl,rfl,rfl,by decide +kernel,rfl,by decide +kernel,by decide +kernel⟩
theorem sc_lines_of:zu ["text","lines","byte"] ["text"] (zh w4):=⟨rfl,rfl,rfl,by decide +kernel,rfl,by decide +kernel,by decide +kernel⟩
theorem sc_text_of:zu ["lines","text","line"] ["lines"] (zh ut):=⟨rfl,rfl,rfl,by decide +kernel,rfl,by decide +kernel,by decide +kernel⟩
theorem sc_common_beginning:zu ["lines","others","most","common"] ["lines","others","most"] (zh jm):=⟨rfl,rfl,rfl,by decide +kernel,rfl,by decide +kernel,by decide +kernel⟩
theorem sc_change_of:zu ["base_text","side_text","base_lines","side_lines","shorter","begin","kept"] ["base_text","side_text"] (zh y_):=⟨rfl,rfl,rfl,by decide +kernel,rfl,by decide +kernel,by decide +kernel⟩
theorem sc_text_with_both:zu ["base_text","first","second","base_lines","lines","text"] ["base_text","first","second"] (zh jT):=⟨rfl,rfl,rfl,by decide +kernel,rfl,by decide +kernel,by decide +kernel⟩
theorem sc_merged_text:zu ["base_text","left_text","right_text","text","left","right"] ["base_text","left_text","right_text"] (zh vx):=⟨rfl,rfl,rfl,by decide +kernel,rfl,by decide +kernel,by decide +kernel⟩
theorem sc_common_orders:zu ["books","left","right","common","number","left_order","right_order"] ["books"] (zh kf):=⟨rfl,rfl,rfl,by decide +kernel,rfl,by decide +kernel,by decide +kernel⟩
theorem Jj:zu ["orders"] ["orders"] (zh kS):=⟨rfl,rfl,rfl,by decide +kernel,rfl,by decide +kernel,by decide +kernel⟩
theorem Yi:zu ["base_cell","cell"] ["base_cell","cell"] (zh x5):=⟨rfl,rfl,rfl,by decide +kernel,rfl,by decide +kernel,by decide +kernel⟩
theorem Kf:zu ["base_cell","left","right"] ["base_cell","left","right"] (zh vy):=⟨rfl,rfl,rfl,by decide +kernel,rfl,by decide +kernel,by decide +kernel⟩
theorem sc_conflicts_of:zu ["books","conflicts","base_cell","number","left","right","kind"] ["books"] (zh kT):=⟨rfl,rfl,rfl,by decide +kernel,rfl,by decide +kernel,by decide +kernel⟩
theorem Yj:zu ["books","conflict"] ["books","conflict"] (zh x6):=⟨rfl,rfl,rfl,by decide +kernel,rfl,by decide +kernel,by decide +kernel⟩
theorem sc_count_without_choice:zu ["books","conflict"] ["books"] (zh qL):=⟨rfl,rfl,rfl,by decide +kernel,rfl,by decide +kernel,by decide +kernel⟩
theorem sc_tell_conflicts:zu ["books","conflicts","told","kind","number"] ["books"] (zh jU):=⟨rfl,rfl,rfl,by decide +kernel,rfl,by decide +kernel,by decide +kernel⟩
theorem UP:zu ["books","kind","number","choice"] ["books","kind","number","choice"] (zh ZQ):=⟨rfl,rfl,rfl,by decide +kernel,rfl,by decide +kernel,by decide +kernel⟩
theorem sc_new_cell:zu ["books","side","after","text","edited","place","refusal","number"] ["books","side","after","text"] (zh w6):=⟨rfl,rfl,rfl,by decide +kernel,rfl,by decide +kernel,by decide +kernel⟩
theorem Z8:zu ["books","side","number"] ["books","side","number"] (zh jI):=⟨rfl,rfl,rfl,by decide +kernel,rfl,by decide +kernel,by decide +kernel⟩
theorem sc_write_cell:zu ["books","side","number","text","refusal","cells","place"] ["books","side","number","text"] (zh yk):=⟨rfl,rfl,rfl,by decide +kernel,rfl,by decide +kernel,by decide +kernel⟩
theorem sc_move_cell:zu ["books","side","number","after","refusal","edited","old_place","others","cell","new_place"] ["books","side","number","after"] (zh x8):=⟨rfl,rfl,rfl,by decide +kernel,rfl,by decide +kernel,by decide +kernel⟩
theorem sc_drop_cell:zu ["books","side","number","refusal","cells"] ["books","side","number"] (zh x9):=⟨rfl,rfl,rfl,by decide +kernel,rfl,by decide +kernel,by decide +kernel⟩
theorem sc_hide_cell:zu ["books","side","number","mark","refusal","cells","place"] ["books","side","number","mark"] (zh xa):=⟨rfl,rfl,rfl,by decide +kernel,rfl,by decide +kernel,by decide +kernel⟩
theorem sc_tell_cells:zu ["cells","told","cell"] ["cells"] (zh yl):=⟨rfl,rfl,rfl,by decide +kernel,rfl,by decide +kernel,by decide +kernel⟩
theorem QE:zu ["books","which"] ["books","which"] (zh kg):=⟨rfl,rfl,rfl,by decide +kernel,rfl,by decide +kernel,by decide +kernel⟩
theorem KW:zu ["base_cell","cell"] ["base_cell","cell"] (zh ym):=⟨rfl,rfl,rfl,by decide +kernel,rfl,by decide +kernel,by decide +kernel⟩
theorem sc_in_another_order:zu ["base_numbers","side_numbers","of_base","number","of_side"] ["base_numbers","side_numbers"] (zh jo):=⟨rfl,rfl,rfl,by decide +kernel,rfl,by decide +kernel,by decide +kernel⟩
theorem sc_tell_changes:zu ["books","side","cells","told","base_cell","kind","base_numbers","cell","moved"] ["books","side"] (zh kU):=⟨rfl,rfl,rfl,by decide +kernel,rfl,by decide +kernel,by decide +kernel⟩
theorem sc_tell_change:zu ["books","side","number","base_cell","cell","change","told","line"] ["books","side","number"] (zh vz):=⟨rfl,rfl,rfl,by decide +kernel,rfl,by decide +kernel,by decide +kernel⟩
theorem sc_merged_order:zu ["books","orders","order"] ["books","orders"] (zh kW):=⟨rfl,rfl,rfl,by decide +kernel,rfl,by decide +kernel,by decide +kernel⟩
theorem sc_merged_common_cell:zu ["books","number","base","left","right","text","mark"] ["books","number"] (zh j3):=⟨rfl,rfl,rfl,by decide +kernel,rfl,by decide +kernel,by decide +kernel⟩
theorem sc_loose_cell:zu ["books","side","cell","base_cell","kind","choice"] ["books","side","cell"] (zh yn):=⟨rfl,rfl,rfl,by decide +kernel,rfl,by decide +kernel,by decide +kernel⟩
theorem sc_loose_cells:zu ["books","side","common","behind","loose","cell","kept"] ["books","side","common"] (zh vA):=⟨rfl,rfl,rfl,by decide +kernel,rfl,by decide +kernel,by decide +kernel⟩
theorem sc_sort_keys:zu ["cells","base_numbers","cell"] ["cells","base_numbers"] (zh xb):=⟨rfl,rfl,rfl,by decide +kernel,rfl,by decide +kernel,by decide +kernel⟩
theorem sc_loose_together:zu ["left","right","base_numbers","left_keys","right_keys","cell","other","of_left","of_right"] ["left","right","base_numbers"] (zh jV):=⟨rfl,rfl,rfl,by decide +kernel,rfl,by decide +kernel,by decide +kernel⟩
theorem sc_cells_in_order:zu ["books","orders","base_numbers","left","right","merged","number"] ["books"] (zh jW):=⟨rfl,rfl,rfl,by decide +kernel,rfl,by decide +kernel,by decide +kernel⟩
theorem sc_numbered:zu ["books","merged","base_numbers","free","numbered_cells","one","cell"] ["books","merged"] (zh w8):=⟨rfl,rfl,rfl,by decide +kernel,rfl,by decide +kernel,by decide +kernel⟩
theorem sc_too_great:zu ["merged","one"] ["merged"] (zh xf):=⟨rfl,rfl,rfl,by decide +kernel,rfl,by decide +kernel,by decide +kernel⟩
theorem sc_merge_of:zu ["books","merged"] ["books"] (zh w9):=⟨rfl,rfl,rfl,by decide +kernel,rfl,by decide +kernel,by decide +kernel⟩
theorem sc_tell_merged:zu ["books","outcome","one"] ["books"] (zh vB):=⟨rfl,rfl,rfl,by decide +kernel,rfl,by decide +kernel,by decide +kernel⟩
theorem sc_tell_origins:zu ["books","outcome","told","one"] ["books"] (zh kX):=⟨rfl,rfl,rfl,by decide +kernel,rfl,by decide +kernel,by decide +kernel⟩
theorem sc_adopt:zu ["books","outcome","cells","one","next_number"] ["books"] (zh JK):=⟨rfl,rfl,rfl,by decide +kernel,rfl,by decide +kernel,by decide +kernel⟩
theorem sc_answer_on_side:zu ["books","call","wholes","row","side"] ["books","call","wholes","row"] (zh jX):=⟨rfl,rfl,rfl,by decide +kernel,rfl,by decide +kernel,by decide +kernel⟩
theorem sc_edited_side:zu ["books","call","wholes","row","answer"] ["books","call","wholes","row"] (zh vC):=⟨rfl,rfl,rfl,by decide +kernel,rfl,by decide +kernel,by decide +kernel⟩
theorem ZR:zu ["books","call","wholes"] ["books","call","wholes"] (zh jY):=⟨rfl,rfl,rfl,by decide +kernel,rfl,by decide +kernel,by decide +kernel⟩
theorem Yk:zu ["books","call","wholes","row"] ["books","call","wholes","row"] (zh xg):=⟨rfl,rfl,rfl,by decide +kernel,rfl,by decide +kernel,by decide +kernel⟩
theorem sc_answers:zu ["calls","books","told","place","call","begin","wholes","row","answer"] ["calls"] (zh uu):=⟨rfl,rfl,rfl,by decide +kernel,rfl,by decide +kernel,by decide +kernel⟩
structure Ad where
 cCell:Addr
 cSide:Addr
 cBooks:Addr
 cChange:Addr
 cMergedCell:Addr
 cOutcome:Addr
 aEXCHANGED_KINDS:Addr
 aEXCHANGED_CHOICES:Addr
 aWHOLES:Addr
 aROWS:Addr
structure Txt (K:PySem.W.Frag) (mg:Str->Option Value) (C:Ad):Prop where
 c_Cell:Cls K C.cCell
 n_Cell_number:NoAttr K C.cCell "number"
 n_Cell_mark:NoAttr K C.cCell "mark"
 n_Cell_text:NoAttr K C.cCell "text"
 c_Side:Cls K C.cSide
 n_Side_cells:NoAttr K C.cSide "cells"
 n_Side_next_number:NoAttr K C.cSide "next_number"
 c_Books:Cls K C.cBooks
 n_Books_base_cells:NoAttr K C.cBooks "base_cells"
 n_Books_sides:NoAttr K C.cBooks "sides"
 n_Books_choices:NoAttr K C.cBooks "choices"
 c_Change:Cls K C.cChange
 n_Change_begin:NoAttr K C.cChange "begin"
 n_Change_end:NoAttr K C.cChange "end"
 n_Change_new_lines:NoAttr K C.cChange "new_lines"
 c_MergedCell:Cls K C.cMergedCell
 n_MergedCell_cell:NoAttr K C.cMergedCell "cell"
 n_MergedCell_on_left:NoAttr K C.cMergedCell "on_left"
 n_MergedCell_on_right:NoAttr K C.cMergedCell "on_right"
 c_Outcome:Cls K C.cOutcome
 n_Outcome_refusal:NoAttr K C.cOutcome "refusal"
 n_Outcome_merged:NoAttr K C.cOutcome "merged"
 g_NO_REFUSAL:∃ t,mg "NO_REFUSAL"=some (Value.int 0 t)
 g_NO_CELL:∃ t,mg "NO_CELL"=some (Value.int (-1) t)
 g_NO_FIT_AFTER:∃ t,mg "NO_FIT_AFTER"=some (Value.int (-2) t)
 g_NO_BYTE:∃ t,mg "NO_BYTE"=some (Value.int (-4) t)
 g_TEXT_TOO_LONG:∃ t,mg "TEXT_TOO_LONG"=some (Value.int (-5) t)
 g_TOO_MANY_CELLS:∃ t,mg "TOO_MANY_CELLS"=some (Value.int (-6) t)
 g_NOTHING_CHANGES:∃ t,mg "NOTHING_CHANGES"=some (Value.int (-7) t)
 g_NO_SIDE:∃ t,mg "NO_SIDE"=some (Value.int (-8) t)
 g_NO_SUCH_CONFLICT:∃ t,mg "NO_SUCH_CONFLICT"=some (Value.int (-9) t)
 g_CHOICE_OUTSIDE:∃ t,mg "CHOICE_OUTSIDE"=some (Value.int (-10) t)
 g_CHOICE_MISSING:∃ t,mg "CHOICE_MISSING"=some (Value.int (-11) t)
 g_TOO_GREAT:∃ t,mg "TOO_GREAT"=some (Value.int (-12) t)
 g_ROW_NOT_WHOLE:∃ t,mg "ROW_NOT_WHOLE"=some (Value.int (-15) t)
 g_NUMBERS_USED_UP:∃ t,mg "NUMBERS_USED_UP"=some (Value.int (-16) t)
 g_NO_MARK:∃ t,mg "NO_MARK"=some (Value.int (-18) t)
 g_NO_DOCUMENT:∃ t,mg "NO_DOCUMENT"=some (Value.int (-19) t)
 g_GREATEST_BYTE:∃ t,mg "GREATEST_BYTE"=some (Value.int 255 t)
 g_MOST_BYTES:∃ t,mg "MOST_BYTES"=some (Value.int 200 t)
 g_MOST_CELLS:∃ t,mg "MOST_CELLS"=some (Value.int 12 t)
 g_GREATEST_NUMBER:∃ t,mg "GREATEST_NUMBER"=some (Value.int 99 t)
 g_LEFT:∃ t,mg "LEFT"=some (Value.int 1 t)
 g_RIGHT:∃ t,mg "RIGHT"=some (Value.int 2 t)
 g_NO_CHOICE:∃ t,mg "NO_CHOICE"=some (Value.int 0 t)
 g_BASE_CHOICE:∃ t,mg "BASE_CHOICE"=some (Value.int 3 t)
 g_GREATEST_CHOICE:∃ t,mg "GREATEST_CHOICE"=some (Value.int 3 t)
 g_NO_CONFLICT:∃ t,mg "NO_CONFLICT"=some (Value.int 0 t)
 g_TEXT_CONFLICT:∃ t,mg "TEXT_CONFLICT"=some (Value.int 1 t)
 g_LEFT_HAS_NOT:∃ t,mg "LEFT_HAS_NOT"=some (Value.int 2 t)
 g_RIGHT_HAS_NOT:∃ t,mg "RIGHT_HAS_NOT"=some (Value.int 3 t)
 g_ORDER_CONFLICT:∃ t,mg "ORDER_CONFLICT"=some (Value.int 4 t)
 g_LINE_END:∃ t,mg "LINE_END"=some (Value.int 10 t)
 g_BASE_DOCUMENT:∃ t,mg "BASE_DOCUMENT"=some (Value.int 0 t)
 g_UNCHANGED:∃ t,mg "UNCHANGED"=some (Value.int 0 t)
 g_DROPPED:∃ t,mg "DROPPED"=some (Value.int 1 t)
 g_NEW_telling:∃ t,mg "NEW_telling"=some (Value.int 2 t)
 g_TEXT_DIFFERS:∃ t,mg "TEXT_DIFFERS"=some (Value.int 3 t)
 g_MARK_DIFFERS:∃ t,mg "MARK_DIFFERS"=some (Value.int 4 t)
 g_BOTH_DIFFER:∃ t,mg "BOTH_DIFFER"=some (Value.int 5 t)
 g_FRONT:∃ t,mg "FRONT"=some (Value.int 0 t)
 g_BASE:∃ t,mg "BASE"=some (Value.int 0 t)
 g_NEW_merge:∃ t,mg "NEW_merge"=some (Value.int 1 t)
 g_WRITE:∃ t,mg "WRITE"=some (Value.int 2 t)
 g_MOVE:∃ t,mg "MOVE"=some (Value.int 3 t)
 g_DROP:∃ t,mg "DROP"=some (Value.int 4 t)
 g_HIDE:∃ t,mg "HIDE"=some (Value.int 5 t)
 g_COPY:∃ t,mg "COPY"=some (Value.int 6 t)
 g_RESET:∃ t,mg "RESET"=some (Value.int 7 t)
 g_SWAP:∃ t,mg "SWAP"=some (Value.int 8 t)
 g_DOCUMENT:∃ t,mg "DOCUMENT"=some (Value.int 9 t)
 g_CHANGES:∃ t,mg "CHANGES"=some (Value.int 10 t)
 g_CHANGE:∃ t,mg "CHANGE"=some (Value.int 11 t)
 g_CONFLICTS:∃ t,mg "CONFLICTS"=some (Value.int 12 t)
 g_CHOOSE:∃ t,mg "CHOOSE"=some (Value.int 13 t)
 g_MERGED:∃ t,mg "MERGED"=some (Value.int 14 t)
 g_ORIGINS:∃ t,mg "ORIGINS"=some (Value.int 15 t)
 g_EXCHANGED_KINDS:mg "EXCHANGED_KINDS"=some (.ref C.aEXCHANGED_KINDS)
 s_EXCHANGED_KINDS:∀ H,SqT K H C.aEXCHANGED_KINDS (([0,1,3,2,4]:List Int).map V.int)
 g_EXCHANGED_CHOICES:mg "EXCHANGED_CHOICES"=some (.ref C.aEXCHANGED_CHOICES)
 s_EXCHANGED_CHOICES:∀ H,SqT K H C.aEXCHANGED_CHOICES (([0,2,1,3]:List Int).map V.int)
 g_WHOLES:mg "WHOLES"=some (.ref C.aWHOLES)
 s_WHOLES:∀ H,SqT K H C.aWHOLES (([0,2,2,3,2,3,1,1,0,1,1,2,0,3,0,0,0]:List Int).map V.int)
 g_ROWS:mg "ROWS"=some (.ref C.aROWS)
 s_ROWS:∀ H,SqT K H C.aROWS (([1,1,1,0,0,0,0,0,0,0,0,0,0,0,0,0,0]:List Int).map V.int)
 b_len:mg "len"=none
 b_all:mg "all"=none
 b_any:mg "any"=none
 b_max:mg "max"=none
 b_min:mg "min"=none
 b_list:mg "list"=none
 b_reversed:mg "reversed"=none
 b_enumerate:mg "enumerate"=none
 b_zip:mg "zip"=none
end Tb
end
section
namespace Tb
open PySem PySem.Spec PyProof.Rows L2
open Vanbki (nats ofNat markNat numbers)
theorem Same.new {H:Hp}{p:Addr}{o:HO} (h:H p=none):Same H (upd H p o):=fun b u e=>by
 rw[z8 (z7 e h)]
 exact e
def minus (H:Hp) (D:Addr):Hp:=fun b=>if b=D then none else H b
theorem jp (H:Hp) (D:Addr):minus H D D=none:=by unfold minus;rw[if_pos rfl]
theorem qC {H:Hp}{D b:Addr} (h:b≠D):minus H D b=H b:=by unfold minus;rw[if_neg h]
theorem yK (H:Hp) (D:Addr):Same (minus H D) H:=fun b o e=>by
 by_cases h:b=D
 . rw[h,jp] at e
   cases e
 . rw[qC h] at e
   exact e
theorem xI (H:Hp) (D:Addr) (o:HO):minus (upd H D o) D=minus H D:=by
 funext b
 unfold minus upd
 split <;> rfl
theorem Same.minus {H H':Hp}{D:Addr} (s:Same H H') (h:H D=none):Same H (minus H' D):=fun b o e=>by
 rw[qC (z7 e h)]
 exact s b o e
theorem Same.both {H H':Hp}{D:Addr} (s:Same H H'):Same (Tb.minus H D) (Tb.minus H' D):=fun b o e=>by
 by_cases h:b=D
 . rw[h,jp] at e
   cases e
 . rw[qC h] at e ⊢
   exact s b o e
abbrev IL (H:Hp) (a:Addr) (ns:List Int):Prop:=H a=some (.lst (ns.map V.int))
abbrev RL (H:Hp) (a:Addr) (as:List Addr):Prop:=H a=some (.lst (as.map V.ref))
theorem zk {α β:Type}{R:α->β->Prop}{as:List α}{bs:List β} (p:Paired R as bs):as.length=bs.length:=Paired.length p
theorem zG {α β:Type}{R:α->β->Prop}{as:List α}{bs:List β} (p:Paired R as bs) {i:Nat}{a:α} (h:as[i]?=some a):∃ b,bs[i]?=some b/\R a b:=K9 p h
theorem qF {as:List Addr}{i:Nat}{x:V} (h:(as.map V.ref)[i]?=some x):∃ a,as[i]?=some a/\x=.ref a:=by
 rw[List.getElem?_map] at h
 cases e:as[i]? with
 | none=>rw[e] at h;cases h
 | some a=>rw[e] at h;exact⟨a,rfl,(Option.some.inj h).symm⟩
theorem aa6 {ns:List Int}{i:Nat}{x:V} (h:(ns.map V.int)[i]?=some x):∃ n,ns[i]?=some n/\x=.int n:=by
 rw[List.getElem?_map] at h
 cases e:ns[i]? with
 | none=>rw[e] at h;cases h
 | some a=>rw[e] at h;exact⟨a,rfl,(Option.some.inj h).symm⟩
theorem j4 {α β:Type}{R:α->β->Prop}:∀ {as:List α}{bs:List β}{a:α}{b:β},Paired R as bs->R a b->Paired R (as++[a]) (bs++[b])
 | _,_,_,_,.nil,h=>.cons h .nil
 | _,_,_,_,.cons r t,h=>.cons r (j4 t h)
theorem zI {α β:Type}{R:α->β->Prop}:∀ {as as':List α}{bs bs':List β},Paired R as bs->Paired R as' bs'->Paired R (as++as') (bs++bs')
 | _,_,_,_,.nil,h=>h
 | _,_,_,_,.cons r t,h=>.cons r (zI t h)
theorem jh {α β:Type}{R:α->β->Prop}:∀ {as:List α}{bs:List β} (n:Nat),Paired R as bs->Paired R (as.take n) (bs.take n)
 | _,_,0,_=>.nil
 | _,_,_+1,.nil=>.nil
 | _,_,n+1,.cons r t=>.cons r (jh n t)
theorem ji {α β:Type}{R:α->β->Prop}:∀ {as:List α}{bs:List β} (n:Nat),Paired R as bs->Paired R (as.drop n) (bs.drop n)
 | _,_,0,h=>h
 | _,_,_+1,.nil=>.nil
 | _,_,n+1,.cons _ t=>ji n t
theorem Z9 {α β:Type}{R:α->β->Prop}{a:α}{b:β} (h:R a b):∀ {as:List α}{bs:List β} (n:Nat),Paired R as bs->Paired R (as.set n a) (bs.set n b)
 | _,_,_,.nil=>.nil
 | _,_,0,.cons _ t=>.cons h t
 | _,_,n+1,.cons r t=>.cons r (Z9 h n t)
theorem zA {α β:Type}{R S:α->β->Prop}{as:List α}{bs:List β} (p:Paired R as bs) (h:∀ a b,R a b->S a b):Paired S as bs:=Paired.mapP p h
theorem Wr {α β:Type}{R:α->β->Prop}{as:List α}{bs:List β} (p:Paired R as bs) {a:α} (h:a∈as):∃ b,b∈bs/\R a b:=by
 obtain⟨i,hi,e⟩:=List.mem_iff_getElem.mp h
 obtain⟨b,hb,r⟩:=zG p (show as[i]?=some a by rw[List.getElem?_eq_getElem hi,e])
 exact⟨b,List.mem_of_getElem? hb,r⟩
def k5 (n m:Int) (q:Addr):List (Str × V):=[("number",.int n),("mark",.int m),("text",.ref q)]
def qW (l:Addr) (k:Int):List (Str × V):=[("cells",.ref l),("next_number",.int k)]
def qz (l s c:Addr):List (Str × V):=[("base_cells",.ref l),("sides",.ref s),("choices",.ref c)]
def wa (p q:Int) (l:Addr):List (Str × V):=[("begin",.int p),("end",.int q),("new_lines",.ref l)]
def jZ (c:Addr) (l r:Int):List (Str × V):=[("cell",.ref c),("on_left",.int l),("on_right",.int r)]
def Ws (n:Int) (l:Addr):List (Str × V):=[("refusal",.int n),("merged",.ref l)]
theorem zE (n m:Int) (q:Addr):(k5 n m q).lookup ("number":Str)=some (.int n):=by rfl
theorem qo (n m:Int) (q:Addr):(k5 n m q).lookup ("mark":Str)=some (.int m):=by rfl
theorem zN (n m:Int) (q:Addr):(k5 n m q).lookup ("text":Str)=some (.ref q):=by rfl
theorem zM (l:Addr) (k:Int):(qW l k).lookup ("cells":Str)=some (.ref l):=by rfl
theorem Kg (l:Addr) (k:Int):(qW l k).lookup ("next_number":Str)=some (.int k):=by rfl
theorem qT (l s c:Addr):(qz l s c).lookup ("base_cells":Str)=some (.ref l):=by rfl
theorem zD (l s c:Addr):(qz l s c).lookup ("sides":Str)=some (.ref s):=by rfl
theorem xx (l s c:Addr):(qz l s c).lookup ("choices":Str)=some (.ref c):=by rfl
theorem k8 (p q:Int) (l:Addr):(wa p q l).lookup ("begin":Str)=some (.int p):=by rfl
theorem vN (p q:Int) (l:Addr):(wa p q l).lookup ("end":Str)=some (.int q):=by rfl
theorem xh (p q:Int) (l:Addr):(wa p q l).lookup ("new_lines":Str)=some (.ref l):=by rfl
theorem kY (c:Addr) (l r:Int):(jZ c l r).lookup ("cell":Str)=some (.ref c):=by rfl
theorem ZS (c:Addr) (l r:Int):(jZ c l r).lookup ("on_left":Str)=some (.int l):=by rfl
theorem uO (c:Addr) (l r:Int):(jZ c l r).lookup ("on_right":Str)=some (.int r):=by rfl
theorem j_ (n:Int) (l:Addr):(Ws n l).lookup ("refusal":Str)=some (.int n):=by rfl
theorem xi (n:Int) (l:Addr):(Ws n l).lookup ("merged":Str)=some (.ref l):=by rfl
def CellAt (C:Ad) (H:Hp) (a:Addr) (c:Vanbki.Cell):Prop:=∃ dx q,H a=some (.ins C.cCell dx (k5 c.number (markNat c.hidden) q))/\IL H q (nats c.text)
theorem CellAt.mono {C:Ad}{H H':Hp}{a:Addr}{c:Vanbki.Cell} (s:Same H H') (h:CellAt C H a c):CellAt C H' a c:=by
 obtain⟨dx,q,h1,h2⟩:=h
 exact⟨dx,q,s _ _ h1,s _ _ h2⟩
abbrev CellsAt (C:Ad) (H:Hp) (as:List Addr) (d:Vanbki.Doc):Prop:=Paired (CellAt C H) as d
theorem CellsAt.mono {C:Ad}{H H':Hp}{as:List Addr}{d:Vanbki.Doc} (s:Same H H') (h:CellsAt C H as d):CellsAt C H' as d:=zA h fun _ _ r=>r.mono s
structure Bk where
 b:Addr
 lb:Addr
 ds:Addr
 a1:Addr
 l1:Addr
 a2:Addr
 l2:Addr
 dc:Addr
def Bk.muts (B:Bk):List Addr:=[B.b,B.ds,B.a1,B.l1,B.a2,B.l2,B.dc]
abbrev Chs:=List ((Nat × Nat) × Nat)
def chV (ch:Chs):List (List Key × V):=ch.map fun x=>([Sum.inl (x.1.1:Int),Sum.inl (x.1.2:Int)],.int (x.2:Int))
def yL (ch:Chs) (k n:Nat):Nat:=match ch.find? fun x=>x.1 == (k,n) with
 | some x=>x.2
 | none=>0
structure Xs (ch:Chs) (s:Vanbki.State):Prop where
 nd:(ch.map fun x=>x.1).Nodup
 rg:∀ x,x∈ch->x.1.1<=4/\x.1.2<=99/\x.2<=3
 eq:∀ k n,yL ch k n=Vanbki.choiceOf s k n
structure BooksAt (C:Ad) (H G:Hp) (B:Bk) (ch:Chs) (s:Vanbki.State):Prop where
 bk:∃ dx,H B.b=some (.ins C.cBooks dx (qz B.lb B.ds B.dc))
 sd:H B.ds=some (.dK [(Sum.inl 1,.ref B.a1),(Sum.inl 2,.ref B.a2)])
 s1:∃ dx,H B.a1=some (.ins C.cSide dx (qW B.l1 s.nextLeft))
 s2:∃ dx,H B.a2=some (.ins C.cSide dx (qW B.l2 s.nextRight))
 c0:∃ as,RL G B.lb as/\CellsAt C G as s.base
 c1:∃ as,RL H B.l1 as/\CellsAt C G as s.left
 c2:∃ as,RL H B.l2 as/\CellsAt C G as s.right
 dc:H B.dc=some (.dT (chV ch))
 co:Xs ch s
 gh:Same G H
 fr:∀ a,a∈B.muts->G a=none
 ne:B.muts.Nodup
 ok:qh s
theorem BooksAt.mono {C:Ad}{H H' G:Hp}{B:Bk}{ch:Chs}{s:Vanbki.State} (h:BooksAt C H G B ch s) (k:Same H H'):BooksAt C H' G B ch s where
 bk:=let ⟨dx,e⟩:=h.bk;⟨dx,k _ _ e⟩
 sd:=k _ _ h.sd
 s1:=let ⟨dx,e⟩:=h.s1;⟨dx,k _ _ e⟩
 s2:=let ⟨dx,e⟩:=h.s2;⟨dx,k _ _ e⟩
 c0:=h.c0
 c1:=let ⟨as,e,r⟩:=h.c1;⟨as,k _ _ e,r⟩
 c2:=let ⟨as,e,r⟩:=h.c2;⟨as,k _ _ e,r⟩
 dc:=k _ _ h.dc
 co:=h.co
 gh:=h.gh.trans k
 fr:=h.fr
 ne:=h.ne
 ok:=h.ok
structure Fr (H G:Hp) (B:Bk) (H' G':Hp) (B':Bk):Prop where
 b:B'.b=B.b
 kept:∀ a o,H a=some o->a ∉ B.muts->H' a=some o
 grow:Same G G'
 newM:∀ a,a∈B'.muts->a∈B.muts∨H a=none
 newG:∀ a o,G' a=some o->G a=some o∨H a=none
section
variable {K:PySem.W.Frag}
theorem Yl {a:Addr}{xs:List V}{g:TG}{te:TE}{vs:List Nat}{σ:L2.St}{H1:Hp}{D:Addr}{Qd:Hp->Prop} (R:Nat->V->Hp->Prop) (mono:∀ i y F F',Same F F'->R i y F->R i y F') (hx:SqL K H1 a xs) (hD:H1 D=none) (hz:xs.length<sizeLine)
 (hs:∀ (i:Nat) (x:V) (H':Hp) (P:V->Hp->Prop),xs[i]?=some x->Same H1 H'->(∃ o,H' D=some o)->(∀ y H4,Same H' H4->R i y (minus H4 D)->P y H4) ->
  g x (qK σ vs) H' fun σ2 H2=>qK σ2 vs=qK σ vs/\te σ2 H2 P)
 (hd:∀ H' ys,Same H1 H'->H' D=some (.lst ys)->ys.length=xs.length->(∀ i y,ys[i]?=some y->R i y (minus H' D))->Qd H') :
 ∃ W:Nat->Nat->Hp->Prop,(∃ m,W 0 m (upd H1 D (.lst [])))/\∀ i m H,W i m H ->
  ((Itl K a).stop i H/\Qd H)∨((Itl K a).go i H/\∃ Nx:Hp->Prop,(∀ H',Nx H'->∃ m',m'<m/\W (i+1) m' H')/\∀ x H',(Itl K a).yld i H x H'->g x (qK σ vs) H' fun σ2 H2=>qK σ2 vs=qK σ vs/\K4 σ2 H2 fun b H3 =>
   if b=true then te σ2 H3 fun y H4=>∃ acc,H4 D=some (.lst acc)/\acc.length<sizeLine/\Nx (upd H4 D (.lst (acc++[y]))) else Nx H3):=by
 refine WY (K:=K) (a:=a) (xs:=xs) (fun i H'=>Same H1 H'/\∃ ys,H' D=some (.lst ys)/\ys.length=i/\∀ j y,ys[j]?=some y->R j y (minus H' D)) ⟨Same.new hD,[],z6,rfl,fun j y h=>by simp at h⟩ (fun i H _ h=>h.1.seq hx) ?_ ?_
 . rintro i x H hi ⟨s,ys,e,hl,hr⟩
   have hlt:i<xs.length:=(List.getElem?_eq_some_iff.mp hi).1
   have q:=hs i x H (fun y H4=>∃ acc,H4 D=some (.lst acc)/\acc.length<sizeLine/\(Same H1 (upd H4 D (.lst (acc++[y])))/\∃ zs,(upd H4 D (.lst (acc++[y]))) D=some (.lst zs)/\zs.length=i+1/\∀ j z,zs[j]?=some z->R j z (minus (upd H4 D (.lst (acc++[y]))) D))) hi s ⟨_,e⟩ (fun y H4 s4 r4=>?_)
   . simp only[K4,if_true]
     exact q
   . refine⟨ys,s4 _ _ e,by omega,fun b o q=>?_,ys++[y],z6,by simp[hl],fun j z hj=>?_⟩
     . rw[z8 (z7 q hD)]
       exact s4 _ _ (s b o q)
     . rw[xI]
       by_cases hji:j<ys.length
       . rw[List.getElem?_append_left hji] at hj
         exact mono j z _ _ (Same.both s4) (hr j z hj)
       . have hjl:j<(ys++[y]).length:=(List.getElem?_eq_some_iff.mp hj).1
         have ej:j=ys.length:=by simp at hjl;omega
         subst ej
         rw[List.getElem?_append_right (Nat.le_refl _)] at hj
         simp at hj
         subst hj
         rw[hl]
         exact r4
 . rintro H ⟨s,ys,e,hl,hr⟩
   exact hd H ys s e hl hr
theorem aa7 {a:Addr}{xs:List V}{g:TG}{tb:TS}{D:V_}{σ:L2.St}{H:Hp} (Pv:Nat->L2.St->Hp->Prop) (h0:Pv 0 σ H) (hl:∀ i σ H,i<=xs.length->Pv i σ H->SqL K H a xs)
 (hs:∀ i x σ H X,xs[i]?=some x->H X=none->Pv i σ H->g (.ref X) σ (upd H X (.tup [.int (i:Nat),x])) fun σ2 H2=>tb { D with nx:=Pv (i+1),ct:=Pv (i+1),bk:=D.nx } σ2 H2) (hd:∀ σ H,Pv xs.length σ H->D.nx σ H) :
 ∃ W:Nat->Nat->L2.St->Hp->Prop,(∃ m,W 0 m σ H)/\∀ i m σ H,W i m σ H ->
  ((Ite K a).stop i H/\D.nx σ H)∨((Ite K a).go i H/\∃ N:L2.St->Hp->Prop,(∀ σ' H',N σ' H'->∃ m',m'<m/\W (i+1) m' σ' H')/\∀ x H',(Ite K a).yld i H x H'->g x σ H' fun σ2 H2=>tb { D with nx:=N,ct:=N,bk:=D.nx } σ2 H2):=by
 refine⟨fun i m σ H=>m=xs.length - i/\i<=xs.length/\Pv i σ H,⟨xs.length,by simp,Nat.zero_le _,h0⟩,?_⟩
 rintro i m σ H ⟨rfl,hi,p⟩
 have q:=hl i σ H hi p
 by_cases hlt:i<xs.length
 . refine .inr ⟨⟨xs,xs[i],q,by simp[hlt]⟩,Pv (i+1),fun σ' H' p'=>⟨xs.length - (i+1),by omega,rfl,hlt,p'⟩,fun x H' y=>?_⟩
   obtain⟨X,z,rfl,hX,rfl,y⟩:=y
   exact hs i z σ _ X (y xs q) hX p
 . have e:i=xs.length:=by omega
   subst e
   exact .inl ⟨⟨xs,q,Nat.le_refl _⟩,hd σ H p⟩
theorem Q_ {a:Addr}{xs:List V}{g:TG}{tt:TT}{te:TE}{vs:List Nat}{σ:L2.St}{H1:Hp}{D:Addr}{Qd:Hp->Prop} (ys:List (Option V)) (hlen:ys.length=xs.length) (hx:SqL K H1 a xs) (hD:H1 D=none) (hz:xs.length<sizeLine)
 (hs:∀ (i:Nat) (x:V) (y:Option V) (H':Hp) (P:V->Hp->Prop) (N:Hp->Prop),xs[i]?=some x->ys[i]?=some y->Same H1 H'->(∀ z,y=some z->∀ H4,Same H' H4->P z H4)->(y=none->∀ H4,Same H' H4->N H4) ->
  g x (qK σ vs) H' fun σ2 H2=>qK σ2 vs=qK σ vs/\tt σ2 H2 fun b H3=>if b=true then te σ2 H3 P else N H3)
 (hd:∀ H',Same H1 H'->H' D=some (.lst (ys.filterMap id))->Qd H') :
 ∃ W:Nat->Nat->Hp->Prop,(∃ m,W 0 m (upd H1 D (.lst [])))/\∀ i m H,W i m H ->
  ((Itl K a).stop i H/\Qd H)∨((Itl K a).go i H/\∃ Nx:Hp->Prop,(∀ H',Nx H'->∃ m',m'<m/\W (i+1) m' H')/\∀ x H',(Itl K a).yld i H x H'->g x (qK σ vs) H' fun σ2 H2=>qK σ2 vs=qK σ vs/\tt σ2 H2 fun b H3 =>
   if b=true then te σ2 H3 fun y H4=>∃ acc,H4 D=some (.lst acc)/\acc.length<sizeLine/\Nx (upd H4 D (.lst (acc++[y]))) else Nx H3):=by
 refine WY (K:=K) (a:=a) (xs:=xs) (fun i H'=>Same H1 H'/\H' D=some (.lst ((ys.take i).filterMap id))) ⟨Same.new hD,z6⟩ (fun i H _ h=>h.1.seq hx) ?_ ?_
 . rintro i x H hi ⟨s,e⟩
   have hlt:i<ys.length:=by rw[hlen];exact (List.getElem?_eq_some_iff.mp hi).1
   have hy:ys[i]?=some ys[i]:=List.getElem?_eq_getElem hlt
   have hsn:ys.take (i+1)=ys.take i++[ys[i]]:=by
    rw[List.take_succ,hy]
    rfl
   refine hs i x _ H _ _ hi hy s (fun z hp H4 s4=>?_) (fun hp H4 s4=>?_)
   . refine⟨_,s4 _ _ e,?_,fun b o q=>?_,?_⟩
     . have:=List.length_filterMap_le id (ys.take i)
       rw[List.length_take] at this
       omega
     . rw[z8 (z7 q hD)]
       exact s4 _ _ (s b o q)
     . rw[z6,hsn,List.filterMap_append]
       simp[hp]
   . refine⟨s.trans s4,?_⟩
     rw[s4 _ _ e,hsn,List.filterMap_append]
     simp[hp]
 . rintro H ⟨s,e⟩
   rw[<-hlen,List.take_length] at e
   exact hd H s e
theorem Za {a:Addr}{xs:List V}{g:TG}{te:TE}{vs:List Nat}{σ:L2.St}{H1:Hp}{D:Addr}{Qd:Hp->Prop} (ys:List V) (hlen:ys.length=xs.length) (hx:SqL K H1 a xs) (hD:H1 D=none) (hz:xs.length<sizeLine)
 (hs:∀ (i:Nat) (x y:V) (H':Hp) (P:V->Hp->Prop),xs[i]?=some x->ys[i]?=some y->Same H1 H'->(∀ H4,Same H' H4->P y H4) ->
  g x (qK σ vs) H' fun σ2 H2=>qK σ2 vs=qK σ vs/\te σ2 H2 P)
 (hd:∀ H',Same H1 H'->H' D=some (.lst ys)->Qd H') :
 ∃ W:Nat->Nat->Hp->Prop,(∃ m,W 0 m (upd H1 D (.lst [])))/\∀ i m H,W i m H ->
  ((Itl K a).stop i H/\Qd H)∨((Itl K a).go i H/\∃ Nx:Hp->Prop,(∀ H',Nx H'->∃ m',m'<m/\W (i+1) m' H')/\∀ x H',(Itl K a).yld i H x H'->g x (qK σ vs) H' fun σ2 H2=>qK σ2 vs=qK σ vs/\K4 σ2 H2 fun b H3 =>
   if b=true then te σ2 H3 fun y H4=>∃ acc,H4 D=some (.lst acc)/\acc.length<sizeLine/\Nx (upd H4 D (.lst (acc++[y]))) else Nx H3):=by
 refine Q_ (K:=K) (ys.map some) (by rw[List.length_map];exact hlen) hx hD hz (fun i x y H' P N hi hy s hP hN=>?_) (fun H' s e=>hd H' s ?_)
 . rw[List.getElem?_map] at hy
   cases q:ys[i]? with
   | none=>rw[q] at hy;cases hy
   | some z =>
    rw[q] at hy
    have e:some z=y:=Option.some.inj hy
    subst e
    have:=hs i x z H' P hi q s (hP z rfl)
    simp only[K4,if_true]
    exact this
 . rw[e]
   congr 2
   rw[List.filterMap_map]
   simp
end
end Tb
end
section
namespace Tb
open PySem PySem.Spec PyProof.Rows L2
open Vanbki (nats ofNat markNat numbers)
def abW:Option Nat->V
 | none=>.non
 | some n=>.int n
def OptCell (C:Ad) (H:Hp) (r:V):Option Vanbki.Cell->Prop
 | none=>r=.non
 | some c=>∃ a,r=.ref a/\CellAt C H a c
def U5 (H:Hp) (r:V):Option Vanbki.Text->Prop
 | none=>r=.non
 | some t=>∃ a,r=.ref a/\IL H a (nats t)
section
variable (C:Ad)
def qM:Sp:=fun vs H Q _=>∃ p dx n m q,vs=[.ref p,.int n,.int m,.ref q]/\H p=some (.ins C.cCell dx [])/\Q .non (upd H p (.ins C.cCell dx (k5 n m q)))
def kZ:Sp:=fun vs H Q _=>∃ p dx n m q,vs=[.ref p,.int n,.int m,.ref q]/\H p=some (.ins C.cChange dx [])/\Q .non (upd H p (.ins C.cChange dx (wa n m q)))
def zY:Sp:=fun vs H Q _=>∃ p dx c l r,vs=[.ref p,.ref c,.int l,.int r]/\H p=some (.ins C.cMergedCell dx [])/\Q .non (upd H p (.ins C.cMergedCell dx (jZ c l r)))
def wn:Sp:=fun vs H Q _=>∃ p dx n l,vs=[.ref p,.int n,.ref l]/\H p=some (.ins C.cOutcome dx [])/\Q .non (upd H p (.ins C.cOutcome dx (Ws n l)))
def jq:Sp:=fun vs H Q _=>∃ p dx l xs k,vs=[.ref p,.ref l,.int k]/\H p=some (.ins C.cSide dx [])/\H l=some (.lst xs)/\∀ q,H q=none->Q .non (upd (upd H q (.lst xs)) p (.ins C.cSide dx (qW q k)))
def uP:Sp:=fun vs H Q _=>∃ a ns,vs=[.ref a]/\IL H a ns/\ns.length<=16000/\∀ H',Same H H'->Q (.bl (Vanbki.bytes ns)) H'
def j8:Sp:=fun vs H Q _=>∃ a as tss,vs=[.ref a]/\RL H a as/\Paired (IL H) as tss/\as.length<=16000/\(∀ t,t∈tss->t.length<=16000)/\∀ H',Same H H'->Q (.int (jb tss)) H'
def jj:Sp:=fun vs H Q _=>∃ l as d n,vs=[.ref l,.int n]/\RL H l as/\CellsAt C H as d/\∀ H',Same H H'->Q (abW (jB d n)) H'
def vm:Sp:=fun vs H Q _=>∃ l as d n,vs=[.ref l,.int n]/\RL H l as/\CellsAt C H as d/\∀ H' r,Same H H'->(∀ G,Same G H->CellsAt C G as d->OptCell C G r (vc d n))->Q r H'
def jz:Sp:=fun vs H Q _=>∃ l as d,vs=[.ref l]/\RL H l as/\CellsAt C H as d/\d.length<=1000/\∀ H' p,Same H H'->H p=none->IL H' p (nats (numbers d))->Q (.ref p) H'
def vX:Sp:=fun vs H Q _=>∃ l as d n,vs=[.ref l,.int n]/\RL H l as/\CellsAt C H as d/\∀ H',Same H H'->Q (abW (y8 d n)) H'
def kh:Sp:=fun vs H Q _=>∃ l as d,vs=[.ref l]/\RL H l as/\CellsAt C H as d/\d.length<=1000/\∀ H',Same H H'->Q (.int ((Vanbki.greatest (numbers d):Int)+1)) H'
end
section
variable {C:Ad}{H1:Hp}{Q:VK}
theorem jr {x dx c:Addr}{fs:List (Str × V)} (nx:H1 x=none) (nd:H1 dx=none):Same H1 (upd (upd (upd H1 dx (.own x)) x (.ins c dx [])) x (.ins c dx fs)):=fun b o e=>by
 rw[z8 (z7 e nx),z8 (z7 e nx),z8 (z7 e nd)]
 exact e
theorem UQ {n m:Int}{q:Addr} (h:∀ x dx H2,H1 x=none->Same H1 H2->H2 x=some (.ins C.cChange dx (wa n m q))->Q (.ref x) H2) :
 ∀ x dx,H1 x=none->H1 dx=none->dx≠x->kZ C (.ref x::([.int n,.int m,.ref q]++[])) (upd (upd H1 dx (.own x)) x (.ins C.cChange dx [])) (fun v H2=>v=.non/\Q (.ref x) H2) E0:=fun x dx nx nd ne =>
 ⟨x,dx,n,m,q,rfl,z6,rfl,h x dx _ nx (jr nx nd) z6⟩
theorem abX {l:Addr}{xs:List V}{k:Int} (hl:H1 l=some (.lst xs)) (h:∀ x dx q H2,H1 x=none->H1 q=none->q≠x->Same H1 H2->H2 x=some (.ins C.cSide dx (qW q k))->H2 q=some (.lst xs)->Q (.ref x) H2) :
 ∀ x dx,H1 x=none->H1 dx=none->dx≠x->jq C (.ref x::([.ref l,.int k]++[])) (upd (upd H1 dx (.own x)) x (.ins C.cSide dx [])) (fun v H2=>v=.non/\Q (.ref x) H2) E0:=fun x dx nx nd ne=>by
 refine⟨x,dx,l,xs,k,rfl,z6,?_,fun q hq=>⟨rfl,?_⟩⟩
 . rw[z8 (z7 hl nx),z8 (z7 hl nd)]
   exact hl
 . have qx:q≠x:=fun e=>by rw[e,z6] at hq;cases hq
   have qd:q≠dx:=fun e=>by rw[e,z8 ne,z6] at hq;cases hq
   have q0:H1 q=none:=by rw[z8 qx,z8 qd] at hq;exact hq
   refine h x dx q _ nx q0 qx (fun b o e=>?_) z6 ?_
   . rw[z8 (z7 e nx),z8 (z7 e q0),z8 (z7 e nx),z8 (z7 e nd)]
     exact e
   . rw[z8 qx,z6]
end
end Tb
end
section
namespace Tb
open PySem PySem.Spec PyProof.Rows L2
open Vanbki (nats ofNat markNat numbers)
section
variable {P:Program}{w:World}{K:PySem.W.Frag}{mg:Str->Option Value}{base:Heap}{C:Ad}{f:Addr}{fd:FuncData}
theorem Ym (F:Fun K "__init__" "Cell.__init__" yX f fd) (T:Txt K mg C):zU P w K mg base CX0 1 f fd ["self","number","mark","text"] (qM C):=by
 refine F.ok Yg (fun vs H Q E h=>?_) (fun cdv A outer s H vs Q E hr h=>?_)
 . obtain⟨p,dx,n,m,q,rfl,_⟩:=h
   rfl
 . obtain⟨p,dx,n,m,q,rfl,hp,k⟩:=h
   refine⟨_,(z5 (qE (pv 0) (pv 1) rfl)
    (z5 (qE (pv 0) (pv 2) rfl)
    (za (qE (pv 0) (pv 3) rfl)))),?_⟩
   refine⟨_,rfl,_,rfl,p,C.cCell,dx,_,rfl,hp,T.c_Cell,T.n_Cell_number,(by show 0<1000;decide),?_⟩
   refine⟨_,rfl,_,rfl,p,C.cCell,dx,_,rfl,z6,T.c_Cell,T.n_Cell_mark,(by show 1<1000;decide),?_⟩
   refine⟨_,rfl,_,rfl,p,C.cCell,dx,_,rfl,z6,T.c_Cell,T.n_Cell_text,(by show 2<1000;decide),?_⟩
   show Q .non _
   rw[kb,kb]
   exact k
theorem Kh (F:Fun K "__init__" "Change.__init__" vw f fd) (T:Txt K mg C):zU P w K mg base CX0 1 f fd ["self","begin","end","new_lines"] (kZ C):=by
 refine F.ok Ke (fun vs H Q E h=>?_) (fun cdv A outer s H vs Q E hr h=>?_)
 . obtain⟨p,dx,n,m,q,rfl,_⟩:=h
   rfl
 . obtain⟨p,dx,n,m,q,rfl,hp,k⟩:=h
   refine⟨_,(z5 (qE (pv 0) (pv 1) rfl)
    (z5 (qE (pv 0) (pv 2) rfl)
    (za (qE (pv 0) (pv 3) rfl)))),?_⟩
   refine⟨_,rfl,_,rfl,p,C.cChange,dx,_,rfl,hp,T.c_Change,T.n_Change_begin,(by show 0<1000;decide),?_⟩
   refine⟨_,rfl,_,rfl,p,C.cChange,dx,_,rfl,z6,T.c_Change,T.n_Change_end,(by show 1<1000;decide),?_⟩
   refine⟨_,rfl,_,rfl,p,C.cChange,dx,_,rfl,z6,T.c_Change,T.n_Change_new_lines,(by show 2<1000;decide),?_⟩
   show Q .non _
   rw[kb,kb]
   exact k
theorem Zb (F:Fun K "__init__" "MergedCell.__init__" jH f fd) (T:Txt K mg C):zU P w K mg base CX0 1 f fd ["self","cell","on_left","on_right"] (zY C):=by
 refine F.ok Z7 (fun vs H Q E h=>?_) (fun cdv A outer s H vs Q E hr h=>?_)
 . obtain⟨p,dx,n,m,q,rfl,_⟩:=h
   rfl
 . obtain⟨p,dx,n,m,q,rfl,hp,k⟩:=h
   refine⟨_,(z5 (qE (pv 0) (pv 1) rfl)
    (z5 (qE (pv 0) (pv 2) rfl)
    (za (qE (pv 0) (pv 3) rfl)))),?_⟩
   refine⟨_,rfl,_,rfl,p,C.cMergedCell,dx,_,rfl,hp,T.c_MergedCell,T.n_MergedCell_cell,(by show 0<1000;decide),?_⟩
   refine⟨_,rfl,_,rfl,p,C.cMergedCell,dx,_,rfl,z6,T.c_MergedCell,T.n_MergedCell_on_left,(by show 1<1000;decide),?_⟩
   refine⟨_,rfl,_,rfl,p,C.cMergedCell,dx,_,rfl,z6,T.c_MergedCell,T.n_MergedCell_on_right,(by show 2<1000;decide),?_⟩
   show Q .non _
   rw[kb,kb]
   exact k
theorem Jk (F:Fun K "__init__" "Outcome.__init__" kN f fd) (T:Txt K mg C):zU P w K mg base CX0 1 f fd ["self","refusal","merged"] (wn C):=by
 refine F.ok Jg (fun vs H Q E h=>?_) (fun cdv A outer s H vs Q E hr h=>?_)
 . obtain⟨p,dx,n,q,rfl,_⟩:=h
   rfl
 . obtain⟨p,dx,n,q,rfl,hp,k⟩:=h
   refine⟨_,(z5 (qE (pv 0) (pv 1) rfl)
    (za (qE (pv 0) (pv 2) rfl))),?_⟩
   refine⟨_,rfl,_,rfl,p,C.cOutcome,dx,_,rfl,hp,T.c_Outcome,T.n_Outcome_refusal,(by show 0<1000;decide),?_⟩
   refine⟨_,rfl,_,rfl,p,C.cOutcome,dx,_,rfl,z6,T.c_Outcome,T.n_Outcome_merged,(by show 1<1000;decide),?_⟩
   show Q .non _
   rw[kb]
   exact k
theorem Yn (F:Fun K "__init__" "Side.__init__" yY f fd) (T:Txt K mg C):zU P w K mg base CX0 1 f fd ["self","cells","next_number"] (jq C):=by
 refine F.ok Yh (fun vs H Q E h=>?_) (fun cdv A outer s H vs Q E hr h=>?_)
 . obtain⟨p,dx,l,xs,n,rfl,_⟩:=h
   rfl
 . obtain⟨p,dx,l,xs,n,rfl,hp,hl,k⟩:=h
   refine⟨_,(z5 (qE (pv 0) (Vt ZI (by rfl) T.b_list U3 (z4 (pv 1) z9)) rfl)
    (za (qE (pv 0) (pv 2) rfl))),?_⟩
   refine⟨_,rfl,l,_,rfl,.inl (SqL.of hl),fun q hq=>?_⟩
   have pq:p≠q:=z7 hp hq
   refine⟨_,rfl,p,C.cSide,dx,_,rfl,(by rw[z8 pq];exact hp),T.c_Side,T.n_Side_cells,(by show 0<1000;decide),?_⟩
   refine⟨_,rfl,_,rfl,p,C.cSide,dx,_,rfl,z6,T.c_Side,T.n_Side_next_number,(by show 1<1000;decide),?_⟩
   show Q .non _
   rw[kb]
   exact k q hq
theorem KY (F:Fun K "only_bytes" "only_bytes" yg f fd) (T:Txt K mg C):zU P w K mg base CX0 1 f fd ["text"] (uP):=by
 refine F.ok sc_only_bytes (fun vs H Q E h=>?_) (fun cdv A outer s H vs Q E hr h=>?_)
 . obtain⟨a,ns,rfl,_⟩:=h
   rfl
 . obtain⟨a,ns,rfl,ha,hl,k⟩:=h
   refine⟨_,(za (zg (zP (aaN rfl) (by rfl) T.b_all aa4 (z4 (wU rfl sc_only_bytes.nd (qa (pv 0)) (qy (own:=[("number",1)]) (by kernel_rfl)) (fun _ _ _ _ _=>(zJ (i:=1) sc_only_bytes.nd rfl (Or.inl rfl))) (fun _ _ _ _ _=>ke) (fun _ _ _ _ _=>(aaF X9 X9 zB (pv 1) (pgi T.g_GREATEST_BYTE)))) z9)))),?_⟩
   refine⟨_,rfl,a,rfl,⟨_,SqL.of ha⟩,fun D hD=>?_⟩
   refine Za (K:=K) (xs:=ns.map V.int) ((ns.map fun n=>decide (0<=n) && decide (n<=255)).map V.bl) (by simp) (SqL.of ha) hD (by rw[List.length_map];exact Nat.lt_of_le_of_lt hl (by decide)) (fun i x y H' P' hi hy s1 hP=>?_) (fun H' s1 e=>?_)
   . obtain⟨n,hn,rfl⟩:=aa6 hi
     have ey:y=.bl (decide (0<=n) && decide (n<=255)):=by
      rw[List.getElem?_map,List.getElem?_map,hn] at hy
      exact (Option.some.inj hy).symm
     subst ey
     have q:=hP H' (Same.refl _)
     refine⟨rfl,_,rfl,_,_,rfl,rfl,_,rfl,?_⟩
     by_cases h0:0<=n
     . rw[decide_eq_true h0]
       refine zF ⟨_,_,rfl,rfl,?_⟩
       simpa [h0] using q
     . rw[decide_eq_false h0]
       refine zy ?_
       simpa [h0] using q
   . refine⟨D,_,rfl,SqL.of e,?_⟩
     have eb:(ns.map (fun n=>decide (0<=n) && decide (n<=255))).all id=Vanbki.bytes ns:=by
      rw[List.all_map]
      rfl
     rw[eb]
     exact k H' s1
theorem uA {f1:Addr}{fd1:FuncData} (F:Fun K "refusal_of_texts" "refusal_of_texts" jl f fd) (T:Txt K mg C) (D_only_bytes:Def P w K mg base "only_bytes" 1 ["text"] (uP) f1 fd1):zU P w K mg base CX0 2 f fd ["texts"] (j8):=by
 refine F.ok sc_refusal_of_texts (fun vs H Q E h=>?_) (fun cdv A outer s H vs Q E hr h=>?_)
 . obtain⟨a,as,ts,rfl,_⟩:=h
   rfl
 . obtain⟨a,as,ts,rfl,ha,hp,hl,ht,k⟩:=h
   have hlen:=zk hp
   have hz:(as.map V.ref).length<sizeLine:=by rw[List.length_map];exact Nat.lt_of_le_of_lt hl (by decide)
   refine⟨_,(z5 (zC (acf (Qy (zP (aaN rfl) (by rfl) T.b_all aa4 (z4 (wU rfl sc_refusal_of_texts.nd (qa (pv 0)) (qy (own:=[("text",1)]) (by kernel_rfl)) (fun _ _ _ _ _=>(zJ (i:=1) sc_refusal_of_texts.nd rfl (Or.inl rfl))) (fun _ _ _ _ _=>ke) (fun _ _ _ _ _=>(ze D_only_bytes (hr.mono (by decide)) (z4 (pv 1) z9)))) z9)))) (za (zg (pgi T.g_NO_BYTE))) zj)
    (z5 (zC (Qy (zP (aaM rfl) (by rfl) T.b_any aa5 (z4 (wU rfl sc_refusal_of_texts.nd (qa (pv 0)) (qy (own:=[("text",1)]) (by kernel_rfl)) (fun _ _ _ _ _=>(zJ (i:=1) sc_refusal_of_texts.nd rfl (Or.inl rfl))) (fun _ _ _ _ _=>ke) (fun _ _ _ _ _=>(um QW (zP (abV (K:=K) rfl) (by rfl) T.b_len qR (z4 (pv 1) z9)) (pgi T.g_MOST_BYTES) (zz _)))) z9))) (za (zg (pgi T.g_TEXT_TOO_LONG))) zj)
    (za (zg (pgi T.g_NO_REFUSAL))))),?_⟩
   refine⟨_,rfl,a,rfl,⟨_,SqL.of ha⟩,fun D hD=>?_⟩
   refine Za (K:=K) (xs:=as.map V.ref) ((ts.map Vanbki.bytes).map V.bl) (by simp[hlen]) (SqL.of ha) hD hz (fun i x y H' P' hi hy s1 hP=>?_) (fun H1 s1 e=>?_)
   . obtain⟨b,hb,rfl⟩:=qF hi
     obtain⟨t,ht1,ht2⟩:=zG hp hb
     have ey:y=.bl (Vanbki.bytes t):=by
      rw[List.getElem?_map,List.getElem?_map,ht1] at hy
      exact (Option.some.inj hy).symm
     subst ey
     exact⟨rfl,_,rfl,b,t,rfl,s1 _ _ ht2,ht t (List.mem_of_getElem? ht1),fun H4 s4=>hP H4 s4⟩
   . refine⟨D,_,rfl,SqL.of e,_,rfl,?_⟩
     have eb:(ts.map Vanbki.bytes).all id=ts.all Vanbki.bytes:=by
      rw[List.all_map]
      rfl
     rw[eb]
     cases q1:ts.all Vanbki.bytes with
     | false =>
      refine zF ?_
      have q:=k H1 s1
      unfold jb at q
      rw[q1] at q
      exact q
     | true =>
      refine zy ?_
      refine⟨_,rfl,a,rfl,⟨_,SqL.of (s1 _ _ ha)⟩,fun D hD=>?_⟩
      refine Za (K:=K) (xs:=as.map V.ref) ((ts.map Vanbki.tooLong).map V.bl) (by simp[hlen]) (SqL.of (s1 _ _ ha)) hD hz (fun i x y H' P' hi hy s2 hP=>?_) (fun H2 s2 e=>?_)
      . obtain⟨b,hb,rfl⟩:=qF hi
        obtain⟨t,ht1,ht2⟩:=zG hp hb
        have ey:y=.bl (Vanbki.tooLong t):=by
         rw[List.getElem?_map,List.getElem?_map,ht1] at hy
         exact (Option.some.inj hy).symm
        subst ey
        refine⟨rfl,_,rfl,b,_,rfl,.inl (SqL.of (s2 _ _ (s1 _ _ ht2))),_,_,rfl,rfl,?_⟩
        have q:=hP H' (Same.refl _)
        have e1:Vanbki.tooLong t=decide ((200:Int)<((t.map V.int).length:Nat)):=by
         unfold Vanbki.tooLong Vanbki.LONG
         rw[List.length_map]
         by_cases h:200<t.length
         . rw[decide_eq_true h,decide_eq_true (by omega)]
         . rw[decide_eq_false h,decide_eq_false (by omega)]
        rw[e1] at q
        exact q
      . refine⟨D,_,rfl,SqL.of e,_,rfl,?_⟩
        have eb:(ts.map Vanbki.tooLong).any id=ts.any Vanbki.tooLong:=by
         rw[List.any_map]
         rfl
        rw[eb]
        have q:=k H2 (s1.trans s2)
        unfold jb at q
        rw[q1,if_pos rfl] at q
        cases q2:ts.any Vanbki.tooLong with
        | true =>
         rw[q2] at q
         exact zF q
        | false =>
         rw[q2] at q
         exact zy q
theorem Xt (F:Fun K "place_of" "place_of" xZ f fd) (T:Txt K mg C):zU P w K mg base CX0 1 f fd ["cells","number"] (jj C):=by
 refine F.ok sc_place_of (fun vs H Q E h=>?_) (fun cdv A outer s H vs Q E hr h=>?_)
 . obtain⟨l,as,d,n,rfl,_⟩:=h
   rfl
 . obtain⟨l,as,d,n,rfl,hl,hc,k⟩:=h
   refine⟨_,(z5 (kK PassesOwn.never rfl (abM (by rfl) T.b_enumerate (z4 (pv 0) z9)) (Y2 rfl (k7 (zJ (i:=2) sc_place_of.nd rfl (Or.inl rfl)) (k7 (zJ (i:=3) sc_place_of.nd rfl (Or.inl rfl)) ZD))) (za (zC (zo qN (zf (pv 3) rfl) (pv 1) (zz _)) (za (zg (pv 2))) zj)))
    (za (zg wM))),?_⟩
   refine⟨_,rfl,l,_,rfl,SqL.of hl,aa7 (K:=K) (xs:=as.map V.ref) (fun i σ H'=>(∃ v1 v2,σ=[some (.ref l),some (.int n),v1,v2])/\Same H H'/\∀ (j:Nat) (c:Vanbki.Cell),j<i->d[j]?=some c->(c.number:Int)≠n)
    ⟨⟨none,none,rfl⟩,Same.refl _,fun j c h=>absurd h (Nat.not_lt_zero _)⟩ (fun i σ H' _ h=>SqL.of (h.2.1 _ _ hl)) ?_ ?_⟩
   . rintro i x σ H' X hi hX ⟨⟨v1,v2,rfl⟩,s1,hm⟩
     obtain⟨a,ha,rfl⟩:=qF hi
     obtain⟨c,hc1,dx,q,e1,e2⟩:=zG hc ha
     have s2:=s1.trans (Same.new (o:=.tup [.int (i:Nat),.ref a]) hX)
     refine⟨X,_,rfl,SqT.of z6,rfl,_,_,rfl,_,_,rfl,rfl,?_⟩
     refine⟨_,rfl,a,C.cCell,dx,_,_,rfl,s2 _ _ e1,T.c_Cell,T.n_Cell_number,zE _ _ _,_,rfl,rfl,_,rfl,wY (fun hh=>?_) (fun hh=>?_)⟩
     . have e:(c.number:Int)=n:=by simpa using hh
       refine⟨_,rfl,?_⟩
       have q:=k _ s2
       rw[X_ hc1 e hm] at q
       exact q
     . refine⟨⟨_,_,rfl⟩,s2,fun j c' hj hc'=>?_⟩
       rcases Nat.lt_succ_iff_lt_or_eq.mp hj with z | z
       . exact hm j c' z hc'
       . subst z
         rw[hc1] at hc'
         cases hc'
         simpa using hh
   . rintro σ H' ⟨_,s1,hm⟩
     have q:=k H' s1
     rw[X0 fun j c hc'=>hm j c (by
      have:=(List.getElem?_eq_some_iff.mp hc').1
      rw[List.length_map,zk hc]
      exact this) hc'] at q
     exact q
theorem Wt {f1:Addr}{fd1:FuncData} (F:Fun K "cell_of" "cell_of" ur f fd) (T:Txt K mg C) (D_place_of:Def P w K mg base "place_of" 1 ["cells","number"] (jj C) f1 fd1):zU P w K mg base CX0 2 f fd ["cells","number"] (vm C):=by
 refine F.ok sc_cell_of (fun vs H Q E h=>?_) (fun cdv A outer s H vs Q E hr h=>?_)
 . obtain⟨l,as,d,n,rfl,_⟩:=h
   rfl
 . obtain⟨l,as,d,n,rfl,hl,hc,k⟩:=h
   refine⟨_,(z5 (zi (i:=2) sc_cell_of.nd rfl (Or.inl rfl) (ze D_place_of (hr.mono (by decide)) (z4 (pv 0) (z4 (pv 1) z9))))
    (z5 (zC (qD (jD (pv 2))) (za (zg wM)) zj)
    (za (zg (qk qb (pv 0) (pv 2) (fun _ _=>rfl)))))),?_⟩
   refine⟨_,rfl,_,rfl,l,as,d,n,rfl,hl,hc,fun H1 s1=>?_⟩
   cases e:jB d n with
   | none =>
    refine⟨_,rfl,_,rfl,zF ?_⟩
    refine k H1 .non s1 fun G _ _=>?_
    rw[placeI_none.mp e]
    rfl
   | some i =>
    obtain⟨c,h1,h2,h3,_⟩:=jg e
    obtain⟨a,ha⟩:∃ a,as[i]?=some a:=by
     have:=(List.getElem?_eq_some_iff.mp h1).1
     rw[<-zk hc] at this
     exact⟨_,List.getElem?_eq_getElem this⟩
    refine⟨_,rfl,_,rfl,zy ?_⟩
    refine⟨_,rfl,_,rfl,l,_,_,_,rfl,rfl,SqL.of (s1 _ _ hl),zV (by rw[List.getElem?_map,ha];rfl),?_⟩
    refine k H1 _ s1 fun G _ hG=>?_
    rw[h3]
    obtain⟨c',hc',hca⟩:=zG hG ha
    rw[h1] at hc'
    cases hc'
    exact⟨a,rfl,hca⟩
theorem KZ (F:Fun K "numbers_of" "numbers_of" yh f fd) (T:Txt K mg C):zU P w K mg base CX0 1 f fd ["cells"] (jz C):=by
 refine F.ok sc_numbers_of (fun vs H Q E h=>?_) (fun cdv A outer s H vs Q E hr h=>?_)
 . obtain⟨l,as,d,rfl,_⟩:=h
   rfl
 . obtain⟨l,as,d,rfl,hl,hc,hz,k⟩:=h
   refine⟨_,(za (zg (wU rfl sc_numbers_of.nd (qa (pv 0)) (qy (own:=[("cell",1)]) (by kernel_rfl)) (fun _ _ _ _ _=>(zJ (i:=1) sc_numbers_of.nd rfl (Or.inl rfl))) (fun _ _ _ _ _=>ke) (fun _ _ _ _ _=>(jG (K:=K) rfl (pv 1) rfl))))),?_⟩
   refine⟨_,rfl,l,rfl,⟨_,SqL.of hl⟩,fun D hD=>?_⟩
   have hlen:=zk hc
   refine Za (K:=K) (xs:=as.map V.ref) ((nats (numbers d)).map V.int) (by simp[nats,numbers,hlen]) (SqL.of hl) hD (by rw[List.length_map,hlen];exact Nat.lt_of_le_of_lt hz (by decide)) (fun i x y H' P' hi hy s1 hP=>?_) (fun H1 s1 e=>k H1 D s1 hD e)
   obtain⟨b,hb,rfl⟩:=qF hi
   obtain⟨c,hc1,dx,q,e1,e2⟩:=zG hc hb
   have ey:y=.int c.number:=by
    unfold nats numbers at hy
    rw[List.getElem?_map,List.getElem?_map,List.getElem?_map,hc1] at hy
    exact (Option.some.inj hy).symm
   subst ey
   exact⟨rfl,_,rfl,b,C.cCell,dx,_,_,rfl,s1 _ _ e1,T.c_Cell,T.n_Cell_number,zE _ _ _,hP H' (Same.refl _)⟩
theorem Jl {f1:Addr}{fd1:FuncData} (F:Fun K "place_behind" "place_behind" kO f fd) (T:Txt K mg C) (D_place_of:Def P w K mg base "place_of" 1 ["cells","number"] (jj C) f1 fd1):zU P w K mg base CX0 2 f fd ["cells","after"] (vX C):=by
 refine F.ok sc_place_behind (fun vs H Q E h=>?_) (fun cdv A outer s H vs Q E hr h=>?_)
 . obtain⟨l,as,d,n,rfl,_⟩:=h
   rfl
 . obtain⟨l,as,d,n,rfl,hl,hc,k⟩:=h
   refine⟨_,(z5 (zC (zo qN (pv 1) zB (zz _)) (za (zg zB)) zj)
    (z5 (zi (i:=2) sc_place_behind.nd rfl (Or.inl rfl) (ze D_place_of (hr.mono (by decide)) (z4 (pv 0) (z4 (pv 1) z9))))
    (z5 (zC (qD (jD (pv 2))) (za (zg wM)) zj)
    (za (zg (jE xV (pv 2) zB)))))),?_⟩
   refine⟨_,rfl,rfl,_,rfl,wY (fun hh=>?_) (fun hh=>?_)⟩
   . have e:n=0:=by simpa using hh
     have q:=k H (Same.refl _)
     unfold y8 at q
     rw[if_pos e] at q
     exact q
   . have e:¬n=0:=by simpa using hh
     refine⟨_,rfl,_,rfl,l,as,d,n,rfl,hl,hc,fun H1 s1=>?_⟩
     have q:=k H1 s1
     unfold y8 at q
     rw[if_neg e] at q
     cases e:jB d n with
     | none =>
      rw[e] at q
      exact⟨_,rfl,_,rfl,zF q⟩
     | some i =>
      rw[e] at q
      exact⟨_,rfl,_,rfl,zy ⟨_,rfl,_,_,rfl,rfl,q⟩⟩
theorem Jm {f1:Addr}{fd1:FuncData} (F:Fun K "number_above" "number_above" kP f fd) (T:Txt K mg C) (D_numbers_of:Def P w K mg base "numbers_of" 1 ["cells"] (jz C) f1 fd1):zU P w K mg base CX0 2 f fd ["cells"] (kh C):=by
 refine F.ok Jh (fun vs H Q E h=>?_) (fun cdv A outer s H vs Q E hr h=>?_)
 . obtain⟨l,as,d,rfl,_⟩:=h
   rfl
 . obtain⟨l,as,d,rfl,hl,hc,hz,k⟩:=h
   refine⟨_,(za (zg (jE xV (abS T.b_max (ze D_numbers_of (hr.mono (by decide)) (z4 (pv 0) z9)) zB) zB))),?_⟩
   refine⟨_,rfl,l,as,d,rfl,hl,hc,hz,fun H1 p s1 hp e=>⟨p,nats (numbers d),rfl,SqL.of e,fun h0=>?_,fun m h1 h2=>?_⟩⟩
   . refine⟨_,_,rfl,rfl,?_⟩
     have q:=k H1 s1
     have e0:numbers d=[]:=by simpa [nats] using h0
     rw[e0] at q
     exact q
   . refine⟨_,_,rfl,rfl,?_⟩
     rw[VW h1 h2]
     exact k H1 s1
end
end Tb
end
section
namespace Tb
open PySem PySem.Spec PyProof.Rows L2
open Vanbki (nats ofNat markNat numbers linesOf unlines inCommon changeOf)
theorem Ki {K:PySem.W.Frag}{H:Hp}:∀ ns:List Int,uM K H (ns.map V.int) (ns.map PyData.int)
 | []=>.nil
 | n::ns=>.cons (.int n) (Ki ns)
theorem vO {K:PySem.W.Frag}{H:Hp}{a:Addr}{ns:List Int} (h:IL H a ns):Dp K H (.ref a) (kI ns):=.lst (SqL.of h) (Ki ns)
theorem wo {α β:Type}{R:α->β->Prop}:∀ {as:List α}{bs:List β}{b:β},Paired R as (bs++[b])->∃ as0 z,as=as0++[z]/\Paired R as0 bs/\R z b
 | _,[],b,h=>by
  cases h with
  | cons r t=>cases t;exact⟨[],_,rfl,.nil,r⟩
 | _,c::bs,b,h=>by
  cases h with
  | cons r t =>
   obtain⟨as0,z,rfl,h1,h2⟩:=wo t
   exact⟨_::as0,z,rfl,.cons r h1,h2⟩
theorem J0 {H H':Hp}{as:List Addr}{ts:List (List Int)} (h:Paired (IL H) as ts) (k:∀ a,a∈as->∀ o,H a=some o->H' a=some o):Paired (IL H') as ts:=by
 induction h with
 | nil=>exact .nil
 | @cons a b l1 l2 r t ih=>exact .cons (k a (List.mem_cons_self ..) _ r) (ih fun x hx=>k x (List.mem_cons_of_mem _ hx))
theorem jM {H H':Hp}{as:List Addr}{ts:List (List Int)} (s:Same H H') (h:Paired (IL H) as ts):Paired (IL H') as ts:=zA h fun _ _ r=>s _ _ r
theorem Xu {xs:List V}{i:Nat} (h:i<=xs.length):uz xs (some (i:Int)) none=xs.drop i:=by
 unfold uz
 rw[HT.sIx_nat,HT.sIx_none,Nat.min_eq_left h]
 exact List.take_of_length_le (by rw[List.length_drop];exact Nat.le_refl _)
theorem acG {xs:List V}{j:Nat} (h:j<=xs.length):uz xs none (some (j:Int))=xs.take j:=by
 unfold uz
 rw[HT.sIx_nat,HT.sIx_none,Nat.min_eq_left h]
 rfl
theorem ZT {xs:List V}{i j:Nat} (h:i<=xs.length) (h2:j<=xs.length):uz xs (some (i:Int)) (some (j:Int))=(xs.drop i).take (j - i):=by
 unfold uz
 rw[HT.sIx_nat,HT.sIx_nat,Nat.min_eq_left h,Nat.min_eq_left h2]
theorem yM {ns:List Nat}{i:Nat}{x:V} (h:((nats ns).map V.int)[i]?=some x):∃ n,ns[i]?=some n/\x=.int (n:Int):=by
 obtain⟨z,hz,rfl⟩:=aa6 h
 unfold nats at hz
 rw[List.getElem?_map] at hz
 cases e:ns[i]? with
 | none=>rw[e] at hz;cases hz
 | some n=>rw[e] at hz;exact⟨n,rfl,by rw[<-Option.some.inj hz];rfl⟩
theorem zH {α:Type}{l:List α}{i:Nat}{x:α} (h:l[i]?=some x):l.take (i+1)=l.take i++[x]:=by
 rw[List.take_succ,h]
 rfl
theorem qO {n:Nat} (h:n<=1000000):n<sizeLine:=Nat.lt_of_le_of_lt h (by decide)
theorem qH {n:Nat} (h:n<=1000000):n<=sizeLine:=Nat.le_of_lt (qO h)
def QF:Sp:=fun vs H Q _=>∃ a b c xs ys zs,vs=[.ref a,.ref b,.ref c]/\IL H a xs/\IL H b ys/\IL H c zs/\Q (if ys=xs then .ref c else if zs=xs then .ref b else if ys=zs then .ref b else .non) H
def QG:Sp:=fun vs H Q _=>∃ (k:Int) (b l r:V),vs=[.int k,b,l,r]/\Q (if k=1 then l else if k=2 then r else b) H
def w_:Sp:=fun vs H Q _=>∃ a t,vs=[.ref a]/\IL H a (nats t)/\t.length<=16000/\∀ H' p as,Same H H'->H p=none->RL H' p as->Paired (IL H') as ((linesOf t).map nats)->Q (.ref p) H'
def Kj:Sp:=fun vs H Q _=>∃ a as ls,vs=[.ref a]/\RL H a as/\Paired (IL H) as (ls.map nats)/\ls≠[]/\(unlines ls).length<=16000/\ls.length<=16000/\∀ H' p,Same H H'->H p=none->IL H' p (nats (unlines ls))->Q (.ref p) H'
def y3:Sp:=fun vs H Q _=>∃ a b as bs xs ys m,vs=[.ref a,.ref b,.int (m:Nat)]/\RL H a as/\RL H b bs/\Paired (IL H) as (xs.map nats)/\Paired (IL H) bs (ys.map nats)/\m<=xs.length/\m<=ys.length/\Q (.int ((min (inCommon xs ys) m:Nat):Int)) H
section
variable {P:Program}{w:World}{K:PySem.W.Frag}{mg:Str->Option Value}{base:Heap}{C:Ad}{f:Addr}{fd:FuncData}
theorem UR (F:Fun K "agreed" "agreed" ZO f fd) (T:Txt K mg C):zU P w K mg base CX0 1 f fd ["base","left","right"] (QF):=by
 refine F.ok UN (fun vs H Q E h=>?_) (fun cdv A outer s H vs Q E hr h=>?_)
 . obtain⟨a,b,c,xs,ys,zs,rfl,_⟩:=h
   rfl
 . obtain⟨a,b,c,xs,ys,zs,rfl,ha,hb,hc,k⟩:=h
   refine⟨_,(z5 (zC (zo (wP hr.units) (pv 1) (pv 0) (zz _)) (za (zg (pv 2))) zj)
    (z5 (zC (zo (wP hr.units) (pv 2) (pv 0) (zz _)) (za (zg (pv 1))) zj)
    (z5 (zC (zo (wP hr.units) (pv 1) (pv 2) (zz _)) (za (zg (pv 1))) zj)
    (za (zg wM))))),?_⟩
   refine⟨_,rfl,_,rfl,kI ys,kI xs,vO hb,vO ha,q5 _,q5 _,_,rfl,wY (fun hh=>?_) (fun hh=>?_)⟩ <;> rw[vJ] at hh
   . have e:ys=xs:=by simpa using hh
     rw[if_pos e] at k
     exact⟨_,rfl,k⟩
   . have e:¬ys=xs:=by simpa using hh
     rw[if_neg e] at k
     refine⟨_,rfl,_,rfl,kI zs,kI xs,vO hc,vO ha,q5 _,q5 _,_,rfl,wY (fun hh=>?_) (fun hh=>?_)⟩ <;> rw[vJ] at hh
     . have e:zs=xs:=by simpa using hh
       rw[if_pos e] at k
       exact⟨_,rfl,k⟩
     . have e:¬zs=xs:=by simpa using hh
       rw[if_neg e] at k
       refine⟨_,rfl,_,rfl,kI ys,kI zs,vO hb,vO hc,q5 _,q5 _,_,rfl,wY (fun hh=>?_) (fun hh=>?_)⟩ <;> rw[vJ] at hh
       . have e:ys=zs:=by simpa using hh
         rw[if_pos e] at k
         exact⟨_,rfl,k⟩
       . have e:¬ys=zs:=by simpa using hh
         rw[if_neg e] at k
         exact k
theorem US (F:Fun K "chosen" "chosen" ZP f fd) (T:Txt K mg C):zU P w K mg base CX0 1 f fd ["choice","base","left","right"] (QG):=by
 refine F.ok UO (fun vs H Q E h=>?_) (fun cdv A outer s H vs Q E hr h=>?_)
 . obtain⟨k,b,l,r,rfl,_⟩:=h
   rfl
 . obtain⟨k,b,l,r,rfl,q⟩:=h
   refine⟨_,(z5 (zC (zo qN (pv 0) (pgi T.g_LEFT) (zz _)) (za (zg (pv 2))) zj)
    (z5 (zC (zo qN (pv 0) (pgi T.g_RIGHT) (zz _)) (za (zg (pv 3))) zj)
    (za (zg (pv 1))))),?_⟩
   refine⟨_,rfl,rfl,_,rfl,wY (fun hh=>?_) (fun hh=>?_)⟩
   . have e:k=1:=by simpa using hh
     rw[if_pos e] at q
     exact⟨_,rfl,q⟩
   . have e:¬k=1:=by simpa using hh
     rw[if_neg e] at q
     refine⟨_,rfl,rfl,_,rfl,wY (fun hh=>?_) (fun hh=>?_)⟩
     . have e:k=2:=by simpa using hh
       rw[if_pos e] at q
       exact⟨_,rfl,q⟩
     . have e:¬k=2:=by simpa using hh
       rw[if_neg e] at q
       exact⟨_,rfl,q⟩
theorem Xv (F:Fun K "lines_of" "lines_of" w4 f fd) (T:Txt K mg C):zU P w K mg base CX0 1 f fd ["text"] (w_):=by
 refine F.ok sc_lines_of (fun vs H Q E h=>?_) (fun cdv A outer s H vs Q E hr h=>?_)
 . obtain⟨a,t,rfl,_⟩:=h
   rfl
 . obtain⟨a,t,rfl,ha,ht,k⟩:=h
   refine⟨_,(z5 (zi (i:=1) sc_lines_of.nd rfl (Or.inl rfl) (zX (z4 (zX z9) z9)))
    (z5 (kK PassesOwn.never rfl (qa (pv 0)) (zJ (i:=2) sc_lines_of.nd rfl (Or.inl rfl)) (za (zC (zo qN (pv 2) (pgi T.g_LINE_END) (zz _)) (za (qt (jF PySem.F.plainAttrs_list PySem.F.slot_list_append PySem.F.type_list_append jc (pv 1) (z4 (zX z9) z9)))) (za (qt (jF PySem.F.plainAttrs_list PySem.F.slot_list_append PySem.F.type_list_append jc (qk qb (pv 1) (acW acl zB) (fun _ _=>rfl)) (z4 (pv 2) z9)))))))
    (za (zg (pv 1))))),?_⟩
   refine⟨Nat.zero_le _,fun q hq=>⟨(by show 1<=sizeLine;decide),fun p hp=>?_⟩⟩
   have pq:p≠q:=fun e=>by rw[e,z6] at hp;cases hp
   have hp0:H p=none:=by rw[z8 pq] at hp;exact hp
   have s0:Same H (upd (upd H q (.lst [])) p (.lst [.ref q])):=(Same.new hq).trans (Same.new hp)
   refine⟨_,rfl,a,rfl,⟨_,SqL.of (s0 _ _ ha)⟩,jx (K:=K) (a:=a) (xs:=(nats t).map V.int)
    (fun i σ H'=>(∃ v,σ=[some (.ref a),some (.ref p),v])/\Same H H'/\∃ as,RL H' p as/\Paired (IL H') as ((linesOf (t.take i)).map nats)/\(p::as).Nodup/\∀ x,x∈as->H x=none)
    ⟨⟨none,rfl⟩,s0,[q],z6,.cons (by rw[IL,z8 (Ne.symm pq)];exact z6) .nil,by simp[pq],by simpa using hq⟩ (fun i σ H' _ h=>SqL.of (h.2.1 _ _ ha)) ?_ ?_⟩
   . rintro i x σ H' hi ⟨⟨v,rfl⟩,s1,as,hr,hpa,hnd,hfr⟩
     obtain⟨b,hb,rfl⟩:=yM hi
     have hit:i<t.length:=(List.getElem?_eq_some_iff.mp hb).1
     obtain⟨hpn,hnda⟩:=List.nodup_cons.mp hnd
     have hlen:as.length<=i+1:=by
      rw[zk hpa,List.length_map]
      have:=Zx (t.take i)
      rw[List.length_take] at this
      omega
     refine⟨_,rfl,rfl,_,rfl,wY (fun hh=>?_) (fun hh=>?_)⟩
     . have e:b=10:=by
        have:(b:Int)=10:=by simpa using hh
        omega
       subst e
       refine⟨_,rfl,.inl ⟨rfl,_,SqL.of hr⟩,Nat.zero_le _,fun z hz=>⟨p,_,_,rfl,rfl,(by rw[z8 (z7 hr hz)];exact hr),(by rw[List.length_map];exact qO (by omega)),?_⟩⟩
       have zp:z≠p:=Ne.symm (z7 hr hz)
       have hz0:H z=none:=s1.free hz
       refine⟨⟨_,rfl⟩,fun b o e=>?_,as++[z],?_,?_,?_,?_⟩
       . rw[z8 (z7 e hp0),z8 (z7 e hz0)]
         exact s1 b o e
       . rw[RL,z6,List.map_append]
         rfl
       . rw[zH hb,wH,List.map_append]
         refine j4 (J0 hpa fun y hy o e=>?_) ?_
         . rw[z8 (fun (q:y=p)=>hpn (q▸hy)),z8 (z7 e hz)]
           exact e
         . rw[IL,z8 zp]
           exact z6
       . have hza:¬z∈as:=fun m=>by
          obtain⟨b',_,r⟩:=Wr hpa m
          rw[IL,hz] at r
          cases r
         refine List.nodup_cons.mpr ⟨?_,?_⟩
         . simp[hpn,Ne.symm zp]
         . exact Yc hnda hza
       . intro x hx
         rcases List.mem_append.mp hx with h | h
         . exact hfr x h
         . rw[List.mem_singleton.mp h]
           exact hz0
     . have e:b≠10:=fun z=>hh (by rw[z];rfl)
       obtain⟨ls,l,el⟩:=KN (t.take i)
       rw[el,List.map_append] at hpa
       obtain⟨as0,z,rfl,hp1,hp2⟩:=wo hpa
       have hzin:z∈as0++[z]:=by simp
       have zp:z≠p:=fun e=>hpn (e▸hzin)
       have hll:l.length<=i:=by
        have h1:=Uj (t:=t.take i) (l:=l) (by rw[el];simp)
        rw[List.length_take] at h1
        omega
       have hz0':¬z∈as0:=by
        have:=List.nodup_append.mp hnda
        intro m
        exact this.2.2 z m z (by simp) rfl
       refine⟨_,rfl,_,rfl,p,_,_,V.ref z,rfl,rfl,SqL.of hr,(by rw[List.map_append];exact aaI _ _),.inl ⟨rfl,_,SqL.of hp2⟩,_,rfl,z,_,_,rfl,rfl,hp2,(by rw[List.length_map,nats,List.length_map];exact qO (by omega)),?_⟩
       refine⟨⟨_,rfl⟩,fun b o e=>?_,as0++[z],?_,?_,hnd,hfr⟩
       . rw[z8 (z7 e (hfr z hzin))]
         exact s1 b o e
       . rw[RL,z8 (Ne.symm zp)]
         exact hr
       . rw[zH hb,y9 e el,List.map_append]
         refine j4 (J0 hp1 fun y hy o e=>?_) ?_
         . rw[z8 (fun (q:y=z)=>hz0' (q▸hy))]
           exact e
         . rw[IL,z6]
           unfold nats
           rw[List.map_append,List.map_append]
           rfl
   . rintro σ H' ⟨⟨v,rfl⟩,s1,as,hr,hpa,hnd,hfr⟩
     refine⟨_,rfl,?_⟩
     rw[show (List.map V.int (nats t)).length=t.length by simp[nats],List.take_length] at hpa
     exact k H' p as s1 hp0 hr hpa
theorem Wu (F:Fun K "text_of" "text_of" ut f fd) (T:Txt K mg C):zU P w K mg base CX0 1 f fd ["lines"] (Kj):=by
 refine F.ok sc_text_of (fun vs H Q E h=>?_) (fun cdv A outer s H vs Q E hr h=>?_)
 . obtain⟨a,as,ls,rfl,_⟩:=h
   rfl
 . obtain⟨a,as,ls,rfl,ha,hpa,hne,hun,hln,k⟩:=h
   obtain⟨l,m,rfl⟩:∃ l m,ls=l::m:=by
    cases ls with
    | nil=>exact absurd rfl hne
    | cons l m=>exact⟨l,m,rfl⟩
   rw[Zu] at hun k
   rw[List.map_cons] at hpa
   cases hpa with
   | @cons b _ bs _ hb hbs =>
    refine⟨_,(z5 (zi (i:=1) sc_text_of.nd rfl (Or.inl rfl) (Vt ZI (by rfl) T.b_list U3 (z4 (qk qb (pv 0) zB (fun _ _=>rfl)) z9)))
    (z5 (kK PassesOwn.never rfl (qa (vK yS (pv 0) (jS zB) Y5)) (zJ (i:=2) sc_text_of.nd rfl (Or.inl rfl)) (z5 (qt (jF PySem.F.plainAttrs_list PySem.F.slot_list_append PySem.F.type_list_append jc (pv 1) (z4 (pgi T.g_LINE_END) z9)))
    (za (qt (jF PySem.F.plainAttrs_list PySem.F.slot_list_extend PySem.F.type_list_extend jy (pv 1) (z4 (pv 2) z9))))))
    (za (zg (pv 1))))),?_⟩
    have hbl:=zk hbs
    refine⟨_,rfl,a,_,_,_,rfl,rfl,SqL.of ha,zV (j:=0) rfl,b,_,rfl,.inl (SqL.of hb),fun p hp=>?_⟩
    have s0:Same H (upd H p (.lst ((nats l).map V.int))):=Same.new hp
    refine⟨_,rfl,_,rfl,a,_,rfl,SqL.of (s0 _ _ ha),fun q hq=>?_⟩
    have s1:=s0.trans (Same.new (o:=.lst (uz ((b::bs).map V.ref) (some ((1:Nat):Int)) none)) hq)
    have ecut:uz ((b::bs).map V.ref) (some ((1:Nat):Int)) none=bs.map V.ref:=by
     rw[Xu (by simp)]
     rfl
    have hqn:q≠p:=fun e=>by rw[e,z6] at hq;cases hq
    have hq0:H q=none:=by rw[z8 hqn] at hq;exact hq
    refine⟨q,rfl,⟨_,SqL.of z6⟩,jx (K:=K) (a:=q) (xs:=bs.map V.ref)
     (fun i σ H'=>(∃ v,σ=[some (.ref a),some (.ref p),v])/\Same H H'/\H' q=some (.lst (bs.map V.ref))/\IL H' p (nats (l++(m.take i).flatMap fun x=>10::x)))
     ⟨⟨none,rfl⟩,s1,(by rw[<-ecut];exact z6),(by rw[IL,z8 (Ne.symm hqn),z6];simp)⟩ (fun i σ H' _ h=>SqL.of h.2.2.1) ?_ ?_⟩
    . rintro i x σ H' hi ⟨⟨v,rfl⟩,s2,hq2,hp2⟩
      obtain⟨c,hc,rfl⟩:=qF hi
      obtain⟨tt,ht1,ht2⟩:=zG hbs hc
      rw[List.getElem?_map] at ht1
      obtain⟨y,hy,rfl⟩:∃ y,m[i]?=some y/\nats y=tt:=by
       cases e:m[i]? with
       | none=>rw[e] at ht1;cases ht1
       | some y=>rw[e] at ht1;exact⟨y,rfl,Option.some.inj ht1⟩
      have hcp:c≠p:=z7 ht2 hp
      have htot:(l++(m.take i).flatMap fun x=>10::x).length+y.length+1<=16000:=by
       have e1:m=m.take i++y::m.drop (i+1):=by
        have:=List.take_append_drop i m
        rw[List.drop_eq_getElem_cons (List.getElem?_eq_some_iff.mp hy).1,(List.getElem?_eq_some_iff.mp hy).2] at this
        exact this.symm
       rw[e1] at hun
       simp only[List.flatMap_append,List.flatMap_cons,List.length_append,List.length_cons] at hun ⊢
       omega
      have hnl:((nats (l++(m.take i).flatMap fun x=>10::x)).map V.int).length=(l++(m.take i).flatMap fun x=>10::x).length:=by simp[nats]
      refine⟨_,rfl,.inl ⟨rfl,_,SqL.of hp2⟩,p,_,_,rfl,rfl,hp2,(by rw[hnl];exact qO (by omega)),?_⟩
      refine⟨_,rfl,.inl ⟨rfl,_,SqL.of z6⟩,_,rfl,p,c,_,_,rfl,rfl,z6,(by rw[z8 hcp];exact s2 _ _ ht2),(by
       rw[List.length_append,hnl,show ((nats y).map V.int).length=y.length by simp[nats]]
       exact qH (by simp only[List.length_singleton];omega)),?_⟩
      refine⟨⟨_,rfl⟩,fun b o e=>?_,?_,?_⟩
      . rw[kb,z8 (z7 e hp)]
        exact s2 b o e
      . rw[kb,z8 hqn]
        exact hq2
      . rw[IL,z6,zH hy]
        simp[nats,ofNat]
    . rintro σ H' ⟨⟨v,rfl⟩,s2,hq2,hp2⟩
      refine⟨_,rfl,?_⟩
      have e1:m.take (bs.map V.ref).length=m:=List.take_of_length_le (by rw[List.length_map,hbl,List.length_map];exact Nat.le_refl _)
      rw[e1] at hp2
      exact k H' p s2 hp hp2
theorem uB (F:Fun K "common_beginning" "common_beginning" jm f fd) (T:Txt K mg C):zU P w K mg base CX0 1 f fd ["lines","others","most"] (y3):=by
 refine F.ok sc_common_beginning (fun vs H Q E h=>?_) (fun cdv A outer s H vs Q E hr h=>?_)
 . obtain⟨a,b,as,bs,xs,ys,m,rfl,_⟩:=h
   rfl
 . obtain⟨a,b,as,bs,xs,ys,m,rfl,ha,hb,hpa,hpb,hm1,hm2,k⟩:=h
   refine⟨_,(z5 (zi (i:=3) sc_common_beginning.nd rfl (Or.inl rfl) zB)
    (z5 (K0 PassesOwn.never (Y0 (zo K2 (pv 3) (pv 2) (zz _)) (JG (zo (wP hr.units) (qk qb (pv 0) (pv 3) (fun _ _=>rfl)) (qk qb (pv 1) (pv 3) (fun _ _=>rfl)) (zz _)))).pt (za (aaB (i:=3) sc_common_beginning.nd rfl (Or.inl rfl) zB aaC)))
    (za (zg (pv 3))))),?_⟩
   have hla:=zk hpa
   have hlb:=zk hpb
   rw[List.length_map] at hla hlb
   refine⟨fun μ σ H'=>H'=H/\∃ i:Nat,μ=m - i/\i<=m/\σ=[some (.ref a),some (.ref b),some (.int (m:Nat)),some (.int (i:Nat))]/\∀ j,j<i->xs[j]?=ys[j]?,⟨m,rfl,0,by omega,Nat.zero_le _,rfl,fun j h=>absurd h (Nat.not_lt_zero _)⟩,?_⟩
   rintro μ σ H' ⟨rfl,i,rfl,hi,rfl,hj⟩
   refine⟨_,rfl,_,rfl,_,_,rfl,rfl,_,rfl,?_⟩
   by_cases hlt:i<m
   . rw[decide_eq_true (show (i:Int)<(m:Int) by omega)]
     refine zF ?_
     obtain⟨c,hc⟩:∃ c,as[i]?=some c:=⟨_,List.getElem?_eq_getElem (by omega)⟩
     obtain⟨d,hd⟩:∃ d,bs[i]?=some d:=⟨_,List.getElem?_eq_getElem (by omega)⟩
     obtain⟨x,hx⟩:∃ x,xs[i]?=some x:=⟨_,List.getElem?_eq_getElem (by omega)⟩
     obtain⟨y,hy⟩:∃ y,ys[i]?=some y:=⟨_,List.getElem?_eq_getElem (by omega)⟩
     obtain⟨t1,h1,h2⟩:=zG hpa hc
     obtain⟨t2,h3,h4⟩:=zG hpb hd
     rw[List.getElem?_map,hx] at h1
     rw[List.getElem?_map,hy] at h3
     cases h1
     cases h3
     refine⟨_,rfl,_,rfl,a,_,_,_,rfl,rfl,SqL.of ha,zV (by rw[List.getElem?_map,hc];rfl),_,rfl,_,rfl,b,_,_,_,rfl,rfl,SqL.of hb,zV (by rw[List.getElem?_map,hd];rfl),kI (nats x),kI (nats y),vO h2,vO h4,q5 _,q5 _,_,rfl,?_⟩
     rw[vJ]
     by_cases exy:x=y
     . rw[decide_eq_true (by rw[exy])]
       refine zF ⟨_,fun σ' H' h=>h,_,rfl,_,_,rfl,rfl,?_⟩
       refine⟨m - (i+1),by omega,rfl,i+1,rfl,hlt,rfl,fun j hj'=>?_⟩
       rcases Nat.lt_succ_iff_lt_or_eq.mp hj' with z | z
       . exact hj j z
       . subst z
         rw[hx,hy,exy]
     . rw[decide_eq_false (fun z=>exy (kJ z))]
       refine zy ⟨_,rfl,?_⟩
       rw[<-uL hm1 hm2 (Nat.le_of_lt hlt) hj (.inr (by rw[hx,hy];intro z;exact exy (Option.some.inj z)))]
       exact k
   . rw[decide_eq_false (show ¬(i:Int)<(m:Int) by omega)]
     refine zy (zy ⟨_,rfl,?_⟩)
     have e:i=m:=by omega
     rw[<-uL hm1 hm2 hi hj (.inl e)]
     exact k
end
end Tb
end
section
namespace Tb
open PySem PySem.Spec PyProof.Rows L2
open Vanbki (nats ofNat markNat numbers linesOf unlines inCommon changeOf)
def ChangeAt (C:Ad) (H:Hp) (p:Addr) (c:Vanbki.Change):Prop:=∃ dx l as,H p=some (.ins C.cChange dx (wa c.p c.q l))/\RL H l as/\Paired (IL H) as (c.new.map nats)
theorem ChangeAt.mono {C:Ad}{H H':Hp}{p:Addr}{c:Vanbki.Change} (s:Same H H') (h:ChangeAt C H p c):ChangeAt C H' p c:=by
 obtain⟨dx,l,as,h1,h2,h3⟩:=h
 exact⟨dx,l,as,s _ _ h1,s _ _ h2,jM s h3⟩
theorem u0 {α β:Type}{R:α->β->Prop}{as:List α}{bs:List β} (h:Paired R as bs):Paired R as.reverse bs.reverse:=by
 induction h with
 | nil=>exact .nil
 | cons r t ih =>
  rw[List.reverse_cons,List.reverse_cons]
  exact j4 ih r
theorem Wv {C:Ad}{H0 H1:Hp}{Q:VK}{vs:List V}{n m:Int}{q:Addr} (ev:vs=[.int n,.int m,.ref q]) (eH:H0=H1) (h:∀ x dx H2,H1 x=none->Same H1 H2->H2 x=some (.ins C.cChange dx (wa n m q))->Q (.ref x) H2) :
 ∀ x dx,H0 x=none->H0 dx=none->dx≠x->kZ C (.ref x::(vs++[])) (upd (upd H0 dx (.own x)) x (.ins C.cChange dx [])) (fun v H2=>v=.non/\Q (.ref x) H2) E0:=by
 subst ev eH
 exact UQ h
def wb (C:Ad):Sp:=fun vs H Q _=>∃ a b t u,vs=[.ref a,.ref b]/\IL H a (nats t)/\IL H b (nats u)/\t.length<=15000/\u.length<=15000/\∀ H' p,Same H H'->ChangeAt C H' p (changeOf (linesOf t) (linesOf u))->Q (.ref p) H'
def xj (C:Ad):Sp:=fun vs H Q _=>∃ a p q t f g,vs=[.ref a,.ref p,.ref q]/\IL H a (nats t)/\ChangeAt C H p f/\ChangeAt C H q g/\t.length<=1000/\f.p<=f.q/\f.q<g.p/\g.p<=g.q/\g.q<=(linesOf t).length/\size f.new<=1001/\size g.new<=1001 /\
 ∀ H' r,Same H H'->U5 H' r (Vanbki.ifShort (unlines (Vanbki.both (linesOf t) f g)))->(∀ x,r=.ref x->H x=none)->Q r H'
def yN (C:Ad):Sp:=fun vs H Q _=>∃ a b c t l r,vs=[.ref a,.ref b,.ref c]/\IL H a (nats t)/\IL H b (nats l)/\IL H c (nats r)/\t.length<=1000/\l.length<=1000/\r.length<=1000/\∀ H' x,Same H H'->U5 H' x (Vanbki.mergedText t l r)->(∀ y,x=.ref y->y=b∨y=c∨H y=none)->Q x H'
theorem ZU (ls:List Vanbki.Text):ls.length<=size ls:=by
 induction ls with
 | nil=>simp
 | cons l m ih=>simp[size] at ih ⊢;omega
section
variable {P:Program}{w:World}{K:PySem.W.Frag}{mg:Str->Option Value}{base:Heap}{C:Ad}{f:Addr}{fd:FuncData}
theorem Yo {f1:Addr}{fd1:FuncData}{f2:Addr}{fd2:FuncData}{f3:Addr}{fd3:FuncData} (F:Fun K "change_of" "change_of" y_ f fd) (T:Txt K mg C) (D_lines_of:Def P w K mg base "lines_of" 1 ["text"] (w_) f1 fd1) (D_common_beginning:Def P w K mg base "common_beginning" 1 ["lines","others","most"] (y3) f2 fd2) (D_Change:Cdf P w K mg base "Change" 1 ["self","begin","end","new_lines"] (kZ C) C.cChange f3 fd3):zU P w K mg base CX0 3 f fd ["base_text","side_text"] (wb C):=by
 refine F.ok sc_change_of (fun vs H Q E h=>?_) (fun cdv A outer s H vs Q E hr h=>?_)
 . obtain⟨a,b,t,u,rfl,_⟩:=h
   rfl
 . obtain⟨a,b,t,u,rfl,ha,hb,ht,hu',k⟩:=h
   refine⟨_,(z5 (zi (i:=2) sc_change_of.nd rfl (Or.inl rfl) (ze D_lines_of (hr.mono (by decide)) (z4 (pv 0) z9)))
    (z5 (zi (i:=3) sc_change_of.nd rfl (Or.inl rfl) (ze D_lines_of (hr.mono (by decide)) (z4 (pv 1) z9)))
    (z5 (zi (i:=4) sc_change_of.nd rfl (Or.inl rfl) (zP (Uv rfl) (by rfl) T.b_min acF (z4 (zP qS (by rfl) T.b_len qR (z4 (pv 2) z9)) (z4 (zP qS (by rfl) T.b_len qR (z4 (pv 3) z9)) z9))))
    (z5 (zi (i:=5) sc_change_of.nd rfl (Or.inl rfl) (ze D_common_beginning (hr.mono (by decide)) (z4 (pv 2) (z4 (pv 3) (z4 (pv 4) z9)))))
    (z5 (zi (i:=6) sc_change_of.nd rfl (Or.inl rfl) (ze D_common_beginning (hr.mono (by decide)) (z4 (Kd T.b_list T.b_reversed (pv 2)) (z4 (Kd T.b_list T.b_reversed (pv 3)) (z4 (jE Wb (pv 4) (pv 5)) z9)))))
    (za (zg (qj D_Change (hr.mono (by decide)) (z4 (pv 5) (z4 (jE Wb (zP qS (by rfl) T.b_len qR (z4 (pv 2) z9)) (pv 6)) (z4 (vK yS (pv 3) (jS (pv 5)) (jS (jE Wb (zP qS (by rfl) T.b_len qR (z4 (pv 3) z9)) (pv 6)))) z9))))))))))),?_⟩
   refine⟨_,rfl,a,t,rfl,ha,(by omega),fun H1 p1 as1 s1 n1 r1 q1=>?_⟩
   refine⟨_,rfl,b,u,rfl,s1 _ _ hb,(by omega),fun H2 p2 as2 s2 n2 r2 q2=>?_⟩
   have q1':=jM s2 q1
   have r1':=s2 _ _ r1
   have l1:=zk q1'
   have l2:=zk q2
   rw[List.length_map] at l1 l2
   have hc1:=vG (linesOf t) (linesOf u)
   have hk:=Ui (linesOf t) (linesOf u)
   refine⟨_,rfl,p1,_,rfl,.inl (SqL.of r1'),_,rfl,p2,_,rfl,.inl (SqL.of r2),_,_,rfl,?_⟩
   have em:(if (((as2.map V.ref).length:Nat):Int)<(((as1.map V.ref).length:Nat):Int) then (((as2.map V.ref).length:Nat):Int) else (((as1.map V.ref).length:Nat):Int))=((min (linesOf t).length (linesOf u).length:Nat):Int):=by
    rw[List.length_map,List.length_map,l1,l2]
    split <;> omega
   rw[em]
   refine⟨_,rfl,_,rfl,_,rfl,p1,p2,as1,as2,linesOf t,linesOf u,_,rfl,r1',r2,q1',q2,Nat.min_le_left _ _,Nat.min_le_right _ _,?_⟩
   rw[VX]
   refine⟨_,rfl,p1,_,rfl,SqL.of r1',fun p3 n3=>⟨_,rfl,p2,_,rfl,SqL.of (Same.new n3 _ _ r2),fun p4 n4=>⟨_,rfl,_,rfl,_,_,rfl,rfl,?_⟩⟩⟩
   have s4:Same H2 _:=(Same.new (o:=.lst (as1.map V.ref).reverse) n3).trans (Same.new (o:=.lst (as2.map V.ref).reverse) n4)
   have p43:p3≠p4:=fun e=>by rw[<-e,z6] at n4;cases n4
   have es:((min (linesOf t).length (linesOf u).length:Nat):Int) - ((inCommon (linesOf t) (linesOf u):Nat):Int)=((min (linesOf t).length (linesOf u).length - inCommon (linesOf t) (linesOf u):Nat):Int):=by omega
   refine⟨p3,p4,as1.reverse,as2.reverse,(linesOf t).reverse,(linesOf u).reverse,_,congrArg (fun z=>[V.ref p3,V.ref p4,V.int z]) es,?_,?_,?_,?_,?_,?_,?_⟩
   . rw[RL,z8 p43,z6,List.map_reverse]
   . rw[RL,z6,List.map_reverse]
   . rw[List.map_reverse]
     exact u0 (jM s4 q1')
   . rw[List.map_reverse]
     exact u0 (jM s4 q2)
   . rw[List.length_reverse]
     omega
   . rw[List.length_reverse]
     omega
   . show _
     have r1'':=s4 _ _ r1'
     have r2'':=s4 _ _ r2
     refine⟨_,rfl,_,rfl,p1,_,rfl,.inl (SqL.of r1''),_,rfl,_,_,rfl,rfl,_,rfl,_,rfl,_,rfl,_,rfl,p2,_,rfl,.inl (SqL.of r2''),_,rfl,_,_,rfl,rfl,_,rfl,p2,_,rfl,SqL.of r2'',fun p5 n5=>?_⟩
     have e1:(((as1.map V.ref).length:Nat):Int) - ((min (inCommon (linesOf t).reverse (linesOf u).reverse) (min (linesOf t).length (linesOf u).length - inCommon (linesOf t) (linesOf u)):Nat):Int)=(((changeOf (linesOf t) (linesOf u)).q:Nat):Int):=by
      rw[W1,List.length_map,l1]
      unfold yC at hk ⊢
      omega
     have e2:(((as2.map V.ref).length:Nat):Int) - ((min (inCommon (linesOf t).reverse (linesOf u).reverse) (min (linesOf t).length (linesOf u).length - inCommon (linesOf t) (linesOf u)):Nat):Int)=(((linesOf u).length - yC (linesOf t) (linesOf u):Nat):Int):=by
      rw[List.length_map,l2]
      unfold yC at hk ⊢
      omega
     refine Wv (n:=((inCommon (linesOf t) (linesOf u):Nat):Int)) (m:=(((changeOf (linesOf t) (linesOf u)).q:Nat):Int)) (q:=p5) (congrArg (fun z=>[V.int ((inCommon (linesOf t) (linesOf u):Nat):Int),V.int z,V.ref p5]) e1)
      (congrArg (fun z=>upd _ p5 (.lst z)) (show uz (as2.map V.ref) (some ((inCommon (linesOf t) (linesOf u):Nat):Int)) (some _)=((as2.map V.ref).drop (inCommon (linesOf t) (linesOf u))).take ((linesOf u).length - yC (linesOf t) (linesOf u) - inCommon (linesOf t) (linesOf u)) from (by rw[e2];exact ZT (by rw[List.length_map];omega) (by rw[List.length_map];omega)))) fun x dx H6 hx s6 e6=>?_
     have s56:=(Same.new (o:=.lst (((as2.map V.ref).drop (inCommon (linesOf t) (linesOf u))).take ((linesOf u).length - yC (linesOf t) (linesOf u) - inCommon (linesOf t) (linesOf u)))) n5).trans s6
     refine k H6 x ((s1.trans (s2.trans s4)).trans s56) ⟨dx,p5,(as2.drop (inCommon (linesOf t) (linesOf u))).take ((linesOf u).length - yC (linesOf t) (linesOf u) - inCommon (linesOf t) (linesOf u)),e6,s6 _ _ ?_,?_⟩
     . rw[z6,List.map_take,List.map_drop]
     . rw[VY,List.map_take,List.map_drop]
       exact jh _ (ji _ (jM (s4.trans s56) q2))
theorem ZV {f1:Addr}{fd1:FuncData}{f2:Addr}{fd2:FuncData} (F:Fun K "text_with_both" "text_with_both" jT f fd) (T:Txt K mg C) (D_lines_of:Def P w K mg base "lines_of" 1 ["text"] (w_) f1 fd1) (D_text_of:Def P w K mg base "text_of" 1 ["lines"] (Kj) f2 fd2):zU P w K mg base CX0 2 f fd ["base_text","first","second"] (xj C):=by
 refine F.ok sc_text_with_both (fun vs H Q E h=>?_) (fun cdv A outer s H vs Q E hr h=>?_)
 . obtain⟨a,p,q,t,f,g,rfl,_⟩:=h
   rfl
 . obtain⟨a,p,q,t,f,g,rfl,ha,⟨dx1,l1,as1,e1,r1,b1⟩,⟨dx2,l2,as2,e2,r2,b2⟩,ht,h1,h2,h3,h4,z1,z2,k⟩:=h
   refine⟨_,(z5 (zi (i:=3) sc_text_with_both.nd rfl (Or.inl rfl) (ze D_lines_of (hr.mono (by decide)) (z4 (pv 0) z9)))
    (z5 (zi (i:=4) sc_text_with_both.nd rfl (Or.inl rfl) (jE yI (vK yS (pv 3) Y5 (jS (zf (pv 1) rfl))) (zf (pv 1) rfl)))
    (z5 (zi (i:=4) sc_text_with_both.nd rfl (Or.inl rfl) (jE yI (jE yI (pv 4) (vK yS (pv 3) (jS (zf (pv 1) rfl)) (jS (zf (pv 2) rfl)))) (zf (pv 2) rfl)))
    (z5 (zi (i:=5) sc_text_with_both.nd rfl (Or.inl rfl) (ze D_text_of (hr.mono (by decide)) (z4 (jE yI (pv 4) (vK yS (pv 3) (jS (zf (pv 2) rfl)) Y5)) z9)))
    (za (zg (jK (zo X9 (zP qS (by rfl) T.b_len qR (z4 (pv 5) z9)) (pgi T.g_MOST_BYTES) (zz _)) (pv 5) wM))))))),?_⟩
   refine⟨_,rfl,a,t,rfl,ha,(by omega),fun H1 pb as s1 n1 r b=>?_⟩
   have lb:=zk b
   rw[List.length_map] at lb
   have zb:=ya t
   have la1:=zk b1
   have la2:=zk b2
   rw[List.length_map] at la1 la2
   have sl1:=ZU f.new
   have sl2:=ZU g.new
   have slb:=Zx t
   refine⟨_,rfl,_,rfl,p,C.cChange,dx1,_,_,rfl,s1 _ _ e1,T.c_Change,T.n_Change_begin,k8 _ _ _,_,rfl,pb,_,rfl,SqL.of r,fun p2 n2=>?_⟩
   rw[acG (by rw[List.length_map];omega)]
   have s2:=Same.new (o:=.lst ((as.map V.ref).take f.p)) n2
   refine⟨_,rfl,p,C.cChange,dx1,_,_,rfl,s2 _ _ (s1 _ _ e1),T.c_Change,T.n_Change_new_lines,xh _ _ _,p2,l1,_,_,rfl,rfl,z6,s2 _ _ (s1 _ _ r1),(by simp only[List.length_take,List.length_map];exact qH (by omega)),fun p3 n3=>?_⟩
   have s3:=s2.trans (Same.new (o:=.lst ((as.map V.ref).take f.p++as1.map V.ref)) n3)
   refine⟨_,rfl,_,rfl,_,rfl,p,C.cChange,dx1,_,_,rfl,s3 _ _ (s1 _ _ e1),T.c_Change,T.n_Change_end,vN _ _ _,_,rfl,_,rfl,q,C.cChange,dx2,_,_,rfl,s3 _ _ (s1 _ _ e2),T.c_Change,T.n_Change_begin,k8 _ _ _,_,rfl,pb,_,rfl,SqL.of (s3 _ _ r),fun p4 n4=>?_⟩
   rw[ZT (by rw[List.length_map];omega) (by rw[List.length_map];omega)]
   have s4':=Same.new (o:=.lst (((as.map V.ref).drop f.q).take (g.p - f.q))) n4
   refine⟨p3,p4,_,_,rfl,rfl,s4' _ _ z6,z6,(by simp only[List.length_append,List.length_take,List.length_drop,List.length_map];exact qH (by omega)),fun p5 n5=>?_⟩
   have s4:=s3.trans s4'
   have s5:=s4.trans (Same.new (o:=.lst (((as.map V.ref).take f.p++as1.map V.ref)++((as.map V.ref).drop f.q).take (g.p - f.q))) n5)
   refine⟨_,rfl,q,C.cChange,dx2,_,_,rfl,s5 _ _ (s1 _ _ e2),T.c_Change,T.n_Change_new_lines,xh _ _ _,p5,l2,_,_,rfl,rfl,z6,s5 _ _ (s1 _ _ r2),(by simp only[List.length_append,List.length_take,List.length_drop,List.length_map];exact qH (by omega)),fun p6 n6=>?_⟩
   have s6:=s5.trans (Same.new (o:=.lst ((((as.map V.ref).take f.p++as1.map V.ref)++((as.map V.ref).drop f.q).take (g.p - f.q))++as2.map V.ref)) n6)
   refine⟨_,rfl,_,rfl,_,rfl,q,C.cChange,dx2,_,_,rfl,s6 _ _ (s1 _ _ e2),T.c_Change,T.n_Change_end,vN _ _ _,_,rfl,pb,_,rfl,SqL.of (s6 _ _ r),fun p7 n7=>?_⟩
   rw[Xu (by rw[List.length_map];omega)]
   have s7':=Same.new (o:=.lst ((as.map V.ref).drop g.q)) n7
   refine⟨p6,p7,_,_,rfl,rfl,s7' _ _ z6,z6,(by simp only[List.length_append,List.length_take,List.length_drop,List.length_map];exact qH (by omega)),fun p8 n8=>?_⟩
   have s8:=(s6.trans s7').trans (Same.new (o:=.lst (((((as.map V.ref).take f.p++as1.map V.ref)++((as.map V.ref).drop f.q).take (g.p - f.q))++as2.map V.ref)++(as.map V.ref).drop g.q)) n8)
   have eas:((((as.map V.ref).take f.p++as1.map V.ref)++((as.map V.ref).drop f.q).take (g.p - f.q))++as2.map V.ref)++(as.map V.ref).drop g.q=((((as.take f.p++as1)++(as.drop f.q).take (g.p - f.q))++as2)++as.drop g.q).map V.ref:=by
    simp only[List.map_append,List.map_take,List.map_drop]
   have hb:=jM s8 b
   have hb1:=jM (s1.trans s8) b1
   have hb2:=jM (s1.trans s8) b2
   have hbl:=aam (linesOf t) f g
   have hbs:=Vk (linesOf t) f g
   have hll:=ZU (Vanbki.both (linesOf t) f g)
   refine⟨p8,_,Vanbki.both (linesOf t) f g,rfl,(by rw[eas];exact z6),?_,?_,(by omega),(by omega),fun H9 p9 s9 n9 e9=>?_⟩
   . unfold Vanbki.both
     simp only[List.map_append,List.map_take,List.map_drop]
     exact zI (zI (zI (zI (jh _ hb) hb1) (jh _ (ji _ hb))) hb2) (ji _ hb)
   . intro z
     have:=congrArg List.length z
     unfold Vanbki.both at this
     simp only[List.length_append,List.length_take,List.length_drop,List.length_nil] at this
     omega
   . have sall:=s1.trans (s8.trans s9)
     refine⟨_,rfl,p9,_,rfl,.inl (SqL.of e9),_,_,rfl,rfl,_,rfl,?_⟩
     have el:((nats (unlines (Vanbki.both (linesOf t) f g))).map V.int).length=(unlines (Vanbki.both (linesOf t) f g)).length:=by simp[nats]
     rw[el]
     by_cases hs:(unlines (Vanbki.both (linesOf t) f g)).length<=200
     . rw[decide_eq_true (by omega)]
       refine zF ⟨_,rfl,k H9 _ sall ?_ (fun x hx=>by cases hx;exact (s1.trans s8).free n9)⟩
       unfold Vanbki.ifShort Vanbki.LONG
       rw[if_pos hs]
       exact⟨p9,rfl,e9⟩
     . rw[decide_eq_false (by omega)]
       refine zy (k H9 _ sall ?_ (fun x hx=>nomatch hx))
       unfold Vanbki.ifShort Vanbki.LONG
       rw[if_neg hs]
       rfl
theorem Kk {f1:Addr}{fd1:FuncData}{f2:Addr}{fd2:FuncData}{f3:Addr}{fd3:FuncData} (F:Fun K "merged_text" "merged_text" vx f fd) (T:Txt K mg C) (D_agreed:Def P w K mg base "agreed" 1 ["base","left","right"] (QF) f1 fd1) (D_change_of:Def P w K mg base "change_of" 3 ["base_text","side_text"] (wb C) f2 fd2) (D_text_with_both:Def P w K mg base "text_with_both" 2 ["base_text","first","second"] (xj C) f3 fd3):zU P w K mg base CX0 4 f fd ["base_text","left_text","right_text"] (yN C):=by
 refine F.ok sc_merged_text (fun vs H Q E h=>?_) (fun cdv A outer s H vs Q E hr h=>?_)
 . obtain⟨a,b,c,t,l,r,rfl,_⟩:=h
   rfl
 . obtain⟨a,b,c,t,l,r,rfl,ha,hb,hc,ht,hl,hr',k⟩:=h
   refine⟨_,(z5 (zi (i:=3) sc_merged_text.nd rfl (Or.inl rfl) (ze D_agreed (hr.mono (by decide)) (z4 (pv 0) (z4 (pv 1) (z4 (pv 2) z9)))))
    (z5 (zC (qD (WN (pv 3))) (za (zg (pv 3))) zj)
    (z5 (zi (i:=4) sc_merged_text.nd rfl (Or.inl rfl) (ze D_change_of (hr.mono (by decide)) (z4 (pv 0) (z4 (pv 1) z9))))
    (z5 (zi (i:=5) sc_merged_text.nd rfl (Or.inl rfl) (ze D_change_of (hr.mono (by decide)) (z4 (pv 0) (z4 (pv 2) z9))))
    (z5 (zC (zo K2 (zf (pv 4) rfl) (zf (pv 5) rfl) (zz _)) (za (zg (ze D_text_with_both (hr.mono (by decide)) (z4 (pv 0) (z4 (pv 4) (z4 (pv 5) z9)))))) zj)
    (z5 (zC (zo K2 (zf (pv 5) rfl) (zf (pv 4) rfl) (zz _)) (za (zg (ze D_text_with_both (hr.mono (by decide)) (z4 (pv 0) (z4 (pv 5) (z4 (pv 4) z9)))))) zj)
    (za (zg wM)))))))),?_⟩
   refine⟨_,rfl,_,rfl,_,rfl,a,b,c,_,_,_,rfl,ha,hb,hc,?_⟩
   have k0:=k H
   unfold Vanbki.mergedText at k k0
   by_cases g1:l=t
   . rw[if_pos (by rw[g1])]
     refine⟨_,rfl,_,rfl,zF ⟨_,rfl,k0 _ (Same.refl _) ?_ (fun y hy=>by cases hy;exact .inr (.inl rfl))⟩⟩
     rw[if_pos g1]
     exact⟨c,rfl,hc⟩
   rw[if_neg (fun z=>g1 (kJ z))]
   by_cases g2:r=t
   . rw[if_pos (by rw[g2])]
     refine⟨_,rfl,_,rfl,zF ⟨_,rfl,k0 _ (Same.refl _) ?_ (fun y hy=>by cases hy;exact .inl rfl)⟩⟩
     rw[if_neg g1,if_pos g2]
     exact⟨b,rfl,hb⟩
   rw[if_neg (fun z=>g2 (kJ z))]
   by_cases g3:l=r
   . rw[if_pos (by rw[g3])]
     refine⟨_,rfl,_,rfl,zF ⟨_,rfl,k0 _ (Same.refl _) ?_ (fun y hy=>by cases hy;exact .inl rfl)⟩⟩
     rw[if_neg g1,if_neg g2,if_pos g3]
     exact⟨b,rfl,hb⟩
   rw[if_neg (fun z=>g3 (kJ z))]
   simp only[if_neg g1,if_neg g2,if_neg g3] at k
   refine⟨_,rfl,_,rfl,zy ?_⟩
   refine⟨_,rfl,_,rfl,a,b,t,l,rfl,ha,hb,(by omega),(by omega),fun H1 p1 s1 c1=>?_⟩
   refine⟨_,rfl,_,rfl,a,c,t,r,rfl,s1 _ _ ha,s1 _ _ hc,(by omega),(by omega),fun H2 p2 s2 c2=>?_⟩
   have c1':=c1.mono s2
   have f1:=uk (linesOf t) (linesOf l)
   have f2:=uk (linesOf t) (linesOf r)
   have z1:=wJ (linesOf t) (linesOf l)
   have z2:=wJ (linesOf t) (linesOf r)
   rw[ya] at z1 z2
   have s12:=s1.trans s2
   have ha2:=s12 _ _ ha
   obtain⟨dx1,l1,as1,e1,r1,b1⟩:=id c1'
   obtain⟨dx2,l2,as2,e2,r2,b2⟩:=id c2
   refine⟨_,rfl,p1,C.cChange,dx1,_,_,rfl,e1,T.c_Change,T.n_Change_end,vN _ _ _,_,rfl,p2,C.cChange,dx2,_,_,rfl,e2,T.c_Change,T.n_Change_begin,k8 _ _ _,_,_,rfl,rfl,_,rfl,wY (fun hh=>?_) (fun hh=>?_)⟩
   . have e:(changeOf (linesOf t) (linesOf l)).q<(changeOf (linesOf t) (linesOf r)).p:=by
      have:=of_decide_eq_true hh
      omega
     refine⟨_,rfl,_,rfl,_,rfl,a,p1,p2,t,_,_,rfl,ha2,c1',c2,ht,f1.1,e,f2.1,f2.2,(by omega),(by omega),fun H3 x s3 o3 n3=>k H3 x (s12.trans s3) ?_ (fun y hy=>.inr (.inr (s12.free (n3 y hy))))⟩
     rw[if_pos e]
     exact o3
   . have e:¬(changeOf (linesOf t) (linesOf l)).q<(changeOf (linesOf t) (linesOf r)).p:=fun z=>hh (decide_eq_true (by omega))
     refine⟨_,rfl,p2,C.cChange,dx2,_,_,rfl,e2,T.c_Change,T.n_Change_end,vN _ _ _,_,rfl,p1,C.cChange,dx1,_,_,rfl,e1,T.c_Change,T.n_Change_begin,k8 _ _ _,_,_,rfl,rfl,_,rfl,wY (fun hh=>?_) (fun hh=>?_)⟩
     . have e':(changeOf (linesOf t) (linesOf r)).q<(changeOf (linesOf t) (linesOf l)).p:=by
        have:=of_decide_eq_true hh
        omega
       refine⟨_,rfl,_,rfl,_,rfl,a,p2,p1,t,_,_,rfl,ha2,c2,c1',ht,f2.1,e',f1.1,f1.2,(by omega),(by omega),fun H3 x s3 o3 n3=>k H3 x (s12.trans s3) ?_ (fun y hy=>.inr (.inr (s12.free (n3 y hy))))⟩
       rw[if_neg e,if_pos e']
       exact o3
     . have e':¬(changeOf (linesOf t) (linesOf r)).q<(changeOf (linesOf t) (linesOf l)).p:=fun z=>hh (decide_eq_true (by omega))
       refine k H2 .non s12 ?_ (fun y hy=>nomatch hy)
       rw[if_neg e,if_neg e']
       rfl
end
end Tb
end
section
namespace Tb
open PySem PySem.Spec PyProof.Rows L2
open Vanbki (nats ofNat markNat numbers)
theorem Kl (a b:V):ww [(Sum.inl 1,a),(Sum.inl 2,b)] (Sum.inl 1:Key)=some a:=yJ rfl
theorem Km (a b:V):ww [(Sum.inl 1,a),(Sum.inl 2,b)] (Sum.inl 2:Key)=some b:=by
 rw[vM (by intro e;injection e with e;exact absurd e (by decide))]
 exact yJ rfl
theorem acH (a b:V) {n:Int} (h1:n≠1) (h2:n≠2):ww [(Sum.inl 1,a),(Sum.inl 2,b)] (Sum.inl n:Key)=none:=by
 rw[vM (by intro e;injection e with e;exact h1 e.symm),vM (by intro e;injection e with e;exact h2 e.symm)]
 rfl
section
variable {K:PySem.W.Frag}{mg:Str->Option Value}{C:Ad}{H G:Hp}{B:Bk}{ch:Chs}{s:Vanbki.State}{σ:L2.St}{i:Nat}{Q:VK}
theorem Yp (T:Txt K mg C) (h:BooksAt C H G B ch s) (hv:σ[i]?=some (some (.ref B.b))) (q:Q (.ref B.lb) H):yd K (qv i) "base_cells" σ H Q:=by
 obtain⟨dx,e⟩:=h.bk
 exact⟨_,hv,B.b,C.cBooks,dx,_,_,rfl,e,T.c_Books,T.n_Books_base_cells,qT _ _ _,q⟩
theorem aa8 (T:Txt K mg C) (h:BooksAt C H G B ch s) (hv:σ[i]?=some (some (.ref B.b))) (q:Q (.ref B.a1) H):K6 (yd K (qv i) "sides") (tC (.int 1)) σ H Q:=by
 obtain⟨dx,e⟩:=h.bk
 exact⟨_,hv,B.b,C.cBooks,dx,_,_,rfl,e,T.c_Books,T.n_Books_sides,zD _ _ _,B.ds,_,rfl,Kl (.ref B.a1) (.ref B.a2)▸DGet.k (k:=Sum.inl 1) h.sd,q⟩
theorem aa9 (T:Txt K mg C) (h:BooksAt C H G B ch s) (hv:σ[i]?=some (some (.ref B.b))) (q:Q (.ref B.a2) H):K6 (yd K (qv i) "sides") (tC (.int 2)) σ H Q:=by
 obtain⟨dx,e⟩:=h.bk
 exact⟨_,hv,B.b,C.cBooks,dx,_,_,rfl,e,T.c_Books,T.n_Books_sides,zD _ _ _,B.ds,_,rfl,Km (.ref B.a1) (.ref B.a2)▸DGet.k (k:=Sum.inl 2) h.sd,q⟩
theorem QH (T:Txt K mg C) (h:BooksAt C H G B ch s) (hv:σ[i]?=some (some (.ref B.b))) (q:Q (.ref B.l1) H):yd K (K6 (yd K (qv i) "sides") (tC (.int 1))) "cells" σ H Q:=by
 obtain⟨dx,e⟩:=h.s1
 exact aa8 T h hv ⟨B.a1,C.cSide,dx,_,_,rfl,e,T.c_Side,T.n_Side_cells,zM _ _,q⟩
theorem QI (T:Txt K mg C) (h:BooksAt C H G B ch s) (hv:σ[i]?=some (some (.ref B.b))) (q:Q (.ref B.l2) H):yd K (K6 (yd K (qv i) "sides") (tC (.int 2))) "cells" σ H Q:=by
 obtain⟨dx,e⟩:=h.s2
 exact aa9 T h hv ⟨B.a2,C.cSide,dx,_,_,rfl,e,T.c_Side,T.n_Side_cells,zM _ _,q⟩
end
section
variable {C:Ad}{H G:Hp}{B:Bk}{ch:Chs}{s:Vanbki.State}
theorem BooksAt.d0 (h:BooksAt C H G B ch s):∃ as,RL H B.lb as/\CellsAt C H as s.base/\CellsAt C G as s.base:=by
 obtain⟨as,e,r⟩:=h.c0
 exact⟨as,h.gh _ _ e,r.mono h.gh,r⟩
theorem BooksAt.d1 (h:BooksAt C H G B ch s):∃ as,RL H B.l1 as/\CellsAt C H as s.left/\CellsAt C G as s.left:=by
 obtain⟨as,e,r⟩:=h.c1
 exact⟨as,e,r.mono h.gh,r⟩
theorem BooksAt.d2 (h:BooksAt C H G B ch s):∃ as,RL H B.l2 as/\CellsAt C H as s.right/\CellsAt C G as s.right:=by
 obtain⟨as,e,r⟩:=h.c2
 exact⟨as,e,r.mono h.gh,r⟩
end
theorem abY (a b:Int):eqV (.int a) (.int b)=decide (a=b):=by
 first | rfl | (simp[eqV]) | (unfold eqV;exact (by by_cases h:a=b <;> simp[h]))
theorem aa_ (n:Int) (ns:List Int):inV (.int n) (ns.map V.int)=decide (n∈ns):=by
 unfold inV
 rw[List.any_map]
 induction ns with
 | nil=>rfl
 | cons a r ih =>
  rw[List.any_cons,ih]
  show (eqV (.int a) (.int n) || _)=_
  rw[abY]
  by_cases h:a=n
  . simp[h]
  . have h':¬n=a:=fun e=>h e.symm
    simp[h,h']
theorem jA (ns:List Int):(ns.map V.int).all ZF=true:=by
 rw[List.all_map]
 exact List.all_eq_true.mpr fun x _=>rfl
theorem mem_nats {n:Nat}{l:List Nat}:((n:Int)∈nats l) ↔ n∈l:=by
 unfold nats
 constructor
 . intro h
   obtain⟨m,hm,e⟩:=List.mem_map.mp h
   have:m=n:=by unfold ofNat at e;omega
   exact this▸hm
 . intro h
   exact List.mem_map.mpr ⟨n,h,rfl⟩
theorem k9 (n:Nat) (l:List Nat):inV (.int (n:Int)) ((nats l).map V.int)=decide (n∈l):=by
 rw[aa_]
 by_cases h:n∈l
 . rw[decide_eq_true h,decide_eq_true (mem_nats.mpr h)]
 . rw[decide_eq_false h,decide_eq_false (fun z=>h (mem_nats.mp z))]
theorem xJ (l:List Nat) (p:Nat->Bool):(l.map fun n=>if p n=true then some (V.int (n:Int)) else none).filterMap id=(nats (l.filter p)).map V.int:=by
 induction l with
 | nil=>rfl
 | cons a r ih =>
  rw[List.map_cons]
  by_cases h:p a=true
  . rw[if_pos h,List.filter_cons_of_pos h,List.filterMap_cons_some (by rfl),ih]
    rfl
  . rw[if_neg h,List.filter_cons_of_neg h,List.filterMap_cons_none (by rfl),ih]
theorem xl (d:Vanbki.Doc) (n:Nat):Vanbki.has d n=decide (n∈numbers d):=by
 by_cases h:n∈numbers d
 . rw[decide_eq_true h]
   exact has_iff.mpr h
 . rw[decide_eq_false h]
   exact has_false.mpr h
theorem OptCell.mono {C:Ad}{H H':Hp}{r:V}{o:Option Vanbki.Cell} (s:Same H H') (h:OptCell C H r o):OptCell C H' r o:=by
 cases o with
 | none=>exact h
 | some c =>
  obtain⟨a,e,q⟩:=h
  exact⟨a,e,q.mono s⟩
def vn (C:Ad):Sp:=fun vs H Q _=>∃ G B ch s,vs=[.ref (Bk.b B)]/\BooksAt C H G B ch s/\∀ H' p a b c,Same H H'->H' p=some (.tup [.ref a,.ref b,.ref c])->IL H' a (nats (Vanbki.common s))->IL H' b (nats (Vanbki.orderIn s s.left))->IL H' c (nats (Vanbki.orderIn s s.right))->Q (.ref p) H'
def vY:Sp:=fun vs H Q _=>∃ p a b c xs ys zs,vs=[.ref p]/\H p=some (.tup [.ref a,.ref b,.ref c])/\IL H a xs/\IL H b ys/\IL H c zs/\Q (if ys=xs then .ref c else if zs=xs then .ref b else if ys=zs then .ref b else .non) H
def ZW (C:Ad):Sp:=fun vs H Q _=>∃ a b c d,vs=[.ref a,.ref b]/\CellAt C H a c/\CellAt C H b d/\Q (.bl (Vanbki.sameCell c d)) H
def kindOf (c:Vanbki.Cell) (l r:Option Vanbki.Cell):Nat:=match l,r with
 | some l,some r=>if (Vanbki.mergedText c.text l.text r.text).isNone=true then 1 else 0
 | none,some r=>if Vanbki.sameCell c r=true then 0 else 2
 | some l,none=>if Vanbki.sameCell c l=true then 0 else 3
 | none,none=>0
theorem UT (s:Vanbki.State) (c:Vanbki.Cell):kH s c=kindOf c (Vanbki.find s.left c.number) (Vanbki.find s.right c.number):=by
 unfold kH Vanbki.conflictAt kindOf
 cases Vanbki.find s.left c.number <;> cases Vanbki.find s.right c.number <;> simp <;> split <;> simp_all
def aba (o:Option Vanbki.Cell):Prop:=∀ c,o=some c->c.text.length<=1000
def u4 (C:Ad):Sp:=fun vs H Q _=>∃ a vl vr c l r,vs=[.ref a,vl,vr]/\CellAt C H a c/\OptCell C H vl l/\OptCell C H vr r/\c.text.length<=1000/\aba l/\aba r/\∀ H',Same H H'->Q (.int (kindOf c l r:Nat)) H'
def vo (H:Hp) (q:Addr) (x:Nat × Nat):Prop:=H q=some (.tup [.int (x.1:Nat),.int (x.2:Nat)])
def ki (C:Ad):Sp:=fun vs H Q _=>∃ G B ch s,vs=[.ref (Bk.b B)]/\BooksAt C H G B ch s/\∀ H' p qs,Same H H'->H p=none->RL H' p qs->Paired (vo H') qs (Vanbki.conflicts s)->Q (.ref p) H'
def js (C:Ad):Sp:=fun vs H Q _=>∃ G B ch s q x,vs=[.ref (Bk.b B),.ref q]/\BooksAt C H G B ch s/\vo H q x/\Q (.int (Vanbki.choiceOf s x.1 x.2:Nat)) H
def jd (C:Ad):Sp:=fun vs H Q _=>∃ G B ch s,vs=[.ref (Bk.b B)]/\BooksAt C H G B ch s/\∀ H',Same H H'->Q (.int (Vanbki.open_ s:Nat)) H'
def xm (C:Ad):Sp:=fun vs H Q _=>∃ G B ch s,vs=[.ref (Bk.b B)]/\BooksAt C H G B ch s/\∀ H' p,Same H H'->H p=none->IL H' p (ofNat (Vanbki.conflicts s).length::(Vanbki.conflicts s).flatMap fun x=>[ofNat x.1,ofNat x.2,ofNat (Vanbki.choiceOf s x.1 x.2)])->Q (.ref p) H'
section
variable {P:Program}{w:World}{K:PySem.W.Frag}{mg:Str->Option Value}{base:Heap}{C:Ad}{f:Addr}{fd:FuncData}
theorem Jn {f1:Addr}{fd1:FuncData} (F:Fun K "agreed_order" "agreed_order" kS f fd) (T:Txt K mg C) (D_agreed:Def P w K mg base "agreed" 1 ["base","left","right"] (QF) f1 fd1):zU P w K mg base CX0 2 f fd ["orders"] (vY):=by
 refine F.ok Jj (fun vs H Q E h=>?_) (fun cdv A outer s H vs Q E hr h=>?_)
 . obtain⟨p,a,b,c,xs,ys,zs,rfl,_⟩:=h
   rfl
 . obtain⟨p,a,b,c,xs,ys,zs,rfl,hp,ha,hb,hc,k⟩:=h
   refine⟨_,(za (zg (ze D_agreed (hr.mono (by decide)) (z4 (qk kL (pv 0) zB (fun _ _=>rfl)) (z4 (qk kL (pv 0) zB (fun _ _=>rfl)) (z4 (qk kL (pv 0) zB (fun _ _=>rfl)) z9)))))),?_⟩
   exact⟨_,rfl,p,_,_,_,rfl,rfl,SqT.of hp,zV (j:=0) rfl,_,rfl,p,_,_,_,rfl,rfl,SqT.of hp,zV (j:=1) rfl,_,rfl,p,_,_,_,rfl,rfl,SqT.of hp,zV (j:=2) rfl,a,b,c,xs,ys,zs,rfl,ha,hb,hc,k⟩
theorem Yq (F:Fun K "unchanged" "unchanged" x5 f fd) (T:Txt K mg C):zU P w K mg base CX0 1 f fd ["base_cell","cell"] (ZW C):=by
 refine F.ok Yi (fun vs H Q E h=>?_) (fun cdv A outer s H vs Q E hr h=>?_)
 . obtain⟨a,b,c,d,rfl,_⟩:=h
   rfl
 . obtain⟨a,b,c,d,rfl,⟨dx1,q1,e1,t1⟩,⟨dx2,q2,e2,t2⟩,k⟩:=h
   refine⟨_,(za (zg (acg (um (wP hr.units) (zf (pv 1) rfl) (zf (pv 0) rfl) (zz _)) (aax (um qN (zf (pv 1) rfl) (zf (pv 0) rfl) (zz _)))))),?_⟩
   refine⟨_,rfl,b,C.cCell,dx2,_,_,rfl,e2,T.c_Cell,T.n_Cell_text,zN _ _ _,_,rfl,a,C.cCell,dx1,_,_,rfl,e1,T.c_Cell,T.n_Cell_text,zN _ _ _,_,_,vO t2,vO t1,q5 _,q5 _,_,rfl,?_⟩
   rw[vJ]
   unfold Vanbki.sameCell at k
   by_cases h:d.text=c.text
   . rw[decide_eq_true (by rw[h])]
     refine zF ⟨_,rfl,b,C.cCell,dx2,_,_,rfl,e2,T.c_Cell,T.n_Cell_mark,qo _ _ _,_,rfl,a,C.cCell,dx1,_,_,rfl,e1,T.c_Cell,T.n_Cell_mark,qo _ _ _,rfl,?_⟩
     have e:decide (V.int (markNat d.hidden:Nat)=V.int (markNat c.hidden:Nat))=(c.text == d.text && c.hidden == d.hidden):=by
      rw[h]
      cases c.hidden <;> cases d.hidden <;> simp[markNat]
     rw[<-e] at k
     exact k
   . rw[decide_eq_false (fun z=>h (kJ z))]
     refine zy ?_
     have e:(c.text == d.text && c.hidden == d.hidden)=false:=by
      have:(c.text == d.text)=false:=by simpa using fun z=>h z.symm
      rw[this]
      rfl
     rw[e] at k
     exact k
theorem Kn {f1:Addr}{fd1:FuncData}{f2:Addr}{fd2:FuncData} (F:Fun K "conflict_at" "conflict_at" vy f fd) (T:Txt K mg C) (D_merged_text:Def P w K mg base "merged_text" 4 ["base_text","left_text","right_text"] (yN C) f1 fd1) (D_unchanged:Def P w K mg base "unchanged" 1 ["base_cell","cell"] (ZW C) f2 fd2):zU P w K mg base CX0 5 f fd ["base_cell","left","right"] (u4 C):=by
 refine F.ok Kf (fun vs H Q E h=>?_) (fun cdv A outer s H vs Q E hr h=>?_)
 . obtain⟨a,vl,vr,c,l,r,rfl,_⟩:=h
   rfl
 . obtain⟨a,vl,vr,c,l,r,rfl,ha,hl,hr',zc,zl,zr,k⟩:=h
   refine⟨_,(z5 (zC (Y0 (qD (jD (pv 1))) (JG (qD (jD (pv 2))))).pt (za (zg (pgi T.g_NO_CONFLICT))) zj)
    (z5 (zC (qD (jD (pv 1))) (za (zg (jK (Qy (ze D_unchanged (hr.mono (by decide)) (z4 (pv 0) (z4 (pv 2) z9)))) (pgi T.g_NO_CONFLICT) (pgi T.g_LEFT_HAS_NOT)))) zj)
    (z5 (zC (qD (jD (pv 2))) (za (zg (jK (Qy (ze D_unchanged (hr.mono (by decide)) (z4 (pv 0) (z4 (pv 1) z9)))) (pgi T.g_NO_CONFLICT) (pgi T.g_RIGHT_HAS_NOT)))) zj)
    (z5 (zC (qD (jD (ze D_merged_text (hr.mono (by decide)) (z4 (zf (pv 0) rfl) (z4 (zf (pv 1) rfl) (z4 (zf (pv 2) rfl) z9)))))) (za (zg (pgi T.g_TEXT_CONFLICT))) zj)
    (za (zg (pgi T.g_NO_CONFLICT))))))),?_⟩
   have k0:=k H (Same.refl _)
   cases l with
   | none =>
    have hl:vl=.non:=hl
    subst hl
    cases r with
    | none =>
     have hr':vr=.non:=hr'
     subst hr'
     exact⟨_,rfl,_,rfl,zF ⟨_,rfl,_,rfl,zF k0⟩⟩
    | some r =>
     obtain⟨b,rfl,hb⟩:=hr'
     refine⟨_,rfl,_,rfl,zF ⟨_,rfl,_,rfl,zy ?_⟩⟩
     refine⟨_,rfl,_,rfl,zF ⟨_,rfl,_,rfl,a,b,c,r,rfl,ha,hb,_,rfl,?_⟩⟩
     have k0:Q (.int ((if Vanbki.sameCell c r=true then 0 else 2:Nat):Int)) H:=k0
     cases e:Vanbki.sameCell c r with
     | true =>
      rw[e] at k0
      exact zF k0
     | false =>
      rw[e] at k0
      exact zy k0
   | some l =>
    obtain⟨b,rfl,hb⟩:=hl
    refine⟨_,rfl,_,rfl,zy (zy ?_)⟩
    refine⟨_,rfl,_,rfl,zy ?_⟩
    cases r with
    | none =>
     have hr':vr=.non:=hr'
     subst hr'
     refine⟨_,rfl,_,rfl,zF ⟨_,rfl,_,rfl,a,b,c,l,rfl,ha,hb,_,rfl,?_⟩⟩
     have k0:Q (.int ((if Vanbki.sameCell c l=true then 0 else 3:Nat):Int)) H:=k0
     cases e:Vanbki.sameCell c l with
     | true =>
      rw[e] at k0
      exact zF k0
     | false =>
      rw[e] at k0
      exact zy k0
    | some r =>
     obtain⟨d,rfl,hd⟩:=hr'
     refine⟨_,rfl,_,rfl,zy ?_⟩
     obtain⟨dx1,q1,e1,t1⟩:=ha
     obtain⟨dx2,q2,e2,t2⟩:=hb
     obtain⟨dx3,q3,e3,t3⟩:=hd
     refine⟨_,rfl,a,C.cCell,dx1,_,_,rfl,e1,T.c_Cell,T.n_Cell_text,zN _ _ _,_,rfl,b,C.cCell,dx2,_,_,rfl,e2,T.c_Cell,T.n_Cell_text,zN _ _ _,_,rfl,d,C.cCell,dx3,_,_,rfl,e3,T.c_Cell,T.n_Cell_text,zN _ _ _,
      q1,q2,q3,c.text,l.text,r.text,rfl,t1,t2,t3,zc,zl l rfl,zr r rfl,fun H1 x s1 o1 _=>?_⟩
     have k1:Q (.int ((if (Vanbki.mergedText c.text l.text r.text).isNone=true then 1 else 0:Nat):Int)) H1:=k H1 s1
     cases e:Vanbki.mergedText c.text l.text r.text with
     | none =>
      rw[e] at o1 k1
      have o1:x=.non:=o1
      subst o1
      exact⟨_,rfl,zF k1⟩
     | some t =>
      rw[e] at o1 k1
      obtain⟨y,rfl,_⟩:=o1
      exact⟨_,rfl,zy k1⟩
theorem QJ {f1:Addr}{fd1:FuncData} (F:Fun K "common_orders" "common_orders" kf f fd) (T:Txt K mg C) (D_numbers_of:Def P w K mg base "numbers_of" 1 ["cells"] (jz C) f1 fd1):zU P w K mg base CX0 2 f fd ["books"] (vn C):=by
 refine F.ok sc_common_orders (fun vs H Q E h=>?_) (fun cdv A outer s H vs Q E hr h=>?_)
 . obtain⟨G,B,ch,s,rfl,_⟩:=h
   rfl
 . obtain⟨G,B,ch,s,rfl,hb,k⟩:=h
   have hu:=jL hr
   refine⟨_,(z5 (zi (i:=1) sc_common_orders.nd rfl (Or.inr rfl) (ze D_numbers_of (hr.mono (by decide)) (z4 (zf (qc hu (zf (pv 0) rfl) (pgi T.g_LEFT) (fun _ _=>rfl)) rfl) z9)))
    (z5 (zi (i:=2) sc_common_orders.nd rfl (Or.inr rfl) (ze D_numbers_of (hr.mono (by decide)) (z4 (zf (qc hu (zf (pv 0) rfl) (pgi T.g_RIGHT) (fun _ _=>rfl)) rfl) z9)))
    (z5 (zi (i:=3) sc_common_orders.nd rfl (Or.inr rfl) (wU rfl sc_common_orders.nd (qa (ze D_numbers_of (hr.mono (by decide)) (z4 (zf (pv 0) rfl) z9))) (qy (own:=[("number",4)]) (by kernel_rfl)) (fun _ _ _ _ _=>(zJ (i:=4) sc_common_orders.nd rfl (Or.inl rfl))) (fun _ _ _ _ _=>xW (Y0 (zo (Z6 (K:=K) rfl) (pv 4) (pv 1) rfl) (JG (zo (Z6 (K:=K) rfl) (pv 4) (pv 2) rfl))).pt) (fun _ _ _ _ _=>(pv 4))))
    (z5 (vL (i:=5) rfl sc_common_orders.nd rfl rfl (yU rfl rfl rfl rfl) (qa (pv 1)) (qy (own:=[("number",4)]) (by kernel_rfl)) (fun _ _ _ _ _=>(zJ (i:=4) sc_common_orders.nd rfl (Or.inl rfl))) (fun _ _ _ _ _=>xW (zo (Z6 (K:=K) rfl) (pv 4) (pv 3) rfl)) (fun _ _ _ _ _=>(pv 4)))
    (z5 (vL (i:=6) rfl sc_common_orders.nd rfl rfl (yU rfl rfl rfl rfl) (qa (pv 2)) (qy (own:=[("number",4)]) (by kernel_rfl)) (fun _ _ _ _ _=>(zJ (i:=4) sc_common_orders.nd rfl (Or.inl rfl))) (fun _ _ _ _ _=>xW (zo (Z6 (K:=K) rfl) (pv 4) (pv 3) rfl)) (fun _ _ _ _ _=>(pv 4)))
    (za (zg (yH (z4 (pv 3) (z4 (pv 5) (z4 (pv 6) z9))))))))))),?_⟩
   obtain⟨as0,r0,c0,_⟩:=hb.d0
   obtain⟨as1,r1,c1,_⟩:=hb.d1
   obtain⟨as2,r2,c2,_⟩:=hb.d2
   have z0:=hb.ok.b.len
   have z1:=hb.ok.l.len
   have z2:=hb.ok.r.len
   refine QH T hb rfl ⟨B.l1,as1,s.left,rfl,r1,c1,(by omega),fun H1 p1 s1 n1 e1=>?_⟩
   refine QI T (hb.mono s1) rfl ⟨B.l2,as2,s.right,rfl,s1 _ _ r2,c2.mono s1,(by omega),fun H2 p2 s2 n2 e2=>?_⟩
   have s12:=s1.trans s2
   refine Yp T (hb.mono s12) rfl ⟨B.lb,as0,s.base,rfl,s12 _ _ r0,c0.mono s12,(by omega),fun H3 p3 s3 n3 e3=>⟨p3,rfl,⟨_,SqL.of e3⟩,fun D hD=>?_⟩⟩
   have lenN:∀ d:Vanbki.Doc,((nats (numbers d)).map V.int).length=d.length:=fun d=>by simp[nats,numbers]
   refine Q_ (K:=K) (xs:=(nats (numbers s.base)).map V.int) ((numbers s.base).map fun n=>if (Vanbki.has s.left n && Vanbki.has s.right n)=true then some (V.int n) else none) (by simp[nats,numbers]) (SqL.of e3) hD (by rw[lenN];exact qO (by omega)) (fun i x y H' P' N hi hy s4 hP hN=>?_) (fun H4 s4 e4=>?_)
   . obtain⟨n,hn,rfl⟩:=yM hi
     rw[List.getElem?_map,hn] at hy
     have ey:y=if (Vanbki.has s.left n && Vanbki.has s.right n)=true then some (V.int n) else none:=(Option.some.inj hy).symm
     rw[xl,xl] at ey
     refine⟨rfl,_,rfl,_,rfl,p1,_,rfl,.inl (SqL.of (s4 _ _ (s3 _ _ (s2 _ _ e1)))),rfl,jA _,_,rfl,?_⟩
     simp only[Bool.false_eq_true,if_false]
     rw[k9]
     by_cases h1:n∈numbers s.left
     . rw[decide_eq_true h1] at ey ⊢
       refine zF ⟨_,rfl,_,rfl,p2,_,rfl,.inl (SqL.of (s4 _ _ (s3 _ _ e2))),rfl,jA _,_,rfl,?_⟩
       simp only[Bool.false_eq_true,if_false]
       rw[k9]
       by_cases h2:n∈numbers s.right
       . rw[decide_eq_true h2] at ey ⊢
         exact zF ⟨_,rfl,hP _ ey _ (Same.refl _)⟩
       . rw[decide_eq_false h2] at ey ⊢
         exact zy (hN ey _ (Same.refl _))
     . rw[decide_eq_false h1] at ey ⊢
       exact zy (hN (by simpa using ey) _ (Same.refl _))
   rw[xJ] at e4
   have e4:IL H4 D (nats (Vanbki.common s)):=e4
   have ord:∀ (d:Vanbki.Doc) (i:Nat) (n:Nat) (y:Option V),(numbers d)[i]?=some n->((numbers d).map fun n=>if (Vanbki.common s).contains n=true then some (V.int n) else none)[i]?=some y->y=if decide (n∈Vanbki.common s)=true then some (V.int n) else none:=fun d i n y hn hy=>by
    rw[List.getElem?_map,hn] at hy
    rw[<-show (if (Vanbki.common s).contains n=true then some (V.int (n:Int)) else none)=y from Option.some.inj hy]
    by_cases h:n∈Vanbki.common s
    . rw[if_pos (by simpa using h),if_pos (by simpa using h)]
    . rw[if_neg (by simpa using h),if_neg (by simpa using h)]
   have s34:=s3.trans s4
   refine⟨_,rfl,p1,rfl,⟨_,SqL.of (s34 _ _ (s2 _ _ e1))⟩,fun D2 hD2=>?_⟩
   refine Q_ (K:=K) (xs:=(nats (numbers s.left)).map V.int) ((numbers s.left).map fun n=>if (Vanbki.common s).contains n=true then some (V.int n) else none) (by simp[nats,numbers]) (SqL.of (s34 _ _ (s2 _ _ e1))) hD2 (by rw[lenN];exact qO (by omega)) (fun i x y H' P' N hi hy s5 hP hN=>?_) (fun H5 s5 e5=>?_)
   . obtain⟨n,hn,rfl⟩:=yM hi
     have ey:=ord _ _ _ _ hn hy
     refine⟨rfl,_,rfl,_,rfl,D,_,rfl,.inl (SqL.of (s5 _ _ e4)),rfl,jA _,_,rfl,?_⟩
     simp only[Bool.false_eq_true,if_false]
     rw[k9]
     by_cases h2:n∈Vanbki.common s
     . rw[decide_eq_true h2] at ey ⊢
       exact zF ⟨_,rfl,hP _ ey _ (Same.refl _)⟩
     . rw[decide_eq_false h2] at ey ⊢
       exact zy (hN ey _ (Same.refl _))
   rw[xJ] at e5
   have e5:IL H5 D2 (nats (Vanbki.orderIn s s.left)):=e5
   have s35:=s34.trans s5
   refine⟨_,rfl,p2,rfl,⟨_,SqL.of (s35 _ _ e2)⟩,fun D3 hD3=>?_⟩
   refine Q_ (K:=K) (xs:=(nats (numbers s.right)).map V.int) ((numbers s.right).map fun n=>if (Vanbki.common s).contains n=true then some (V.int n) else none) (by simp[nats,numbers]) (SqL.of (s35 _ _ e2)) hD3 (by rw[lenN];exact qO (by omega)) (fun i x y H' P' N hi hy s6 hP hN=>?_) (fun H6 s6 e6=>?_)
   . obtain⟨n,hn,rfl⟩:=yM hi
     have ey:=ord _ _ _ _ hn hy
     refine⟨rfl,_,rfl,_,rfl,D,_,rfl,.inl (SqL.of (s6 _ _ (s5 _ _ e4))),rfl,jA _,_,rfl,?_⟩
     simp only[Bool.false_eq_true,if_false]
     rw[k9]
     by_cases h2:n∈Vanbki.common s
     . rw[decide_eq_true h2] at ey ⊢
       exact zF ⟨_,rfl,hP _ ey _ (Same.refl _)⟩
     . rw[decide_eq_false h2] at ey ⊢
       exact zy (hN ey _ (Same.refl _))
   rw[xJ] at e6
   refine⟨_,rfl,_,rfl,_,rfl,(by show 3<=sizeLine;decide),fun p hp=>?_⟩
   have s7:=Same.new (o:=.tup [.ref D,.ref D2,.ref D3]) hp
   exact k _ p D D2 D3 (s12.trans (s35.trans (s6.trans s7))) z6 (s7 _ _ (s6 _ _ (s5 _ _ e4))) (s7 _ _ (s6 _ _ e5)) (s7 _ _ e6)
theorem Jo {f1:Addr}{fd1:FuncData}{f2:Addr}{fd2:FuncData}{f3:Addr}{fd3:FuncData}{f4:Addr}{fd4:FuncData} (F:Fun K "conflicts_of" "conflicts_of" kT f fd) (T:Txt K mg C) (D_cell_of:Def P w K mg base "cell_of" 2 ["cells","number"] (vm C) f1 fd1) (D_conflict_at:Def P w K mg base "conflict_at" 5 ["base_cell","left","right"] (u4 C) f2 fd2) (D_agreed_order:Def P w K mg base "agreed_order" 2 ["orders"] (vY) f3 fd3) (D_common_orders:Def P w K mg base "common_orders" 2 ["books"] (vn C) f4 fd4):zU P w K mg base CX0 6 f fd ["books"] (ki C):=by
 refine F.ok sc_conflicts_of (fun vs H Q E h=>?_) (fun cdv A outer s H vs Q E hr h=>?_)
 . obtain⟨G,B,ch,s,rfl,_⟩:=h
   rfl
 . obtain⟨G,B,ch,s,rfl,hb,k⟩:=h
   have hu:=jL hr
   refine⟨_,(z5 (zi (i:=1) sc_conflicts_of.nd rfl (Or.inl rfl) (zX z9))
    (z5 (kK PassesOwn.never rfl (qa (zf (pv 0) rfl)) (zJ (i:=2) sc_conflicts_of.nd rfl (Or.inl rfl)) (z5 (zi (i:=3) sc_conflicts_of.nd rfl (Or.inl rfl) (zf (pv 2) rfl))
    (z5 (zi (i:=4) sc_conflicts_of.nd rfl (Or.inl rfl) (ze D_cell_of (hr.mono (by decide)) (z4 (zf (qc hu (zf (pv 0) rfl) (pgi T.g_LEFT) (fun _ _=>rfl)) rfl) (z4 (pv 3) z9))))
    (z5 (zi (i:=5) sc_conflicts_of.nd rfl (Or.inl rfl) (ze D_cell_of (hr.mono (by decide)) (z4 (zf (qc hu (zf (pv 0) rfl) (pgi T.g_RIGHT) (fun _ _=>rfl)) rfl) (z4 (pv 3) z9))))
    (z5 (zi (i:=6) sc_conflicts_of.nd rfl (Or.inl rfl) (ze D_conflict_at (hr.mono (by decide)) (z4 (pv 2) (z4 (pv 4) (z4 (pv 5) z9)))))
    (za (zC (zo yG (pv 6) (pgi T.g_NO_CONFLICT) (zz _)) (za (qt (jF PySem.F.plainAttrs_list PySem.F.slot_list_append PySem.F.type_list_append jc (pv 1) (z4 (yH (z4 (pv 6) (z4 (pv 3) z9))) z9)))) zj)))))))
    (z5 (zC (qD (jD (ze D_agreed_order (hr.mono (by decide)) (z4 (ze D_common_orders (hr.mono (by decide)) (z4 (pv 0) z9)) z9)))) (za (qt (jF PySem.F.plainAttrs_list PySem.F.slot_list_append PySem.F.type_list_append jc (pv 1) (z4 (yH (z4 (pgi T.g_ORDER_CONFLICT) (z4 zB z9))) z9)))) zj)
    (za (zg (pv 1)))))),?_⟩
   obtain⟨as0,r0,c0,_⟩:=hb.d0
   obtain⟨as1,r1,c1,_⟩:=hb.d1
   obtain⟨as2,r2,c2,_⟩:=hb.d2
   have z0:=hb.ok.b.len
   have hlen:=zk c0
   refine⟨Nat.zero_le _,fun p hp=>?_⟩
   have s0:=Same.new (o:=.lst []) hp
   obtain⟨dxb,eb⟩:=hb.bk
   refine⟨_,rfl,B.b,C.cBooks,dxb,_,_,rfl,s0 _ _ eb,T.c_Books,T.n_Books_base_cells,qT _ _ _,B.lb,rfl,⟨_,SqL.of (s0 _ _ r0)⟩,jx (K:=K) (a:=B.lb) (xs:=as0.map V.ref)
    (fun i σ H'=>(∃ v2 v3 v4 v5 v6,σ=[some (.ref B.b),some (.ref p),v2,v3,v4,v5,v6])/\Same H H'/\∃ qs,RL H' p qs/\qs.length<=i/\Paired (vo H') qs ((s.base.take i).filterMap fun c=>if kH s c=0 then none else some (kH s c,c.number)))
    ⟨⟨none,none,none,none,none,rfl⟩,s0,[],z6,Nat.le_refl _,.nil⟩ (fun i σ H' _ h=>SqL.of (h.2.1 _ _ r0)) ?_ ?_⟩
   . rintro i x σ H' hi ⟨⟨v2,v3,v4,v5,v6,rfl⟩,s1,qs,hq,hql,hqp⟩
     obtain⟨a,ha,rfl⟩:=qF hi
     obtain⟨c,hc,hca⟩:=zG c0 ha
     obtain⟨dx,q,e1,e2⟩:=id hca
     have hcm:=List.mem_of_getElem? hc
     have hnum:=hb.ok.b.num c hcm
     have hil:i<12:=by
      have:=(List.getElem?_eq_some_iff.mp hc).1
      omega
     refine⟨_,rfl,a,C.cCell,dx,_,_,rfl,s1 _ _ e1,T.c_Cell,T.n_Cell_number,zE _ _ _,?_⟩
     refine QH T (hb.mono s1) rfl ⟨_,rfl,B.l1,as1,s.left,_,rfl,s1 _ _ r1,c1.mono s1,fun H2 x1 s2 o1=>?_⟩
     have o1:=(o1 H' (Same.refl _) (c1.mono s1))
     rw[vh] at o1
     have s12:=s1.trans s2
     refine QI T (hb.mono s12) rfl ⟨_,rfl,B.l2,as2,s.right,_,rfl,s12 _ _ r2,c2.mono s12,fun H3 x2 s3 o2=>?_⟩
     have o2:=(o2 H2 (Same.refl _) (c2.mono s12))
     rw[vh] at o2
     have s13:=s12.trans s3
     have tl:∀ (d:Vanbki.Doc),jv d->aba (Vanbki.find d c.number):=fun d D c' e=>by
      have:=(kn D e).1
      omega
     refine⟨_,rfl,_,rfl,_,rfl,a,x1,x2,c,_,_,rfl,hca.mono s13,OptCell.mono (s2.trans s3) o1,OptCell.mono s3 o2,(by have:=(hb.ok.b.txt c hcm).1;omega),tl _ hb.ok.l,tl _ hb.ok.r,fun H4 s4=>?_⟩
     rw[<-UT]
     have s14:=s13.trans s4
     have s1':=(s2.trans s3).trans s4
     have hq4:=s1' _ _ hq
     have hqp4:Paired (vo H4) qs _:=zA hqp fun _ _ r=>s1' _ _ r
     refine⟨_,rfl,rfl,_,rfl,wY (fun hh=>?_) (fun hh=>?_)⟩
     . have e:kH s c≠0:=fun z=>by rw[z] at hh;exact absurd hh (by decide)
       refine⟨_,rfl,.inl ⟨rfl,_,SqL.of hq4⟩,_,rfl,_,rfl,(by show 2<=sizeLine;decide),fun y hy=>⟨p,_,_,rfl,rfl,(by rw[z8 (z7 hq4 hy)];exact hq4),(by rw[List.length_map];exact qO (by omega)),?_⟩⟩
       have yp:y≠p:=Ne.symm (z7 hq4 hy)
       have hpn:H p=none:=hp
       refine⟨⟨_,_,_,_,_,rfl⟩,fun b o eo=>?_,qs++[y],?_,(by simp;omega),?_⟩
       . rw[z8 (z7 eo hp),z8 (z7 (s14 _ _ eo) hy)]
         exact s14 b o eo
       . rw[RL,z6,List.map_append]
         rfl
       . rw[zH hc,List.filterMap_append]
         simp only[List.filterMap_cons,List.filterMap_nil,if_neg e]
         refine j4 ?_ ?_
         . have:∀ {qs:List Addr}{l:List (Nat × Nat)},Paired (vo H4) qs l->Paired (vo (upd (upd H4 y (.tup [.int (kH s c:Nat),.int (c.number:Nat)])) p (.lst (qs.map V.ref++[.ref y])))) qs l:=fun {qs l} h=>zA h fun z w r=>by
            unfold vo at r ⊢
            rw[z8 (aat r hq4 (by intro z;cases z)),z8 (z7 r hy)]
            exact r
           exact this hqp4
         . unfold vo
           rw[z8 yp,z6]
     . have e:kH s c=0:=by
        by_cases z:kH s c=0
        . exact z
        . exfalso
          apply hh
          have:¬(V.int (kH s c:Nat)=V.int 0):=by
           intro q
           injection q with q
           omega
          simp[this]
       refine⟨⟨_,_,_,_,_,rfl⟩,s14,qs,hq4,(by omega),?_⟩
       rw[zH hc,List.filterMap_append]
       simp only[List.filterMap_cons,List.filterMap_nil,if_pos e,List.append_nil]
       exact hqp4
   . rintro σ H' ⟨⟨v2,v3,v4,v5,v6,rfl⟩,s1,qs,hq,hql,hqp⟩
     rw[List.length_map,hlen,List.take_length] at hqp
     rw[List.length_map,hlen] at hql
     refine⟨_,rfl,G,B,ch,s,rfl,hb.mono s1,fun H2 q a b c s2 eq ea eb ec=>⟨q,a,b,c,_,_,_,rfl,eq,ea,eb,ec,?_⟩⟩
     have s12:=s1.trans s2
     have hq2:=s2 _ _ hq
     have hqp2:Paired (vo H2) qs _:=zA hqp fun _ _ r=>s2 _ _ r
     have eo:Vanbki.mergedOrder s=if Vanbki.orderIn s s.left=Vanbki.common s then some (Vanbki.orderIn s s.right) else if Vanbki.orderIn s s.right=Vanbki.common s then some (Vanbki.orderIn s s.left) else if Vanbki.orderIn s s.left=Vanbki.orderIn s s.right then some (Vanbki.orderIn s s.left) else none:=rfl
     have fin:∀ (H3:Hp) qs',Same H H3->RL H3 p qs'->Paired (vo H3) qs' (Vanbki.conflicts s)->Y1 (qv 1) { nx:=fun _ H'=>Q .non H',rt:=Q } [some (.ref B.b),some (.ref p),v2,v3,v4,v5,v6] H3:=fun H3 qs' s3 h3 p3=>⟨_,rfl,k H3 p qs' s3 hp h3 p3⟩
     simp only[WL]
     have ek:=JW s
     by_cases g1:Vanbki.orderIn s s.left=Vanbki.common s
     . rw[if_pos g1] at eo ⊢
       rw[eo] at ek
       refine⟨_,rfl,zy (fin H2 qs s12 hq2 ?_)⟩
       rw[ek]
       simpa using hqp2
     rw[if_neg g1] at eo ⊢
     by_cases g2:Vanbki.orderIn s s.right=Vanbki.common s
     . rw[if_pos g2] at eo ⊢
       rw[eo] at ek
       refine⟨_,rfl,zy (fin H2 qs s12 hq2 ?_)⟩
       rw[ek]
       simpa using hqp2
     rw[if_neg g2] at eo ⊢
     by_cases g3:Vanbki.orderIn s s.left=Vanbki.orderIn s s.right
     . rw[if_pos g3] at eo ⊢
       rw[eo] at ek
       refine⟨_,rfl,zy (fin H2 qs s12 hq2 ?_)⟩
       rw[ek]
       simpa using hqp2
     rw[if_neg g3] at eo ⊢
     rw[eo] at ek
     refine⟨_,rfl,zF ⟨_,rfl,.inl ⟨rfl,_,SqL.of hq2⟩,(by show 2<=sizeLine;decide),fun y hy=>⟨p,_,_,rfl,rfl,(by rw[z8 (z7 hq2 hy)];exact hq2),(by rw[List.length_map];exact qO (by omega)),?_⟩⟩⟩
     have yp:y≠p:=Ne.symm (z7 hq2 hy)
     refine fin _ (qs++[y]) (fun b o eo=>?_) ?_ ?_
     . rw[z8 (z7 eo hp),z8 (z7 (s12 _ _ eo) hy)]
       exact s12 b o eo
     . rw[RL,z6,List.map_append]
       rfl
     . rw[ek]
       refine j4 (b:=(4,0)) ?_ ?_
       . refine zA hqp2 fun z w r=>?_
         unfold vo at r ⊢
         rw[z8 (aat r hq2 (by intro z;cases z)),z8 (z7 r hy)]
         exact r
       . unfold vo
         rw[z8 yp,z6]
         rfl
end
end Tb
end
section
namespace Tb
open PySem PySem.Spec PyProof.Rows L2
open Vanbki (nats ofNat markNat numbers)
def zT (B:Bk) (n:Int):Addr:=if n=1 then B.a1 else B.a2
def zK (B:Bk) (n:Int):Addr:=if n=1 then B.l1 else B.l2
theorem jt {n:Int} (h:Vanbki.noSide n=false):n=1∨n=2:=by
 unfold Vanbki.noSide at h
 by_cases h1:n=1
 . exact .inl h1
 . exact .inr (by simpa [h1] using h)
section
variable {K:PySem.W.Frag}{mg:Str->Option Value}{C:Ad}{H G:Hp}{B:Bk}{ch:Chs}{s:Vanbki.State}{σ:L2.St}{i j:Nat}{n:Int}{Q:VK}
theorem j6 (h:H B.ds=some (.dK [(Sum.inl 1,.ref B.a1),(Sum.inl 2,.ref B.a2)])) (hn:Vanbki.noSide n=false):DGet H B.ds (.int n) (some (.ref (zT B n))):=by
 rcases jt hn with rfl | rfl
 . exact Kl (.ref B.a1) (.ref B.a2)▸DGet.k (k:=Sum.inl 1) h
 . exact Km (.ref B.a1) (.ref B.a2)▸DGet.k (k:=Sum.inl 2) h
theorem UU (h:H B.ds=some (.dK [(Sum.inl 1,.ref B.a1),(Sum.inl 2,.ref B.a2)])) (hn:Vanbki.noSide n=true):DGet H B.ds (.int n) none:=by
 have hh:¬n=1/\¬n=2:=by
  unfold Vanbki.noSide at hn
  simpa using hn
 exact acH (.ref B.a1) (.ref B.a2) hh.1 hh.2▸DGet.k (k:=Sum.inl n) h
def U6 (B:Bk) (n:Int):Option V:=if Vanbki.noSide n=true then none else some (.ref (zT B n))
theorem yO (h:H B.ds=some (.dK [(Sum.inl 1,.ref B.a1),(Sum.inl 2,.ref B.a2)])) (n:Int):DGet H B.ds (.int n) (U6 B n):=by
 unfold U6
 cases hn:Vanbki.noSide n with
 | true=>exact UU h hn
 | false=>exact j6 h hn
theorem vp (B:Bk) (n:Int):(!(U6 B n).isSome)=Vanbki.noSide n:=by
 unfold U6
 cases Vanbki.noSide n <;> rfl
theorem abZ (T:Txt K mg C) (h:BooksAt C H G B ch s) (hn:Vanbki.noSide n=false) (hv:σ[i]?=some (some (.ref B.b))) (hw:σ[j]?=some (some (.int n))) (q:Q (.ref (zT B n)) H):K6 (yd K (qv i) "sides") (qv j) σ H Q:=by
 obtain⟨dx,e⟩:=h.bk
 exact⟨_,hv,B.b,C.cBooks,dx,_,_,rfl,e,T.c_Books,T.n_Books_sides,zD _ _ _,_,hw,B.ds,_,rfl,j6 h.sd hn,q⟩
theorem BooksAt.sS (h:BooksAt C H G B ch s) (n:Int):∃ dx,H (zT B n)=some (.ins C.cSide dx (qW (zK B n) (Vanbki.sideNext s n))):=by
 unfold zT zK Vanbki.sideNext
 by_cases hn:n=1
 . simp only[hn,if_true]
   exact h.s1
 . simp only[hn,if_false]
   exact h.s2
theorem BooksAt.dS (h:BooksAt C H G B ch s) (n:Int):∃ as,RL H (zK B n) as/\CellsAt C H as (Vanbki.sideDoc s n)/\CellsAt C G as (Vanbki.sideDoc s n):=by
 unfold zK Vanbki.sideDoc
 by_cases hn:n=1
 . simp only[hn,if_true]
   exact h.d1
 . simp only[hn,if_false]
   exact h.d2
theorem Ko (T:Txt K mg C) (h:BooksAt C H G B ch s) (hn:Vanbki.noSide n=false) (hv:σ[i]?=some (some (.ref B.b))) (hw:σ[j]?=some (some (.int n))) (q:Q (.ref (zK B n)) H):yd K (K6 (yd K (qv i) "sides") (qv j)) "cells" σ H Q:=by
 obtain⟨dx,e⟩:=h.sS n
 exact abZ T h hn hv hw ⟨zT B n,C.cSide,dx,_,_,rfl,e,T.c_Side,T.n_Side_cells,zM _ _,q⟩
end
theorem acI (ch:Chs) (k n:Nat):(ww (chV ch) [Sum.inl (k:Int),Sum.inl (n:Int)]).getD (.int 0)=.int (yL ch k n:Nat):=by
 induction ch with
 | nil=>rfl
 | cons x r ih =>
  unfold chV yL at ih ⊢
  rw[List.map_cons,List.find?_cons]
  by_cases h:x.1=(k,n)
  . rw[yJ (by rw[h])]
    simp[h]
  . rw[vM (by
     intro e
     injection e with e1 e2
     injection e2 with e2 _
     injection e1 with e1
     injection e2 with e2
     apply h
     ext
     . simp;omega
     . simp;omega)]
    have hb:(x.1 == (k,n))=false:=by simpa using h
    simp only[hb]
    exact ih
abbrev enc (a:Vanbki.Answer):List Int:=a.number::a.more
def k_ (c:Vanbki.Cell):Option Vanbki.Cell->Nat
 | none=>1
 | some x=>if x.text=c.text then (if x.hidden=c.hidden then 0 else 4) else if x.hidden=c.hidden then 3 else 5
theorem abb (b d:Vanbki.Doc):(b.filterMap fun c=>match Vanbki.find d c.number with
 | none=>some (c.number,1)
 | some x=>if c.text=x.text then (if c.hidden=x.hidden then none else some (c.number,4)) else (if c.hidden=x.hidden then some (c.number,3) else some (c.number,5)))=b.filterMap fun c=>if k_ c (Vanbki.find d c.number)=0 then none else some (c.number,k_ c (Vanbki.find d c.number)):=by
 congr 1
 funext c
 cases Vanbki.find d c.number with
 | none=>rfl
 | some x =>
  unfold k_
  by_cases h1:c.text=x.text
  . by_cases h2:c.hidden=x.hidden
    . simp[h1,h2]
    . have h2':¬x.hidden=c.hidden:=fun e=>h2 e.symm
      simp[h1,h2,h2']
  . have h1':¬x.text=c.text:=fun e=>h1 e.symm
    by_cases h2:c.hidden=x.hidden
    . simp[h1,h1',h2]
    . have h2':¬x.hidden=c.hidden:=fun e=>h2 e.symm
      simp[h1,h1',h2,h2']
def xy (C:Ad):Sp:=fun vs H Q _=>∃ l as d,vs=[.ref l]/\RL H l as/\CellsAt C H as d/\d.length<=1000/\(∀ c,c∈d->c.text.length<=200)/\∀ H' p,Same H H'->H p=none->IL H' p (enc (Vanbki.tellDoc d))->Q (.ref p) H'
def xK (C:Ad):Sp:=fun vs H Q _=>∃ G B ch s n,vs=[.ref (Bk.b B),.int n]/\BooksAt C H G B ch s/\∀ H' p,Same H H'->H p=none->IL H' p (enc (Vanbki.step s (.document n)).2)->Q (.ref p) H'
def uQ (C:Ad):Sp:=fun vs H Q _=>∃ a v c o,vs=[.ref a,v]/\CellAt C H a c/\OptCell C H v o/\Q (.int (k_ c o:Nat)) H
def y4:Sp:=fun vs H Q _=>∃ a b l m,vs=[.ref a,.ref b]/\IL H a (nats l)/\IL H b (nats m)/\l.length<=1000/\m.length<=1000/\∀ H',Same H H'->Q (.bl ((l.filter fun n=>decide (n∈m)) != m.filter fun n=>decide (n∈l))) H'
def wp (C:Ad):Sp:=fun vs H Q _=>∃ G B ch s n,vs=[.ref (Bk.b B),.int n]/\BooksAt C H G B ch s/\∀ H' p,Same H H'->H p=none->IL H' p (enc (Vanbki.step s (.changes n)).2)->Q (.ref p) H'
def u5 (C:Ad):Sp:=fun vs H Q _=>∃ G B ch s n m,vs=[.ref (Bk.b B),.int n,.int m]/\BooksAt C H G B ch s/\∀ H' p,Same H H'->H p=none->IL H' p (enc (Vanbki.step s (.change n m)).2)->Q (.ref p) H'
section
variable {P:Program}{w:World}{K:PySem.W.Frag}{mg:Str->Option Value}{base:Heap}{C:Ad}{f:Addr}{fd:FuncData}
theorem Yr (F:Fun K "choice_of" "choice_of" x6 f fd) (T:Txt K mg C):zU P w K mg base CX0 1 f fd ["books","conflict"] (js C):=by
 refine F.ok Yj (fun vs H Q E h=>?_) (fun cdv A outer s H vs Q E hr h=>?_)
 . obtain⟨G,B,ch,s,q,x,rfl,_⟩:=h
   rfl
 . obtain⟨G,B,ch,s,q,x,rfl,hb,hq,k⟩:=h
   have hu:=jL hr
   refine⟨_,(za (zg (aaR hu (zf (pv 0) rfl) (pv 1) (pgi T.g_NO_CHOICE) ⟨rfl,rfl,rfl,rfl⟩))),?_⟩
   obtain⟨dx,e⟩:=hb.bk
   refine⟨_,rfl,B.b,C.cBooks,dx,_,_,rfl,e,T.c_Books,T.n_Books_choices,xx _ _ _,B.dc,rfl,.inr ⟨_,.inl hb.dc⟩,_,rfl,_,DGet.t (k:=[Sum.inl (x.1:Int),Sum.inl (x.2:Int)]) hb.dc hq,?_⟩
   rw[acI,hb.co.eq]
   exact k
theorem xL {f1:Addr}{fd1:FuncData}{f2:Addr}{fd2:FuncData} (F:Fun K "count_without_choice" "count_without_choice" qL f fd) (T:Txt K mg C) (D_conflicts_of:Def P w K mg base "conflicts_of" 6 ["books"] (ki C) f1 fd1) (D_choice_of:Def P w K mg base "choice_of" 1 ["books","conflict"] (js C) f2 fd2):zU P w K mg base CX0 7 f fd ["books"] (jd C):=by
 refine F.ok sc_count_without_choice (fun vs H Q E h=>?_) (fun cdv A outer s H vs Q E hr h=>?_)
 . obtain⟨G,B,ch,s,rfl,_⟩:=h
   rfl
 . obtain⟨G,B,ch,s,rfl,hb,k⟩:=h
   refine⟨_,(za (zg (zP qS (by rfl) T.b_len qR (z4 (wU rfl sc_count_without_choice.nd (qa (ze D_conflicts_of (hr.mono (by decide)) (z4 (pv 0) z9))) (qy (own:=[("conflict",1)]) (by kernel_rfl)) (fun _ _ _ _ _=>(zJ (i:=1) sc_count_without_choice.nd rfl (Or.inl rfl))) (fun _ _ _ _ _=>xW (zo qN (ze D_choice_of (hr.mono (by decide)) (z4 (pv 0) (z4 (pv 1) z9))) (pgi T.g_NO_CHOICE) (zz _))) (fun _ _ _ _ _=>(pv 1))) z9)))),?_⟩
   refine⟨_,rfl,G,B,ch,s,rfl,hb,fun H1 p qs s1 n1 r1 pr=>⟨p,rfl,⟨_,SqL.of r1⟩,fun D hD=>?_⟩⟩
   have hlen:=zk pr
   have hcl:=xw hb.ok
   refine Q_ (K:=K) (xs:=qs.map V.ref) ((qs.zip (Vanbki.conflicts s)).map fun z=>if Vanbki.choiceOf s z.2.1 z.2.2=0 then some (V.ref z.1) else none) (by simp[hlen]) (SqL.of r1) hD (by rw[List.length_map];exact qO (by omega)) (fun i x y H' P' N hi hy s2 hP hN=>?_) (fun H2 s2 e2=>?_)
   . obtain⟨q,hq,rfl⟩:=qF hi
     obtain⟨z,hz,ez⟩:=zG pr hq
     have ey:y=if Vanbki.choiceOf s z.1 z.2=0 then some (V.ref q) else none:=by
      rw[List.getElem?_map,List.getElem?_zip_eq_some (z:=(q,z)) |>.mpr ⟨hq,hz⟩] at hy
      exact (Option.some.inj hy).symm
     refine⟨rfl,_,rfl,_,rfl,G,B,ch,s,q,z,rfl,hb.mono (s1.trans s2),s2 _ _ ez,rfl,_,rfl,wY (fun hh=>?_) (fun hh=>?_)⟩
     . have e0:Vanbki.choiceOf s z.1 z.2=0:=by
        have:((Vanbki.choiceOf s z.1 z.2:Nat):Int)=0:=by simpa using hh
        omega
       rw[if_pos e0] at ey
       exact⟨_,rfl,hP _ ey _ (Same.refl _)⟩
     . have e0:¬Vanbki.choiceOf s z.1 z.2=0:=fun e=>hh (by rw[e];rfl)
       rw[if_neg e0] at ey
       exact hN ey _ (Same.refl _)
   . refine⟨D,_,rfl,.inl (SqL.of e2),?_⟩
     have el:(((qs.zip (Vanbki.conflicts s)).map fun z=>if Vanbki.choiceOf s z.2.1 z.2.2=0 then some (V.ref z.1) else none).filterMap id).length=Vanbki.open_ s:=by
      unfold Vanbki.open_
      have:∀ (qs:List Addr) (l:List (Nat × Nat)),qs.length=l.length->(((qs.zip l).map fun z=>if Vanbki.choiceOf s z.2.1 z.2.2=0 then some (V.ref z.1) else none).filterMap id).length=(l.filter fun x=>Vanbki.choiceOf s x.1 x.2 == 0).length:=by
       intro qs
       induction qs with
       | nil =>
        intro l hl
        cases l with
        | nil=>rfl
        | cons _ _=>simp at hl
       | cons q qs ih =>
        intro l hl
        cases l with
        | nil=>simp at hl
        | cons x l =>
         have:=ih l (by simpa using hl)
         rw[List.zip_cons_cons,List.map_cons]
         by_cases h:Vanbki.choiceOf s x.1 x.2=0
         . rw[List.filter_cons_of_pos (by simpa using h)]
           simp only[h,if_true]
           rw[List.filterMap_cons_some (by rfl),List.length_cons,List.length_cons,this]
         . rw[List.filter_cons_of_neg (by simpa using h)]
           simp only[h,if_false]
           rw[List.filterMap_cons_none (by rfl),this]
      exact this qs _ hlen
     rw[el]
     exact k H2 (s1.trans s2)
theorem ZX {f1:Addr}{fd1:FuncData}{f2:Addr}{fd2:FuncData} (F:Fun K "tell_conflicts" "tell_conflicts" jU f fd) (T:Txt K mg C) (D_conflicts_of:Def P w K mg base "conflicts_of" 6 ["books"] (ki C) f1 fd1) (D_choice_of:Def P w K mg base "choice_of" 1 ["books","conflict"] (js C) f2 fd2):zU P w K mg base CX0 7 f fd ["books"] (xm C):=by
 refine F.ok sc_tell_conflicts (fun vs H Q E h=>?_) (fun cdv A outer s H vs Q E hr h=>?_)
 . obtain⟨G,B,ch,s,rfl,_⟩:=h
   rfl
 . obtain⟨G,B,ch,s,rfl,hb,k⟩:=h
   refine⟨_,(z5 (zi (i:=1) sc_tell_conflicts.nd rfl (Or.inl rfl) (ze D_conflicts_of (hr.mono (by decide)) (z4 (pv 0) z9)))
    (z5 (zi (i:=2) sc_tell_conflicts.nd rfl (Or.inl rfl) (zX (z4 (zP qS (by rfl) T.b_len qR (z4 (pv 1) z9)) z9)))
    (z5 (kK PassesOwn.never rfl (qa (pv 1)) (Y2 rfl (k7 (zJ (i:=3) sc_tell_conflicts.nd rfl (Or.inl rfl)) (k7 (zJ (i:=4) sc_tell_conflicts.nd rfl (Or.inl rfl)) ZD))) (za (qt (jF PySem.F.plainAttrs_list PySem.F.slot_list_extend PySem.F.type_list_extend jy (pv 2) (z4 (zX (z4 (pv 3) (z4 (pv 4) (z4 (ze D_choice_of (hr.mono (by decide)) (z4 (pv 0) (z4 (yH (z4 (pv 3) (z4 (pv 4) z9))) z9))) z9)))) z9)))))
    (za (zg (pv 2)))))),?_⟩
   refine⟨_,rfl,G,B,ch,s,rfl,hb,fun H1 p qs s1 n1 r1 pr=>?_⟩
   have hlen:=zk pr
   have hcl:=xw hb.ok
   refine⟨_,rfl,p,_,rfl,.inl (SqL.of r1),(by show 1<=sizeLine;decide),fun q hq=>?_⟩
   have hq0:=s1.free hq
   have s2:=Same.new (o:=.lst [V.int (((qs.map V.ref).length:Nat):Int)]) hq
   refine⟨_,rfl,p,rfl,⟨_,SqL.of (s2 _ _ r1)⟩,jx (K:=K) (a:=p) (xs:=qs.map V.ref)
    (fun i σ H'=>(∃ v3 v4,σ=[some (.ref B.b),some (.ref p),some (.ref q),v3,v4])/\(∀ b o,H1 b=some o->H' b=some o)/\IL H' q (ofNat (Vanbki.conflicts s).length::((Vanbki.conflicts s).take i).flatMap fun x=>[ofNat x.1,ofNat x.2,ofNat (Vanbki.choiceOf s x.1 x.2)]))
    ⟨⟨none,none,rfl⟩,s2,(by rw[IL,z6,List.length_map,hlen];rfl)⟩ (fun i σ H' _ h=>SqL.of (h.2.1 _ _ r1)) ?_ ?_⟩
   . rintro i x σ H' hi ⟨⟨v3,v4,rfl⟩,s3,e3⟩
     obtain⟨y,hy,rfl⟩:=qF hi
     obtain⟨z,hz,ez⟩:=zG pr hy
     have hil:i<13:=by
      have:=(List.getElem?_eq_some_iff.mp hz).1
      omega
     refine⟨y,_,rfl,SqT.of (s3 _ _ ez),rfl,_,_,rfl,_,_,rfl,rfl,?_⟩
     refine⟨_,rfl,.inl ⟨rfl,_,SqL.of e3⟩,_,rfl,_,rfl,_,rfl,_,rfl,_,rfl,(by show 2<=sizeLine;decide),fun t ht=>?_⟩
     have s4:=Same.new (o:=.tup [.int (z.1:Nat),.int (z.2:Nat)]) ht
     refine⟨G,B,ch,s,t,z,rfl,hb.mono (s1.trans (Same.trans s3 s4)),z6,(by show 3<=sizeLine;decide),fun u hu'=>?_⟩
     have s5:=Same.new (o:=.lst [.int (z.1:Nat),.int (z.2:Nat),.int (Vanbki.choiceOf s z.1 z.2:Nat)]) hu'
     have e5:=s5 _ _ (s4 _ _ e3)
     have hfl:(((Vanbki.conflicts s).take i).flatMap fun x=>[ofNat x.1,ofNat x.2,ofNat (Vanbki.choiceOf s x.1 x.2)]).length<=3 * i:=by
      have:=jf (f:=fun x:Nat × Nat=>[ofNat x.1,ofNat x.2,ofNat (Vanbki.choiceOf s x.1 x.2)]) (k:=3) (l:=(Vanbki.conflicts s).take i) (fun x _=>by simp)
      rw[List.length_take] at this
      omega
     refine⟨q,u,_,_,rfl,rfl,e5,z6,(by simp only[List.length_map,List.length_cons,List.length_nil];exact qH (by omega)),?_⟩
     refine⟨⟨_,_,rfl⟩,fun b o eo=>?_,?_⟩
     . rw[z8 (z7 eo hq)]
       exact s5 _ _ (s4 _ _ (s3 b o eo))
     . rw[IL,z6,zH hz,List.flatMap_append]
       simp[ofNat]
   . rintro σ H' ⟨⟨v3,v4,rfl⟩,s3,e3⟩
     refine⟨_,rfl,k H' q (s1.trans s3) hq0 ?_⟩
     rw[List.length_map,hlen,List.take_length] at e3
     exact e3
theorem K_ (F:Fun K "tell_cells" "tell_cells" yl f fd) (T:Txt K mg C):zU P w K mg base CX0 1 f fd ["cells"] (xy C):=by
 refine F.ok sc_tell_cells (fun vs H Q E h=>?_) (fun cdv A outer s H vs Q E hr h=>?_)
 . obtain⟨l,as,d,rfl,_⟩:=h
   rfl
 . obtain⟨l,as,d,rfl,hl,hc,hz,ht,k⟩:=h
   refine⟨_,(z5 (zi (i:=1) sc_tell_cells.nd rfl (Or.inl rfl) (zX (z4 (zP qS (by rfl) T.b_len qR (z4 (pv 0) z9)) z9)))
    (z5 (kK PassesOwn.never rfl (qa (pv 0)) (zJ (i:=2) sc_tell_cells.nd rfl (Or.inl rfl)) (z5 (qt (jF PySem.F.plainAttrs_list PySem.F.slot_list_extend PySem.F.type_list_extend jy (pv 1) (z4 (zX (z4 (zf (pv 2) rfl) (z4 (zf (pv 2) rfl) (z4 (zP qS (by rfl) T.b_len qR (z4 (zf (pv 2) rfl) z9)) z9)))) z9)))
    (za (qt (jF PySem.F.plainAttrs_list PySem.F.slot_list_extend PySem.F.type_list_extend jy (pv 1) (z4 (zf (pv 2) rfl) z9))))))
    (za (zg (pv 1))))),?_⟩
   have hlen:=zk hc
   refine⟨_,rfl,l,_,rfl,.inl (SqL.of hl),(by show 1<=sizeLine;decide),fun q hq=>?_⟩
   have s2:=Same.new (o:=.lst [V.int (((as.map V.ref).length:Nat):Int)]) hq
   refine⟨_,rfl,l,rfl,⟨_,SqL.of (s2 _ _ hl)⟩,jx (K:=K) (a:=l) (xs:=as.map V.ref)
    (fun i σ H'=>(∃ v,σ=[some (.ref l),some (.ref q),v])/\Same H H'/\IL H' q (ofNat d.length::(d.take i).flatMap fun c=>ofNat c.number::ofNat (markNat c.hidden)::Vanbki.tellText c.text))
    ⟨⟨none,rfl⟩,s2,(by rw[IL,z6,List.length_map,hlen];rfl)⟩ (fun i σ H' _ h=>SqL.of (h.2.1 _ _ hl)) ?_ ?_⟩
   . rintro i x σ H' hi ⟨⟨v,rfl⟩,s3,e3⟩
     obtain⟨a,ha,rfl⟩:=qF hi
     obtain⟨c,hc1,dx,tq,e1,e2⟩:=zG hc ha
     have hil:i<d.length:=(List.getElem?_eq_some_iff.mp hc1).1
     have hct:=ht c (List.mem_of_getElem? hc1)
     have hfl:((d.take i).flatMap fun c=>ofNat c.number::ofNat (markNat c.hidden)::Vanbki.tellText c.text).length<=i * 203:=by
      have:=jf (f:=fun c:Vanbki.Cell=>ofNat c.number::ofNat (markNat c.hidden)::Vanbki.tellText c.text) (k:=203) (l:=d.take i) (fun x hx=>by
       have:=ht x (List.mem_of_mem_take hx)
       simp only[List.length_cons,jP]
       omega)
      rw[List.length_take,Nat.min_eq_left (by omega)] at this
      exact this
     have e1':=s3 _ _ e1
     refine⟨_,rfl,.inl ⟨rfl,_,SqL.of e3⟩,_,rfl,a,C.cCell,dx,_,_,rfl,e1',T.c_Cell,T.n_Cell_number,zE _ _ _,_,rfl,a,C.cCell,dx,_,_,rfl,e1',T.c_Cell,T.n_Cell_mark,qo _ _ _,_,rfl,a,C.cCell,dx,_,_,rfl,e1',T.c_Cell,T.n_Cell_text,zN _ _ _,tq,_,rfl,.inl (SqL.of (s3 _ _ e2)),(by show 3<=sizeLine;decide),fun u hu'=>?_⟩
     have s5:=Same.new (o:=.lst [.int (c.number:Nat),.int (markNat c.hidden:Nat),.int ((((nats c.text).map V.int).length:Nat):Int)]) hu'
     refine⟨q,u,_,_,rfl,rfl,s5 _ _ e3,z6,(by simp only[List.length_map,List.length_cons,List.length_nil];exact qH (by omega)),?_⟩
     have aq:a≠q:=z7 e1 hq
     have tqq:tq≠q:=z7 e2 hq
     have e1'':upd (upd H' u (.lst [.int (c.number:Nat),.int (markNat c.hidden:Nat),.int ((((nats c.text).map V.int).length:Nat):Int)])) q (.lst ((ofNat d.length::(d.take i).flatMap fun c=>ofNat c.number::ofNat (markNat c.hidden)::Vanbki.tellText c.text).map V.int++[.int (c.number:Nat),.int (markNat c.hidden:Nat),.int ((((nats c.text).map V.int).length:Nat):Int)])) a=some (.ins C.cCell dx (k5 c.number (markNat c.hidden) tq)):=by
      rw[z8 aq]
      exact s5 _ _ e1'
     refine⟨_,rfl,.inl ⟨rfl,_,SqL.of z6⟩,_,rfl,a,C.cCell,dx,_,_,rfl,e1'',T.c_Cell,T.n_Cell_text,zN _ _ _,q,tq,_,_,rfl,rfl,z6,(by rw[z8 tqq];exact s5 _ _ (s3 _ _ e2)),(by simp only[List.length_append,List.length_map,List.length_cons,List.length_nil,nats];exact qH (by omega)),?_⟩
     refine⟨⟨_,rfl⟩,fun b o eo=>?_,?_⟩
     . rw[kb,z8 (z7 eo hq)]
       exact s5 _ _ (s3 b o eo)
     . rw[IL,z6,zH hc1,List.flatMap_append]
       simp[ofNat,Vanbki.tellText,nats]
   . rintro σ H' ⟨⟨v,rfl⟩,s3,e3⟩
     refine⟨_,rfl,k H' q s3 hq ?_⟩
     rw[List.length_map,hlen,List.take_length] at e3
     exact e3
theorem QK {f1:Addr}{fd1:FuncData} (F:Fun K "tell_document" "tell_document" kg f fd) (T:Txt K mg C) (D_tell_cells:Def P w K mg base "tell_cells" 1 ["cells"] (xy C) f1 fd1):zU P w K mg base CX0 2 f fd ["books","which"] (xK C):=by
 refine F.ok QE (fun vs H Q E h=>?_) (fun cdv A outer s H vs Q E hr h=>?_)
 . obtain⟨G,B,ch,s,n,rfl,_⟩:=h
   rfl
 . obtain⟨G,B,ch,s,n,rfl,hb,k⟩:=h
   have hu:=jL hr
   refine⟨_,(z5 (zC (zo qN (pv 1) (pgi T.g_BASE_DOCUMENT) (zz _)) (za (zg (ze D_tell_cells (hr.mono (by decide)) (z4 (zf (pv 0) rfl) z9)))) zj)
    (z5 (zC (qD (vk hu (pv 1) (zf (pv 0) rfl))) (za (zg (zX (z4 (pgi T.g_NO_DOCUMENT) z9)))) zj)
    (za (zg (ze D_tell_cells (hr.mono (by decide)) (z4 (zf (qc hu (zf (pv 0) rfl) (pv 1) (fun _ _=>rfl)) rfl) z9)))))),?_⟩
   have k:∀ H' p,Same H H'->H p=none->IL H' p (enc (if n=0 then (s,Vanbki.tellDoc s.base) else if Vanbki.noSide n=true then (s,⟨-19,[]⟩) else (s,Vanbki.tellDoc (Vanbki.sideDoc s n))).2)->Q (.ref p) H':=k
   refine⟨_,rfl,rfl,_,rfl,wY (fun hh=>?_) (fun hh=>?_)⟩
   . have e:n=0:=by simpa using hh
     rw[if_pos e] at k
     obtain⟨as0,r0,c0,_⟩:=hb.d0
     exact Yp T hb rfl ⟨B.lb,as0,s.base,rfl,r0,c0,(by have:=hb.ok.b.len;omega),fun c hc=>(hb.ok.b.txt c hc).1,k⟩
   . have e:¬n=0:=by simpa using hh
     rw[if_neg e] at k
     obtain⟨dxb,eb⟩:=hb.bk
     refine⟨_,rfl,_,rfl,B.b,C.cBooks,dxb,_,_,rfl,eb,T.c_Books,T.n_Books_sides,zD _ _ _,B.ds,_,rfl,yO hb.sd n,_,rfl,?_⟩
     rw[vp]
     cases hn:Vanbki.noSide n with
     | true =>
      rw[hn] at k
      exact zF ⟨(by show 1<=sizeLine;decide),fun p hp=>k _ p (Same.new hp) hp z6⟩
     | false =>
      rw[hn] at k
      obtain⟨as,r,c,_⟩:=hb.dS n
      have D:=zW hb.ok n
      exact zy (Ko T hb hn rfl rfl ⟨zK B n,as,_,rfl,r,c,(by have:=D.len;omega),fun c hc=>(D.txt c hc).1,k⟩)
theorem V0 (F:Fun K "difference" "difference" ym f fd) (T:Txt K mg C):zU P w K mg base CX0 1 f fd ["base_cell","cell"] (uQ C):=by
 refine F.ok KW (fun vs H Q E h=>?_) (fun cdv A outer s H vs Q E hr h=>?_)
 . obtain⟨a,v,c,o,rfl,_⟩:=h
   rfl
 . obtain⟨a,v,c,o,rfl,⟨dx1,q1,e1,t1⟩,ho,k⟩:=h
   refine⟨_,(z5 (zC (qD (jD (pv 1))) (za (zg (pgi T.g_DROPPED))) zj)
    (z5 (zC (zo (wP hr.units) (zf (pv 1) rfl) (zf (pv 0) rfl) (zz _)) (za (zg (jK (zo qN (zf (pv 1) rfl) (zf (pv 0) rfl) (zz _)) (pgi T.g_UNCHANGED) (pgi T.g_MARK_DIFFERS)))) zj)
    (za (zg (jK (zo qN (zf (pv 1) rfl) (zf (pv 0) rfl) (zz _)) (pgi T.g_TEXT_DIFFERS) (pgi T.g_BOTH_DIFFER)))))),?_⟩
   cases o with
   | none =>
    have ho:v=.non:=ho
    subst ho
    exact⟨_,rfl,_,rfl,zF k⟩
   | some x =>
    obtain⟨b,rfl,dx2,q2,e2,t2⟩:=ho
    refine⟨_,rfl,_,rfl,zy ?_⟩
    refine⟨_,rfl,b,C.cCell,dx2,_,_,rfl,e2,T.c_Cell,T.n_Cell_text,zN _ _ _,_,rfl,a,C.cCell,dx1,_,_,rfl,e1,T.c_Cell,T.n_Cell_text,zN _ _ _,_,_,vO t2,vO t1,q5 _,q5 _,_,rfl,?_⟩
    rw[vJ]
    have k:Q (.int ((if x.text=c.text then (if x.hidden=c.hidden then 0 else 4) else if x.hidden=c.hidden then 3 else 5:Nat):Int)) H:=k
    have em:decide (V.int (markNat x.hidden:Nat)=V.int (markNat c.hidden:Nat))=decide (x.hidden=c.hidden):=by
     cases x.hidden <;> cases c.hidden <;> simp[markNat]
    have rdm:∀ (R1 R2:Prop),(x.hidden=c.hidden->R1)->(¬x.hidden=c.hidden->R2)->if decide (V.int (markNat x.hidden:Nat)=V.int (markNat c.hidden:Nat))=true then R1 else R2:=fun R1 R2 h1 h2=>by
     rw[em]
     exact wY (fun z=>h1 (of_decide_eq_true z)) (fun z=>h2 (fun y=>z (decide_eq_true y)))
    by_cases h:x.text=c.text
    . rw[decide_eq_true (by rw[h])]
      rw[if_pos h] at k
      refine zF ⟨_,rfl,b,C.cCell,dx2,_,_,rfl,e2,T.c_Cell,T.n_Cell_mark,qo _ _ _,_,rfl,a,C.cCell,dx1,_,_,rfl,e1,T.c_Cell,T.n_Cell_mark,qo _ _ _,rfl,_,rfl,rdm _ _ (fun z=>?_) (fun z=>?_)⟩
      . rw[if_pos z] at k
        exact k
      . rw[if_neg z] at k
        exact k
    . rw[decide_eq_false (fun z=>h (kJ z))]
      rw[if_neg h] at k
      refine zy ⟨_,rfl,b,C.cCell,dx2,_,_,rfl,e2,T.c_Cell,T.n_Cell_mark,qo _ _ _,_,rfl,a,C.cCell,dx1,_,_,rfl,e1,T.c_Cell,T.n_Cell_mark,qo _ _ _,rfl,_,rfl,rdm _ _ (fun z=>?_) (fun z=>?_)⟩
      . rw[if_pos z] at k
        exact k
      . rw[if_neg z] at k
        exact k
theorem uC (F:Fun K "in_another_order" "in_another_order" jo f fd) (T:Txt K mg C):zU P w K mg base CX0 1 f fd ["base_numbers","side_numbers"] (y4):=by
 refine F.ok sc_in_another_order (fun vs H Q E h=>?_) (fun cdv A outer s H vs Q E hr h=>?_)
 . obtain⟨a,b,l,m,rfl,_⟩:=h
   rfl
 . obtain⟨a,b,l,m,rfl,ha,hb,zl,zm,k⟩:=h
   refine⟨_,(z5 (vL (i:=2) rfl sc_in_another_order.nd rfl rfl (yU rfl rfl rfl rfl) (qa (pv 0)) (qy (own:=[("number",3)]) (by kernel_rfl)) (fun _ _ _ _ _=>(zJ (i:=3) sc_in_another_order.nd rfl (Or.inl rfl))) (fun _ _ _ _ _=>xW (zo (Z6 (K:=K) rfl) (pv 3) (pv 1) rfl)) (fun _ _ _ _ _=>(pv 3)))
    (z5 (vL (i:=4) rfl sc_in_another_order.nd rfl rfl (yU rfl rfl rfl rfl) (qa (pv 1)) (qy (own:=[("number",3)]) (by kernel_rfl)) (fun _ _ _ _ _=>(zJ (i:=3) sc_in_another_order.nd rfl (Or.inl rfl))) (fun _ _ _ _ _=>xW (zo (Z6 (K:=K) rfl) (pv 3) (pv 0) rfl)) (fun _ _ _ _ _=>(pv 3)))
    (za (zg (um (acr hr.units) (pv 2) (pv 4) (zz _)))))),?_⟩
   have lenN:∀ d:List Nat,((nats d).map V.int).length=d.length:=fun d=>by simp[nats]
   refine⟨_,rfl,a,rfl,⟨_,SqL.of ha⟩,fun D hD=>?_⟩
   refine Q_ (K:=K) (xs:=(nats l).map V.int) (l.map fun n=>if decide (n∈m)=true then some (V.int n) else none) (by simp[nats]) (SqL.of ha) hD (by rw[lenN];exact qO (by omega)) (fun i x y H' P' N hi hy s5 hP hN=>?_) (fun H1 s1 e1=>?_)
   . obtain⟨n,hn,rfl⟩:=yM hi
     rw[List.getElem?_map,hn] at hy
     have ey:y=if decide (n∈m)=true then some (V.int n) else none:=(Option.some.inj hy).symm
     refine⟨rfl,_,rfl,_,rfl,b,_,rfl,.inl (SqL.of (s5 _ _ hb)),rfl,jA _,_,rfl,?_⟩
     simp only[Bool.false_eq_true,if_false]
     rw[k9]
     by_cases h2:n∈m
     . rw[decide_eq_true h2] at ey ⊢
       exact zF ⟨_,rfl,hP _ ey _ (Same.refl _)⟩
     . rw[decide_eq_false h2] at ey ⊢
       exact zy (hN ey _ (Same.refl _))
   rw[xJ l fun n=>decide (n∈m)] at e1
   refine⟨_,rfl,b,rfl,⟨_,SqL.of (s1 _ _ hb)⟩,fun D2 hD2=>?_⟩
   refine Q_ (K:=K) (xs:=(nats m).map V.int) (m.map fun n=>if decide (n∈l)=true then some (V.int n) else none) (by simp[nats]) (SqL.of (s1 _ _ hb)) hD2 (by rw[lenN];exact qO (by omega)) (fun i x y H' P' N hi hy s5 hP hN=>?_) (fun H2 s2 e2=>?_)
   . obtain⟨n,hn,rfl⟩:=yM hi
     rw[List.getElem?_map,hn] at hy
     have ey:y=if decide (n∈l)=true then some (V.int n) else none:=(Option.some.inj hy).symm
     refine⟨rfl,_,rfl,_,rfl,a,_,rfl,.inl (SqL.of (s5 _ _ (s1 _ _ ha))),rfl,jA _,_,rfl,?_⟩
     simp only[Bool.false_eq_true,if_false]
     rw[k9]
     by_cases h2:n∈l
     . rw[decide_eq_true h2] at ey ⊢
       exact zF ⟨_,rfl,hP _ ey _ (Same.refl _)⟩
     . rw[decide_eq_false h2] at ey ⊢
       exact zy (hN ey _ (Same.refl _))
   rw[xJ m fun n=>decide (n∈l)] at e2
   refine⟨_,rfl,_,rfl,_,_,vO (s2 _ _ e1),vO e2,q5 _,q5 _,?_⟩
   rw[vJ]
   have q:=k H2 (s1.trans s2)
   have e3:(!decide (nats (l.filter fun n=>decide (n∈m))=nats (m.filter fun n=>decide (n∈l))))=((l.filter fun n=>decide (n∈m)) != m.filter fun n=>decide (n∈l)):=by
    by_cases h:(l.filter fun n=>decide (n∈m))=m.filter fun n=>decide (n∈l)
    . rw[h]
      simp
    . rw[decide_eq_false (fun z=>h (kJ z))]
      simp[h]
   rw[e3]
   exact q
end
end Tb
end
section
namespace Tb
open PySem PySem.Spec PyProof.Rows L2
open Vanbki (nats ofNat markNat numbers)
def ZY (x:Nat × Nat):List Int:=[ofNat x.1,ofNat x.2]
theorem uv (l:List (Nat × Nat)):(l.flatMap ZY).length=2 * l.length:=by
 induction l with
 | nil=>rfl
 | cons a r ih =>
  rw[List.flatMap_cons,List.length_append,ih,List.length_cons]
  show 2+_=_
  omega
def v0 (b d:Vanbki.Doc):List (Nat × Nat):=b.filterMap fun c=>if k_ c (Vanbki.find d c.number)=0 then none else some (c.number,k_ c (Vanbki.find d c.number))
theorem ZZ (b d:Vanbki.Doc):(v0 b d).length<=b.length:=List.length_filterMap_le _ _
theorem uR (b d:Vanbki.Doc) (c:Vanbki.Cell):v0 (b++[c]) d=v0 b d++(if k_ c (Vanbki.find d c.number)=0 then [] else [(c.number,k_ c (Vanbki.find d c.number))]):=by
 unfold v0
 rw[List.filterMap_append]
 by_cases h:k_ c (Vanbki.find d c.number)=0
 . simp[h]
 . simp[h]
def vD (b d:Vanbki.Doc):List (Nat × Nat):=(d.filter fun x=>!Vanbki.has b x.number).map fun x=>(x.number,2)
theorem J1 (b d:Vanbki.Doc):(vD b d).length<=d.length:=by
 unfold vD
 rw[List.length_map]
 exact List.length_filter_le _ _
theorem Z_ (b d:Vanbki.Doc) (c:Vanbki.Cell):vD b (d++[c])=vD b d++(if Vanbki.has b c.number=true then [] else [(c.number,2)]):=by
 unfold vD
 rw[List.filter_append,List.map_append]
 cases h:Vanbki.has b c.number <;> simp[h]
theorem u6 (b d:Vanbki.Doc):Vanbki.differences b d=v0 b d++vD b d:=by
 exact congrArg (·++vD b d) (abb b d)
section
variable {P:Program}{w:World}{K:PySem.W.Frag}{mg:Str->Option Value}{base:Heap}{C:Ad}{f:Addr}{fd:FuncData}
theorem Jp {f1:Addr}{fd1:FuncData}{f2:Addr}{fd2:FuncData}{f3:Addr}{fd3:FuncData}{f4:Addr}{fd4:FuncData} (F:Fun K "tell_changes" "tell_changes" kU f fd) (T:Txt K mg C) (D_numbers_of:Def P w K mg base "numbers_of" 1 ["cells"] (jz C) f1 fd1) (D_difference:Def P w K mg base "difference" 1 ["base_cell","cell"] (uQ C) f2 fd2) (D_in_another_order:Def P w K mg base "in_another_order" 1 ["base_numbers","side_numbers"] (y4) f3 fd3) (D_cell_of:Def P w K mg base "cell_of" 2 ["cells","number"] (vm C) f4 fd4):zU P w K mg base CX0 3 f fd ["books","side"] (wp C):=by
 refine F.ok sc_tell_changes (fun vs H Q E h=>?_) (fun cdv A outer s H vs Q E hr h=>?_)
 . obtain⟨G,B,ch,s,n,rfl,_⟩:=h
   rfl
 . obtain⟨G,B,ch,s,n,rfl,hb,k⟩:=h
   have hu:=jL hr
   refine⟨_,(z5 (zC (qD (vk hu (pv 1) (zf (pv 0) rfl))) (za (zg (zX (z4 (pgi T.g_NO_SIDE) z9)))) zj)
    (z5 (zi (i:=2) sc_tell_changes.nd rfl (Or.inl rfl) (zf (qc hu (zf (pv 0) rfl) (pv 1) (fun _ _=>rfl)) rfl))
    (z5 (zi (i:=3) sc_tell_changes.nd rfl (Or.inl rfl) (zX z9))
    (z5 (kK PassesOwn.never rfl (qa (zf (pv 0) rfl)) (zJ (i:=4) sc_tell_changes.nd rfl (Or.inl rfl)) (z5 (zi (i:=5) sc_tell_changes.nd rfl (Or.inl rfl) (ze D_difference (hr.mono (by decide)) (z4 (pv 4) (z4 (ze D_cell_of (hr.mono (by decide)) (z4 (pv 2) (z4 (zf (pv 4) rfl) z9))) z9))))
    (za (zC (zo yG (pv 5) (pgi T.g_UNCHANGED) (zz _)) (za (qt (jF PySem.F.plainAttrs_list PySem.F.slot_list_extend PySem.F.type_list_extend jy (pv 3) (z4 (zX (z4 (zf (pv 4) rfl) (z4 (pv 5) z9))) z9)))) zj))))
    (z5 (zi (i:=6) sc_tell_changes.nd rfl (Or.inl rfl) (ze D_numbers_of (hr.mono (by decide)) (z4 (zf (pv 0) rfl) z9)))
    (z5 (kK PassesOwn.never rfl (qa (pv 2)) (zJ (i:=7) sc_tell_changes.nd rfl (Or.inl rfl)) (za (zC (zo ZH (zf (pv 7) rfl) (pv 6) rfl) (za (qt (jF PySem.F.plainAttrs_list PySem.F.slot_list_extend PySem.F.type_list_extend jy (pv 3) (z4 (zX (z4 (zf (pv 7) rfl) (z4 (pgi T.g_NEW_telling) z9))) z9)))) zj)))
    (z5 (zi (i:=8) sc_tell_changes.nd rfl (Or.inl rfl) (jK (Qy (ze D_in_another_order (hr.mono (by decide)) (z4 (pv 6) (z4 (ze D_numbers_of (hr.mono (by decide)) (z4 (pv 2) z9)) z9)))) zB zB))
    (za (zg (jE yI (zX (z4 (pv 8) (z4 (jE abA (zP qS (by rfl) T.b_len qR (z4 (pv 3) z9)) zB) z9))) (pv 3))))))))))),?_⟩
   obtain⟨dxb,eb⟩:=hb.bk
   refine⟨_,rfl,_,rfl,B.b,C.cBooks,dxb,_,_,rfl,eb,T.c_Books,T.n_Books_sides,zD _ _ _,B.ds,_,rfl,yO hb.sd n,_,rfl,?_⟩
   rw[vp]
   have k:∀ H' p,Same H H'->H p=none->IL H' p (enc (if Vanbki.noSide n=true then (s,⟨-8,[]⟩) else (s,⟨ofNat (markNat (Vanbki.moved s.base (Vanbki.sideDoc s n))),ofNat (Vanbki.differences s.base (Vanbki.sideDoc s n)).length::(Vanbki.differences s.base (Vanbki.sideDoc s n)).flatMap fun x=>[ofNat x.1,ofNat x.2]⟩):Vanbki.State × Vanbki.Answer).2)->Q (.ref p) H':=k
   cases hn:Vanbki.noSide n with
   | true =>
    rw[hn] at k
    exact zF ⟨(by show 1<=sizeLine;decide),fun p hp=>k _ p (Same.new hp) hp z6⟩
   | false =>
    rw[hn] at k
    have k:∀ H' p,Same H H'->H p=none->IL H' p (ofNat (markNat (Vanbki.moved s.base (Vanbki.sideDoc s n)))::ofNat (Vanbki.differences s.base (Vanbki.sideDoc s n)).length::(Vanbki.differences s.base (Vanbki.sideDoc s n)).flatMap ZY)->Q (.ref p) H':=k
    obtain⟨as0,r0,c0,_⟩:=hb.d0
    obtain⟨as,r,c,_⟩:=hb.dS n
    have D:=zW hb.ok n
    have z0:=hb.ok.b.len
    have z1:=D.len
    have len0:=zk c0
    have Ju:=zk c
    generalize hd:Vanbki.sideDoc s n=d at *
    refine zy ?_
    refine Ko T hb hn rfl rfl ?_
    refine⟨Nat.zero_le _,fun q hq=>?_⟩
    have s0:=Same.new (o:=.lst []) hq
    refine⟨_,rfl,B.b,C.cBooks,dxb,_,_,rfl,s0 _ _ eb,T.c_Books,T.n_Books_base_cells,qT _ _ _,B.lb,rfl,⟨_,SqL.of (s0 _ _ r0)⟩,jx (K:=K) (a:=B.lb) (xs:=as0.map V.ref)
     (fun i σ H'=>(∃ v4 v5,σ=[some (.ref B.b),some (.int n),some (.ref (zK B n)),some (.ref q),v4,v5,none,none,none])/\Same H H'/\IL H' q ((v0 (s.base.take i) d).flatMap ZY))
     ⟨⟨none,none,rfl⟩,s0,z6⟩ (fun i σ H' _ h=>SqL.of (h.2.1 _ _ r0)) ?_ ?_⟩
    . rintro i x σ H' hi ⟨⟨v4,v5,rfl⟩,s1,e1⟩
      obtain⟨a,ha,rfl⟩:=qF hi
      obtain⟨c',hc',hca⟩:=zG c0 ha
      obtain⟨dx,tq,ec,et⟩:=id hca
      have hil:i<12:=by
       have:=(List.getElem?_eq_some_iff.mp hc').1
       omega
      refine⟨_,rfl,_,rfl,_,rfl,a,C.cCell,dx,_,_,rfl,s1 _ _ ec,T.c_Cell,T.n_Cell_number,zE _ _ _,zK B n,as,d,_,rfl,s1 _ _ r,c.mono s1,fun H2 x s2 o2=>?_⟩
      have o2:=OptCell.mono s2 (o2 H' (Same.refl _) (c.mono s1))
      rw[vh] at o2
      have s12:=s1.trans s2
      refine⟨a,x,c',_,rfl,hca.mono s12,o2,?_⟩
      have e1':=s2 _ _ e1
      have hfm:(v0 (s.base.take i) d).length<=12:=by
       have:=ZZ (s.base.take i) d
       rw[List.length_take] at this
       omega
      refine⟨_,rfl,rfl,_,rfl,wY (fun hh=>?_) (fun hh=>?_)⟩
      . have e:k_ c' (Vanbki.find d c'.number)≠0:=fun z=>by rw[z] at hh;exact absurd hh (by decide)
        refine⟨_,rfl,.inl ⟨rfl,_,SqL.of e1'⟩,_,rfl,a,C.cCell,dx,_,_,rfl,s12 _ _ ec,T.c_Cell,T.n_Cell_number,zE _ _ _,_,rfl,(by show 2<=sizeLine;decide),fun u hu'=>?_⟩
        have s3:=Same.new (o:=.lst [.int (c'.number:Nat),.int (k_ c' (Vanbki.find d c'.number):Nat)]) hu'
        refine⟨q,u,_,_,rfl,rfl,s3 _ _ e1',z6,(by rw[List.length_map,uv];simp only[List.length_cons,List.length_nil];exact qH (by omega)),?_⟩
        refine⟨⟨_,_,rfl⟩,fun b o eo=>?_,?_⟩
        . rw[z8 (z7 eo hq)]
          exact s3 _ _ (s12 b o eo)
        . rw[IL,z6,zH hc',uR,if_neg e,List.flatMap_append]
          simp[ZY,ofNat]
      . have e:k_ c' (Vanbki.find d c'.number)=0:=by
         by_cases z:k_ c' (Vanbki.find d c'.number)=0
         . exact z
         . exfalso
           apply hh
           have:¬(V.int (k_ c' (Vanbki.find d c'.number):Nat)=V.int 0):=by
            intro q
            injection q with q
            omega
           simp[this]
        refine⟨⟨_,_,rfl⟩,s12,?_⟩
        rw[zH hc',uR,if_pos e,List.append_nil]
        exact e1'
    . rintro σ H1 ⟨⟨v4,v5,rfl⟩,s1,e1⟩
      rw[List.length_map,len0,List.take_length] at e1
      refine Yp T (hb.mono s1) rfl ⟨B.lb,as0,s.base,rfl,s1 _ _ r0,c0.mono s1,(by omega),fun H2 p s2 hp e2=>?_⟩
      have s12:=s1.trans s2
      have e1':=s2 _ _ e1
      have hdl:(v0 s.base d).length<=12:=Nat.le_trans (ZZ _ _) z0
      refine⟨_,rfl,zK B n,rfl,⟨_,SqL.of (s12 _ _ r)⟩,jx (K:=K) (a:=zK B n) (xs:=as.map V.ref)
       (fun i σ H'=>(∃ v7,σ=[some (.ref B.b),some (.int n),some (.ref (zK B n)),some (.ref q),v4,v5,some (.ref p),v7,none])/\Same H H'/\IL H' p (nats (numbers s.base))/\IL H' q (((v0 s.base d)++vD s.base (d.take i)).flatMap ZY))
       ⟨⟨none,rfl⟩,s12,e2,(by simpa [vD] using e1')⟩ (fun i σ H' _ h=>SqL.of (h.2.1 _ _ r)) ?_ ?_⟩
      . rintro i x σ H' hi ⟨⟨v7,rfl⟩,s3,ep,eq⟩
        obtain⟨a,ha,rfl⟩:=qF hi
        obtain⟨c',hc',dx,tq,ec,et⟩:=zG c ha
        have hil:i<12:=by
         have:=(List.getElem?_eq_some_iff.mp hc').1
         omega
        have ec':=s3 _ _ ec
        refine⟨_,rfl,a,C.cCell,dx,_,_,rfl,ec',T.c_Cell,T.n_Cell_number,zE _ _ _,_,rfl,p,_,rfl,.inl (SqL.of ep),rfl,jA _,_,rfl,?_⟩
        simp only[if_true]
        rw[k9,<-xl]
        have hfl:(vD s.base (d.take i)).length<=12:=by
         have:=J1 s.base (d.take i)
         rw[List.length_take] at this
         omega
        cases hh:Vanbki.has s.base c'.number with
        | false =>
         refine zF ⟨_,rfl,.inl ⟨rfl,_,SqL.of eq⟩,_,rfl,a,C.cCell,dx,_,_,rfl,ec',T.c_Cell,T.n_Cell_number,zE _ _ _,(by show 2<=sizeLine;decide),fun u hu'=>?_⟩
         have s4:=Same.new (o:=.lst [.int (c'.number:Nat),.int 2]) hu'
         refine⟨q,u,_,_,rfl,rfl,s4 _ _ eq,z6,(by rw[List.length_map,uv,List.length_append];simp only[List.length_cons,List.length_nil];exact qH (by omega)),?_⟩
         refine⟨⟨_,rfl⟩,fun b o eo=>?_,?_,?_⟩
         . rw[z8 (z7 eo hq)]
           exact s4 _ _ (s3 b o eo)
         . have pq:p≠q:=fun z=>by
            have h1:=s1.free (l:=p) hp
            rw[z] at hp
            rw[IL,hp] at e1
            cases e1
           rw[IL,z8 pq]
           exact s4 _ _ ep
         . rw[IL,z6,zH hc',Z_,hh]
           simp[ZY,ofNat]
        | true =>
         refine zy ⟨⟨_,rfl⟩,s3,ep,?_⟩
         rw[zH hc',Z_,hh,if_pos rfl,List.append_nil]
         exact eq
      . rintro σ H3 ⟨⟨v7,rfl⟩,s3,ep,eq⟩
        rw[List.length_map,Ju,List.take_length] at eq
        rw[<-u6] at eq
        refine⟨_,rfl,_,rfl,zK B n,as,d,rfl,s3 _ _ r,c.mono s3,(by omega),fun H4 p4 s4 hp4 e4=>?_⟩
        refine⟨p,p4,numbers s.base,numbers d,rfl,s4 _ _ ep,e4,(by rw[ja];omega),(by rw[ja];omega),fun H5 s5=>?_⟩
        have s45:=s4.trans s5
        have em:((numbers s.base).filter (fun n=>decide (n∈numbers d)) != (numbers d).filter fun n=>decide (n∈numbers s.base))=Vanbki.moved s.base d:=by
         unfold Vanbki.moved
         simp only[xl]
        rw[em]
        have hdl2:(Vanbki.differences s.base d).length<=24:=by
         rw[u6,List.length_append]
         have:=J1 s.base d
         omega
        have fin:∀ m:Nat,m=markNat (Vanbki.moved s.base d)->(Y1 (tOp ac6 (ac2 (qw (qv 8) (qw (tOp (rI acY fun i j=>.int (i / j)) (tCB (abU K) (qw (qv 3) xF)) (tC (.int 2))) xF))) (qv 3))) { nx:=fun _ H'=>Q .non H',rt:=Q } [some (.ref B.b),some (.int n),some (.ref (zK B n)),some (.ref q),v4,v5,some (.ref p),v7,some (.int (m:Nat))] H5:=fun m em=>by
         refine⟨_,rfl,_,rfl,q,_,rfl,.inl (SqL.of (s45 _ _ eq)),_,_,rfl,rfl,⟨by decide,by decide⟩,(by show 2<=sizeLine;decide),fun u hu'=>?_⟩
         have s6:=Same.new (o:=.lst [.int (m:Nat),.int (((((Vanbki.differences s.base d).flatMap ZY).map V.int).length:Nat) / 2:Int)]) hu'
         refine⟨_,rfl,u,q,_,_,rfl,rfl,z6,s6 _ _ (s45 _ _ eq),(by rw[List.length_map,uv];simp only[List.length_cons,List.length_nil];exact qH (by omega)),fun y hy=>?_⟩
         refine k _ y (s3.trans (s45.trans (s6.trans (Same.new hy)))) ((s3.trans (s45.trans s6)).free hy) ?_
         rw[IL,z6]
         show some (HO.lst ([V.int (m:Nat),V.int (((((Vanbki.differences s.base d).flatMap ZY).map V.int).length:Int) / 2)]++_))=_
         have e2:((((Vanbki.differences s.base d).flatMap ZY).map V.int).length:Int) / 2=ofNat (Vanbki.differences s.base d).length:=by
          rw[List.length_map,uv]
          unfold ofNat
          omega
         rw[e2,em]
         rfl
        cases hm:Vanbki.moved s.base d with
        | true=>exact⟨_,rfl,zF (fin 1 (by rw[hm];rfl))⟩
        | false=>exact⟨_,rfl,zy (fin 0 (by rw[hm];rfl))⟩
theorem Kp {f1:Addr}{fd1:FuncData}{f2:Addr}{fd2:FuncData} (F:Fun K "tell_change" "tell_change" vz f fd) (T:Txt K mg C) (D_cell_of:Def P w K mg base "cell_of" 2 ["cells","number"] (vm C) f1 fd1) (D_change_of:Def P w K mg base "change_of" 3 ["base_text","side_text"] (wb C) f2 fd2):zU P w K mg base CX0 4 f fd ["books","side","number"] (u5 C):=by
 refine F.ok sc_tell_change (fun vs H Q E h=>?_) (fun cdv A outer s H vs Q E hr h=>?_)
 . obtain⟨G,B,ch,s,n,m,rfl,_⟩:=h
   rfl
 . obtain⟨G,B,ch,s,n,m,rfl,hb,k⟩:=h
   have hu:=jL hr
   refine⟨_,(z5 (zC (qD (vk hu (pv 1) (zf (pv 0) rfl))) (za (zg (zX (z4 (pgi T.g_NO_SIDE) z9)))) zj)
    (z5 (zi (i:=3) sc_tell_change.nd rfl (Or.inl rfl) (ze D_cell_of (hr.mono (by decide)) (z4 (zf (pv 0) rfl) (z4 (pv 2) z9))))
    (z5 (zi (i:=4) sc_tell_change.nd rfl (Or.inl rfl) (ze D_cell_of (hr.mono (by decide)) (z4 (zf (qc hu (zf (pv 0) rfl) (pv 1) (fun _ _=>rfl)) rfl) (z4 (pv 2) z9))))
    (z5 (zC (aaw (qD (jD (pv 3))) (W9 (qD (jD (pv 4))))).pt (za (zg (zX (z4 (pgi T.g_NO_CELL) z9)))) zj)
    (z5 (zi (i:=5) sc_tell_change.nd rfl (Or.inl rfl) (ze D_change_of (hr.mono (by decide)) (z4 (zf (pv 3) rfl) (z4 (zf (pv 4) rfl) z9))))
    (z5 (zi (i:=6) sc_tell_change.nd rfl (Or.inl rfl) (zX (z4 (zf (pv 5) rfl) (z4 (zf (pv 5) rfl) (z4 (zP qS (by rfl) T.b_len qR (z4 (zf (pv 5) rfl) z9)) z9)))))
    (z5 (kK PassesOwn.never rfl (qa (zf (pv 5) rfl)) (zJ (i:=7) sc_tell_change.nd rfl (Or.inl rfl)) (z5 (qt (jF PySem.F.plainAttrs_list PySem.F.slot_list_append PySem.F.type_list_append jc (pv 6) (z4 (zP qS (by rfl) T.b_len qR (z4 (pv 7) z9)) z9)))
    (za (qt (jF PySem.F.plainAttrs_list PySem.F.slot_list_extend PySem.F.type_list_extend jy (pv 6) (z4 (pv 7) z9))))))
    (za (zg (pv 6)))))))))),?_⟩
   obtain⟨dxb,eb⟩:=hb.bk
   refine⟨_,rfl,_,rfl,B.b,C.cBooks,dxb,_,_,rfl,eb,T.c_Books,T.n_Books_sides,zD _ _ _,B.ds,_,rfl,yO hb.sd n,_,rfl,?_⟩
   rw[vp]
   have kk:Vanbki.step s (.change n m)=if Vanbki.noSide n=true then (s,⟨-8,[]⟩) else if m<0 then (s,⟨-1,[]⟩) else match Vanbki.find s.base m.toNat,Vanbki.find (Vanbki.sideDoc s n) m.toNat with
    | some b,some x=>(s,Vanbki.tellChange (Vanbki.changeOf (Vanbki.linesOf b.text) (Vanbki.linesOf x.text)))
    | _,_=>(s,⟨-1,[]⟩):=rfl
   rw[kk] at k
   cases hn:Vanbki.noSide n with
   | true =>
    rw[hn] at k
    exact zF ⟨(by show 1<=sizeLine;decide),fun p hp=>k _ p (Same.new hp) hp z6⟩
   | false =>
    rw[hn] at k
    simp only[Bool.false_eq_true,if_false] at k
    obtain⟨as0,r0,c0,_⟩:=hb.d0
    obtain⟨as,r,c,_⟩:=hb.dS n
    have D:=zW hb.ok n
    generalize hd:Vanbki.sideDoc s n=d at *
    refine zy ?_
    refine⟨_,rfl,B.b,C.cBooks,dxb,_,_,rfl,eb,T.c_Books,T.n_Books_base_cells,qT _ _ _,_,rfl,B.lb,as0,s.base,_,rfl,r0,c0,fun H1 x1 s1 o1=>?_⟩
    have o1:=OptCell.mono s1 (o1 H (Same.refl _) c0)
    refine Ko T (hb.mono s1) hn rfl rfl ⟨_,rfl,zK B n,as,d,_,rfl,s1 _ _ r,c.mono s1,fun H2 x2 s2 o2=>?_⟩
    have o2:=OptCell.mono s2 (o2 H1 (Same.refl _) (c.mono s1))
    have o1:=OptCell.mono s2 o1
    have s12:=s1.trans s2
    have bad:(vc s.base m=none∨vc d m=none)->∀ H' p,Same H H'->H p=none->IL H' p [-1]->Q (.ref p) H':=fun hh H' p s' hp e'=>by
     refine k H' p s' hp ?_
     unfold vc at hh
     by_cases hm:m<0
     . rw[if_pos hm]
       exact e'
     . rw[if_neg hm]
       rw[if_pos (by omega),if_pos (by omega)] at hh
       rcases hh with z | z
       . rw[z]
         exact e'
       . rw[z]
         cases Vanbki.find s.base m.toNat <;> exact e'
    cases e1:vc s.base m with
    | none =>
     rw[e1] at o1
     have o1:x1=.non:=o1
     subst o1
     exact⟨_,rfl,_,rfl,zF (zF ⟨(by show 1<=sizeLine;decide),fun p hp=>bad (.inl e1) _ p (s12.trans (Same.new hp)) (s12.free hp) z6⟩)⟩
    | some b =>
     rw[e1] at o1
     obtain⟨a1,rfl,dx1,q1,f1,t1⟩:=o1
     refine⟨_,rfl,_,rfl,zy ⟨_,rfl,_,rfl,?_⟩⟩
     cases e2:vc d m with
     | none =>
      rw[e2] at o2
      have o2:x2=.non:=o2
      subst o2
      exact zF ⟨(by show 1<=sizeLine;decide),fun p hp=>bad (.inr e2) _ p (s12.trans (Same.new hp)) (s12.free hp) z6⟩
     | some x =>
      rw[e2] at o2
      obtain⟨a2,rfl,dx2,q2,f2,t2⟩:=o2
      have hm:¬m<0:=fun z=>by
       unfold vc at e1
       rw[if_neg (by omega)] at e1
       cases e1
      have g1:Vanbki.find s.base m.toNat=some b:=by
       unfold vc at e1
       rw[if_pos (by omega)] at e1
       exact e1
      have g2:Vanbki.find d m.toNat=some x:=by
       unfold vc at e2
       rw[if_pos (by omega)] at e2
       exact e2
      rw[if_neg hm,g1,g2] at k
      have k:∀ H' p,Same H H'->H p=none->IL H' p (enc (Vanbki.tellChange (Vanbki.changeOf (Vanbki.linesOf b.text) (Vanbki.linesOf x.text))))->Q (.ref p) H':=k
      have tb:=(kn hb.ok.b g1).1
      have tx:=(kn D g2).1
      have zc:=wJ (Vanbki.linesOf b.text) (Vanbki.linesOf x.text)
      rw[ya] at zc
      have zl:=ZU (Vanbki.changeOf (Vanbki.linesOf b.text) (Vanbki.linesOf x.text)).new
      refine zy ?_
      refine⟨_,rfl,a1,C.cCell,dx1,_,_,rfl,f1,T.c_Cell,T.n_Cell_text,zN _ _ _,_,rfl,a2,C.cCell,dx2,_,_,rfl,f2,T.c_Cell,T.n_Cell_text,zN _ _ _,q1,q2,b.text,x.text,rfl,t1,t2,(by omega),(by omega),fun H3 pc s3 ⟨dx3,l3,as3,f3,r3,t3⟩=>?_⟩
      generalize hg:Vanbki.changeOf (Vanbki.linesOf b.text) (Vanbki.linesOf x.text)=g at *
      have WF:=zk t3
      rw[List.length_map] at WF
      refine⟨_,rfl,pc,C.cChange,dx3,_,_,rfl,f3,T.c_Change,T.n_Change_begin,k8 _ _ _,_,rfl,pc,C.cChange,dx3,_,_,rfl,f3,T.c_Change,T.n_Change_end,vN _ _ _,_,rfl,pc,C.cChange,dx3,_,_,rfl,f3,T.c_Change,T.n_Change_new_lines,xh _ _ _,l3,_,rfl,.inl (SqL.of r3),(by show 3<=sizeLine;decide),fun q hq=>?_⟩
      have s4:=Same.new (o:=.lst [.int (g.p:Nat),.int (g.q:Nat),.int (((as3.map V.ref).length:Nat):Int)]) hq
      have s03:=s12.trans s3
      refine⟨_,rfl,pc,C.cChange,dx3,_,_,rfl,s4 _ _ f3,T.c_Change,T.n_Change_new_lines,xh _ _ _,l3,rfl,⟨_,SqL.of (s4 _ _ r3)⟩,jx (K:=K) (a:=l3) (xs:=as3.map V.ref)
       (fun i σ H'=>(∃ v7,σ=[some (.ref B.b),some (.int n),some (.int m),some (.ref a1),some (.ref a2),some (.ref pc),some (.ref q),v7])/\Same H3 H'/\IL H' q (ofNat g.p::ofNat g.q::ofNat g.new.length::(g.new.take i).flatMap Vanbki.tellText))
       ⟨⟨none,rfl⟩,s4,(by rw[IL,z6,List.length_map,WF];rfl)⟩ (fun i σ H' _ h=>SqL.of (h.2.1 _ _ r3)) ?_ ?_⟩
      . rintro i y σ H' hi ⟨⟨v7,rfl⟩,s5,eq⟩
        obtain⟨z,hz,rfl⟩:=qF hi
        obtain⟨tt,ht1,ht2⟩:=zG t3 hz
        rw[List.getElem?_map] at ht1
        obtain⟨y,hy,rfl⟩:∃ y,g.new[i]?=some y/\nats y=tt:=by
         cases e:g.new[i]? with
         | none=>rw[e] at ht1;cases ht1
         | some y=>rw[e] at ht1;exact⟨y,rfl,Option.some.inj ht1⟩
        have zq:z≠q:=z7 ht2 hq
        have htot:((g.new.take i).flatMap Vanbki.tellText).length+y.length+1<=201:=by
         have e1:g.new=g.new.take i++y::g.new.drop (i+1):=by
          have:=List.take_append_drop i g.new
          rw[List.drop_eq_getElem_cons (List.getElem?_eq_some_iff.mp hy).1,(List.getElem?_eq_some_iff.mp hy).2] at this
          exact this.symm
         have e2:∀ l:List Vanbki.Text,(l.flatMap Vanbki.tellText).length=size l:=fun l=>by
          induction l with
          | nil=>rfl
          | cons a r ih =>
           rw[List.flatMap_cons,List.length_append,ih,jP]
           simp[size]
         rw[e2]
         rw[e1,kx] at zc
         simp[size] at zc ⊢
         omega
        refine⟨_,rfl,.inl ⟨rfl,_,SqL.of eq⟩,_,rfl,z,_,rfl,.inl (SqL.of (s5 _ _ ht2)),q,_,_,rfl,rfl,eq,(by simp only[List.length_map,List.length_cons];exact qO (by omega)),?_⟩
        refine⟨_,rfl,.inl ⟨rfl,_,SqL.of z6⟩,_,rfl,q,z,_,_,rfl,rfl,z6,(by rw[z8 zq];exact s5 _ _ ht2),(by simp only[List.length_append,List.length_map,List.length_cons,List.length_nil,nats];exact qH (by omega)),?_⟩
        refine⟨⟨_,rfl⟩,fun b o eo=>?_,?_⟩
        . rw[kb,z8 (z7 eo hq)]
          exact s5 b o eo
        . rw[IL,z6,zH hy,List.flatMap_append]
          simp[Vanbki.tellText,nats,ofNat]
      . rintro σ H' ⟨⟨v7,rfl⟩,s5,eq⟩
        refine⟨_,rfl,k H' q (s03.trans s5) (s03.free hq) ?_⟩
        rw[List.length_map,WF,List.take_length] at eq
        exact eq
end
end Tb
end
section
namespace Tb
open PySem PySem.Spec PyProof.Rows L2
open Vanbki (nats ofNat markNat numbers)
structure Grow (G H F H':Hp):Prop where
 gf:Same G F
 fh:Same F H'
 nw:∀ a o,F a=some o->G a=some o∨H a=none
theorem Grow.free {G H F H':Hp} (h:Grow G H F H') {a:Addr}{o:HO} (hg:G a=none) (hh:H a=some o):F a=none:=by
 cases e:F a with
 | none=>rfl
 | some u =>
  rcases h.nw a u e with z | z
  . rw[hg] at z
    cases z
  . rw[hh] at z
    cases z
def zS (G H H':Hp):Hp:=fun a=>match G a with
 | some o=>some o
 | none=>match H a with
  | some _=>none
  | none=>H' a
theorem qP {G H H':Hp}{a:Addr} (g:Same G H) (h:H a=none):zS G H H' a=H' a:=by
 unfold zS
 rw[g.free h,h]
theorem qI {G H H':Hp} (g:Same G H) (s:Same H H'):Grow G H (zS G H H') H' where
 gf:=fun a o e=>by
  unfold zS
  rw[e]
 fh:=fun a o e=>by
  unfold zS at e
  cases h1:G a with
  | some u =>
   rw[h1] at e
   rw[<-e]
   exact s _ _ (g _ _ h1)
  | none =>
   rw[h1] at e
   cases h2:H a with
   | some u=>rw[h2] at e;cases e
   | none=>rw[h2] at e;exact e
 nw:=fun a o e=>by
  unfold zS at e
  cases h1:G a with
  | some u =>
   rw[h1] at e
   exact .inl e
  | none =>
   rw[h1] at e
   cases h2:H a with
   | some u=>rw[h2] at e;cases e
   | none=>exact .inr rfl
theorem Grow.minus {G H F H':Hp} (h:Grow G H F H') {D:Addr} (hD:G D=none):Grow G H (minus F D) H' where
 gf:=Tb.Same.minus h.gf hD
 fh:=(yK _ _).trans h.fh
 nw:=fun a o e=>h.nw a o (yK _ _ _ _ e)
def MCAt (C:Ad) (H:Hp) (x:Addr) (m:MC):Prop:=∃ dx a,H x=some (.ins C.cMergedCell dx (jZ a m.l m.r))/\CellAt C H a m.cell
theorem MCAt.mono {C:Ad}{H H':Hp}{x:Addr}{m:MC} (s:Same H H') (h:MCAt C H x m):MCAt C H' x m:=by
 obtain⟨dx,a,h1,h2⟩:=h
 exact⟨dx,a,s _ _ h1,h2.mono s⟩
def KeyAt (s:Vanbki.State) (H:Hp) (q:Addr) (c:Vanbki.Cell):Prop:=∃ t,H q=some (.tup [.ref t,.int (markNat c.hidden:Nat),.int (kE s c.number:Nat)])/\IL H t (nats c.text)
theorem KeyAt.mono {s:Vanbki.State}{H H':Hp}{q:Addr}{c:Vanbki.Cell} (k:Same H H') (h:KeyAt s H q c):KeyAt s H' q c:=by
 obtain⟨t,h1,h2⟩:=h
 exact⟨t,k _ _ h1,k _ _ h2⟩
def LooseAt (C:Ad) (H G:Hp) (p:Addr) (g:Nat->List Vanbki.Cell) (keys:List Nat):Prop:=∃ kvs,H p=some (.dK kvs)/\∀ n,n∈keys->∃ q as,ww kvs (Sum.inl (n:Int))=some (.ref q)/\RL H q as/\CellsAt C G as (g n)
theorem LooseAt.mono {C:Ad}{H H' G:Hp}{p:Addr}{g:Nat->List Vanbki.Cell}{keys:List Nat} (k:Same H H') (h:LooseAt C H G p g keys):LooseAt C H' G p g keys:=by
 obtain⟨kvs,h1,h2⟩:=h
 refine⟨kvs,k _ _ h1,fun n hn=>?_⟩
 obtain⟨q,as,a1,a2,a3⟩:=h2 n hn
 exact⟨q,as,a1,k _ _ a2,a3⟩
def uw (s:Vanbki.State) (side:Nat):Vanbki.Doc:=if side=1 then s.left else s.right
def wq (C:Ad):Sp:=fun vs H Q _=>∃ G B ch s p a b c,vs=[.ref (Bk.b B),.ref p]/\BooksAt C H G B ch s/\H p=some (.tup [.ref a,.ref b,.ref c])/\IL H a (nats (Vanbki.common s))/\IL H b (nats (Vanbki.orderIn s s.left))/\IL H c (nats (Vanbki.orderIn s s.right))/\∀ H' r,Same H H'->(r=a∨r=b∨r=c)->IL H' r (nats (jk s))->Q (.ref r) H'
def vd (C:Ad):Sp:=fun vs H Q _=>∃ G B ch s n c l r,vs=[.ref (Bk.b B),.int (n:Nat)]/\BooksAt C H G B ch s/\Vanbki.find s.base n=some c/\Vanbki.find s.left n=some l/\Vanbki.find s.right n=some r/\∀ H' x F,Same H H'->Grow G H F H'->MCAt C F x (jJ s n c l r)->Q (.ref x) H'
def uS (C:Ad):Sp:=fun vs H Q _=>∃ G B ch s side a x,vs=[.ref (Bk.b B),.int (side:Nat),.ref a]/\BooksAt C H G B ch s/\(side=1∨side=2)/\CellAt C G a x/\∀ H' r,Same H H'->OptCell C G r (yA s side x)->Q r H'
def u7 (C:Ad):Sp:=fun vs H Q _=>∃ G B ch s side cm,vs=[.ref (Bk.b B),.int (side:Nat),.ref cm]/\BooksAt C H G B ch s/\(side=1∨side=2)/\IL H cm (nats (Vanbki.common s))/\∀ H' p,Same H H'->LooseAt C H' G p (atC (qB s side)) (vj (Vanbki.common s) (uw s side))->Q (.ref p) H'
def Q0 (C:Ad):Sp:=fun vs H Q _=>∃ l bn as cs s,vs=[.ref l,.ref bn]/\RL H l as/\CellsAt C H as cs/\IL H bn (nats (numbers (Vanbki.State.base s)))/\cs.length<=1000/\∀ H' p qs,Same H H'->RL H' p qs->Paired (KeyAt s H') qs cs->Q (.ref p) H'
theorem Xw {κ:Type} [DecidableEq κ] {kvs:List (κ × V)}{k:κ}{v:V} (h:¬k∈kvs.map (·.1)):ye kvs k v=kvs++[(k,v)]:=by
 unfold ye
 rw[if_neg]
 intro z
 obtain⟨p,hp,e⟩:=List.any_eq_true.mp z
 exact h (List.mem_map.mpr ⟨p,hp,of_decide_eq_true e⟩)
def dkv (ks:List (Nat × Addr)):List (Key × V):=ks.map fun x=>(Sum.inl (x.1:Int),V.ref x.2)
theorem U7 {ks:List (Nat × Addr)} (nd:(ks.map fun x=>x.1).Nodup) {x:Nat × Addr} (h:x∈ks):ww (dkv ks) (Sum.inl (x.1:Int))=some (.ref x.2):=by
 induction ks with
 | nil=>cases h
 | cons y r ih =>
  rw[List.map_cons,List.nodup_cons] at nd
  unfold dkv at ih ⊢
  rw[List.map_cons]
  rcases List.mem_cons.mp h with e | e
  . subst e
    exact yJ rfl
  . rw[vM (by
     intro z
     injection z with z
     have:y.1=x.1:=by
      have:(y.1:Int)=(x.1:Int):=z
      omega
     exact nd.1 (this▸List.mem_map.mpr ⟨x,e,rfl⟩))]
    exact ih nd.2 e
theorem abc {ks:List (Nat × Addr)}{n:Nat} (h:¬n∈ks.map fun x=>x.1):¬(Sum.inl (n:Int):Key)∈(dkv ks).map (·.1):=by
 intro z
 obtain⟨p,hp,e⟩:=List.mem_map.mp z
 obtain⟨x,hx,rfl⟩:=List.mem_map.mp hp
 injection e with e
 have:x.1=n:=by
  have:(x.1:Int)=(n:Int):=e
  omega
 exact h (this▸List.mem_map.mpr ⟨x,hx,rfl⟩)
section
variable {P:Program}{w:World}{K:PySem.W.Frag}{mg:Str->Option Value}{base:Heap}{C:Ad}{f:Addr}{fd:FuncData}
theorem Jq {f1:Addr}{fd1:FuncData}{f2:Addr}{fd2:FuncData}{f3:Addr}{fd3:FuncData} (F:Fun K "merged_order" "merged_order" kW f fd) (T:Txt K mg C) (D_agreed_order:Def P w K mg base "agreed_order" 2 ["orders"] (vY) f1 fd1) (D_chosen:Def P w K mg base "chosen" 1 ["choice","base","left","right"] (QG) f2 fd2) (D_choice_of:Def P w K mg base "choice_of" 1 ["books","conflict"] (js C) f3 fd3):zU P w K mg base CX0 3 f fd ["books","orders"] (wq C):=by
 refine F.ok sc_merged_order (fun vs H Q E h=>?_) (fun cdv A outer s H vs Q E hr h=>?_)
 . obtain⟨G,B,ch,s,p,a,b,c,rfl,_⟩:=h
   rfl
 . obtain⟨G,B,ch,s,p,a,b,c,rfl,hb,hp,ha,hbb,hc,k⟩:=h
   refine⟨_,(z5 (zi (i:=2) sc_merged_order.nd rfl (Or.inl rfl) (ze D_agreed_order (hr.mono (by decide)) (z4 (pv 1) z9)))
    (z5 (zC (qD (jD (pv 2))) (za (zg (ze D_chosen (hr.mono (by decide)) (z4 (ze D_choice_of (hr.mono (by decide)) (z4 (pv 0) (z4 (yH (z4 (pgi T.g_ORDER_CONFLICT) (z4 zB z9))) z9))) (z4 (qk kL (pv 1) zB (fun _ _=>rfl)) (z4 (qk kL (pv 1) zB (fun _ _=>rfl)) (z4 (qk kL (pv 1) zB (fun _ _=>rfl)) z9))))))) zj)
    (za (zg (pv 2))))),?_⟩
   refine⟨_,rfl,p,a,b,c,_,_,_,rfl,hp,ha,hbb,hc,?_⟩
   simp only[WL]
   have eo:Vanbki.mergedOrder s=if Vanbki.orderIn s s.left=Vanbki.common s then some (Vanbki.orderIn s s.right) else if Vanbki.orderIn s s.right=Vanbki.common s then some (Vanbki.orderIn s s.left) else if Vanbki.orderIn s s.left=Vanbki.orderIn s s.right then some (Vanbki.orderIn s s.left) else none:=rfl
   unfold jk at k
   by_cases g1:Vanbki.orderIn s s.left=Vanbki.common s
   . rw[if_pos g1] at eo ⊢
     rw[eo] at k
     exact⟨_,rfl,_,rfl,zy ⟨_,rfl,k H c (Same.refl _) (.inr (.inr rfl)) hc⟩⟩
   rw[if_neg g1] at eo ⊢
   by_cases g2:Vanbki.orderIn s s.right=Vanbki.common s
   . rw[if_pos g2] at eo ⊢
     rw[eo] at k
     exact⟨_,rfl,_,rfl,zy ⟨_,rfl,k H b (Same.refl _) (.inr (.inl rfl)) hbb⟩⟩
   rw[if_neg g2] at eo ⊢
   by_cases g3:Vanbki.orderIn s s.left=Vanbki.orderIn s s.right
   . rw[if_pos g3] at eo ⊢
     rw[eo] at k
     exact⟨_,rfl,_,rfl,zy ⟨_,rfl,k H b (Same.refl _) (.inr (.inl rfl)) hbb⟩⟩
   rw[if_neg g3] at eo ⊢
   rw[eo] at k
   refine⟨_,rfl,_,rfl,zF ⟨_,rfl,(by show 2<=sizeLine;decide),fun t ht=>?_⟩⟩
   have s1:=Same.new (o:=.tup [.int 4,.int 0]) ht
   have hp1:=s1 _ _ hp
   refine⟨G,B,ch,s,t,(4,0),rfl,hb.mono s1,z6,?_⟩
   refine⟨_,rfl,p,_,_,_,rfl,rfl,SqT.of hp1,zV (j:=0) rfl,_,rfl,p,_,_,_,rfl,rfl,SqT.of hp1,zV (j:=1) rfl,_,rfl,p,_,_,_,rfl,rfl,SqT.of hp1,zV (j:=2) rfl,_,_,_,_,rfl,?_⟩
   by_cases h1:Vanbki.choiceOf s 4 0=1
   . rw[if_pos (by show ((Vanbki.choiceOf s 4 0:Nat):Int)=1;omega)]
     exact k _ b s1 (.inr (.inl rfl)) (by rw[if_pos h1];exact s1 _ _ hbb)
   . rw[if_neg (by show ¬((Vanbki.choiceOf s 4 0:Nat):Int)=1;omega)]
     by_cases h2:Vanbki.choiceOf s 4 0=2
     . rw[if_pos (by show ((Vanbki.choiceOf s 4 0:Nat):Int)=2;omega)]
       exact k _ c s1 (.inr (.inr rfl)) (by rw[if_neg h1,if_pos h2];exact s1 _ _ hc)
     . rw[if_neg (by show ¬((Vanbki.choiceOf s 4 0:Nat):Int)=2;omega)]
       exact k _ a s1 (.inl rfl) (by rw[if_neg h1,if_neg h2];exact s1 _ _ ha)
theorem wx {f1:Addr}{fd1:FuncData}{f2:Addr}{fd2:FuncData}{f3:Addr}{fd3:FuncData}{f4:Addr}{fd4:FuncData}{f5:Addr}{fd5:FuncData}{f6:Addr}{fd6:FuncData} (F:Fun K "merged_common_cell" "merged_common_cell" j3 f fd) (T:Txt K mg C) (D_cell_of:Def P w K mg base "cell_of" 2 ["cells","number"] (vm C) f1 fd1) (D_merged_text:Def P w K mg base "merged_text" 4 ["base_text","left_text","right_text"] (yN C) f2 fd2) (D_MergedCell:Cdf P w K mg base "MergedCell" 1 ["self","cell","on_left","on_right"] (zY C) C.cMergedCell f3 fd3) (D_chosen:Def P w K mg base "chosen" 1 ["choice","base","left","right"] (QG) f4 fd4) (D_Cell:Cdf P w K mg base "Cell" 1 ["self","number","mark","text"] (qM C) C.cCell f5 fd5) (D_choice_of:Def P w K mg base "choice_of" 1 ["books","conflict"] (js C) f6 fd6):zU P w K mg base CX0 5 f fd ["books","number"] (vd C):=by
 refine F.ok sc_merged_common_cell (fun vs H Q E h=>?_) (fun cdv A outer s H vs Q E hr h=>?_)
 . obtain⟨G,B,ch,s,n,c,l,r,rfl,_⟩:=h
   rfl
 . obtain⟨G,B,ch,s,n,c,l,r,rfl,hb,fc,fl,fr,k⟩:=h
   have hu:=jL hr
   refine⟨_,(z5 (zi (i:=2) sc_merged_common_cell.nd rfl (Or.inl rfl) (ze D_cell_of (hr.mono (by decide)) (z4 (zf (pv 0) rfl) (z4 (pv 1) z9))))
    (z5 (zi (i:=3) sc_merged_common_cell.nd rfl (Or.inl rfl) (ze D_cell_of (hr.mono (by decide)) (z4 (zf (qc hu (zf (pv 0) rfl) (pgi T.g_LEFT) (fun _ _=>rfl)) rfl) (z4 (pv 1) z9))))
    (z5 (zi (i:=4) sc_merged_common_cell.nd rfl (Or.inl rfl) (ze D_cell_of (hr.mono (by decide)) (z4 (zf (qc hu (zf (pv 0) rfl) (pgi T.g_RIGHT) (fun _ _=>rfl)) rfl) (z4 (pv 1) z9))))
    (z5 (zi (i:=5) sc_merged_common_cell.nd rfl (Or.inl rfl) (ze D_merged_text (hr.mono (by decide)) (z4 (zf (pv 2) rfl) (z4 (zf (pv 3) rfl) (z4 (zf (pv 4) rfl) z9)))))
    (z5 (zC (qD (jD (pv 5))) (za (zi (i:=5) sc_merged_common_cell.nd rfl (Or.inl rfl) (ze D_chosen (hr.mono (by decide)) (z4 (ze D_choice_of (hr.mono (by decide)) (z4 (pv 0) (z4 (yH (z4 (pgi T.g_TEXT_CONFLICT) (z4 (pv 1) z9))) z9))) (z4 (zf (pv 2) rfl) (z4 (zf (pv 3) rfl) (z4 (zf (pv 4) rfl) z9))))))) zj)
    (z5 (zi (i:=6) sc_merged_common_cell.nd rfl (Or.inl rfl) (jK (zo qN (zf (pv 3) rfl) (zf (pv 2) rfl) (zz _)) (zf (pv 4) rfl) (zf (pv 3) rfl)))
    (za (zg (qj D_MergedCell (hr.mono (by decide)) (z4 (qj D_Cell (hr.mono (by decide)) (z4 (pv 1) (z4 (pv 6) (z4 (pv 5) z9)))) (z4 (pv 1) (z4 (pv 1) z9)))))))))))),?_⟩
   obtain⟨as0,r0,c0,g0⟩:=hb.d0
   obtain⟨as1,r1,c1,g1⟩:=hb.d1
   obtain⟨as2,r2,c2,g2⟩:=hb.d2
   obtain⟨dxb,eb⟩:=hb.bk
   refine⟨_,rfl,B.b,C.cBooks,dxb,_,_,rfl,eb,T.c_Books,T.n_Books_base_cells,qT _ _ _,_,rfl,B.lb,as0,s.base,_,rfl,r0,c0,fun H1 x1 s1 o1=>?_⟩
   have o1:=o1 G hb.gh g0
   rw[vh,fc] at o1
   obtain⟨a1,rfl,u1⟩:=o1
   refine QH T (hb.mono s1) rfl ⟨_,rfl,B.l1,as1,s.left,_,rfl,s1 _ _ r1,c1.mono s1,fun H2 x2 s2 o2=>?_⟩
   have o2:=o2 G (hb.gh.trans s1) g1
   rw[vh,fl] at o2
   obtain⟨a2,rfl,u2⟩:=o2
   have s12:=s1.trans s2
   refine QI T (hb.mono s12) rfl ⟨_,rfl,B.l2,as2,s.right,_,rfl,s12 _ _ r2,c2.mono s12,fun H3 x3 s3 o3=>?_⟩
   have o3:=o3 G (hb.gh.trans s12) g2
   rw[vh,fr] at o3
   obtain⟨a3,rfl,u3⟩:=o3
   have s13:=s12.trans s3
   obtain⟨dx1,q1,e1,t1⟩:=u1
   obtain⟨dx2,q2,e2,t2⟩:=u2
   obtain⟨dx3,q3,e3,t3⟩:=u3
   have w1:=t1
   have w2:=t2
   have w3:=t3
   have g3:=hb.gh.trans s13
   replace e1:=g3 _ _ e1
   replace e2:=g3 _ _ e2
   replace e3:=g3 _ _ e3
   replace t1:=g3 _ _ t1
   replace t2:=g3 _ _ t2
   replace t3:=g3 _ _ t3
   have z1:=(kn hb.ok.b fc).1
   have z2:=(kn hb.ok.l fl).1
   have z3:=(kn hb.ok.r fr).1
   refine⟨_,rfl,a1,C.cCell,dx1,_,_,rfl,e1,T.c_Cell,T.n_Cell_text,zN _ _ _,_,rfl,a2,C.cCell,dx2,_,_,rfl,e2,T.c_Cell,T.n_Cell_text,zN _ _ _,_,rfl,a3,C.cCell,dx3,_,_,rfl,e3,T.c_Cell,T.n_Cell_text,zN _ _ _,
    q1,q2,q3,c.text,l.text,r.text,rfl,t1,t2,t3,(by omega),(by omega),(by omega),fun H4 x4 s4 o4 n4=>?_⟩
   have em:decide (V.int (markNat l.hidden:Nat)=V.int (markNat c.hidden:Nat))=decide (l.hidden=c.hidden):=by
    cases l.hidden <;> cases c.hidden <;> simp[markNat]
   have fin:∀ (H5:Hp) (t:Addr) (tt:Vanbki.Text),Same H3 H5->IL H5 t (nats tt)->(IL G t (nats tt)∨H t=none)->(jJ s n c l r).cell.text=tt ->
    (KP (Y3 (tIf (WS (tOp rEq (yd K (qv 3) "mark") (yd K (qv 2) "mark"))) (yd K (qv 4) "mark") (yd K (qv 3) "mark")) (wj 6)) (Y1 (wk C.cMergedCell (zY C) [] E0 (qw (wk C.cCell (qM C) [] E0 (qw (qv 1) (qw (qv 6) (qw (qv 5) xF)))) (qw (qv 1) (qw (qv 1) xF))))))
     { nx:=fun _ H'=>Q .non H',rt:=Q } [some (.ref B.b),some (.int (n:Nat)),some (.ref a1),some (.ref a2),some (.ref a3),some (.ref t),none] H5:=fun H5 t tt s5 e5 gt et=>by
    have last:∀ m:Bool,m=Vanbki.mergedMark c.hidden l.hidden r.hidden->(Y1 (wk C.cMergedCell (zY C) [] E0 (qw (wk C.cCell (qM C) [] E0 (qw (qv 1) (qw (qv 6) (qw (qv 5) xF)))) (qw (qv 1) (qw (qv 1) xF)))))
     { nx:=fun _ H'=>Q .non H',rt:=Q } [some (.ref B.b),some (.int (n:Nat)),some (.ref a1),some (.ref a2),some (.ref a3),some (.ref t),some (.int (markNat m:Nat))] H5:=fun m hm=>by
     refine⟨_,rfl,_,rfl,_,rfl,?_⟩
     intro y dy ny nd ne
     refine⟨y,dy,_,_,_,rfl,z6,rfl,?_⟩
     have s6:=jr (c:=C.cCell) (fs:=k5 (n:Nat) (markNat m:Nat) t) ny nd
     refine⟨_,rfl,_,rfl,?_⟩
     intro x dx nx nd' ne'
     refine⟨x,dx,_,_,_,rfl,z6,rfl,?_⟩
     have s7:=jr (c:=C.cMergedCell) (fs:=jZ y (n:Nat) (n:Nat)) nx nd'
     have sall:=s13.trans (s5.trans (s6.trans s7))
     have s05:=s13.trans s5
     have gr:=qI hb.gh sall
     refine k _ x _ sall gr ⟨dx,y,?_,dy,t,?_,?_⟩
     . rw[qP hb.gh ((s05.trans s6).free nx)]
       exact z6
     . rw[qP hb.gh (s05.free ny)]
       refine s7 _ _ ?_
       rw[z6,hm]
       rfl
     . rw[et]
       rcases gt with z | z
       . exact gr.gf _ _ z
       . rw[IL,qP hb.gh z]
         exact s7 _ _ (s6 _ _ e5)
    refine⟨_,rfl,a2,C.cCell,dx2,_,_,rfl,s5 _ _ e2,T.c_Cell,T.n_Cell_mark,qo _ _ _,_,rfl,a1,C.cCell,dx1,_,_,rfl,s5 _ _ e1,T.c_Cell,T.n_Cell_mark,qo _ _ _,rfl,_,rfl,?_⟩
    rw[em]
    by_cases hm:l.hidden=c.hidden
    . rw[decide_eq_true hm]
      refine zF ⟨_,rfl,a3,C.cCell,dx3,_,_,rfl,s5 _ _ e3,T.c_Cell,T.n_Cell_mark,qo _ _ _,last r.hidden ?_⟩
      unfold Vanbki.mergedMark
      rw[if_pos hm]
    . rw[decide_eq_false hm]
      refine zy ⟨_,rfl,a2,C.cCell,dx2,_,_,rfl,s5 _ _ e2,T.c_Cell,T.n_Cell_mark,qo _ _ _,last l.hidden ?_⟩
      unfold Vanbki.mergedMark
      rw[if_neg hm]
   cases e:Vanbki.mergedText c.text l.text r.text with
   | some tt =>
    rw[e] at o4
    obtain⟨t,rfl,e4⟩:=o4
    refine⟨_,rfl,_,rfl,zy ?_⟩
    exact (fin H4 t tt s4 e4 (by
     rcases n4 t rfl with z | z | z
     . subst z
       have:IL H4 t (nats l.text):=s4 _ _ t2
       rw[IL] at this e4
       rw[this] at e4
       exact .inl (by rw[IL,w2,e4])
     . subst z
       have:IL H4 t (nats r.text):=s4 _ _ t3
       rw[IL] at this e4
       rw[this] at e4
       exact .inl (by rw[IL,w3,e4])
     . exact .inr (s13.free z)) (by simp[jJ,e]))
   | none =>
    rw[e] at o4
    have o4:x4=.non:=o4
    subst o4
    refine⟨_,rfl,_,rfl,zF ⟨_,rfl,_,rfl,(by show 2<=sizeLine;decide),fun u hu'=>?_⟩⟩
    have s5:=Same.new (o:=.tup [.int 1,.int (n:Nat)]) hu'
    have s45:=s4.trans s5
    refine⟨G,B,ch,s,u,(1,n),rfl,hb.mono (s13.trans s45),z6,?_⟩
    refine⟨_,rfl,a1,C.cCell,dx1,_,_,rfl,s45 _ _ e1,T.c_Cell,T.n_Cell_text,zN _ _ _,_,rfl,a2,C.cCell,dx2,_,_,rfl,s45 _ _ e2,T.c_Cell,T.n_Cell_text,zN _ _ _,_,rfl,a3,C.cCell,dx3,_,_,rfl,s45 _ _ e3,T.c_Cell,T.n_Cell_text,zN _ _ _,_,_,_,_,rfl,?_⟩
    by_cases h1:Vanbki.choiceOf s 1 n=1
    . rw[if_pos (by show ((Vanbki.choiceOf s 1 n:Nat):Int)=1;omega)]
      exact fin _ q2 l.text s45 (s45 _ _ t2) (.inl w2) (by simp[jJ,e,h1])
    . rw[if_neg (by show ¬((Vanbki.choiceOf s 1 n:Nat):Int)=1;omega)]
      by_cases h2:Vanbki.choiceOf s 1 n=2
      . rw[if_pos (by show ((Vanbki.choiceOf s 1 n:Nat):Int)=2;omega)]
        exact fin _ q3 r.text s45 (s45 _ _ t3) (.inl w3) (by simp[jJ,e,h2])
      . rw[if_neg (by show ¬((Vanbki.choiceOf s 1 n:Nat):Int)=2;omega)]
        exact fin _ q1 c.text s45 (s45 _ _ t1) (.inl w1) (by simp[jJ,e,h1,h2])
theorem V1 {f1:Addr}{fd1:FuncData}{f2:Addr}{fd2:FuncData} (F:Fun K "loose_cell" "loose_cell" yn f fd) (T:Txt K mg C) (D_cell_of:Def P w K mg base "cell_of" 2 ["cells","number"] (vm C) f1 fd1) (D_choice_of:Def P w K mg base "choice_of" 1 ["books","conflict"] (js C) f2 fd2):zU P w K mg base CX0 3 f fd ["books","side","cell"] (uS C):=by
 refine F.ok sc_loose_cell (fun vs H Q E h=>?_) (fun cdv A outer s H vs Q E hr h=>?_)
 . obtain⟨G,B,ch,s,side,a,x,rfl,_⟩:=h
   rfl
 . obtain⟨G,B,ch,s,side,a,x,rfl,hb,hside,ha,k⟩:=h
   refine⟨_,(z5 (zi (i:=3) sc_loose_cell.nd rfl (Or.inl rfl) (ze D_cell_of (hr.mono (by decide)) (z4 (zf (pv 0) rfl) (z4 (zf (pv 2) rfl) z9))))
    (z5 (zC (qD (jD (pv 3))) (za (zg (pv 2))) zj)
    (z5 (zi (i:=4) sc_loose_cell.nd rfl (Or.inl rfl) (jK (zo qN (pv 1) (pgi T.g_RIGHT) (zz _)) (pgi T.g_LEFT_HAS_NOT) (pgi T.g_RIGHT_HAS_NOT)))
    (z5 (zi (i:=5) sc_loose_cell.nd rfl (Or.inl rfl) (ze D_choice_of (hr.mono (by decide)) (z4 (pv 0) (z4 (yH (z4 (pv 4) (z4 (zf (pv 2) rfl) z9))) z9))))
    (z5 (zC (zo qN (pv 5) (pv 1) (zz _)) (za (zg (pv 2))) zj)
    (z5 (zC (zo qN (pv 5) (pgi T.g_BASE_CHOICE) (zz _)) (za (zg (pv 3))) zj)
    (za (zg wM)))))))),?_⟩
   obtain⟨as0,r0,c0,g0⟩:=hb.d0
   obtain⟨dx,q,e1,t1⟩:=ha.mono hb.gh
   obtain⟨dxb,eb⟩:=hb.bk
   refine⟨_,rfl,B.b,C.cBooks,dxb,_,_,rfl,eb,T.c_Books,T.n_Books_base_cells,qT _ _ _,_,rfl,a,C.cCell,dx,_,_,rfl,e1,T.c_Cell,T.n_Cell_number,zE _ _ _,B.lb,as0,s.base,_,rfl,r0,c0,fun H1 x1 s1 o1=>?_⟩
   have o1:=o1 G hb.gh g0
   rw[vh] at o1
   unfold yA at k
   cases e:Vanbki.find s.base x.number with
   | none =>
    rw[e] at o1 k
    have o1:x1=.non:=o1
    subst o1
    exact⟨_,rfl,_,rfl,zF ⟨_,rfl,k H1 _ s1 ⟨a,rfl,ha⟩⟩⟩
   | some c =>
    rw[e] at o1 k
    obtain⟨b,rfl,u1⟩:=o1
    refine⟨_,rfl,_,rfl,zy ?_⟩
    have rest:∀ kd:Nat,kd=(if side=2 then 2 else 3)->(KP (Y3 (WU (js C) [] E0 (qw (qv 0) (qw (ac1 (qw (qv 4) (qw (yd K (qv 2) "number") xF))) xF))) (wj 5)) (KP (ach (WS (tOp rEq (qv 5) (qv 1))) (Y1 (qv 2)) aay) (KP (ach (WS (tOp rEq (qv 5) (tC (.int 3)))) (Y1 (qv 3)) aay) (Y1 (tC .non)))))
     { nx:=fun _ H'=>Q .non H',rt:=Q } [some (.ref B.b),some (.int (side:Nat)),some (.ref a),some (.ref b),some (.int (kd:Nat)),none] H1:=fun kd hk=>by
     refine⟨_,rfl,_,rfl,_,rfl,a,C.cCell,dx,_,_,rfl,s1 _ _ e1,T.c_Cell,T.n_Cell_number,zE _ _ _,(by show 2<=sizeLine;decide),fun u hu'=>?_⟩
     have s2:=Same.new (o:=.tup [.int (kd:Nat),.int (x.number:Nat)]) hu'
     refine⟨G,B,ch,s,u,(kd,x.number),rfl,hb.mono (s1.trans s2),z6,?_⟩
     have k2:=fun r=>k _ r (s1.trans s2)
     rw[<-hk] at k2
     refine⟨_,rfl,_,rfl,rfl,_,rfl,wY (fun hh=>?_) (fun hh=>?_)⟩
     . have e0:Vanbki.choiceOf s kd x.number=side:=by
        have:((Vanbki.choiceOf s kd x.number:Nat):Int)=((side:Nat):Int):=by simpa using hh
        omega
       refine⟨_,rfl,k2 _ ?_⟩
       show OptCell C G _ (if Vanbki.choiceOf s kd x.number=side then some x else if Vanbki.choiceOf s kd x.number=3 then some c else none)
       rw[if_pos e0]
       exact⟨a,rfl,ha⟩
     . have e0:¬Vanbki.choiceOf s kd x.number=side:=fun z=>hh (by rw[z];exact decide_eq_true rfl)
       refine⟨_,rfl,rfl,_,rfl,wY (fun hh=>?_) (fun hh=>?_)⟩
       . have e3:Vanbki.choiceOf s kd x.number=3:=by
          have:((Vanbki.choiceOf s kd x.number:Nat):Int)=3:=by simpa using hh
          omega
         refine⟨_,rfl,k2 _ ?_⟩
         show OptCell C G _ (if Vanbki.choiceOf s kd x.number=side then some x else if Vanbki.choiceOf s kd x.number=3 then some c else none)
         rw[if_neg e0,if_pos e3]
         exact⟨b,rfl,u1⟩
       . have e3:¬Vanbki.choiceOf s kd x.number=3:=fun z=>hh (by rw[z];rfl)
         refine k2 _ ?_
         show OptCell C G _ (if Vanbki.choiceOf s kd x.number=side then some x else if Vanbki.choiceOf s kd x.number=3 then some c else none)
         rw[if_neg e0,if_neg e3]
         rfl
    refine⟨_,rfl,rfl,_,rfl,?_⟩
    rcases hside with rfl | rfl
    . exact zy (rest 3 rfl)
    . exact zF (rest 2 rfl)
end
end Tb
end
section
namespace Tb
open PySem PySem.Spec PyProof.Rows L2
open Vanbki (nats ofNat markNat numbers)
theorem u9 (co:List Nat) (d:Vanbki.Doc) (x:Vanbki.Cell):vj co (d++[x])=vj co d++(if co.contains x.number=true then [x.number] else []):=by
 unfold vj numbers
 rw[List.map_append,List.filter_append]
 by_cases h:x.number∈co
 . simp[h]
 . simp[h]
theorem abd {co:List Nat}{d:Vanbki.Doc}{n:Nat} (h:n∈vj co d):n=0∨(n∈numbers d/\n∈co):=by
 unfold vj at h
 rcases List.mem_cons.mp h with e | e
 . exact .inl e
 . obtain⟨h1,h2⟩:=List.mem_filter.mp e
   exact .inr ⟨h1,by simpa using h2⟩
theorem Ww {keep:Vanbki.Cell->Option Vanbki.Cell}{co:List Nat}{d:Vanbki.Doc}{x:Vanbki.Cell} (h:co.contains x.number=true):z_ keep co 0 (d++[x])=z_ keep co 0 d:=by
 rw[kF,if_pos h,List.append_nil]
theorem acJ {K:PySem.W.Frag}{a b:Addr}{xs zs:List V}{g:TG}{te:TE}{vs:List Nat}{σ:L2.St}{H1:Hp}{D:Addr}{Qd:Hp->Prop} (R:Nat->V->Hp->Prop) (mono:∀ i y F F',Same F F'->R i y F->R i y F') (hx:SqL K H1 a xs) (hy:SqL K H1 b zs) (hlen:xs.length=zs.length) (hD:H1 D=none) (hz:xs.length<sizeLine)
 (hs:∀ (i:Nat) (x z:V) (H':Hp) (X:Addr) (P:V->Hp->Prop),xs[i]?=some x->zs[i]?=some z->Same H1 H'->(∃ o,H' D=some o)->H' X=none->(∀ y H4,Same H' H4->R i y (minus H4 D)->P y H4) ->
  g (.ref X) (qK σ vs) (upd H' X (.tup [x,z])) fun σ2 H2=>qK σ2 vs=qK σ vs/\te σ2 H2 P)
 (hd:∀ H' ys,Same H1 H'->H' D=some (.lst ys)->ys.length=xs.length->(∀ i y,ys[i]?=some y->R i y (minus H' D))->Qd H') :
 ∃ W:Nat->Nat->Hp->Prop,(∃ m,W 0 m (upd H1 D (.lst [])))/\∀ i m H,W i m H ->
  ((Itz K a b).stop i H/\Qd H)∨((Itz K a b).go i H/\∃ Nx:Hp->Prop,(∀ H',Nx H'->∃ m',m'<m/\W (i+1) m' H')/\∀ x H',(Itz K a b).yld i H x H'->g x (qK σ vs) H' fun σ2 H2=>qK σ2 vs=qK σ vs/\K4 σ2 H2 fun b H3 =>
   if b=true then te σ2 H3 fun y H4=>∃ acc,H4 D=some (.lst acc)/\acc.length<sizeLine/\Nx (upd H4 D (.lst (acc++[y]))) else Nx H3):=by
 refine⟨fun i m H=>m=xs.length - i/\i<=xs.length/\(Same H1 H/\∃ ys,H D=some (.lst ys)/\ys.length=i/\∀ j y,ys[j]?=some y->R j y (minus H D)),⟨xs.length,by simp,Nat.zero_le _,Same.new hD,[],z6,rfl,fun j y h=>by simp at h⟩,?_⟩
 rintro i m H ⟨rfl,hi,s,ys,e,hl,hr⟩
 have q:=s.seq hx
 have q2:=s.seq hy
 by_cases hlt:i<xs.length
 . have hx':xs[i]?=some xs[i]:=List.getElem?_eq_getElem hlt
   have hz':zs[i]?=some (zs[i]'(by omega)):=List.getElem?_eq_getElem (by omega)
   refine .inr ⟨⟨xs,zs,_,_,q,q2,hx',hz'⟩,fun H'=>Same H1 H'/\∃ zs,H' D=some (.lst zs)/\zs.length=i+1/\∀ j z,zs[j]?=some z->R j z (minus H' D),fun H' p'=>⟨xs.length - (i+1),by omega,rfl,hlt,p'⟩,fun v H' y=>?_⟩
   obtain⟨X,x,z,rfl,hX,rfl,y1,y2⟩:=y
   have h1:=y1 xs q
   have h2:=y2 zs q2
   simp only[K4,if_true]
   refine hs i x z H X _ h1 h2 s ⟨_,e⟩ hX fun y H4 s4 r4=>⟨ys,s4 _ _ e,by omega,fun b o q=>?_,ys++[y],z6,by simp[hl],fun j z hj=>?_⟩
   . rw[z8 (z7 q hD)]
     exact s4 _ _ (s b o q)
   . rw[xI]
     by_cases hji:j<ys.length
     . rw[List.getElem?_append_left hji] at hj
       exact mono j z _ _ (Same.both s4) (hr j z hj)
     . have hjl:j<(ys++[y]).length:=(List.getElem?_eq_some_iff.mp hj).1
       have ej:j=ys.length:=by simp at hjl;omega
       subst ej
       rw[List.getElem?_append_right (Nat.le_refl _)] at hj
       simp at hj
       subst hj
       rw[hl]
       exact r4
 . have e':i=xs.length:=by omega
   subst e'
   exact .inl ⟨⟨xs,zs,q,q2,.inl (Nat.le_refl _)⟩,hd H ys s e hl hr⟩
theorem yr {β:Type}{R:Addr->β->Prop}:∀ {ys:List V}{bs:List β},ys.length=bs.length->(∀ (i:Nat) (y:V) (b:β),ys[i]?=some y->bs[i]?=some b->∃ a,y=.ref a/\R a b)->∃ as:List Addr,ys=as.map V.ref/\Paired R as bs
 | [],[],_,_=>⟨[],rfl,.nil⟩
 | [],_::_,h,_=>by simp at h
 | _::_,[],h,_=>by simp at h
 | y::ys,b::bs,h,hr=>by
  obtain⟨a,ea,ra⟩:=hr 0 y b rfl rfl
  obtain⟨as,e,p⟩:=yr (R:=R) (ys:=ys) (bs:=bs) (by simpa using h) fun i y' b' h1 h2=>hr (i+1) y' b' (by simpa using h1) (by simpa using h2)
  exact⟨a::as,by rw[ea,e];rfl,.cons ra p⟩
def xn (C:Ad):Sp:=fun vs H Q _=>∃ G l r bn as1 as2 ls rs s,vs=[.ref l,.ref r,.ref bn]/\Same G H/\RL H l as1/\RL H r as2/\CellsAt C G as1 ls/\CellsAt C G as2 rs/\IL H bn (nats (numbers (Vanbki.State.base s)))/\ls.length<=1000/\rs.length<=1000 /\
 ∀ H' p qs F,Same H H'->H p=none->F p=none->Grow G H F H'->RL H' p qs->Paired (MCAt C F) qs (jw s ls rs)->Q (.ref p) H'
def NewMC (C:Ad) (G H F:Hp) (q:Addr) (m:MC):Prop:=H q=none/\∃ dx a,F q=some (.ins C.cMergedCell dx (jZ a m.l m.r))/\CellAt C G a m.cell
theorem NewMC.mono {C:Ad}{G H F F':Hp}{q:Addr}{m:MC} (s:Same F F') (h:NewMC C G H F q m):NewMC C G H F' q m:=by
 obtain⟨h0,dx,a,h1,h2⟩:=h
 exact⟨h0,dx,a,s _ _ h1,h2⟩
theorem NewMC.all {C:Ad}{G H H':Hp}{p:Addr} (g:Same G H) (s:Same H H') (hp:H p=none) {qs:List Addr}{ms:List MC} (h:Paired (NewMC C G H (minus H' p)) qs ms):Paired (MCAt C (minus (zS G H H') p)) qs ms:=by
 refine zA h fun q m ⟨h0,dx,a,h1,h2⟩=>⟨dx,a,?_,h2.mono (Tb.Same.minus (qI g s).gf (g.free hp))⟩
 have qp:q≠p:=fun z=>by rw[z,jp] at h1;cases h1
 rw[qC qp] at h1 ⊢
 rw[qP g h0]
 exact h1
theorem acK {K:PySem.W.Frag}{s:Vanbki.State}{H:Hp}{q:Addr}{c:Vanbki.Cell} (h:KeyAt s H q c):Dp K H (.ref q) (X5 c.text (markNat c.hidden) (kE s c.number)):=by
 obtain⟨t,h1,h2⟩:=h
 exact .tup (SqT.of h1) (.cons (vO h2) (.cons (.int _) (.cons (.int _) .nil)))
theorem Wx {K:PySem.W.Frag}{s:Vanbki.State}{H:Hp}{side:Nat}{qs:List Addr}{cs:List Vanbki.Cell} (h:Paired (KeyAt s H) qs cs):uM K H (qs.map V.ref) ((cs.map (qi s side)).map kz):=by
 induction h with
 | nil=>exact .nil
 | cons r t ih=>exact .cons (acK r) ih
theorem ux {K:PySem.W.Frag}{s:Vanbki.State}{H:Hp}{side:Nat}{p:Addr}{qs:List Addr}{cs:List Vanbki.Cell} (hp:RL H p qs) (h:Paired (KeyAt s H) qs cs):Dp K H (.ref p) (jC (cs.map (qi s side))):=.lst (SqL.of hp) (Wx h)
section
variable {P:Program}{w:World}{K:PySem.W.Frag}{mg:Str->Option Value}{base:Heap}{C:Ad}{f:Addr}{fd:FuncData}
theorem Ys (F:Fun K "sort_keys" "sort_keys" xb f fd) (T:Txt K mg C):zU P w K mg base CX0 1 f fd ["cells","base_numbers"] (Q0 C):=by
 refine F.ok sc_sort_keys (fun vs H Q E h=>?_) (fun cdv A outer s H vs Q E hr h=>?_)
 . obtain⟨l,bn,as,cs,s,rfl,_⟩:=h
   rfl
 . obtain⟨l,bn,as,cs,s,rfl,hl,hc,hbn,hz,k⟩:=h
   refine⟨_,(za (zg (wU rfl sc_sort_keys.nd (qa (pv 0)) (qy (own:=[("cell",2)]) (by kernel_rfl)) (fun _ _ _ _ _=>(zJ (i:=2) sc_sort_keys.nd rfl (Or.inl rfl))) (fun _ _ _ _ _=>ke) (fun _ _ _ _ _=>(yH (z4 (jG (K:=K) rfl (pv 2) rfl) (z4 (jG (K:=K) rfl (pv 2) rfl) (z4 (jK (zo (Z6 (K:=K) rfl) (jG (K:=K) rfl (pv 2) rfl) (pv 1) rfl) (jG (K:=K) rfl (pv 2) rfl) zB) z9)))))))),?_⟩
   have hlen:=zk hc
   refine⟨_,rfl,l,rfl,⟨_,SqL.of hl⟩,fun D hD=>?_⟩
   refine Yl (K:=K) (xs:=as.map V.ref) (fun i y F=>∃ q c,y=.ref q/\cs[i]?=some c/\KeyAt s F q c) (fun i y F F' sf ⟨q,c,e1,e2,e3⟩=>⟨q,c,e1,e2,e3.mono sf⟩) (SqL.of hl) hD (by rw[List.length_map];exact qO (by omega)) (fun i x H' P' hi s1 hDo hP=>?_) (fun H' ys s1 e1 hyl hr'=>?_)
   . obtain⟨a,ha,rfl⟩:=qF hi
     obtain⟨c,hc1,dx,tq,e1,e2⟩:=zG hc ha
     have e1':=s1 _ _ e1
     have last:∀ o:Nat,o=kE s c.number->∀ p,H' p=none->P' (.ref p) (upd H' p (.tup [.ref tq,.int (markNat c.hidden:Nat),.int (o:Nat)])):=fun o ho p hp=>by
      have hpD:p≠D:=fun z=>by
       obtain⟨ob,hob⟩:=hDo
       rw[<-z,hp] at hob
       cases hob
      refine hP _ _ (Same.new hp) ⟨p,c,rfl,hc1,tq,?_,?_⟩
      . rw[qC hpD,z6,ho]
      . have tD:tq≠D:=z7 e2 hD
        rw[IL,qC tD]
        exact Same.new hp _ _ (s1 _ _ e2)
     refine⟨rfl,_,rfl,a,C.cCell,dx,_,_,rfl,e1',T.c_Cell,T.n_Cell_text,zN _ _ _,_,rfl,a,C.cCell,dx,_,_,rfl,e1',T.c_Cell,T.n_Cell_mark,qo _ _ _,_,rfl,a,C.cCell,dx,_,_,rfl,e1',T.c_Cell,T.n_Cell_number,zE _ _ _,_,rfl,bn,_,rfl,.inl (SqL.of (s1 _ _ hbn)),rfl,jA _,_,rfl,?_⟩
     simp only[Bool.false_eq_true,if_false]
     rw[k9,<-xl]
     cases hh:Vanbki.has s.base c.number with
     | true=>exact zF ⟨_,rfl,a,C.cCell,dx,_,_,rfl,e1',T.c_Cell,T.n_Cell_number,zE _ _ _,(by show 3<=sizeLine;decide),last _ (by unfold kE;rw[hh,if_pos rfl])⟩
     | false=>exact zy ⟨(by show 3<=sizeLine;decide),last 0 (by unfold kE;rw[hh];rfl)⟩
   . obtain⟨qs,rfl,pr⟩:=yr (R:=KeyAt s (minus H' D)) (ys:=ys) (bs:=cs) (by rw[hyl,List.length_map,hlen]) fun i y b hy hb=>by
      obtain⟨q,c,e2,e3,e4⟩:=hr' i y hy
      rw[hb] at e3
      cases e3
      exact⟨q,e2,e4⟩
     exact k H' D qs s1 e1 (zA pr fun _ _ r=>r.mono (yK _ _))
theorem Q1 {f1:Addr}{fd1:FuncData}{f2:Addr}{fd2:FuncData} (F:Fun K "loose_together" "loose_together" jV f fd) (T:Txt K mg C) (D_sort_keys:Def P w K mg base "sort_keys" 1 ["cells","base_numbers"] (Q0 C) f1 fd1) (D_MergedCell:Cdf P w K mg base "MergedCell" 1 ["self","cell","on_left","on_right"] (zY C) C.cMergedCell f2 fd2):zU P w K mg base CX0 3 f fd ["left","right","base_numbers"] (xn C):=by
 refine F.ok sc_loose_together (fun vs H Q E h=>?_) (fun cdv A outer s H vs Q E hr h=>?_)
 . obtain⟨G,l,r,bn,as1,as2,ls,rs,s,rfl,_⟩:=h
   rfl
 . obtain⟨G,l,r,bn,as1,as2,ls,rs,s,rfl,gH,hl,hr1,v1,v2,hbn,z1,z2,k⟩:=h
   have c1:=v1.mono gH
   have c2:=v2.mono gH
   refine⟨_,(z5 (zi (i:=3) sc_loose_together.nd rfl (Or.inl rfl) (ze D_sort_keys (hr.mono (by decide)) (z4 (pv 0) (z4 (pv 2) z9))))
    (z5 (zi (i:=4) sc_loose_together.nd rfl (Or.inl rfl) (ze D_sort_keys (hr.mono (by decide)) (z4 (pv 1) (z4 (pv 2) z9))))
    (z5 (zC (zo (wP hr.units) (pv 3) (pv 4) (zz _)) (za (zg (wU rfl sc_loose_together.nd (acy (by rfl) T.b_zip (z4 (pv 0) (z4 (pv 1) z9))) (qy (own:=[("cell",5),("other",6)]) (by kernel_rfl)) (fun _ _ _ _ _=>(U4 (K:=K) (n:=2) rfl rfl (k7 (zJ (i:=5) sc_loose_together.nd rfl (Or.inl rfl)) (k7 (zJ (i:=6) sc_loose_together.nd rfl (Or.inl rfl)) ZD)))) (fun _ _ _ _ _=>ke) (fun _ _ _ _ _=>(qj D_MergedCell (hr.mono (by decide)) (z4 (pv 5) (z4 (jG (K:=K) rfl (pv 5) rfl) (z4 (jG (K:=K) rfl (pv 6) rfl) z9)))))))) zj)
    (z5 (vL (i:=7) rfl sc_loose_together.nd rfl rfl (yU rfl rfl rfl rfl) (qa (pv 0)) (qy (own:=[("cell",5)]) (by kernel_rfl)) (fun _ _ _ _ _=>(zJ (i:=5) sc_loose_together.nd rfl (Or.inl rfl))) (fun _ _ _ _ _=>ke) (fun _ _ _ _ _=>(qj D_MergedCell (hr.mono (by decide)) (z4 (pv 5) (z4 (jG (K:=K) rfl (pv 5) rfl) (z4 zB z9))))))
    (z5 (vL (i:=8) rfl sc_loose_together.nd rfl rfl (yU rfl rfl rfl rfl) (qa (pv 1)) (qy (own:=[("cell",5)]) (by kernel_rfl)) (fun _ _ _ _ _=>(zJ (i:=5) sc_loose_together.nd rfl (Or.inl rfl))) (fun _ _ _ _ _=>ke) (fun _ _ _ _ _=>(qj D_MergedCell (hr.mono (by decide)) (z4 (pv 5) (z4 zB (z4 (jG (K:=K) rfl (pv 5) rfl) z9))))))
    (za (zg (jK (zo (acE hr.units) (pv 3) (pv 4) (zz _)) (jE yI (pv 7) (pv 8)) (jE yI (pv 8) (pv 7)))))))))),?_⟩
   have Ju:=zk c1
   have WE:=zk c2
   refine⟨_,rfl,_,rfl,l,bn,as1,ls,s,rfl,hl,c1,hbn,z1,fun H1 p1 qs1 s1 r1 k1=>?_⟩
   refine⟨_,rfl,_,rfl,r,bn,as2,rs,s,rfl,s1 _ _ hr1,c2.mono s1,s1 _ _ hbn,z2,fun H2 p2 qs2 s2 r2 k2=>?_⟩
   have s12:=s1.trans s2
   have r1':=s2 _ _ r1
   have k1':Paired (KeyAt s H2) qs1 ls:=zA k1 fun _ _ r=>r.mono s2
   have hl2:=s12 _ _ hl
   have hr2:=s12 _ _ hr1
   have c1':=c1.mono s12
   have c2':=c2.mono s12
   unfold jw at k
   refine⟨_,rfl,_,rfl,jC (ls.map (qi s 1)),jC (rs.map (qi s 2)),ux r1' k1',ux r2 k2,jR _,jR _,_,rfl,?_⟩
   rw[Up]
   have mono:∀ (ms:List MC) (i:Nat) (y:V) (F F':Hp),Same F F'->(∃ q m,y=.ref q/\ms[i]?=some m/\NewMC C G H F q m)->∃ q m,y=.ref q/\ms[i]?=some m/\NewMC C G H F' q m:=fun ms i y F F' sf ⟨q,m,e1,e2,e3⟩=>⟨q,m,e1,e2,e3.mono sf⟩
   have both:∀ (nx:L2.St->Hp->Prop) (rt:VK),(∀ (H4:Hp) (D1 D2:Addr) (m1 m2:List Addr),Same H2 H4->H2 D1=none->D1≠D2->RL H4 D1 m1->RL H4 D2 m2->Paired (NewMC C G H H4) m1 (ls.map fun c=>(⟨c,c.number,0⟩:MC))->Paired (NewMC C G H H4) m2 (rs.map fun c=>(⟨c,0,c.number⟩:MC))->nx [some (.ref l),some (.ref r),some (.ref bn),some (.ref p1),some (.ref p2),none,none,some (.ref D1),some (.ref D2)] H4) ->
    KP (Y3 (tLc (aaD K (qv 0)) (wj 5) K4 (wk C.cMergedCell (zY C) [] E0 (qw (qv 5) (qw (yd K (qv 5) "number") (qw (tC (.int 0)) xF)))) [5]) (wj 7)) (Y3 (tLc (aaD K (qv 1)) (wj 5) K4 (wk C.cMergedCell (zY C) [] E0 (qw (qv 5) (qw (tC (.int 0)) (qw (yd K (qv 5) "number") xF)))) [5]) (wj 8))
     { nx:=nx,rt:=rt } [some (.ref l),some (.ref r),some (.ref bn),some (.ref p1),some (.ref p2),none,none,none,none] H2:=fun nx rt kk=>by
    refine⟨_,rfl,l,rfl,⟨_,SqL.of hl2⟩,fun D hD=>?_⟩
    refine Yl (K:=K) (xs:=as1.map V.ref) (fun i y F=>∃ q m,y=.ref q/\(ls.map fun c=>(⟨c,c.number,0⟩:MC))[i]?=some m/\NewMC C G H F q m) (mono _) (SqL.of hl2) hD (by rw[List.length_map];exact qO (by omega)) (fun i x H' P' hi s3 hDo hP=>?_) (fun H3 ys s3 e3 hyl hr'=>?_)
    . obtain⟨a,ha,rfl⟩:=qF hi
      obtain⟨c,hc1,hca⟩:=zG v1 ha
      obtain⟨dx,tq,e1,e2⟩:=hca.mono (gH.trans s12)
      refine⟨rfl,_,rfl,_,rfl,a,C.cCell,dx,_,_,rfl,s3 _ _ e1,T.c_Cell,T.n_Cell_number,zE _ _ _,?_⟩
      intro y dy ny nd ne
      refine⟨y,dy,_,_,_,rfl,z6,rfl,?_⟩
      have s5:=jr (c:=C.cMergedCell) (fs:=jZ a (c.number:Nat) 0) ny nd
      have yD:y≠D:=fun z=>by
       obtain⟨ob,hob⟩:=hDo
       rw[<-z,ny] at hob
       cases hob
      refine hP _ _ s5 ⟨y,⟨c,c.number,0⟩,rfl,(by rw[List.getElem?_map,hc1];rfl),(s12.trans s3).free ny,dy,a,?_,hca⟩
      rw[qC yD,z6]
      rfl
    obtain⟨m1,rfl,pr1⟩:=yr (R:=NewMC C G H (minus H3 D)) (ys:=ys) (bs:=ls.map fun c=>(⟨c,c.number,0⟩:MC)) (by rw[hyl,List.length_map,List.length_map,Ju]) fun i y b hy hb=>by
     obtain⟨q,c,e2,e3,e4⟩:=hr' i y hy
     rw[hb] at e3
     cases e3
     exact⟨q,e2,e4⟩
    refine⟨_,rfl,r,rfl,⟨_,SqL.of (s3 _ _ hr2)⟩,fun D2 hD2=>?_⟩
    have c2'':=c2'.mono s3
    refine Yl (K:=K) (xs:=as2.map V.ref) (fun i y F=>∃ q m,y=.ref q/\(rs.map fun c=>(⟨c,0,c.number⟩:MC))[i]?=some m/\NewMC C G H F q m) (mono _) (SqL.of (s3 _ _ hr2)) hD2 (by rw[List.length_map];exact qO (by omega)) (fun i x H' P' hi s4 hDo hP=>?_) (fun H4 ys s4 e4 hyl hr'=>?_)
    . obtain⟨a,ha,rfl⟩:=qF hi
      obtain⟨c,hc1,hca⟩:=zG v2 ha
      obtain⟨dx,tq,e1,e2⟩:=hca.mono (gH.trans (s12.trans s3))
      refine⟨rfl,_,rfl,_,rfl,a,C.cCell,dx,_,_,rfl,s4 _ _ e1,T.c_Cell,T.n_Cell_number,zE _ _ _,?_⟩
      intro y dy ny nd ne
      refine⟨y,dy,_,_,_,rfl,z6,rfl,?_⟩
      have s5:=jr (c:=C.cMergedCell) (fs:=jZ a 0 (c.number:Nat)) ny nd
      have yD:y≠D2:=fun z=>by
       obtain⟨ob,hob⟩:=hDo
       rw[<-z,ny] at hob
       cases hob
      refine hP _ _ s5 ⟨y,⟨c,0,c.number⟩,rfl,(by rw[List.getElem?_map,hc1];rfl),((s12.trans s3).trans s4).free ny,dy,a,?_,hca⟩
      rw[qC yD,z6]
      rfl
    obtain⟨m2,rfl,pr2⟩:=yr (R:=NewMC C G H (minus H4 D2)) (ys:=ys) (bs:=rs.map fun c=>(⟨c,0,c.number⟩:MC)) (by rw[hyl,List.length_map,List.length_map,WE]) fun i y b hy hb=>by
     obtain⟨q,c,e2,e3,e4⟩:=hr' i y hy
     rw[hb] at e3
     cases e3
     exact⟨q,e2,e4⟩
    exact kk H4 D D2 m1 m2 (s3.trans s4) hD (z7 e3 hD2) (s4 _ _ e3) e4 (zA pr1 fun _ _ r=>r.mono ((yK _ _).trans s4)) (zA pr2 fun _ _ r=>r.mono (yK _ _))
   cases hc:Vanbki.cmpItems (ls.map (qi s 1)) (rs.map (qi s 2)) with
   | eq =>
    rw[hc] at k
    have hll:ls.length=rs.length:=by
     have:∀ (a b:List Vanbki.Item),Vanbki.cmpItems a b=.eq->a.length=b.length:=by
      intro a
      induction a with
      | nil =>
       intro b h
       cases b with
       | nil=>rfl
       | cons _ _=>simp[Vanbki.cmpItems] at h
      | cons x a ih =>
       intro b h
       cases b with
       | nil=>simp[Vanbki.cmpItems] at h
       | cons y b =>
        rw[Vanbki.cmpItems] at h
        cases e:Vanbki.cmpItem x y <;> rw[e] at h <;> simp at h
        rw[List.length_cons,List.length_cons,ih b h]
     have:=this _ _ hc
     simpa using this
    refine zF ?_
    refine⟨_,rfl,_,rfl,l,r,_,_,rfl,SqL.of hl2,SqL.of hr2,fun D hD=>?_⟩
    refine acJ (K:=K) (xs:=as1.map V.ref) (zs:=as2.map V.ref) (fun i y F=>∃ q m,y=.ref q/\((ls.zip rs).map fun x=>(⟨x.1,x.1.number,x.2.number⟩:MC))[i]?=some m/\NewMC C G H F q m) (mono _) (SqL.of hl2) (SqL.of hr2) (by rw[List.length_map,List.length_map,Ju,WE,hll]) hD (by rw[List.length_map];exact qO (by omega)) (fun i x z H' X P' hi hi2 s3 hDo hX hP=>?_) (fun H' ys s3 e3 hyl hr'=>?_)
    . obtain⟨a,ha,rfl⟩:=qF hi
      obtain⟨b,hb,rfl⟩:=qF hi2
      obtain⟨c,hc1,hca⟩:=zG v1 ha
      obtain⟨d,hd1,hda⟩:=zG v2 hb
      obtain⟨dx,tq,e1,e2⟩:=hca.mono (gH.trans s12)
      obtain⟨dx2,tq2,e5,e6⟩:=hda.mono (gH.trans s12)
      have s4:=s3.trans (Same.new (o:=.tup [.ref a,.ref b]) hX)
      refine⟨X,_,rfl,SqT.of z6,rfl,_,_,rfl,_,_,rfl,rfl,rfl,_,rfl,_,rfl,a,C.cCell,dx,_,_,rfl,s4 _ _ e1,T.c_Cell,T.n_Cell_number,zE _ _ _,_,rfl,b,C.cCell,dx2,_,_,rfl,s4 _ _ e5,T.c_Cell,T.n_Cell_number,zE _ _ _,?_⟩
      intro y dy ny nd ne
      refine⟨y,dy,_,_,_,rfl,z6,rfl,?_⟩
      have s5:=jr (c:=C.cMergedCell) (fs:=jZ a (c.number:Nat) (d.number:Nat)) ny nd
      have yD:y≠D:=fun z=>by
       obtain⟨ob,hob⟩:=hDo
       have:=Same.new (o:=.tup [.ref a,.ref b]) hX _ _ hob
       rw[<-z,ny] at this
       cases this
      refine hP _ _ ((Same.new hX).trans s5) ⟨y,⟨c,c.number,d.number⟩,rfl,(by rw[List.getElem?_map,List.getElem?_zip_eq_some (z:=(c,d)) |>.mpr ⟨hc1,hd1⟩];rfl),(s12.trans s4).free ny,dy,a,?_,hca⟩
      rw[qC yD,z6]
    . obtain⟨qs,rfl,pr⟩:=yr (R:=NewMC C G H (minus H' D)) (ys:=ys) (bs:=(ls.zip rs).map fun x=>(⟨x.1,x.1.number,x.2.number⟩:MC)) (by rw[hyl,List.length_map,List.length_map,List.length_zip];omega) fun i y b hy hb=>by
       obtain⟨q,c,e2,e3,e4⟩:=hr' i y hy
       rw[hb] at e3
       cases e3
       exact⟨q,e2,e4⟩
      have sa:=s12.trans s3
      have hD0:=s12.free hD
      exact k H' D qs _ sa hD0 (jp _ _) ((qI gH sa).minus (gH.free hD0)) e3 (NewMC.all gH sa hD0 pr)
   | lt =>
    rw[hc] at k
    refine zy ?_
    refine both _ _ fun H4 D1 D2 m1 m2 s4 n4 d12 e1 e2 pr1 pr2=>?_
    refine⟨_,rfl,_,rfl,jC (ls.map (qi s 1)),jC (rs.map (qi s 2)),ux (s4 _ _ r1') (zA k1' fun _ _ r=>r.mono s4),ux (s4 _ _ r2) (zA k2 fun _ _ r=>r.mono s4),jR _,jR _,Vl _ _,_,rfl,?_⟩
    rw[Vm,hc]
    have l1:=zk pr1
    have l2:=zk pr2
    rw[List.length_map] at l1 l2
    refine zF ⟨_,rfl,_,rfl,D1,D2,_,_,rfl,rfl,e1,e2,(by rw[List.length_map,List.length_map];exact qH (by omega)),fun p hp=>?_⟩
    have s5:=s4.trans (Same.new (o:=.lst (m1.map V.ref++m2.map V.ref)) hp)
    have sa:=s12.trans s5
    have hp0:=s12.free (s4.free hp)
    have sm:Same H4 (minus (upd H4 p (.lst (m1.map V.ref++m2.map V.ref))) p):=by
     rw[xI]
     exact Tb.Same.minus (Same.refl _) hp
    exact k _ p (m1++m2) _ sa hp0 (jp _ _) ((qI gH sa).minus (gH.free hp0)) (by rw[RL,z6,List.map_append]) (NewMC.all gH sa hp0 (zI (zA pr1 fun _ _ r=>r.mono sm) (zA pr2 fun _ _ r=>r.mono sm)))
   | gt =>
    rw[hc] at k
    refine zy ?_
    refine both _ _ fun H4 D1 D2 m1 m2 s4 n4 d12 e1 e2 pr1 pr2=>?_
    refine⟨_,rfl,_,rfl,jC (ls.map (qi s 1)),jC (rs.map (qi s 2)),ux (s4 _ _ r1') (zA k1' fun _ _ r=>r.mono s4),ux (s4 _ _ r2) (zA k2 fun _ _ r=>r.mono s4),jR _,jR _,Vl _ _,_,rfl,?_⟩
    rw[Vm,hc]
    have l1:=zk pr1
    have l2:=zk pr2
    rw[List.length_map] at l1 l2
    refine zy ⟨_,rfl,_,rfl,D2,D1,_,_,rfl,rfl,e2,e1,(by rw[List.length_map,List.length_map];exact qH (by omega)),fun p hp=>?_⟩
    have s5:=s4.trans (Same.new (o:=.lst (m2.map V.ref++m1.map V.ref)) hp)
    have sa:=s12.trans s5
    have hp0:=s12.free (s4.free hp)
    have sm:Same H4 (minus (upd H4 p (.lst (m2.map V.ref++m1.map V.ref))) p):=by
     rw[xI]
     exact Tb.Same.minus (Same.refl _) hp
    exact k _ p (m2++m1) _ sa hp0 (jp _ _) ((qI gH sa).minus (gH.free hp0)) (by rw[RL,z6,List.map_append]) (NewMC.all gH sa hp0 (zI (zA pr2 fun _ _ r=>r.mono sm) (zA pr1 fun _ _ r=>r.mono sm)))
end
end Tb
end
section
namespace Tb
open PySem PySem.Spec PyProof.Rows L2
open Vanbki (nats ofNat markNat numbers)
theorem Wy {side:Nat} (h:side=1∨side=2):Vanbki.noSide (side:Int)=false:=by
 rcases h with rfl | rfl <;> rfl
theorem Xx {s:Vanbki.State}{side:Nat} (h:side=1∨side=2):Vanbki.sideDoc s (side:Int)=uw s side:=by
 rcases h with rfl | rfl <;> rfl
theorem UV {s:Vanbki.State}{side:Nat}:qB s side=z_ (yA s side) (Vanbki.common s) 0 (uw s side):=rfl
section
variable {P:Program}{w:World}{K:PySem.W.Frag}{mg:Str->Option Value}{base:Heap}{C:Ad}{f:Addr}{fd:FuncData}
theorem Kq {f1:Addr}{fd1:FuncData} (F:Fun K "loose_cells" "loose_cells" vA f fd) (T:Txt K mg C) (D_loose_cell:Def P w K mg base "loose_cell" 3 ["books","side","cell"] (uS C) f1 fd1):zU P w K mg base CX0 4 f fd ["books","side","common"] (u7 C):=by
 refine F.ok sc_loose_cells (fun vs H Q E h=>?_) (fun cdv A outer s H vs Q E hr h=>?_)
 . obtain⟨G,B,ch,s,side,cm,rfl,_⟩:=h
   rfl
 . obtain⟨G,B,ch,s,side,cm,rfl,hb,hside,hcm,k⟩:=h
   have hu:=jL hr
   refine⟨_,(z5 (zi (i:=3) sc_loose_cells.nd rfl (Or.inl rfl) (pgi T.g_FRONT))
    (z5 (zi (i:=4) sc_loose_cells.nd rfl (Or.inl rfl) (ZM (kM (pgi T.g_FRONT) (zX z9) ZL) rfl rfl (by simp) (by decide)))
    (z5 (kK PassesOwn.never rfl (qa (zf (qc hu (zf (pv 0) rfl) (pv 1) (fun _ _=>rfl)) rfl)) (zJ (i:=5) sc_loose_cells.nd rfl (Or.inl rfl)) (za (zC (zo Vu (zf (pv 5) rfl) (pv 2) rfl) (z5 (zi (i:=3) sc_loose_cells.nd rfl (Or.inl rfl) (zf (pv 5) rfl))
    (za (ZK hu (pv 4) (pv 3) (zX z9) rfl))) (z5 (zi (i:=6) sc_loose_cells.nd rfl (Or.inl rfl) (ze D_loose_cell (hr.mono (by decide)) (z4 (pv 0) (z4 (pv 1) (z4 (pv 5) z9)))))
    (za (zC (qD (WN (pv 6))) (za (qt (jF PySem.F.plainAttrs_list PySem.F.slot_list_append PySem.F.type_list_append jc (qc hu (pv 4) (pv 3) (fun _ _=>rfl)) (z4 (pv 6) z9)))) zj))))))
    (za (zg (pv 4)))))),?_⟩
   have hn:=Wy hside
   obtain⟨as,rS,cS,gS⟩:=hb.dS (side:Int)
   obtain⟨dxs,eS⟩:=hb.sS (side:Int)
   obtain⟨dxb,eb⟩:=hb.bk
   have D:=zW hb.ok (side:Int)
   rw[Xx hside] at cS gS D
   have hlen:=zk cS
   rw[UV] at k
   generalize hd:uw s side=d at *
   generalize hco:Vanbki.common s=co at *
   generalize hkp:yA s side=keep at *
   have zd:=D.len
   intro p hp
   refine⟨Nat.zero_le _,fun q hq=>?_⟩
   have pq:p≠q:=fun e=>by rw[<-e,z6] at hq;cases hq
   have hq0:H q=none:=by rw[z8 (Ne.symm pq)] at hq;exact hq
   refine⟨(by rw[z8 pq];exact z6),[(Sum.inl 0,.ref q)],rfl,(by show 1<=15;decide),?_⟩
   have s0:Same H (upd (upd (upd H p (.dK [])) q (.lst [])) p (.dK (wX [] [(Sum.inl 0,V.ref q)]))):=fun b o e=>by
    rw[z8 (z7 e hp),z8 (z7 e hq0),z8 (z7 e hp)]
    exact e
   refine⟨_,rfl,B.b,C.cBooks,dxb,_,_,rfl,s0 _ _ eb,T.c_Books,T.n_Books_sides,zD _ _ _,_,rfl,B.ds,_,rfl,j6 (s0 _ _ hb.sd) hn,zT B (side:Int),C.cSide,dxs,_,_,rfl,s0 _ _ eS,T.c_Side,T.n_Side_cells,zM _ _,zK B (side:Int),rfl,⟨_,SqL.of (s0 _ _ rS)⟩,jx (K:=K) (a:=zK B (side:Int)) (xs:=as.map V.ref)
    (fun i σ H'=>(∃ v5 v6,σ=[some (.ref B.b),some (.int (side:Nat)),some (.ref cm),some (.int (xU co 0 (d.take i):Nat)),some (.ref p),v5,v6])/\Same H H'/\∃ ks:List (Nat × Addr),H' p=some (.dK (dkv ks))/\(ks.map fun x=>x.1)=vj co (d.take i)/\(ks.map fun x=>x.2).Nodup/\(∀ x,x∈ks->H x.2=none/\x.2≠p)/\∀ x,x∈ks->∃ bs,RL H' x.2 bs/\CellsAt C G bs (atC (z_ keep co 0 (d.take i)) x.1))
    ⟨⟨none,none,rfl⟩,s0,[(0,q)],z6,rfl,by simp,(by intro x hx;rw[List.mem_singleton.mp hx];exact⟨hq0,Ne.symm pq⟩),(by intro x hx;rw[List.mem_singleton.mp hx];exact⟨[],by rw[RL,z8 (Ne.symm pq),z6];rfl,.nil⟩)⟩ (fun i σ H' _ h=>SqL.of (h.2.1 _ _ rS)) ?_ ?_⟩
   . rintro i x σ H' hi ⟨⟨v5,v6,rfl⟩,s1,ks,hk,hkeys,hnd,hfr,hat⟩
     obtain⟨a,ha,rfl⟩:=qF hi
     obtain⟨c,hc1,hca⟩:=zG gS ha
     obtain⟨dx,tq,e1,e2⟩:=hca.mono (hb.gh.trans s1)
     have hil:i<d.length:=(List.getElem?_eq_some_iff.mp hc1).1
     have hcm':=List.mem_of_getElem? hc1
     have hnum:=D.num c hcm'
     have hnot:¬c.number∈numbers (d.take i):=by
      intro z
      obtain⟨c',hc',ec'⟩:=List.mem_map.mp z
      obtain⟨j,hj,ej⟩:=List.mem_iff_getElem.mp hc'
      have hji:j<i:=by
       rw[List.length_take] at hj
       omega
      have h1:(numbers d)[j]?=some c.number:=by
       unfold numbers
       rw[List.getElem?_map]
       have:d[j]?=some c':=by
        rw[List.getElem_take] at ej
        rw[<-ej]
        exact List.getElem?_eq_getElem (by omega)
       rw[this]
       exact congrArg some ec'
      have h2:(numbers d)[i]?=some c.number:=by
       unfold numbers
       rw[List.getElem?_map,hc1]
       rfl
      have:=aaV D.nd h1 h2
      omega
     have hklen:ks.length<=13:=by
      have h1:=congrArg List.length hkeys
      rw[List.length_map] at h1
      unfold vj at h1
      rw[List.length_cons] at h1
      have h2:=List.length_filter_le (fun n=>co.contains n) (numbers (d.take i))
      rw[ja,List.length_take] at h2
      omega
     have hndk:(ks.map fun x=>x.1).Nodup:=by
      rw[hkeys]
      unfold vj
      refine List.nodup_cons.mpr ⟨fun z=>?_,?_⟩
      . have z1:=(List.mem_filter.mp z).1
        obtain⟨c',hc',ec'⟩:=List.mem_map.mp z1
        have:=D.num c' (List.mem_of_mem_take hc')
        omega
      . refine List.Sublist.nodup List.filter_sublist ?_
        have:numbers (d.take i)=(numbers d).take i:=by
         unfold numbers
         rw[List.map_take]
        rw[this]
        exact List.Sublist.nodup (List.take_sublist ..) D.nd
     refine⟨_,rfl,a,C.cCell,dx,_,_,rfl,e1,T.c_Cell,T.n_Cell_number,zE _ _ _,_,rfl,cm,_,rfl,.inl (SqL.of (s1 _ _ hcm)),rfl,jA _,_,rfl,?_⟩
     simp only[Bool.false_eq_true,if_false]
     rw[k9]
     by_cases hin:c.number∈co
     . have hct:co.contains c.number=true:=by simpa using hin
       rw[decide_eq_true hin]
       refine zF ⟨_,rfl,a,C.cCell,dx,_,_,rfl,e1,T.c_Cell,T.n_Cell_number,zE _ _ _,Nat.zero_le _,fun z hz=>?_⟩
       have zp:z≠p:=Ne.symm (z7 hk hz)
       have hz0:=s1.free hz
       have hknew:¬c.number∈ks.map fun x=>x.1:=by
        rw[hkeys]
        intro m
        rcases abd m with m | m
        . omega
        . exact hnot m.1
       refine⟨_,rfl,_,rfl,p,_,rfl,DPut.k (k:=Sum.inl (c.number:Int)) (by rw[z8 (Ne.symm zp)];exact hk) (by unfold dkv;rw[List.length_map];exact qO (by omega)),?_⟩
       rw[Xw (abc hknew)]
       refine⟨⟨some (.ref a),v6,?_⟩,fun b o e=>?_,ks++[(c.number,z)],?_,?_,?_,?_,?_⟩
       . rw[zH hc1,xC,if_pos hct]
         rfl
       . rw[z8 (z7 e hp),z8 (z7 e hz0)]
         exact s1 b o e
       . rw[z6]
         unfold dkv
         rw[List.map_append]
         rfl
       . rw[List.map_append,hkeys,zH hc1,u9,if_pos hct]
         rfl
       . rw[List.map_append]
         refine Yc hnd fun m=>?_
         obtain⟨y,hy,ey⟩:=List.mem_map.mp m
         obtain⟨bs,hbs,_⟩:=hat y hy
         rw[ey,RL,hz] at hbs
         cases hbs
       . intro y hy
         rcases List.mem_append.mp hy with m | m
         . exact hfr y m
         . rw[List.mem_singleton.mp m]
           exact⟨hz0,zp⟩
       . intro y hy
         rw[zH hc1,Ww hct]
         rcases List.mem_append.mp hy with m | m
         . obtain⟨bs,hbs,hcs⟩:=hat y m
           exact⟨bs,by rw[RL,z8 (hfr y m).2,z8 (z7 hbs hz)];exact hbs,hcs⟩
         . rw[List.mem_singleton.mp m]
           refine⟨[],by rw[RL,z8 zp,z6];rfl,?_⟩
           rw[JV (by show c.number≠0;omega) (fun m=>hnot (List.mem_filter.mp m).1)]
           exact .nil
     . have hct:co.contains c.number=false:=by simpa using hin
       rw[decide_eq_false hin]
       refine zy ⟨_,rfl,_,rfl,_,rfl,G,B,ch,s,side,a,c,rfl,hb.mono s1,hside,hca,fun H2 r s2 o2=>?_⟩
       rw[hkp] at o2
       have s12:=s1.trans s2
       have hk2:=s2 _ _ hk
       cases ek:keep c with
       | none =>
        rw[ek] at o2
        have o2:r=.non:=o2
        subst o2
        refine⟨_,rfl,_,rfl,zy ⟨⟨some (.ref a),some .non,?_⟩,s12,ks,hk2,?_,hnd,hfr,fun y hy=>?_⟩⟩
        . rw[zH hc1,xC,hct,if_neg Bool.false_ne_true]
          rfl
        . rw[hkeys,zH hc1,u9,hct,if_neg Bool.false_ne_true,List.append_nil]
        . obtain⟨bs,hbs,hcs⟩:=hat y hy
          refine⟨bs,s2 _ _ hbs,?_⟩
          rw[zH hc1,kF,hct,if_neg Bool.false_ne_true,ek,List.append_nil]
          exact hcs
       | some yc =>
        rw[ek] at o2
        obtain⟨y,rfl,hy⟩:=o2
        have hcur:xU co 0 (d.take i)∈ks.map fun x=>x.1:=by
         rw[hkeys]
         unfold vj
         rcases JU co (d.take i) 0 with z | z
         . rw[z]
           exact List.mem_cons_self ..
         . exact List.mem_cons_of_mem _ z
        obtain⟨x0,hx0,ex0⟩:=List.mem_map.mp hcur
        obtain⟨bs,hbs,hcs⟩:=hat x0 hx0
        have hbs2:=s2 _ _ hbs
        have hbl:bs.length<=12:=by
         rw[zk hcs]
         have:∀ (keep:Vanbki.Cell->Option Vanbki.Cell) (d:Vanbki.Doc) (a n:Nat),(atC (z_ keep co a d) n).length<=d.length:=by
          intro keep d
          induction d with
          | nil=>intro a n;exact Nat.le_refl _
          | cons z r ih =>
           intro a n
           rw[z_]
           by_cases hz:co.contains z.number=true
           . rw[if_pos hz]
             exact Nat.le_trans (ih _ _) (Nat.le_succ _)
           . rw[if_neg hz]
             cases keep z with
             | none=>exact Nat.le_trans (ih _ _) (Nat.le_succ _)
             | some w =>
              show (atC ((a,w)::z_ keep co a r) n).length<=_
              have:=ih a n
              unfold atC at this ⊢
              rw[List.filter_cons]
              split
              . rw[List.map_cons,List.length_cons,List.length_cons]
                omega
              . rw[List.length_cons]
                omega
         have:=this keep (d.take i) 0 x0.1
         rw[List.length_take] at this
         omega
        have hx0p:=(hfr x0 hx0).2
        refine⟨_,rfl,_,rfl,zF ⟨_,rfl,_,rfl,p,_,rfl,(show DGet H2 p (.int (xU co 0 (d.take i):Nat)) (some (.ref x0.2)) from (by rw[<-ex0,<-U7 hndk hx0];exact DGet.k (k:=Sum.inl (x0.1:Int)) hk2)),.inl ⟨rfl,_,SqL.of hbs2⟩,_,rfl,x0.2,_,_,rfl,rfl,hbs2,(by rw[List.length_map];exact qO (by omega)),?_⟩⟩
        refine⟨⟨some (.ref a),some (.ref y),?_⟩,fun b o e=>?_,ks,?_,?_,hnd,hfr,fun y' hy'=>?_⟩
        . rw[zH hc1,xC,hct,if_neg Bool.false_ne_true]
          rfl
        . rw[z8 (z7 e (hfr x0 hx0).1)]
          exact s12 b o e
        . rw[z8 (Ne.symm hx0p)]
          exact hk2
        . rw[hkeys,zH hc1,u9,hct,if_neg Bool.false_ne_true,List.append_nil]
        . rw[zH hc1,kF,hct,if_neg Bool.false_ne_true,ek]
          show ∃ bs,_/\CellsAt C G bs (atC (z_ keep co 0 (d.take i)++[(xU co 0 (d.take i),yc)]) y'.1)
          rw[aak]
          by_cases hyy:y'=x0
          . subst hyy
            refine⟨bs++[y],by rw[RL,z6,List.map_append];rfl,?_⟩
            rw[if_pos ex0.symm]
            exact j4 hcs hy
          . obtain⟨bs',hbs',hcs'⟩:=hat y' hy'
            have hne1:y'.2≠x0.2:=fun z=>hyy (by
             obtain⟨j1,g1,h1⟩:=List.mem_iff_getElem.mp hy'
             obtain⟨j2,g2,h2⟩:=List.mem_iff_getElem.mp hx0
             have e1:(ks.map fun x=>x.2)[j1]?=some y'.2:=by rw[List.getElem?_map,List.getElem?_eq_getElem g1,h1];rfl
             have e2:(ks.map fun x=>x.2)[j2]?=some y'.2:=by rw[List.getElem?_map,List.getElem?_eq_getElem g2,h2,z];rfl
             have:=aaV hnd e1 e2
             subst this
             exact h1.symm.trans h2)
            have hne2:¬xU co 0 (d.take i)=y'.1:=fun z=>hyy (by
             obtain⟨j1,g1,h1⟩:=List.mem_iff_getElem.mp hy'
             obtain⟨j2,g2,h2⟩:=List.mem_iff_getElem.mp hx0
             have e1:(ks.map fun x=>x.1)[j1]?=some y'.1:=by rw[List.getElem?_map,List.getElem?_eq_getElem g1,h1];rfl
             have e2:(ks.map fun x=>x.1)[j2]?=some y'.1:=by rw[List.getElem?_map,List.getElem?_eq_getElem g2,h2,<-z,<-ex0];rfl
             have:=aaV hndk e1 e2
             subst this
             exact h1.symm.trans h2)
            refine⟨bs',by rw[RL,z8 hne1];exact s2 _ _ hbs',?_⟩
            rw[if_neg hne2,List.append_nil]
            exact hcs'
   . rintro σ H' ⟨⟨v5,v6,rfl⟩,s1,ks,hk,hkeys,hnd,hfr,hat⟩
     rw[List.length_map,hlen,List.take_length] at hkeys hat
     have hndk:(ks.map fun x=>x.1).Nodup:=by
      rw[hkeys]
      unfold vj
      refine List.nodup_cons.mpr ⟨fun z=>?_,List.Sublist.nodup List.filter_sublist D.nd⟩
      obtain⟨c',hc',ec'⟩:=List.mem_map.mp (List.mem_filter.mp z).1
      have:=D.num c' hc'
      omega
     refine⟨_,rfl,k H' p s1 ⟨dkv ks,hk,fun n hn=>?_⟩⟩
     rw[<-hkeys] at hn
     obtain⟨x,hx,rfl⟩:=List.mem_map.mp hn
     obtain⟨bs,hbs,hcs⟩:=hat x hx
     exact⟨x.2,bs,U7 hndk hx,hbs,hcs⟩
end
end Tb
end
section
namespace Tb
open PySem PySem.Spec PyProof.Rows L2
open Vanbki (nats ofNat markNat numbers)
theorem ab0 (keep:Vanbki.Cell->Option Vanbki.Cell) (co:List Nat):∀ (d:Vanbki.Doc) (a n:Nat),(atC (z_ keep co a d) n).length<=d.length:=by
 intro d
 induction d with
 | nil=>intro a n;exact Nat.le_refl _
 | cons z r ih =>
  intro a n
  rw[z_]
  by_cases hz:co.contains z.number=true
  . rw[if_pos hz]
    exact Nat.le_trans (ih _ _) (Nat.le_succ _)
  . rw[if_neg hz]
    cases keep z with
    | none=>exact Nat.le_trans (ih _ _) (Nat.le_succ _)
    | some w =>
     show (atC ((a,w)::z_ keep co a r) n).length<=_
     have:=ih a n
     unfold atC at this ⊢
     rw[List.filter_cons]
     split
     . rw[List.map_cons,List.length_cons,List.length_cons]
       omega
     . rw[List.length_cons]
       omega
theorem kC {s:Vanbki.State} (S:qh s) (side n:Nat):(atC (qB s side) n).length<=12:=by
 unfold qB
 refine Nat.le_trans (ab0 _ _ _ _ _) ?_
 split
 . exact S.l.len
 . exact S.r.len
theorem yo (s:Vanbki.State) (l r:List Vanbki.Cell):(jw s l r).length<=l.length+r.length:=by
 unfold jw
 split
 . rw[List.length_map,List.length_zip]
   omega
 . rw[List.length_append,List.length_map,List.length_map]
   omega
 . rw[List.length_append,List.length_map,List.length_map]
   omega
theorem Wz {s:Vanbki.State}{n:Nat} (h:n∈jk s):n∈Vanbki.common s:=by
 unfold jk at h
 have key:∀ d,n∈Vanbki.orderIn s d->n∈Vanbki.common s:=fun d hd=>(orderIn_mem.mp hd).2
 cases e:Vanbki.mergedOrder s with
 | some o =>
  rw[e] at h
  have eo:(if Vanbki.orderIn s s.left=Vanbki.common s then some (Vanbki.orderIn s s.right) else if Vanbki.orderIn s s.right=Vanbki.common s then some (Vanbki.orderIn s s.left) else if Vanbki.orderIn s s.left=Vanbki.orderIn s s.right then some (Vanbki.orderIn s s.left) else none)=some o:=e
  split at eo
  . cases eo;exact key _ h
  . split at eo
    . cases eo;exact key _ h
    . split at eo
      . cases eo;exact key _ h
      . cases eo
 | none =>
  rw[e] at h
  dsimp only at h
  split at h
  . exact key _ h
  . split at h
    . exact key _ h
    . exact h
theorem Kr {s:Vanbki.State} (S:qh s):(jk s).length<=12:=by
 have h0:(Vanbki.common s).length<=12:=by
  unfold Vanbki.common
  exact Nat.le_trans (List.length_filter_le _ _) (by rw[ja];exact S.b.len)
 have key:∀ d,jv d->(Vanbki.orderIn s d).length<=12:=fun d D=>by
  unfold Vanbki.orderIn
  exact Nat.le_trans (List.length_filter_le _ _) (by rw[ja];exact D.len)
 unfold jk
 cases e:Vanbki.mergedOrder s with
 | some o =>
  have eo:(if Vanbki.orderIn s s.left=Vanbki.common s then some (Vanbki.orderIn s s.right) else if Vanbki.orderIn s s.right=Vanbki.common s then some (Vanbki.orderIn s s.left) else if Vanbki.orderIn s s.left=Vanbki.orderIn s s.right then some (Vanbki.orderIn s s.left) else none)=some o:=e
  split at eo
  . cases eo;exact key _ S.r
  . split at eo
    . cases eo;exact key _ S.l
    . split at eo
      . cases eo;exact key _ S.l
      . cases eo
 | none =>
  dsimp only
  split
  . exact key _ S.l
  . split
    . exact key _ S.r
    . exact h0
def Ks (s:Vanbki.State) (n:Nat):List MC:=Uh s n++jw s (atC (qB s 1) n) (atC (qB s 2) n)
theorem abe (s:Vanbki.State):mcs s=jw s (atC (qB s 1) 0) (atC (qB s 2) 0)++(jk s).flatMap (Ks s):=rfl
theorem UW {s:Vanbki.State} (S:qh s) (n:Nat):(Ks s n).length<=25:=by
 unfold Ks
 rw[List.length_append]
 have h1:=yo s (atC (qB s 1) n) (atC (qB s 2) n)
 have h2:=kC S 1 n
 have h3:=kC S 2 n
 have h4:(Uh s n).length<=1:=by
  unfold Uh
  split <;> simp
 omega
theorem VG {s:Vanbki.State} (S:qh s) (l:List Nat):(l.flatMap (Ks s)).length<=25 * l.length:=by
 induction l with
 | nil=>exact Nat.le_refl _
 | cons a r ih =>
  rw[List.flatMap_cons,List.length_append,List.length_cons]
  have:=UW S a
  omega
theorem U8 {s:Vanbki.State} (S:qh s):(mcs s).length<=324:=by
 rw[abe,List.length_append]
 have h1:=yo s (atC (qB s 1) 0) (atC (qB s 2) 0)
 have h2:=kC S 1 0
 have h3:=kC S 2 0
 have h4:=VG S (jk s)
 have h5:=Kr S
 omega
theorem v9 {G H H1 H2:Hp} (s:Same H1 H2):Same (zS G H H1) (zS G H H2):=fun a o e=>by
 unfold zS at e ⊢
 cases h1:G a with
 | some u=>rw[h1] at e;exact e
 | none =>
  rw[h1] at e
  cases h2:H a with
  | some u=>rw[h2] at e;cases e
  | none=>rw[h2] at e;exact s _ _ e
theorem ua (G H H1:Hp) (m:Addr) (o:HO):minus (zS G H (upd H1 m o)) m=minus (zS G H H1) m:=by
 funext b
 by_cases h:b=m
 . rw[h,jp,jp]
 . rw[qC h,qC h]
   unfold zS
   rw[z8 h]
theorem Grow.part {G H H1 F H2 H3:Hp} (g:Grow G H1 F H2) (gh:Same G H) (s1:Same H H1) (s3:Same H2 H3):Same F (zS G H H3):=fun a o e=>by
 rcases g.nw a o e with z | z
 . unfold zS
   rw[z]
 . rw[qP gh (s1.free z)]
   exact s3 _ _ (g.fh _ _ e)
theorem Grow.trans {G H F H1 F2 H2:Hp} (g:Grow G H F H1) (s:Same H H1) (g2:Grow F H1 F2 H2):Grow G H F2 H2 where
 gf:=g.gf.trans g2.gf
 fh:=g2.fh
 nw:=fun a o e=>by
  rcases g2.nw a o e with z | z
  . exact g.nw a o z
  . exact .inr (s.free z)
theorem Grow.down {G H H1 F H2:Hp} (g:Grow G H1 F H2) (s:Same H H1):Grow G H F H2:=⟨g.gf,g.fh,fun a o e=>(g.nw a o e).imp id fun z=>s.free z⟩
theorem Grow.up {G H F H1 H2:Hp} (g:Grow G H F H1) (s:Same H1 H2):Grow G H F H2:=⟨g.gf,g.fh.trans s,g.nw⟩
def xo (C:Ad):Sp:=fun vs H Q _=>∃ G B ch s,vs=[.ref (Bk.b B)]/\BooksAt C H G B ch s/\∀ H' p qs F,Same H H'->H p=none->Grow G H F H'->RL H' p qs->Paired (MCAt C F) qs (mcs s)->Q (.ref p) H'
section
variable {P:Program}{w:World}{K:PySem.W.Frag}{mg:Str->Option Value}{base:Heap}{C:Ad}{f:Addr}{fd:FuncData}
theorem Q2 {f1:Addr}{fd1:FuncData}{f2:Addr}{fd2:FuncData}{f3:Addr}{fd3:FuncData}{f4:Addr}{fd4:FuncData}{f5:Addr}{fd5:FuncData}{f6:Addr}{fd6:FuncData} (F:Fun K "cells_in_order" "cells_in_order" jW f fd) (T:Txt K mg C) (D_common_orders:Def P w K mg base "common_orders" 2 ["books"] (vn C) f1 fd1) (D_numbers_of:Def P w K mg base "numbers_of" 1 ["cells"] (jz C) f2 fd2) (D_loose_cells:Def P w K mg base "loose_cells" 4 ["books","side","common"] (u7 C) f3 fd3) (D_loose_together:Def P w K mg base "loose_together" 3 ["left","right","base_numbers"] (xn C) f4 fd4) (D_merged_order:Def P w K mg base "merged_order" 3 ["books","orders"] (wq C) f5 fd5) (D_merged_common_cell:Def P w K mg base "merged_common_cell" 5 ["books","number"] (vd C) f6 fd6):zU P w K mg base CX0 6 f fd ["books"] (xo C):=by
 refine F.ok sc_cells_in_order (fun vs H Q E h=>?_) (fun cdv A outer s H vs Q E hr h=>?_)
 . obtain⟨G,B,ch,s,rfl,_⟩:=h
   rfl
 . obtain⟨G,B,ch,s,rfl,hb,k⟩:=h
   have hu:=jL hr
   refine⟨_,(z5 (zi (i:=1) sc_cells_in_order.nd rfl (Or.inl rfl) (ze D_common_orders (hr.mono (by decide)) (z4 (pv 0) z9)))
    (z5 (zi (i:=2) sc_cells_in_order.nd rfl (Or.inl rfl) (ze D_numbers_of (hr.mono (by decide)) (z4 (zf (pv 0) rfl) z9)))
    (z5 (zi (i:=3) sc_cells_in_order.nd rfl (Or.inl rfl) (ze D_loose_cells (hr.mono (by decide)) (z4 (pv 0) (z4 (pgi T.g_LEFT) (z4 (qk kL (pv 1) zB (fun _ _=>rfl)) z9)))))
    (z5 (zi (i:=4) sc_cells_in_order.nd rfl (Or.inl rfl) (ze D_loose_cells (hr.mono (by decide)) (z4 (pv 0) (z4 (pgi T.g_RIGHT) (z4 (qk kL (pv 1) zB (fun _ _=>rfl)) z9)))))
    (z5 (zi (i:=5) sc_cells_in_order.nd rfl (Or.inl rfl) (ze D_loose_together (hr.mono (by decide)) (z4 (qc hu (pv 3) (pgi T.g_FRONT) (fun _ _=>rfl)) (z4 (qc hu (pv 4) (pgi T.g_FRONT) (fun _ _=>rfl)) (z4 (pv 2) z9)))))
    (z5 (kK PassesOwn.never rfl (qa (ze D_merged_order (hr.mono (by decide)) (z4 (pv 0) (z4 (pv 1) z9)))) (zJ (i:=6) sc_cells_in_order.nd rfl (Or.inl rfl)) (z5 (qt (jF PySem.F.plainAttrs_list PySem.F.slot_list_append PySem.F.type_list_append jc (pv 5) (z4 (ze D_merged_common_cell (hr.mono (by decide)) (z4 (pv 0) (z4 (pv 6) z9))) z9)))
    (za (qt (jF PySem.F.plainAttrs_list PySem.F.slot_list_extend PySem.F.type_list_extend jy (pv 5) (z4 (ze D_loose_together (hr.mono (by decide)) (z4 (qc hu (pv 3) (pv 6) (fun _ _=>rfl)) (z4 (qc hu (pv 4) (pv 6) (fun _ _=>rfl)) (z4 (pv 2) z9)))) z9))))))
    (za (zg (pv 5))))))))),?_⟩
   obtain⟨as0,r0,c0,g0⟩:=hb.d0
   obtain⟨dxb,eb⟩:=hb.bk
   have S:=hb.ok
   have z0:=S.b.len
   refine⟨_,rfl,G,B,ch,s,rfl,hb,fun H1 po a b c s1 epo ea eb' ec=>?_⟩
   refine⟨_,rfl,B.b,C.cBooks,dxb,_,_,rfl,s1 _ _ eb,T.c_Books,T.n_Books_base_cells,qT _ _ _,B.lb,as0,s.base,rfl,s1 _ _ r0,c0.mono s1,(by omega),fun H2 pb s2 n2 e2=>?_⟩
   have s12:=s1.trans s2
   refine⟨_,rfl,_,rfl,po,_,_,_,rfl,rfl,SqT.of (s2 _ _ epo),zV (j:=0) rfl,G,B,ch,s,1,a,rfl,hb.mono s12,.inl rfl,s2 _ _ ea,fun H3 pl s3 lo3=>?_⟩
   have s13:=s12.trans s3
   refine⟨_,rfl,_,rfl,po,_,_,_,rfl,rfl,SqT.of (s3 _ _ (s2 _ _ epo)),zV (j:=0) rfl,G,B,ch,s,2,a,rfl,hb.mono s13,.inr rfl,s3 _ _ (s2 _ _ ea),fun H4 pr s4 lo4=>?_⟩
   have s14:=s13.trans s4
   have lo3:=lo3.mono s4
   have e24:=s4 _ _ (s3 _ _ e2)
   have gH4:=hb.gh.trans s14
   obtain⟨kl,hkl,atl⟩:=lo3
   obtain⟨kr,hkr,atr⟩:=lo4
   obtain⟨ql,al,vl,rl,cl⟩:=atl 0 (List.mem_cons_self ..)
   obtain⟨qr,ar,vr,rr,cr⟩:=atr 0 (List.mem_cons_self ..)
   have ll:=kC S 1 0
   have lr:=kC S 2 0
   refine⟨_,rfl,pl,_,rfl,(show DGet H4 pl (.int 0) (some (.ref ql)) from vl▸DGet.k (k:=Sum.inl ((0:Nat):Int)) hkl),_,rfl,pr,_,rfl,(show DGet H4 pr (.int 0) (some (.ref qr)) from vr▸DGet.k (k:=Sum.inl ((0:Nat):Int)) hkr),_,rfl,G,ql,qr,pb,al,ar,_,_,s,rfl,gH4,rl,rr,cl,cr,e24,(by omega),(by omega),fun H5 m qs F s5 hm hFm gr rm pm=>?_⟩
   have Gm:G m=none:=gH4.free hm
   have epo5:=s5 _ _ (s4 _ _ (s3 _ _ (s2 _ _ epo)))
   have up:=(s2.trans (s3.trans s4)).trans s5
   refine⟨_,rfl,_,rfl,G,B,ch,s,po,a,b,c,rfl,hb.mono (s14.trans s5),epo5,up _ _ ea,up _ _ eb',up _ _ ec,fun H6 ro s6 hro e6=>?_⟩
   have hro4:IL H4 ro (nats (jk s)):=by
    have up4:=s2.trans (s3.trans s4)
    have key:∀ l,IL H1 ro l->IL H4 ro (nats (jk s)):=fun l hl=>by
     have h6:IL H6 ro l:=(up.trans s6) _ _ hl
     rw[IL] at h6
     rw[IL,h6] at e6
     rw[IL,up4 _ _ hl]
     exact e6
    rcases hro with rfl | rfl | rfl
    . exact key _ ea
    . exact key _ eb'
    . exact key _ ec
   have qm:=zk pm
   have tl:=yo s (atC (qB s 1) 0) (atC (qB s 2) 0)
   refine⟨ro,rfl,⟨_,SqL.of e6⟩,jx (K:=K) (a:=ro) (xs:=(nats (jk s)).map V.int)
    (fun i σ H'=>(∃ v6,σ=[some (.ref B.b),some (.ref po),some (.ref pb),some (.ref pl),some (.ref pr),some (.ref m),v6])/\Same H4 H'/\∃ qs,RL H' m qs/\Paired (MCAt C (minus (zS G H H') m)) qs (jw s (atC (qB s 1) 0) (atC (qB s 2) 0)++((jk s).take i).flatMap (Ks s)))
    ⟨⟨none,rfl⟩,s5.trans s6,qs,s6 _ _ rm,(by
     simp only[List.take_zero,List.flatMap_nil,List.append_nil]
     exact zA pm fun _ _ r=>r.mono (Tb.Same.minus (gr.part hb.gh s14 s6) hFm))⟩ (fun i σ H' _ h=>SqL.of (h.2.1 _ _ hro4)) ?_ ?_⟩
   . rintro i x σ H' hi ⟨⟨v6,rfl⟩,s7,qs,hq,hp⟩
     obtain⟨n,hn,rfl⟩:=yM hi
     have hnm:=List.mem_of_getElem? hn
     have hnc:=Wz hnm
     obtain⟨m0,m1,m2⟩:=common_mem.mp hnc
     obtain⟨cc,fc⟩:=vF m0
     obtain⟨cl',fl⟩:=vF m1
     obtain⟨cr',fr⟩:=vF m2
     have hil:i<12:=by
      have:=(List.getElem?_eq_some_iff.mp hn).1
      have:=Kr S
      omega
     have hql:qs.length<=324:=by
      have h1:=zk hp
      rw[List.length_append] at h1
      have h2:=VG S ((jk s).take i)
      rw[List.length_take] at h2
      omega
     refine⟨_,rfl,.inl ⟨rfl,_,SqL.of hq⟩,_,rfl,_,rfl,G,B,ch,s,n,cc,cl',cr',rfl,hb.mono (s14.trans s7),fc,fl,fr,fun H8 x F8 s8 gr8 mc8=>⟨m,_,_,rfl,rfl,s8 _ _ hq,(by rw[List.length_map];exact qO (by omega)),?_⟩⟩
     have hF8:F8 m=none:=gr8.free Gm hq
     have mc8':MCAt C (minus (zS G H H8) m) x (jJ s n cc cl' cr'):=mc8.mono (Tb.Same.minus (gr8.part hb.gh (s14.trans s7) (Same.refl _)) hF8)
     have s9:Same H4 (upd H8 m (.lst (qs.map V.ref++[.ref x]))):=fun b o e=>by
      rw[z8 (z7 e hm)]
      exact s8 _ _ (s7 b o e)
     have inK:∀ d,n∈numbers d->n∈vj (Vanbki.common s) d:=fun d hd=>by
      unfold vj
      exact List.mem_cons_of_mem _ (List.mem_filter.mpr ⟨hd,by simpa using hnc⟩)
     obtain⟨ql,al,vl,rl,cl⟩:=atl n (inK _ m1)
     obtain⟨qr,ar,vr,rr,cr⟩:=atr n (inK _ m2)
     have ll:=kC S 1 n
     have lr:=kC S 2 n
     refine⟨_,rfl,.inl ⟨rfl,_,SqL.of z6⟩,_,rfl,_,rfl,pl,_,rfl,(show DGet _ pl (.int (n:Nat)) (some (.ref ql)) from vl▸DGet.k (k:=Sum.inl ((n:Nat):Int)) (s9 _ _ hkl)),_,rfl,_,rfl,pr,_,rfl,(show DGet _ pr (.int (n:Nat)) (some (.ref qr)) from vr▸DGet.k (k:=Sum.inl ((n:Nat):Int)) (s9 _ _ hkr)),_,rfl,G,ql,qr,pb,al,ar,_,_,s,rfl,gH4.trans s9,s9 _ _ rl,s9 _ _ rr,cl,cr,s9 _ _ e24,(by omega),(by omega),fun H10 p10 qs10 F10 s10 hp10 hF10 gr10 r10 pr10=>?_⟩
     have F10m:F10 m=none:=gr10.free Gm z6
     have q10:=zk pr10
     have t10:=yo s (atC (qB s 1) n) (atC (qB s 2) n)
     refine⟨m,p10,_,_,rfl,rfl,s10 _ _ z6,r10,(by simp only[List.length_append,List.length_map,List.length_cons,List.length_nil];exact qH (by omega)),?_⟩
     refine⟨⟨_,rfl⟩,fun b o e=>?_,qs++[x]++qs10,?_,?_⟩
     . rw[z8 (z7 e hm)]
       exact s10 _ _ (s9 b o e)
     . rw[RL,z6]
       simp
     . rw[ua,zH hn,List.flatMap_append,<-List.append_assoc]
       have sM:Same (minus (zS G H H8) m) (minus (zS G H H10) m):=by
        have h1:=Same.both (D:=m) (v9 (G:=G) (H:=H) s10)
        rw[ua] at h1
        exact h1
       have e1:[n].flatMap (Ks s)=[jJ s n cc cl' cr']++jw s (atC (qB s 1) n) (atC (qB s 2) n):=by
        simp[Ks,Uh,fc,fl,fr]
       rw[e1,<-List.append_assoc]
       exact zI (zI (zA hp fun _ _ r=>r.mono ((Same.both (v9 s8)).trans sM)) (.cons (mc8'.mono sM) .nil)) (zA pr10 fun _ _ r=>r.mono (Tb.Same.minus (gr10.part hb.gh (s14.trans s9) (Same.refl _)) F10m))
   . rintro σ H' ⟨⟨v6,rfl⟩,s7,qs,hq,hp⟩
     rw[show ((nats (jk s)).map V.int).length=(jk s).length by simp[nats],List.take_length,<-abe] at hp
     exact⟨_,rfl,k H' m qs _ (s14.trans s7) (s14.free hm) ((qI hb.gh (s14.trans s7)).minus (hb.gh.free (s14.free hm))) hq hp⟩
end
end Tb
end
section
namespace Tb
open PySem PySem.Spec PyProof.Rows L2
open Vanbki (nats ofNat markNat numbers)
def cnt (s:Vanbki.State) (ms:List MC):Nat:=(ms.filter fun m=>!Vanbki.has s.base m.cell.number).length
def ub (s:Vanbki.State) (k:Nat) (m:MC):MC:=if Vanbki.has s.base m.cell.number=true then m else ⟨⟨k+1,m.cell.hidden,m.cell.text⟩,m.l,m.r⟩
theorem QL (s:Vanbki.State) (m:MC):∀ (ms:List MC) (k:Nat),yB s k (ms++[m])=yB s k ms++[ub s (k+cnt s ms) m]
 | [],k=>by
  rw[List.nil_append,yB,yB]
  unfold ub cnt
  split <;> simp[yB]
 | x::r,k=>by
  rw[List.cons_append,yB,yB]
  by_cases h:Vanbki.has s.base x.cell.number=true
  . rw[if_pos h,if_pos h,QL s m r k]
    have:cnt s (x::r)=cnt s r:=by
     unfold cnt
     rw[List.filter_cons_of_neg (by simp[h])]
    rw[this]
    rfl
  . rw[if_neg h,if_neg h,QL s m r (k+1)]
    have:cnt s (x::r)=cnt s r+1:=by
     unfold cnt
     rw[List.filter_cons_of_pos (by simpa using h),List.length_cons]
    rw[this,show k+1+cnt s r=k+(cnt s r+1) by omega]
    rfl
theorem Xy (s:Vanbki.State) (ms:List MC) (m:MC):cnt s (ms++[m])=cnt s ms+(if Vanbki.has s.base m.cell.number=true then 0 else 1):=by
 unfold cnt
 rw[List.filter_append,List.length_append]
 cases h:Vanbki.has s.base m.cell.number <;> simp[h]
theorem Q3 (s:Vanbki.State):∀ (ms:List MC) (k:Nat),(yB s k ms).length=ms.length
 | [],_=>rfl
 | m::r,k=>by
  rw[yB]
  split
  . rw[List.length_cons,List.length_cons,Q3 s r]
  . rw[List.length_cons,List.length_cons,Q3 s r]
def Yt (ms:List MC):Bool:=decide (12<ms.length) || ms.any fun m=>decide (99<m.cell.number)
def qe (s:Vanbki.State):Int × List MC:=if Vanbki.open_ s≠0 then (-11,[]) else if Yt (yB s (Vanbki.top s) (mcs s))=true then (-12,[]) else (0,yB s (Vanbki.top s) (mcs s))
theorem WA (l:List (Nat × Vanbki.Item)):Vanbki.tooGreat l=Yt (l.map Zw):=by
 unfold Vanbki.tooGreat Yt Vanbki.CELLS
 rw[List.length_map,List.any_map]
 rfl
theorem wc {s:Vanbki.State} (S:qh s) (g:List (Nat × Vanbki.Item)->Vanbki.State × Vanbki.Answer):((qe s).1≠0->(qe s).1<0/\Vanbki.withResult s g=(s,⟨(qe s).1,[]⟩))/\((qe s).1=0->∃ l,Vanbki.result s=some l/\Vanbki.tooGreat l=false/\l.map Zw=(qe s).2/\Vanbki.withResult s g=g l):=by
 obtain⟨h1,h2⟩:=aal S
 unfold qe Vanbki.withResult
 by_cases ho:Vanbki.open_ s≠0
 . rw[if_pos ho,h1 ho]
   exact⟨fun _=>⟨by decide,rfl⟩,fun z=>absurd z (by decide)⟩
 . obtain⟨l,e1,e2⟩:=h2 (by omega)
   rw[if_neg ho,e1]
   have e3:Vanbki.tooGreat l=Yt (yB s (Vanbki.top s) (mcs s)):=by rw[WA,e2]
   by_cases ht:Yt (yB s (Vanbki.top s) (mcs s))=true
   . rw[if_pos ht]
     refine⟨fun _=>⟨by decide,?_⟩,fun z=>absurd z (by decide)⟩
     show (if Vanbki.tooGreat l=true then _ else _)=_
     rw[e3,if_pos ht]
   . rw[if_neg ht]
     refine⟨fun z=>absurd rfl z,fun _=>⟨l,rfl,?_,e2,?_⟩⟩
     . rw[e3]
       simpa using ht
     . show (if Vanbki.tooGreat l=true then _ else _)=_
       rw[e3,if_neg ht]
def J2 (C:Ad):Sp:=fun vs H Q _=>∃ G B ch s m qs ms F0,vs=[.ref (Bk.b B),.ref m]/\BooksAt C H G B ch s/\RL H m qs/\Same F0 H/\Paired (MCAt C F0) qs ms/\ms.length<=1000/\∀ H' p qs' F,Same H H'->H p=none->Grow F0 H F H'->RL H' p qs'->Paired (MCAt C F) qs' (yB s (Vanbki.top s) ms)->Q (.ref p) H'
def Q4 (C:Ad):Sp:=fun vs H Q _=>∃ m qs ms,vs=[.ref m]/\RL H m qs/\Paired (MCAt C H) qs ms/\ms.length<=1000/\∀ H',Same H H'->Q (.bl (Yt ms)) H'
def xp (C:Ad):Sp:=fun vs H Q _=>∃ G B ch s,vs=[.ref (Bk.b B)]/\BooksAt C H G B ch s/\∀ H' x dx p qs F,Same H H'->Grow G H F H'->H' x=some (.ins C.cOutcome dx (Ws (qe s).1 p))->RL H' p qs->Paired (MCAt C F) qs (qe s).2->Q (.ref x) H'
def uc (C:Ad):Sp:=fun vs H Q _=>∃ G B ch s,vs=[.ref (Bk.b B)]/\BooksAt C H G B ch s/\∀ H' p,Same H H'->H p=none->IL H' p (enc (Vanbki.step s .merged).2)->Q (.ref p) H'
def wt (C:Ad):Sp:=fun vs H Q _=>∃ G B ch s,vs=[.ref (Bk.b B)]/\BooksAt C H G B ch s/\∀ H' p,Same H H'->H p=none->IL H' p (enc (Vanbki.step s .origins).2)->Q (.ref p) H'
section
variable {P:Program}{w:World}{K:PySem.W.Frag}{mg:Str->Option Value}{base:Heap}{C:Ad}{f:Addr}{fd:FuncData}
theorem Xz {f1:Addr}{fd1:FuncData}{f2:Addr}{fd2:FuncData}{f3:Addr}{fd3:FuncData}{f4:Addr}{fd4:FuncData} (F:Fun K "numbered" "numbered" w8 f fd) (T:Txt K mg C) (D_numbers_of:Def P w K mg base "numbers_of" 1 ["cells"] (jz C) f1 fd1) (D_number_above:Def P w K mg base "number_above" 2 ["cells"] (kh C) f2 fd2) (D_Cell:Cdf P w K mg base "Cell" 1 ["self","number","mark","text"] (qM C) C.cCell f3 fd3) (D_MergedCell:Cdf P w K mg base "MergedCell" 1 ["self","cell","on_left","on_right"] (zY C) C.cMergedCell f4 fd4):zU P w K mg base CX0 3 f fd ["books","merged"] (J2 C):=by
 refine F.ok sc_numbered (fun vs H Q E h=>?_) (fun cdv A outer s H vs Q E hr h=>?_)
 . obtain⟨G,B,ch,s,m,qs,ms,F0,rfl,_⟩:=h
   rfl
 . obtain⟨G,B,ch,s,m,qs,ms,F0,rfl,hb,hm,f0,hp,hz,k⟩:=h
   have hu:=jL hr
   refine⟨_,(z5 (zi (i:=2) sc_numbered.nd rfl (Or.inl rfl) (ze D_numbers_of (hr.mono (by decide)) (z4 (zf (pv 0) rfl) z9)))
    (z5 (zi (i:=3) sc_numbered.nd rfl (Or.inl rfl) (ze D_number_above (hr.mono (by decide)) (z4 (jE yI (jE yI (zf (pv 0) rfl) (zf (qc hu (zf (pv 0) rfl) (pgi T.g_LEFT) (fun _ _=>rfl)) rfl)) (zf (qc hu (zf (pv 0) rfl) (pgi T.g_RIGHT) (fun _ _=>rfl)) rfl)) z9)))
    (z5 (zi (i:=4) sc_numbered.nd rfl (Or.inl rfl) (zX z9))
    (z5 (kK PassesOwn.never rfl (qa (pv 1)) (zJ (i:=5) sc_numbered.nd rfl (Or.inl rfl)) (z5 (zi (i:=6) sc_numbered.nd rfl (Or.inl rfl) (zf (pv 5) rfl))
    (z5 (zC (zo ZH (zf (pv 6) rfl) (pv 2) rfl) (z5 (zi (i:=6) sc_numbered.nd rfl (Or.inl rfl) (qj D_Cell (hr.mono (by decide)) (z4 (pv 3) (z4 (zf (pv 6) rfl) (z4 (zf (pv 6) rfl) z9)))))
    (za (aaB (i:=3) sc_numbered.nd rfl (Or.inl rfl) zB aaC))) zj)
    (za (qt (jF PySem.F.plainAttrs_list PySem.F.slot_list_append PySem.F.type_list_append jc (pv 4) (z4 (qj D_MergedCell (hr.mono (by decide)) (z4 (pv 6) (z4 (zf (pv 5) rfl) (z4 (zf (pv 5) rfl) z9)))) z9)))))))
    (za (zg (pv 4))))))),?_⟩
   obtain⟨as0,r0,c0,_⟩:=hb.d0
   obtain⟨as1,r1,c1,_⟩:=hb.d1
   obtain⟨as2,r2,c2,_⟩:=hb.d2
   obtain⟨dxb,eb⟩:=hb.bk
   have S:=hb.ok
   have z0:=S.b.len
   have z1:=S.l.len
   have z2:=S.r.len
   have l0:=zk c0
   have l1:=zk c1
   have l2:=zk c2
   have lm:=zk hp
   refine⟨_,rfl,B.b,C.cBooks,dxb,_,_,rfl,eb,T.c_Books,T.n_Books_base_cells,qT _ _ _,B.lb,as0,s.base,rfl,r0,c0,(by omega),fun H1 pb s1 n1 e1=>?_⟩
   obtain⟨dx1,es1⟩:=hb.s1
   obtain⟨dx2,es2⟩:=hb.s2
   have d1:DGet H1 B.ds (.int 1) (some (.ref B.a1)):=Kl (.ref B.a1) (.ref B.a2)▸DGet.k (k:=Sum.inl 1) (s1 _ _ hb.sd)
   refine⟨_,rfl,B.b,C.cBooks,dxb,_,_,rfl,s1 _ _ eb,T.c_Books,T.n_Books_base_cells,qT _ _ _,_,rfl,B.b,C.cBooks,dxb,_,_,rfl,s1 _ _ eb,T.c_Books,T.n_Books_sides,zD _ _ _,B.ds,_,rfl,d1,B.a1,C.cSide,dx1,_,_,rfl,s1 _ _ es1,T.c_Side,T.n_Side_cells,zM _ _,B.lb,B.l1,_,_,rfl,rfl,s1 _ _ r0,s1 _ _ r1,(by rw[List.length_map,List.length_map];exact qH (by omega)),fun p2 n2=>?_⟩
   have s2:=Same.new (o:=.lst (as0.map V.ref++as1.map V.ref)) n2
   have s12:=s1.trans s2
   have d2:DGet _ B.ds (.int 2) (some (.ref B.a2)):=Km (.ref B.a1) (.ref B.a2)▸DGet.k (k:=Sum.inl 2) (s12 _ _ hb.sd)
   refine⟨_,rfl,B.b,C.cBooks,dxb,_,_,rfl,s12 _ _ eb,T.c_Books,T.n_Books_sides,zD _ _ _,B.ds,_,rfl,d2,B.a2,C.cSide,dx2,_,_,rfl,s12 _ _ es2,T.c_Side,T.n_Side_cells,zM _ _,p2,B.l2,_,_,rfl,rfl,z6,s12 _ _ r2,(by rw[List.length_append,List.length_map,List.length_map,List.length_map];exact qH (by omega)),fun p3 n3=>?_⟩
   have s3:=s12.trans (Same.new (o:=.lst ((as0.map V.ref++as1.map V.ref)++as2.map V.ref)) n3)
   refine⟨p3,as0++as1++as2,s.base++s.left++s.right,rfl,(by rw[RL,z6];simp),zI (zI (c0.mono s3) (c1.mono s3)) (c2.mono s3),(by simp only[List.length_append];omega),fun H4 s4=>?_⟩
   have etop:((Vanbki.greatest (numbers (s.base++s.left++s.right)):Int)+1)=((Vanbki.top s+1:Nat):Int):=by
    unfold Vanbki.top numbers
    rw[List.map_append,List.map_append]
    push_cast
    rfl
   rw[etop]
   have s04:=s3.trans s4
   refine⟨Nat.zero_le _,fun nc hnc=>?_⟩
   have s5:=s04.trans (Same.new (o:=.lst []) hnc)
   have hnc0:=s04.free hnc
   have e1':IL H4 pb (nats (numbers s.base)):=((s2.trans (Same.new (o:=.lst ((as0.map V.ref++as1.map V.ref)++as2.map V.ref)) n3)).trans s4) _ _ e1
   have hpbnc:pb≠nc:=z7 e1' hnc
   refine⟨_,rfl,m,rfl,⟨_,SqL.of (s5 _ _ hm)⟩,jx (K:=K) (a:=m) (xs:=qs.map V.ref)
    (fun i σ H'=>(∃ v5 v6,σ=[some (.ref B.b),some (.ref m),some (.ref pb),some (.int (Vanbki.top s+1+cnt s (ms.take i):Nat)),some (.ref nc),v5,v6])/\Same H4 H'/\∃ qs',RL H' nc qs'/\Paired (MCAt C (minus (zS F0 H H') nc)) qs' (yB s (Vanbki.top s) (ms.take i)))
    ⟨⟨none,none,rfl⟩,Same.new hnc,[],z6,.nil⟩ (fun i σ H' _ h=>SqL.of (h.2.1 _ _ (s04 _ _ hm))) ?_ ?_⟩
   . rintro i x σ H' hi ⟨⟨v5,v6,rfl⟩,s6,qs',hq',hp'⟩
     obtain⟨q,hq,rfl⟩:=qF hi
     obtain⟨mm,hm1,dx,a,ex0,hca⟩:=zG hp hq
     have ex:=f0 _ _ ex0
     have hil:i<ms.length:=(List.getElem?_eq_some_iff.mp hm1).1
     have ex':=s6 _ _ (s04 _ _ ex)
     obtain⟨dxc,tq,ec0,et0⟩:=hca
     have ec:=f0 _ _ ec0
     have et:=f0 _ _ et0
     have ec':=s6 _ _ (s04 _ _ ec)
     have lq:=zk hp'
     rw[Q3,List.length_take] at lq
     have pf:Same F0 (zS F0 H H'):=(qI f0 (s04.trans s6)).gf
     have anc:a≠nc:=z7 ec hnc0
     have tnc:tq≠nc:=z7 et hnc0
     have qnc:q≠nc:=z7 ex hnc0
     have last:∀ (H7:Hp) (y:Addr) (fr:Nat) (v:MC),Same H' H7->CellAt C (minus (zS F0 H H7) nc) y v.cell->v=ub s (Vanbki.top s+cnt s (ms.take i)) mm->fr=Vanbki.top s+1+cnt s (ms.take (i+1)) ->
      (WO (tBM K "list" Y9 (qv 4) (qw (wk C.cMergedCell (zY C) [] E0 (qw (qv 6) (qw (yd K (qv 5) "on_left") (qw (yd K (qv 5) "on_right") xF)))) xF)))
       { nx:=(fun σ H'=>(∃ v5 v6,σ=[some (.ref B.b),some (.ref m),some (.ref pb),some (.int (Vanbki.top s+1+cnt s (ms.take (i+1)):Nat)),some (.ref nc),v5,v6])/\Same H4 H'/\∃ qs',RL H' nc qs'/\Paired (MCAt C (minus (zS F0 H H') nc)) qs' (yB s (Vanbki.top s) (ms.take (i+1)))),rt:=Q } [some (.ref B.b),some (.ref m),some (.ref pb),some (.int (fr:Nat)),some (.ref nc),some (.ref q),some (.ref y)] H7:=fun H7 y fr v s7 hy hv hfr=>by
      refine⟨_,rfl,.inl ⟨rfl,_,SqL.of (s7 _ _ hq')⟩,_,rfl,_,rfl,q,C.cMergedCell,dx,_,_,rfl,s7 _ _ ex',T.c_MergedCell,T.n_MergedCell_on_left,ZS _ _ _,_,rfl,q,C.cMergedCell,dx,_,_,rfl,s7 _ _ ex',T.c_MergedCell,T.n_MergedCell_on_right,uO _ _ _,?_⟩
      intro z dz nz nd ne
      refine⟨z,dz,_,_,_,rfl,z6,rfl,?_⟩
      have s8:=jr (c:=C.cMergedCell) (fs:=jZ y (mm.l:Nat) (mm.r:Nat)) nz nd
      have znc:z≠nc:=Ne.symm (z7 (s7 _ _ hq') nz)
      refine⟨nc,_,_,rfl,rfl,s8 _ _ (s7 _ _ hq'),(by rw[List.length_map];exact qO (by omega)),?_⟩
      refine⟨⟨_,_,by rw[hfr]⟩,fun b o e=>?_,qs'++[z],?_,?_⟩
      . rw[z8 (z7 e hnc)]
        exact s8 _ _ (s7 _ _ (s6 b o e))
      . rw[RL,z6,List.map_append]
        rfl
      . rw[ua,zH hm1,QL]
        refine j4 (zA hp' fun _ _ r=>r.mono (Same.both (v9 (s7.trans s8)))) ⟨dz,y,?_,?_⟩
        . rw[qC znc,qP f0 ((s04.trans (s6.trans s7)).free nz),z6]
          unfold ub
          split <;> rfl
        . rw[<-hv]
          exact hy.mono (Same.both (v9 s8))
     refine⟨_,rfl,q,C.cMergedCell,dx,_,_,rfl,ex',T.c_MergedCell,T.n_MergedCell_cell,kY _ _ _,?_⟩
     refine⟨_,rfl,a,C.cCell,dxc,_,_,rfl,ec',T.c_Cell,T.n_Cell_number,zE _ _ _,_,rfl,pb,_,rfl,.inl (SqL.of (s6 _ _ e1')),rfl,jA _,_,rfl,?_⟩
     simp only[if_true]
     rw[k9,<-xl]
     cases hh:Vanbki.has s.base mm.cell.number with
     | true =>
      refine zy (last H' a _ mm (Same.refl _) ⟨dxc,tq,by rw[qC anc];exact pf _ _ ec0,by rw[IL,qC tnc];exact pf _ _ et0⟩ (by unfold ub;rw[if_pos hh]) ?_)
      rw[zH hm1,Xy,if_pos hh]
      rfl
     | false =>
      refine zF ?_
      refine⟨_,rfl,_,rfl,a,C.cCell,dxc,_,_,rfl,ec',T.c_Cell,T.n_Cell_mark,qo _ _ _,_,rfl,a,C.cCell,dxc,_,_,rfl,ec',T.c_Cell,T.n_Cell_text,zN _ _ _,?_⟩
      intro y dy ny nd ne
      refine⟨y,dy,_,_,_,rfl,z6,rfl,?_⟩
      have s7:=jr (c:=C.cCell) (fs:=k5 ((Vanbki.top s+1+cnt s (ms.take i):Nat):Int) (markNat mm.cell.hidden:Nat) tq) ny nd
      have ync:y≠nc:=Ne.symm (z7 hq' ny)
      refine⟨_,rfl,_,_,rfl,rfl,?_⟩
      refine last _ y (Vanbki.top s+1+cnt s (ms.take i)+1) (ub s (Vanbki.top s+cnt s (ms.take i)) mm) s7 ⟨dy,tq,?_,?_⟩ rfl ?_
      . rw[qC ync,qP f0 ((s04.trans s6).free ny),z6]
        unfold ub
        rw[hh,if_neg Bool.false_ne_true]
        have:Vanbki.top s+1+cnt s (ms.take i)=Vanbki.top s+cnt s (ms.take i)+1:=by omega
        rw[this]
      . rw[IL,qC tnc]
        unfold ub
        rw[hh,if_neg Bool.false_ne_true]
        exact v9 s7 _ _ (pf _ _ et0)
      . rw[zH hm1,Xy,hh,if_neg Bool.false_ne_true]
        omega
   . rintro σ H' ⟨⟨v5,v6,rfl⟩,s6,qs',hq',hp'⟩
     rw[List.length_map,lm,List.take_length] at hp'
     exact⟨_,rfl,k H' nc qs' _ (s04.trans s6) hnc0 ((qI f0 (s04.trans s6)).minus (f0.free hnc0)) hq' hp'⟩
theorem Yu (F:Fun K "too_great" "too_great" xf f fd) (T:Txt K mg C):zU P w K mg base CX0 1 f fd ["merged"] (Q4 C):=by
 refine F.ok sc_too_great (fun vs H Q E h=>?_) (fun cdv A outer s H vs Q E hr h=>?_)
 . obtain⟨m,qs,ms,rfl,_⟩:=h
   rfl
 . obtain⟨m,qs,ms,rfl,hm,hp,hz,k⟩:=h
   refine⟨_,(za (zg (acR (um QW (zP qS (by rfl) T.b_len qR (z4 (pv 0) z9)) (pgi T.g_MOST_CELLS) (zz _)) (aax (zP (aaM rfl) (by rfl) T.b_any aa5 (z4 (wU rfl sc_too_great.nd (qa (pv 0)) (qy (own:=[("one",1)]) (by kernel_rfl)) (fun _ _ _ _ _=>(zJ (i:=1) sc_too_great.nd rfl (Or.inl rfl))) (fun _ _ _ _ _=>ke) (fun _ _ _ _ _=>(um QW (jG (K:=K) rfl (jG (K:=K) rfl (pv 1) rfl) rfl) (pgi T.g_GREATEST_NUMBER) (zz _)))) z9)))))),?_⟩
   have lm:=zk hp
   refine⟨_,rfl,m,_,rfl,.inl (SqL.of hm),_,_,rfl,rfl,_,rfl,?_⟩
   have el:(((qs.map V.ref).length:Nat):Int)=(ms.length:Int):=by rw[List.length_map,lm]
   unfold Yt at k
   rw[el]
   by_cases h:12<ms.length
   . rw[decide_eq_true (by omega)]
     have q:=k H (Same.refl _)
     rw[decide_eq_true h] at q
     exact zF q
   . rw[decide_eq_false (by omega)]
     refine zy ?_
     rw[decide_eq_false h] at k
     refine⟨_,rfl,m,rfl,⟨_,SqL.of hm⟩,fun D hD=>?_⟩
     refine Za (K:=K) (xs:=qs.map V.ref) ((ms.map fun m=>decide (99<m.cell.number)).map V.bl) (by simp[lm]) (SqL.of hm) hD (by rw[List.length_map];exact qO (by omega)) (fun i x y H' P' hi hy s1 hP=>?_) (fun H' s1 e=>?_)
     . obtain⟨q,hq,rfl⟩:=qF hi
       obtain⟨mm,hm1,dx,a,ex,dxc,tq,ec,et⟩:=zG hp hq
       have ey:y=.bl (decide (99<mm.cell.number)):=by
        rw[List.getElem?_map,List.getElem?_map,hm1] at hy
        exact (Option.some.inj hy).symm
       subst ey
       refine⟨rfl,_,rfl,q,C.cMergedCell,dx,_,_,rfl,s1 _ _ ex,T.c_MergedCell,T.n_MergedCell_cell,kY _ _ _,a,C.cCell,dxc,_,_,rfl,s1 _ _ ec,T.c_Cell,T.n_Cell_number,zE _ _ _,_,_,rfl,rfl,?_⟩
       have q:=hP H' (Same.refl _)
       have e1:decide (99<mm.cell.number)=decide ((99:Int)<(mm.cell.number:Int)):=by
        by_cases h:99<mm.cell.number
        . rw[decide_eq_true h,decide_eq_true (by omega)]
        . rw[decide_eq_false h,decide_eq_false (by omega)]
       rw[e1] at q
       exact q
     . refine⟨D,_,rfl,SqL.of e,?_⟩
       have q:=k H' s1
       rw[Bool.false_or] at q
       have eb:(ms.map fun m=>decide (99<m.cell.number)).any id=ms.any fun m=>decide (99<m.cell.number):=by
        rw[List.any_map]
        rfl
       rw[eb]
       exact q
theorem XA {f1:Addr}{fd1:FuncData}{f2:Addr}{fd2:FuncData}{f3:Addr}{fd3:FuncData}{f4:Addr}{fd4:FuncData}{f5:Addr}{fd5:FuncData} (F:Fun K "merge_of" "merge_of" w9 f fd) (T:Txt K mg C) (D_numbered:Def P w K mg base "numbered" 3 ["books","merged"] (J2 C) f1 fd1) (D_too_great:Def P w K mg base "too_great" 1 ["merged"] (Q4 C) f2 fd2) (D_Outcome:Cdf P w K mg base "Outcome" 1 ["self","refusal","merged"] (wn C) C.cOutcome f3 fd3) (D_count_without_choice:Def P w K mg base "count_without_choice" 7 ["books"] (jd C) f4 fd4) (D_cells_in_order:Def P w K mg base "cells_in_order" 6 ["books"] (xo C) f5 fd5):zU P w K mg base CX0 8 f fd ["books"] (xp C):=by
 refine F.ok sc_merge_of (fun vs H Q E h=>?_) (fun cdv A outer s H vs Q E hr h=>?_)
 . obtain⟨G,B,ch,s,rfl,_⟩:=h
   rfl
 . obtain⟨G,B,ch,s,rfl,hb,k⟩:=h
   refine⟨_,(z5 (zC (zo QW (ze D_count_without_choice (hr.mono (by decide)) (z4 (pv 0) z9)) zB (zz _)) (za (zg (qj D_Outcome (hr.mono (by decide)) (z4 (pgi T.g_CHOICE_MISSING) (z4 (zX z9) z9))))) zj)
    (z5 (zi (i:=1) sc_merge_of.nd rfl (Or.inl rfl) (ze D_numbered (hr.mono (by decide)) (z4 (pv 0) (z4 (ze D_cells_in_order (hr.mono (by decide)) (z4 (pv 0) z9)) z9))))
    (z5 (zC (Qy (ze D_too_great (hr.mono (by decide)) (z4 (pv 1) z9))) (za (zg (qj D_Outcome (hr.mono (by decide)) (z4 (pgi T.g_TOO_GREAT) (z4 (zX z9) z9))))) zj)
    (za (zg (qj D_Outcome (hr.mono (by decide)) (z4 (pgi T.g_NO_REFUSAL) (z4 (pv 1) z9)))))))),?_⟩
   have S:=hb.ok
   refine⟨_,rfl,G,B,ch,s,rfl,hb,fun H1 s1=>⟨_,_,rfl,rfl,_,rfl,?_⟩⟩
   unfold qe at k
   by_cases ho:Vanbki.open_ s≠0
   . rw[decide_eq_true (by omega)]
     rw[if_pos ho] at k
     refine zF ⟨Nat.zero_le _,fun p hp=>?_⟩
     have s2:=Same.new (o:=.lst []) hp
     intro x dx nx nd ne
     refine⟨x,dx,_,_,rfl,z6,rfl,?_⟩
     have s3:=jr (c:=C.cOutcome) (fs:=Ws (-11) p) nx nd
     exact k _ x dx p [] G (s1.trans (s2.trans s3)) ⟨Same.refl _,hb.gh.trans (s1.trans (s2.trans s3)),fun _ _ e=>.inl e⟩ z6 (s3 _ _ z6) .nil
   . rw[decide_eq_false (by omega)]
     rw[if_neg ho] at k
     refine zy ?_
     refine⟨_,rfl,_,rfl,G,B,ch,s,rfl,hb.mono s1,fun H2 m qs F2 s2 hm g2 rm pm=>?_⟩
     have s12:=s1.trans s2
     refine⟨G,B,ch,s,m,qs,mcs s,F2,rfl,hb.mono s12,rm,g2.fh,pm,(by have:=U8 S;omega),fun H3 p qs3 F3 s3 hp g3 r3 p3=>?_⟩
     have s13:=s12.trans s3
     refine⟨_,rfl,p,qs3,_,rfl,r3,zA p3 (fun _ _ r=>r.mono g3.fh),(by rw[Q3];have:=U8 S;omega),fun H4 s4=>⟨_,rfl,?_⟩⟩
     cases ht:Yt (yB s (Vanbki.top s) (mcs s)) with
     | true =>
      rw[ht,if_pos rfl] at k
      refine zF ⟨Nat.zero_le _,fun p hp=>?_⟩
      have s5:=Same.new (o:=.lst []) hp
      intro x dx nx nd ne
      refine⟨x,dx,_,_,rfl,z6,rfl,?_⟩
      have s6:=jr (c:=C.cOutcome) (fs:=Ws (-12) p) nx nd
      exact k _ x dx p [] G (s13.trans (s4.trans (s5.trans s6))) ⟨Same.refl _,hb.gh.trans (s13.trans (s4.trans (s5.trans s6))),fun _ _ e=>.inl e⟩ z6 (s6 _ _ z6) .nil
     | false =>
      rw[ht,if_neg Bool.false_ne_true] at k
      refine zy ⟨_,rfl,?_⟩
      intro x dx nx nd ne
      refine⟨x,dx,_,_,rfl,z6,rfl,?_⟩
      have s6:=jr (c:=C.cOutcome) (fs:=Ws 0 p) nx nd
      refine k _ x dx p qs3 F3 (s13.trans (s4.trans s6)) ?_ z6 (s6 _ _ (s4 _ _ r3)) p3
      exact (((Grow.trans (H1:=H2) (g2.down s1) s12 g3).up s4).up s6)
end
end Tb
end
section
namespace Tb
open PySem PySem.Spec PyProof.Rows L2
open Vanbki (nats ofNat markNat numbers)
theorem wd {s:Vanbki.State} (S:qh s):(qe s).2.length<=12:=by
 unfold qe
 split
 . simp
 . split
   . simp
   . rename_i h
     unfold Yt at h
     simp only[Bool.or_eq_true,decide_eq_true_eq,not_or] at h
     show (yB s (Vanbki.top s) (mcs s)).length<=12
     omega
section
variable {P:Program}{w:World}{K:PySem.W.Frag}{mg:Str->Option Value}{base:Heap}{C:Ad}{f:Addr}{fd:FuncData}
theorem qJ {z:Int}{A B:Prop} (h1:z≠0->A) (h2:z=0->B):if (!decide (V.int z=V.int 0))=true then A else B:=by
 by_cases h:z=0
 . subst h
   exact zy (h2 rfl)
 . have:¬(V.int z=V.int 0):=fun e=>h (by injection e)
   rw[decide_eq_false this]
   exact zF (h1 h)
theorem Kt {f1:Addr}{fd1:FuncData}{f2:Addr}{fd2:FuncData} (F:Fun K "tell_merged" "tell_merged" vB f fd) (T:Txt K mg C) (D_merge_of:Def P w K mg base "merge_of" 8 ["books"] (xp C) f1 fd1) (D_tell_cells:Def P w K mg base "tell_cells" 1 ["cells"] (xy C) f2 fd2):zU P w K mg base CX0 9 f fd ["books"] (uc C):=by
 refine F.ok sc_tell_merged (fun vs H Q E h=>?_) (fun cdv A outer s H vs Q E hr h=>?_)
 . obtain⟨G,B,ch,s,rfl,_⟩:=h
   rfl
 . obtain⟨G,B,ch,s,rfl,hb,k⟩:=h
   refine⟨_,(z5 (zi (i:=1) sc_tell_merged.nd rfl (Or.inl rfl) (ze D_merge_of (hr.mono (by decide)) (z4 (pv 0) z9)))
    (z5 (zC (zo yG (zf (pv 1) rfl) (pgi T.g_NO_REFUSAL) (zz _)) (za (zg (zX (z4 (zf (pv 1) rfl) z9)))) zj)
    (za (zg (ze D_tell_cells (hr.mono (by decide)) (z4 (wU rfl sc_tell_merged.nd (qa (zf (pv 1) rfl)) (qy (own:=[("one",2)]) (by kernel_rfl)) (fun _ _ _ _ _=>(zJ (i:=2) sc_tell_merged.nd rfl (Or.inl rfl))) (fun _ _ _ _ _=>ke) (fun _ _ _ _ _=>(jG (K:=K) rfl (pv 2) rfl))) z9)))))),?_⟩
   have S:=hb.ok
   refine⟨_,rfl,G,B,ch,s,rfl,hb,fun H1 x dx p qs F s1 gr ex rp pp=>?_⟩
   have pp:=zA pp (fun _ _ r=>MCAt.mono gr.fh r)
   obtain⟨w1,w2⟩:=wc S (fun l=>(s,Vanbki.tellDoc (Vanbki.docOf l)))
   have k:∀ H' p,Same H H'->H p=none->IL H' p (enc (Vanbki.withResult s (fun l=>(s,Vanbki.tellDoc (Vanbki.docOf l)))).2)->Q (.ref p) H':=k
   have lq:=zk pp
   have l12:=wd S
   refine⟨_,rfl,x,C.cOutcome,dx,_,_,rfl,ex,T.c_Outcome,T.n_Outcome_refusal,j_ _ _,rfl,_,rfl,qJ (fun hh=>?_) (fun hh=>?_)⟩
   . obtain⟨_,e⟩:=w1 hh
     rw[e] at k
     exact⟨_,rfl,x,C.cOutcome,dx,_,_,rfl,ex,T.c_Outcome,T.n_Outcome_refusal,j_ _ _,(by show 1<=sizeLine;decide),fun y hy=>k _ y (s1.trans (Same.new hy)) (s1.free hy) z6⟩
   . obtain⟨l,e1,e2,e3,e4⟩:=w2 hh
     rw[e4] at k
     have D:=y6 S e1 e2
     have ed:Vanbki.docOf l=(qe s).2.map fun m=>m.cell:=by rw[Vj,e3]
     rw[ed] at k D
     refine⟨_,rfl,x,C.cOutcome,dx,_,_,rfl,ex,T.c_Outcome,T.n_Outcome_merged,xi _ _,p,rfl,⟨_,SqL.of rp⟩,fun Dl hDl=>?_⟩
     have cells:∀ {qs:List Addr}{ms:List MC},Paired (MCAt C H1) qs ms->∃ as,as.length=qs.length/\CellsAt C H1 as (ms.map fun m=>m.cell)/\∀ (i:Nat) (q:Addr),qs[i]?=some q->∃ a dx l r,as[i]?=some a/\H1 q=some (.ins C.cMergedCell dx (jZ a l r)):=by
      intro qs ms h
      induction h with
      | nil=>exact⟨[],rfl,.nil,fun i q h=>by simp at h⟩
      | @cons q m qs ms r t ih =>
       obtain⟨as,h1,h2,h3⟩:=ih
       obtain⟨dx,a,e1,e2⟩:=r
       refine⟨a::as,by simp[h1],.cons e2 h2,fun i q' hq=>?_⟩
       cases i with
       | zero =>
        simp at hq
        subst hq
        exact⟨a,dx,_,_,rfl,e1⟩
       | succ i =>
        obtain⟨a',dx',l',r',f1,f2⟩:=h3 i q' (by simpa using hq)
        exact⟨a',dx',l',r',by simpa using f1,f2⟩
     obtain⟨as,h1,h2,h3⟩:=cells pp
     refine Za (K:=K) (xs:=qs.map V.ref) (as.map V.ref) (by rw[List.length_map,List.length_map,h1]) (SqL.of rp) hDl (by rw[List.length_map];exact qO (by omega)) (fun i y z H' P' hi hy s2 hP=>?_) (fun H2 s2 e2=>?_)
     . obtain⟨q,hq,rfl⟩:=qF hi
       obtain⟨a,hz,rfl⟩:=qF hy
       obtain⟨a',dx',l',r',f1,f2⟩:=h3 i q hq
       rw[hz] at f1
       cases f1
       exact⟨rfl,_,rfl,q,C.cMergedCell,dx',_,_,rfl,s2 _ _ f2,T.c_MergedCell,T.n_MergedCell_cell,kY _ _ _,hP H' (Same.refl _)⟩
     . refine⟨Dl,as,_,rfl,e2,h2.mono s2,(by rw[List.length_map];omega),fun c hc=>(D.txt c hc).1,fun H3 p3 s3 n3 e3=>k H3 p3 (s1.trans (s2.trans s3)) ((s1.trans s2).free n3) e3⟩
theorem Jr {f1:Addr}{fd1:FuncData} (F:Fun K "tell_origins" "tell_origins" kX f fd) (T:Txt K mg C) (D_merge_of:Def P w K mg base "merge_of" 8 ["books"] (xp C) f1 fd1):zU P w K mg base CX0 9 f fd ["books"] (wt C):=by
 refine F.ok sc_tell_origins (fun vs H Q E h=>?_) (fun cdv A outer s H vs Q E hr h=>?_)
 . obtain⟨G,B,ch,s,rfl,_⟩:=h
   rfl
 . obtain⟨G,B,ch,s,rfl,hb,k⟩:=h
   refine⟨_,(z5 (zi (i:=1) sc_tell_origins.nd rfl (Or.inl rfl) (ze D_merge_of (hr.mono (by decide)) (z4 (pv 0) z9)))
    (z5 (zC (zo yG (zf (pv 1) rfl) (pgi T.g_NO_REFUSAL) (zz _)) (za (zg (zX (z4 (zf (pv 1) rfl) z9)))) zj)
    (z5 (zi (i:=2) sc_tell_origins.nd rfl (Or.inl rfl) (zX (z4 (zP qS (by rfl) T.b_len qR (z4 (zf (pv 1) rfl) z9)) z9)))
    (z5 (kK PassesOwn.never rfl (qa (zf (pv 1) rfl)) (zJ (i:=3) sc_tell_origins.nd rfl (Or.inl rfl)) (za (qt (jF PySem.F.plainAttrs_list PySem.F.slot_list_extend PySem.F.type_list_extend jy (pv 2) (z4 (zX (z4 (zf (zf (pv 3) rfl) rfl) (z4 (zf (pv 3) rfl) (z4 (zf (pv 3) rfl) z9)))) z9)))))
    (za (zg (pv 2))))))),?_⟩
   have S:=hb.ok
   refine⟨_,rfl,G,B,ch,s,rfl,hb,fun H1 x dx p qs F s1 gr ex rp pp=>?_⟩
   have pp:=zA pp (fun _ _ r=>MCAt.mono gr.fh r)
   obtain⟨w1,w2⟩:=wc S (fun l=>(s,⟨ofNat l.length,l.flatMap fun x=>[ofNat x.1,ofNat x.2.onLeft,ofNat x.2.onRight]⟩))
   have k:∀ H' p,Same H H'->H p=none->IL H' p (enc (Vanbki.withResult s (fun l=>(s,⟨ofNat l.length,l.flatMap fun x=>[ofNat x.1,ofNat x.2.onLeft,ofNat x.2.onRight]⟩))).2)->Q (.ref p) H':=k
   have lq:=zk pp
   have l12:=wd S
   refine⟨_,rfl,x,C.cOutcome,dx,_,_,rfl,ex,T.c_Outcome,T.n_Outcome_refusal,j_ _ _,rfl,_,rfl,qJ (fun hh=>?_) (fun hh=>?_)⟩
   . obtain⟨_,e⟩:=w1 hh
     rw[e] at k
     exact⟨_,rfl,x,C.cOutcome,dx,_,_,rfl,ex,T.c_Outcome,T.n_Outcome_refusal,j_ _ _,(by show 1<=sizeLine;decide),fun y hy=>k _ y (s1.trans (Same.new hy)) (s1.free hy) z6⟩
   . obtain⟨l,e1,e2,e3,e4⟩:=w2 hh
     rw[e4] at k
     have k:∀ H' p,Same H H'->H p=none->IL H' p (ofNat (qe s).2.length::(qe s).2.flatMap fun m=>[ofNat m.cell.number,ofNat m.l,ofNat m.r])->Q (.ref p) H':=fun H' p s' hp e'=>k H' p s' hp (by
      rw[<-e3,List.length_map,List.flatMap_map] at e'
      exact e')
     refine⟨_,rfl,x,C.cOutcome,dx,_,_,rfl,ex,T.c_Outcome,T.n_Outcome_merged,xi _ _,p,_,rfl,.inl (SqL.of rp),(by show 1<=sizeLine;decide),fun t ht=>?_⟩
     have s2:=Same.new (o:=.lst [.int (((qs.map V.ref).length:Nat):Int)]) ht
     refine⟨_,rfl,x,C.cOutcome,dx,_,_,rfl,s2 _ _ ex,T.c_Outcome,T.n_Outcome_merged,xi _ _,p,rfl,⟨_,SqL.of (s2 _ _ rp)⟩,jx (K:=K) (a:=p) (xs:=qs.map V.ref)
      (fun i σ H'=>(∃ v3,σ=[some (.ref B.b),some (.ref x),some (.ref t),v3])/\Same H1 H'/\IL H' t (ofNat (qe s).2.length::((qe s).2.take i).flatMap fun m=>[ofNat m.cell.number,ofNat m.l,ofNat m.r]))
      ⟨⟨none,rfl⟩,s2,(by rw[IL,z6,List.length_map,lq];rfl)⟩ (fun i σ H' _ h=>SqL.of (h.2.1 _ _ rp)) ?_ ?_⟩
     . rintro i y σ H' hi ⟨⟨v3,rfl⟩,s3,e3'⟩
       obtain⟨q,hq,rfl⟩:=qF hi
       obtain⟨mm,hm1,dxm,a,exm,dxc,tq,ec,et⟩:=zG pp hq
       have hil:i<12:=by
        have:=(List.getElem?_eq_some_iff.mp hm1).1
        omega
       have exm':=s3 _ _ exm
       refine⟨_,rfl,.inl ⟨rfl,_,SqL.of e3'⟩,_,rfl,q,C.cMergedCell,dxm,_,_,rfl,exm',T.c_MergedCell,T.n_MergedCell_cell,kY _ _ _,a,C.cCell,dxc,_,_,rfl,s3 _ _ ec,T.c_Cell,T.n_Cell_number,zE _ _ _,_,rfl,q,C.cMergedCell,dxm,_,_,rfl,exm',T.c_MergedCell,T.n_MergedCell_on_left,ZS _ _ _,_,rfl,q,C.cMergedCell,dxm,_,_,rfl,exm',T.c_MergedCell,T.n_MergedCell_on_right,uO _ _ _,(by show 3<=sizeLine;decide),fun u hu'=>?_⟩
       have s4:=Same.new (o:=.lst [.int (mm.cell.number:Nat),.int (mm.l:Nat),.int (mm.r:Nat)]) hu'
       have hfl:(((qe s).2.take i).flatMap fun m=>[ofNat m.cell.number,ofNat m.l,ofNat m.r]).length<=36:=by
        have:=jf (f:=fun m:MC=>[ofNat m.cell.number,ofNat m.l,ofNat m.r]) (k:=3) (l:=(qe s).2.take i) (fun x _=>by simp)
        rw[List.length_take] at this
        omega
       refine⟨t,u,_,_,rfl,rfl,s4 _ _ e3',z6,(by simp only[List.length_map,List.length_cons,List.length_nil];exact qH (by omega)),?_⟩
       refine⟨⟨_,rfl⟩,fun b o e=>?_,?_⟩
       . rw[z8 (z7 e ht)]
         exact s4 _ _ (s3 b o e)
       . rw[IL,z6,zH hm1,List.flatMap_append]
         simp[ofNat]
     . rintro σ H' ⟨⟨v3,rfl⟩,s3,e3'⟩
       rw[List.length_map,lq,List.take_length] at e3'
       exact⟨_,rfl,k H' t (s1.trans s3) (s1.free ht) e3'⟩
end
end Tb
end
section
namespace Tb
open PySem PySem.Spec PyProof.Rows L2
open Vanbki (nats ofNat markNat numbers)
structure ue (C:Ad) (H G:Hp) (B:Bk) (ch:Chs) (s:Vanbki.State):Prop where
 bk:∃ dx,H B.b=some (.ins C.cBooks dx (qz B.lb B.ds B.dc))
 sd:H B.ds=some (.dK [(Sum.inl 1,.ref B.a1),(Sum.inl 2,.ref B.a2)])
 s1:∃ dx,H B.a1=some (.ins C.cSide dx (qW B.l1 s.nextLeft))
 s2:∃ dx,H B.a2=some (.ins C.cSide dx (qW B.l2 s.nextRight))
 c0:∃ as,RL G B.lb as/\CellsAt C G as s.base
 c1:∃ as,RL H B.l1 as/\CellsAt C G as s.left
 c2:∃ as,RL H B.l2 as/\CellsAt C G as s.right
 dc:H B.dc=some (.dT (chV ch))
 gh:Same G H
 fr:∀ a,a∈B.muts->G a=none
 ne:B.muts.Nodup
def wu (B:Bk) (n:Int) (a l:Addr):Bk:=if n=1 then { B with a1:=a,l1:=l } else { B with a2:=a,l2:=l }
section
variable {C:Ad}{H G:Hp}{B:Bk}{ch:Chs}{s:Vanbki.State}
theorem BooksAt.tracked (h:BooksAt C H G B ch s):∀ a,a∈B.muts->∃ o,H a=some o:=by
 intro a ha
 obtain⟨dx,e0⟩:=h.bk
 obtain⟨dx1,e1⟩:=h.s1
 obtain⟨dx2,e2⟩:=h.s2
 obtain⟨as1,f1,_⟩:=h.c1
 obtain⟨as2,f2,_⟩:=h.c2
 simp only[Bk.muts,List.mem_cons,List.not_mem_nil,or_false] at ha
 rcases ha with rfl | rfl | rfl | rfl | rfl | rfl | rfl
 . exact⟨_,e0⟩
 . exact⟨_,h.sd⟩
 . exact⟨_,e1⟩
 . exact⟨_,f1⟩
 . exact⟨_,e2⟩
 . exact⟨_,f2⟩
 . exact⟨_,h.dc⟩
theorem BooksAt.notNew (h:BooksAt C H G B ch s) {a:Addr} (ha:H a=none):¬a∈B.muts:=fun m=>by
 obtain⟨o,e⟩:=h.tracked a m
 rw[ha] at e
 cases e
theorem yt (B:Bk) (n:Int):zT B n∈B.muts:=by
 unfold zT Bk.muts
 split <;> simp
theorem QM (B:Bk) (n:Int):zK B n∈B.muts:=by
 unfold zK Bk.muts
 split <;> simp
theorem Ku (h:B.muts.Nodup) (n:Int):zT B n≠zK B n:=by
 unfold zT zK
 simp only[Bk.muts,List.nodup_cons,List.mem_cons,List.not_mem_nil,or_false,not_or] at h
 obtain⟨h1,h2,h3,h4,h5,h6,h7⟩:=h
 split
 . exact fun e=>h3.1 e
 . exact fun e=>h5.1 e
theorem Q5 (h:BooksAt C H G B ch s) {n:Int}{H' G':Hp}{a l:Addr}{as:List Addr}{d:Vanbki.Doc}{k:Nat} (hn:Vanbki.noSide n=false)
 (keep:∀ b o,H b=some o->b≠B.ds->b≠zT B n->b≠zK B n->H' b=some o) (hds:H' B.ds=some (.dK [(Sum.inl 1,.ref (wu B n a l).a1),(Sum.inl 2,.ref (wu B n a l).a2)]))
 (ha:∃ dx,H' a=some (.ins C.cSide dx (qW l k))) (hl:RL H' l as) (gg:Same G G') (gh:Same G' H') (gf:∀ b,b∈B.muts->G' b=none) (ga:G' a=none) (gl:G' l=none)
 (a0:a=zT B n∨H a=none) (l0:l=zK B n∨H l=none) (al:a≠l) (cells:CellsAt C G' as d):ue C H' G' (wu B n a l) ch (Vanbki.setSide s n d k):=by
 have ne:=h.ne
 have tr:=h.tracked
 have hds':=hds
 simp only[Bk.muts,List.nodup_cons,List.mem_cons,List.not_mem_nil,or_false,not_or] at ne tr gf
 obtain⟨⟨n1,n2,n3,n4,n5,n6⟩,⟨n7,n8,n9,n10,n11⟩,⟨n12,n13,n14,n15⟩,⟨n16,n17,n18⟩,⟨n19,n20⟩,n21,_⟩:=ne
 have fresh:∀ {x m:Addr},H x=none->(∃ o,H m=some o)->m≠x:=fun hx ⟨o,e⟩ z=>by
  rw[z,hx] at e
  cases e
 obtain⟨dxb,eb⟩:=h.bk
 obtain⟨dx1,e1⟩:=h.s1
 obtain⟨dx2,e2⟩:=h.s2
 obtain⟨as0,f0,c0⟩:=h.c0
 obtain⟨as1,f1,c1⟩:=h.c1
 obtain⟨as2,f2,c2⟩:=h.c2
 have hdc:=h.dc
 have hcl:∀ {as:List Addr}{d:Vanbki.Doc},CellsAt C G as d->CellsAt C G' as d:=fun r=>r.mono gg
 rcases jt hn with rfl | rfl
 . simp only[zT,zK,if_true] at keep a0 l0
   have A:∀ m,(∃ o,H m=some o)->m≠B.a1->m≠a:=fun m hm h1=>by
    rcases a0 with z | z
    . rw[z];exact h1
    . exact fresh z hm
   have L:∀ m,(∃ o,H m=some o)->m≠B.l1->m≠l:=fun m hm h1=>by
    rcases l0 with z | z
    . rw[z];exact h1
    . exact fresh z hm
   refine⟨⟨dxb,?_⟩,hds,ha,⟨dx2,?_⟩,⟨as0,gg _ _ f0,hcl c0⟩,⟨as,hl,cells⟩,⟨as2,?_,hcl c2⟩,?_,gh,?_,?_⟩
   . exact keep _ _ eb n1 n2 n3
   . exact keep _ _ e2 (Ne.symm n9) (Ne.symm n13) (Ne.symm n16)
   . exact keep _ _ f2 (Ne.symm n10) (Ne.symm n14) (Ne.symm n17)
   . exact keep _ _ hdc (Ne.symm n11) (Ne.symm n15) (Ne.symm n18)
   . intro b hb
     simp only[wu,if_true,Bk.muts,List.mem_cons,List.not_mem_nil,or_false] at hb
     rcases hb with rfl | rfl | rfl | rfl | rfl | rfl | rfl
     . exact gf _ (.inl rfl)
     . exact gf _ (.inr (.inl rfl))
     . exact ga
     . exact gl
     . exact gf _ (.inr (.inr (.inr (.inr (.inl rfl)))))
     . exact gf _ (.inr (.inr (.inr (.inr (.inr (.inl rfl))))))
     . exact gf _ (.inr (.inr (.inr (.inr (.inr (.inr rfl))))))
   . simp only[wu,if_true,Bk.muts,List.nodup_cons,List.mem_cons,List.not_mem_nil,or_false,not_or,not_false_eq_true,and_true,List.nodup_nil]
     refine⟨⟨n1,A _ ⟨_,eb⟩ n2,L _ ⟨_,eb⟩ n3,n4,n5,n6⟩,⟨A _ ⟨_,h.sd⟩ n7,L _ ⟨_,h.sd⟩ n8,n9,n10,n11⟩,⟨al,Ne.symm (A _ ⟨_,e2⟩ (Ne.symm n13)),Ne.symm (A _ ⟨_,f2⟩ (Ne.symm n14)),Ne.symm (A _ ⟨_,hdc⟩ (Ne.symm n15))⟩,⟨Ne.symm (L _ ⟨_,e2⟩ (Ne.symm n16)),Ne.symm (L _ ⟨_,f2⟩ (Ne.symm n17)),Ne.symm (L _ ⟨_,hdc⟩ (Ne.symm n18))⟩,⟨n19,n20⟩,n21⟩
 . have t21:¬((2:Int)=1):=by decide
   simp only[zT,zK,t21,if_false] at keep a0 l0
   have A:∀ m,(∃ o,H m=some o)->m≠B.a2->m≠a:=fun m hm h1=>by
    rcases a0 with z | z
    . rw[z];exact h1
    . exact fresh z hm
   have L:∀ m,(∃ o,H m=some o)->m≠B.l2->m≠l:=fun m hm h1=>by
    rcases l0 with z | z
    . rw[z];exact h1
    . exact fresh z hm
   refine⟨⟨dxb,?_⟩,hds,⟨dx1,?_⟩,ha,⟨as0,gg _ _ f0,hcl c0⟩,⟨as1,?_,hcl c1⟩,⟨as,hl,cells⟩,?_,gh,?_,?_⟩
   . exact keep _ _ eb n1 n4 n5
   . exact keep _ _ e1 (Ne.symm n7) n13 n14
   . exact keep _ _ f1 (Ne.symm n8) n16 n17
   . exact keep _ _ hdc (Ne.symm n11) (Ne.symm n20) (Ne.symm n21)
   . intro b hb
     simp only[wu,t21,if_false,Bk.muts,List.mem_cons,List.not_mem_nil,or_false] at hb
     rcases hb with rfl | rfl | rfl | rfl | rfl | rfl | rfl
     . exact gf _ (.inl rfl)
     . exact gf _ (.inr (.inl rfl))
     . exact gf _ (.inr (.inr (.inl rfl)))
     . exact gf _ (.inr (.inr (.inr (.inl rfl))))
     . exact ga
     . exact gl
     . exact gf _ (.inr (.inr (.inr (.inr (.inr (.inr rfl))))))
   . simp only[wu,t21,if_false,Bk.muts,List.nodup_cons,List.mem_cons,List.not_mem_nil,or_false,not_or,not_false_eq_true,and_true,List.nodup_nil]
     refine⟨⟨n1,n2,n3,A _ ⟨_,eb⟩ n4,L _ ⟨_,eb⟩ n5,n6⟩,⟨n7,n8,A _ ⟨_,h.sd⟩ n9,L _ ⟨_,h.sd⟩ n10,n11⟩,⟨n12,A _ ⟨_,e1⟩ n13,L _ ⟨_,e1⟩ n14,n15⟩,⟨A _ ⟨_,f1⟩ n16,L _ ⟨_,f1⟩ n17,n18⟩,⟨al,Ne.symm (A _ ⟨_,hdc⟩ (Ne.symm n20))⟩,Ne.symm (L _ ⟨_,hdc⟩ (Ne.symm n21))⟩
theorem JL (h:BooksAt C H G B ch s) {n:Int}{H' G':Hp}{a l:Addr} (keep:∀ b o,H b=some o->b≠B.ds->b≠zT B n->b≠zK B n->H' b=some o) (gg:Same G G') (a0:a=zT B n∨H a=none) (l0:l=zK B n∨H l=none)
 (nw:∀ b o,G' b=some o->G b=some o∨H b=none):Fr H G B H' G' (wu B n a l) where
 b:=by unfold wu;split <;> rfl
 kept:=fun b o e m=>keep b o e (fun z=>m (by rw[z];simp[Bk.muts])) (fun z=>m (z▸yt B n)) (fun z=>m (z▸QM B n))
 grow:=gg
 newM:=fun b hb=>by
  have mA:=yt B n
  have mL:=QM B n
  have key:b=a∨b=l∨b∈B.muts:=by
   unfold wu at hb
   split at hb <;> simp only[Bk.muts,List.mem_cons,List.not_mem_nil,or_false] at hb ⊢ <;> rcases hb with z | z | z | z | z | z | z <;> simp[z]
  rcases key with z | z | z
  . rcases a0 with y | y
    . exact .inl (by rw[z,y];exact mA)
    . exact .inr (by rw[z];exact y)
  . rcases l0 with y | y
    . exact .inl (by rw[z,y];exact mL)
    . exact .inr (by rw[z];exact y)
  . exact .inl z
 newG:=nw
theorem Kv (B:Bk) (n:Int):wu B n (zT B n) (zK B n)=B:=by
 unfold wu zT zK
 split <;> rfl
end
def PostEdit (C:Ad) (H G:Hp) (B:Bk) (ch:Chs) (s:Vanbki.State) (r:Vanbki.State × Vanbki.Answer) (Q:VK):Prop :=
 (r.2.number<0->r.1=s->∀ H',Same H H'->Q (.int r.2.number) H')/\(0<=r.2.number->∀ H' G' B',ue C H' G' B' ch r.1->Fr H G B H' G' B'->Q (.int r.2.number) H')
theorem PostEdit.no {C:Ad}{H G:Hp}{B:Bk}{ch:Chs}{s:Vanbki.State}{r:Vanbki.State × Vanbki.Answer}{Q:VK} (h:PostEdit C H G B ch s r Q) {n:Int} (e:r=(s,⟨n,[]⟩)) (hn:n<0) {H':Hp} (k:Same H H'):Q (.int n) H':=by
 subst e
 exact h.1 hn rfl H' k
theorem PostEdit.yes {C:Ad}{H G:Hp}{B:Bk}{ch:Chs}{s t:Vanbki.State}{r:Vanbki.State × Vanbki.Answer}{Q:VK} (h:PostEdit C H G B ch s r Q) {n:Int} (e:r=(t,⟨n,[]⟩)) (hn:0<=n) {H' G':Hp}{B':Bk} (b:ue C H' G' B' ch t) (k:Fr H G B H' G' B'):Q (.int n) H':=by
 subst e
 exact h.2 hn H' G' B' b k
theorem qA {s:Vanbki.State}{side:Int}{own:List (Bool × Int)}{d:Vanbki.Doc}{k:Nat}{a n:Int} (h:Vanbki.first ((Vanbki.noSide side,-8)::own)=some n):Vanbki.edit s side own d k a=(s,⟨n,[]⟩):=by
 unfold Vanbki.edit
 rw[h]
theorem yP {s:Vanbki.State}{side:Int}{own:List (Bool × Int)}{d:Vanbki.Doc}{k:Nat}{a:Int} (h:Vanbki.first ((Vanbki.noSide side,-8)::own)=none):Vanbki.edit s side own d k a=(Vanbki.setSide s side d k,⟨a,[]⟩):=by
 unfold Vanbki.edit
 rw[h]
theorem qf {c:Bool}{n:Int}{r:List (Bool × Int)} (h:c=true):Vanbki.first ((c,n)::r)=some n:=by
 unfold Vanbki.first
 rw[if_pos h]
theorem zw {c:Bool}{n:Int}{r:List (Bool × Int)} (h:c=false):Vanbki.first ((c,n)::r)=Vanbki.first r:=by
 rw[Vanbki.first,h,if_neg Bool.false_ne_true]
theorem QN {C:Ad}{H G:Hp}{y:Addr}{o:HO} (g:Same G H) (hy:H y=none):Same G (upd G y o)/\∀ b u,(upd G y o) b=some u->G b=some u∨H b=none:=by
 refine⟨Same.new (g.free hy),fun b u e=>?_⟩
 by_cases h:b=y
 . exact .inr (by rw[h];exact hy)
 . rw[z8 h] at e
   exact .inl e
theorem yQ {C:Ad}{H1:Hp}{x dx q:Addr}{xs:List V}{k:Int} (nx:H1 x=none) (nd:H1 dx=none) (ne:dx≠x) (hq:(upd (upd H1 dx (.own x)) x (.ins C.cSide dx [])) q=none) :
 H1 q=none/\q≠x/\Same H1 (upd (upd (upd (upd H1 dx (.own x)) x (.ins C.cSide dx [])) q (.lst xs)) x (.ins C.cSide dx (qW q k)))/\(upd (upd (upd (upd H1 dx (.own x)) x (.ins C.cSide dx [])) q (.lst xs)) x (.ins C.cSide dx (qW q k))) q=some (.lst xs):=by
 have qx:q≠x:=fun e=>by rw[e,z6] at hq;cases hq
 have qd:q≠dx:=fun e=>by rw[e,z8 ne,z6] at hq;cases hq
 have q0:H1 q=none:=by rw[z8 qx,z8 qd] at hq;exact hq
 refine⟨q0,qx,fun b o e=>?_,?_⟩
 . rw[z8 (z7 e nx),z8 (z7 e q0),z8 (z7 e nx),z8 (z7 e nd)]
   exact e
 . rw[z8 qx,z6]
def vZ (C:Ad):Sp:=fun vs H Q _=>∃ (b dx lb ds dc:Addr) (as:List Addr) (d:Vanbki.Doc),vs=[.ref b]/\H b=some (.ins C.cBooks dx (qz lb ds dc))/\RL H lb as/\CellsAt C H as d/\d.length<=1000 /\
 ∀ H' x dx' q,Same H H'->H x=none->H q=none->q≠x->H' x=some (.ins C.cSide dx' (qW q ((Vanbki.greatest (numbers d):Int)+1)))->RL H' q as->Q (.ref x) H'
def Q6 (s:Vanbki.State) (n a:Int):Int:=if Vanbki.noSide n=true then -8 else if Vanbki.hasI (Vanbki.sideDoc s n) a=true then 0 else -1
theorem jN (s:Vanbki.State) (n a:Int):(Vanbki.noSide n=true/\Q6 s n a=-8)∨(Vanbki.noSide n=false/\Vanbki.hasI (Vanbki.sideDoc s n) a=false/\Q6 s n a=-1)∨(Vanbki.noSide n=false/\Vanbki.hasI (Vanbki.sideDoc s n) a=true/\Q6 s n a=0):=by
 unfold Q6
 cases Vanbki.noSide n <;> cases Vanbki.hasI (Vanbki.sideDoc s n) a <;> simp
def qU (C:Ad):Sp:=fun vs H Q _=>∃ G B ch s n m,vs=[.ref (Bk.b B),.int n,.int m]/\BooksAt C H G B ch s/\∀ H',Same H H'->Q (.int (Q6 s n m)) H'
def Q7 (C:Ad):Sp:=fun vs H Q _=>∃ G B ch s n,vs=[.ref (Bk.b B),.int n]/\BooksAt C H G B ch s/\PostEdit C H G B ch s (Vanbki.sideEdit s (.copy n)) Q
def uT (C:Ad):Sp:=fun vs H Q _=>∃ G B ch s n,vs=[.ref (Bk.b B),.int n]/\BooksAt C H G B ch s/\PostEdit C H G B ch s (Vanbki.sideEdit s (.reset n)) Q
section
variable {P:Program}{w:World}{K:PySem.W.Frag}{mg:Str->Option Value}{base:Heap}{C:Ad}{f:Addr}{fd:FuncData}
theorem Js {f1:Addr}{fd1:FuncData}{f2:Addr}{fd2:FuncData} (F:Fun K "copy_of_base" "copy_of_base" kQ f fd) (T:Txt K mg C) (D_Side:Cdf P w K mg base "Side" 1 ["self","cells","next_number"] (jq C) C.cSide f1 fd1) (D_number_above:Def P w K mg base "number_above" 2 ["cells"] (kh C) f2 fd2):zU P w K mg base CX0 3 f fd ["books"] (vZ C):=by
 refine F.ok Ji (fun vs H Q E h=>?_) (fun cdv A outer s H vs Q E hr h=>?_)
 . obtain⟨b,dx,lb,ds,dc,as,d,rfl,_⟩:=h
   rfl
 . obtain⟨b,dx,lb,ds,dc,as,d,rfl,eb,rl,hc,hz,k⟩:=h
   refine⟨_,(za (zg (qj D_Side (hr.mono (by decide)) (z4 (zf (pv 0) rfl) (z4 (ze D_number_above (hr.mono (by decide)) (z4 (zf (pv 0) rfl) z9)) z9))))),?_⟩
   refine⟨_,rfl,b,C.cBooks,dx,_,_,rfl,eb,T.c_Books,T.n_Books_base_cells,qT _ _ _,_,rfl,b,C.cBooks,dx,_,_,rfl,eb,T.c_Books,T.n_Books_base_cells,qT _ _ _,lb,as,d,rfl,rl,hc,hz,fun H1 s1=>?_⟩
   have m:=abX (C:=C) (H1:=H1) (Q:=Q) (l:=lb) (xs:=as.map V.ref) (k:=(Vanbki.greatest (numbers d):Int)+1) (s1 _ _ rl) fun x dx' q H2 nx nq qx s2 e2 e3=>k H2 x dx' q (s1.trans s2) (s1.free nx) (s1.free nq) qx e2 e3
   exact m
theorem Zc {f1:Addr}{fd1:FuncData} (F:Fun K "refusal_of_cell" "refusal_of_cell" jI f fd) (T:Txt K mg C) (D_place_of:Def P w K mg base "place_of" 1 ["cells","number"] (jj C) f1 fd1):zU P w K mg base CX0 2 f fd ["books","side","number"] (qU C):=by
 refine F.ok Z8 (fun vs H Q E h=>?_) (fun cdv A outer s H vs Q E hr h=>?_)
 . obtain⟨G,B,ch,s,n,m,rfl,_⟩:=h
   rfl
 . obtain⟨G,B,ch,s,n,m,rfl,hb,k⟩:=h
   have hu:=jL hr
   refine⟨_,(z5 (zC (qD (vk hu (pv 1) (zf (pv 0) rfl))) (za (zg (pgi T.g_NO_SIDE))) zj)
    (z5 (zC (qD (jD (ze D_place_of (hr.mono (by decide)) (z4 (zf (qc hu (zf (pv 0) rfl) (pv 1) (fun _ _=>rfl)) rfl) (z4 (pv 2) z9))))) (za (zg (pgi T.g_NO_CELL))) zj)
    (za (zg (pgi T.g_NO_REFUSAL))))),?_⟩
   unfold Q6 at k
   obtain⟨dxb,eb⟩:=hb.bk
   refine⟨_,rfl,_,rfl,B.b,C.cBooks,dxb,_,_,rfl,eb,T.c_Books,T.n_Books_sides,zD _ _ _,B.ds,_,rfl,yO hb.sd n,_,rfl,?_⟩
   rw[vp]
   cases hn:Vanbki.noSide n with
   | true =>
    rw[hn] at k
    exact zF (k H (Same.refl _))
   | false =>
    rw[hn,if_neg Bool.false_ne_true] at k
    obtain⟨as,rS,cS,_⟩:=hb.dS n
    obtain⟨dxs,eS⟩:=hb.sS n
    refine zy ?_
    refine⟨_,rfl,B.b,C.cBooks,dxb,_,_,rfl,eb,T.c_Books,T.n_Books_sides,zD _ _ _,_,rfl,B.ds,_,rfl,j6 hb.sd hn,zT B n,C.cSide,dxs,_,_,rfl,eS,T.c_Side,T.n_Side_cells,zM _ _,_,rfl,zK B n,as,_,_,rfl,rS,cS,fun H1 s1=>?_⟩
    have k1:=k H1 s1
    rw[ko] at k1
    cases hp:jB (Vanbki.sideDoc s n) m with
    | none =>
     rw[hp] at k1
     exact⟨_,rfl,zF k1⟩
    | some i =>
     rw[hp] at k1
     exact⟨_,rfl,zy k1⟩
theorem Yv {f1:Addr}{fd1:FuncData} (F:Fun K "copy_side" "copy_side" yZ f fd) (T:Txt K mg C) (D_Side:Cdf P w K mg base "Side" 1 ["self","cells","next_number"] (jq C) C.cSide f1 fd1):zU P w K mg base CX0 3 f fd ["books","side"] (Q7 C):=by
 refine F.ok sc_copy_side (fun vs H Q E h=>?_) (fun cdv A outer s H vs Q E hr h=>?_)
 . obtain⟨G,B,ch,s,n,rfl,_⟩:=h
   rfl
 . obtain⟨G,B,ch,s,n,rfl,hb,k⟩:=h
   have hu:=jL hr
   refine⟨_,(z5 (zC (qD (vk hu (pv 1) (zf (pv 0) rfl))) (za (zg (pgi T.g_NO_SIDE))) zj)
    (z5 (zi (i:=2) sc_copy_side.nd rfl (Or.inl rfl) (qc hu (zf (pv 0) rfl) (jK (zo qN (pv 1) (pgi T.g_RIGHT) (zz _)) (pgi T.g_LEFT) (pgi T.g_RIGHT)) (fun _ _=>rfl)))
    (z5 (ZK hu (zf (pv 0) rfl) (pv 1) (qj D_Side (hr.mono (by decide)) (z4 (zf (pv 2) rfl) (z4 (zf (pv 2) rfl) z9))) rfl)
    (za (zg zB))))),?_⟩
   obtain⟨dxb,eb⟩:=hb.bk
   refine⟨_,rfl,_,rfl,B.b,C.cBooks,dxb,_,_,rfl,eb,T.c_Books,T.n_Books_sides,zD _ _ _,B.ds,_,rfl,yO hb.sd n,_,rfl,?_⟩
   rw[vp]
   cases hn:Vanbki.noSide n with
   | true=>exact zF (k.no (qA (qf hn)) (by decide) (Same.refl _))
   | false =>
    refine zy ?_
    have h3:Vanbki.noSide (3 - n)=false:=by
     rcases jt hn with rfl | rfl <;> rfl
    obtain⟨as,rS,cS,gS⟩:=hb.dS (3 - n)
    obtain⟨dxs,eS⟩:=hb.sS (3 - n)
    have dg:DGet H B.ds (.int (3 - n)) (some (.ref (zT B (3 - n)))):=j6 hb.sd h3
    have rest:KP (Y3 (fun σ H Q'=>Q' (V.ref (zT B (3 - n))) H) (wj 2)) (KP (ab8 (yd K (qv 0) "sides") (qv 1) (wk C.cSide (jq C) [] E0 (qw (yd K (qv 2) "cells") (qw (yd K (qv 2) "next_number") xF)))) (Y1 (tC (.int 0)))) { nx:=fun _ H'=>Q .non H',rt:=Q } [some (.ref B.b),some (.int n),none] H:=by
     refine⟨_,rfl,zT B (3 - n),C.cSide,dxs,_,_,rfl,eS,T.c_Side,T.n_Side_cells,zM _ _,_,rfl,zT B (3 - n),C.cSide,dxs,_,_,rfl,eS,T.c_Side,T.n_Side_next_number,Kg _ _,?_⟩
     intro x dx nx nd ne
     refine⟨x,dx,zK B (3 - n),as.map V.ref,_,rfl,z6,(by rw[z8 (z7 rS nx),z8 (z7 rS nd)];exact rS),fun q hq=>⟨rfl,?_⟩⟩
     obtain⟨nq,qx,s2,e3⟩:=yQ (C:=C) (xs:=as.map V.ref) (k:=(Vanbki.sideNext s (3 - n):Nat)) nx nd ne hq
     generalize hH2:upd (upd (upd (upd H dx (.own x)) x (.ins C.cSide dx [])) q (.lst (as.map V.ref))) x (.ins C.cSide dx (qW q (Vanbki.sideNext s (3 - n):Nat)))=H2 at s2 e3 ⊢
     have e2:H2 x=some (.ins C.cSide dx (qW q (Vanbki.sideNext s (3 - n):Nat))):=by rw[<-hH2];exact z6
     have sd2:=s2 _ _ hb.sd
     refine⟨_,rfl,B.b,C.cBooks,dxb,_,_,rfl,s2 _ _ eb,T.c_Books,T.n_Books_sides,zD _ _ _,_,rfl,B.ds,_,rfl,DPut.k (k:=Sum.inl n) sd2 (by show 2<sizeLine;decide),?_⟩
     have xds:x≠B.ds:=Ne.symm (z7 hb.sd nx)
     have qds:q≠B.ds:=Ne.symm (z7 hb.sd nq)
     have keep:∀ b o,H b=some o->b≠B.ds->b≠zT B n->b≠zK B n->upd H2 B.ds (.dK (ye [(Sum.inl 1,.ref B.a1),(Sum.inl 2,.ref B.a2)] (Sum.inl n) (.ref x))) b=some o:=fun b o e h1 _ _=>by
      rw[z8 h1]
      exact s2 _ _ e
     refine k.yes (yP (by rw[zw hn];rfl)) (by decide) (Q5 (a:=x) (l:=q) hb hn keep ?_ ⟨dx,?_⟩ (as:=as) ?_ (Same.refl G) ?_ hb.fr (hb.gh.free nx) (hb.gh.free nq) (.inr nx) (.inr nq) (Ne.symm qx) gS) (JL hb keep (Same.refl _) (.inr nx) (.inr nq) fun b o e=>.inl e)
     . rw[z6]
       rcases jt hn with rfl | rfl <;> rfl
     . rw[z8 xds]
       exact e2
     . rw[RL,z8 qds]
       exact e3
     . intro b o e
       rw[z8 (z7 e (hb.fr _ (by simp[Bk.muts])))]
       exact s2 _ _ (hb.gh _ _ e)
    rcases jt hn with rfl | rfl
    . refine⟨_,rfl,B.b,C.cBooks,dxb,_,_,rfl,eb,T.c_Books,T.n_Books_sides,zD _ _ _,_,rfl,rfl,_,rfl,zy ⟨B.ds,_,rfl,dg,rest⟩⟩
    . refine⟨_,rfl,B.b,C.cBooks,dxb,_,_,rfl,eb,T.c_Books,T.n_Books_sides,zD _ _ _,_,rfl,rfl,_,rfl,zF ⟨B.ds,_,rfl,dg,rest⟩⟩
theorem V2 {f1:Addr}{fd1:FuncData} (F:Fun K "reset_side" "reset_side" yi f fd) (T:Txt K mg C) (D_copy_of_base:Def P w K mg base "copy_of_base" 3 ["books"] (vZ C) f1 fd1):zU P w K mg base CX0 4 f fd ["books","side"] (uT C):=by
 refine F.ok KS (fun vs H Q E h=>?_) (fun cdv A outer s H vs Q E hr h=>?_)
 . obtain⟨G,B,ch,s,n,rfl,_⟩:=h
   rfl
 . obtain⟨G,B,ch,s,n,rfl,hb,k⟩:=h
   have hu:=jL hr
   refine⟨_,(z5 (zC (qD (vk hu (pv 1) (zf (pv 0) rfl))) (za (zg (pgi T.g_NO_SIDE))) zj)
    (z5 (ZK hu (zf (pv 0) rfl) (pv 1) (ze D_copy_of_base (hr.mono (by decide)) (z4 (pv 0) z9)) rfl)
    (za (zg zB)))),?_⟩
   obtain⟨dxb,eb⟩:=hb.bk
   refine⟨_,rfl,_,rfl,B.b,C.cBooks,dxb,_,_,rfl,eb,T.c_Books,T.n_Books_sides,zD _ _ _,B.ds,_,rfl,yO hb.sd n,_,rfl,?_⟩
   rw[vp]
   cases hn:Vanbki.noSide n with
   | true=>exact zF (k.no (qA (qf hn)) (by decide) (Same.refl _))
   | false =>
    refine zy ?_
    obtain⟨as0,r0,c0,g0⟩:=hb.d0
    have z0:=hb.ok.b.len
    refine⟨_,rfl,B.b,dxb,B.lb,B.ds,B.dc,as0,s.base,rfl,eb,r0,c0,(by omega),fun H2 x dx q s2 nx nq qx e2 e3=>?_⟩
    have sd2:=s2 _ _ hb.sd
    refine⟨_,rfl,B.b,C.cBooks,dxb,_,_,rfl,s2 _ _ eb,T.c_Books,T.n_Books_sides,zD _ _ _,_,rfl,B.ds,_,rfl,DPut.k (k:=Sum.inl n) sd2 (by show 2<sizeLine;decide),?_⟩
    have xds:x≠B.ds:=Ne.symm (z7 hb.sd nx)
    have qds:q≠B.ds:=Ne.symm (z7 hb.sd nq)
    have keep:∀ b o,H b=some o->b≠B.ds->b≠zT B n->b≠zK B n->upd H2 B.ds (.dK (ye [(Sum.inl 1,.ref B.a1),(Sum.inl 2,.ref B.a2)] (Sum.inl n) (.ref x))) b=some o:=fun b o e h1 _ _=>by
     rw[z8 h1]
     exact s2 _ _ e
    refine k.yes (yP (by rw[zw hn];rfl)) (by decide) (Q5 (a:=x) (l:=q) hb hn keep ?_ ⟨dx,?_⟩ (as:=as0) ?_ (Same.refl G) ?_ hb.fr (hb.gh.free nx) (hb.gh.free nq) (.inr nx) (.inr nq) (Ne.symm qx) g0) (JL hb keep (Same.refl _) (.inr nx) (.inr nq) fun b o e=>.inl e)
    . rw[z6]
      rcases jt hn with rfl | rfl <;> rfl
    . rw[z8 xds,e2]
      rfl
    . rw[RL,z8 qds]
      exact e3
    . intro b o e
      rw[z8 (z7 e (hb.fr _ (by simp[Bk.muts])))]
      exact s2 _ _ (hb.gh _ _ e)
end
end Tb
end
section
namespace Tb
open PySem PySem.Spec PyProof.Rows L2
open Vanbki (nats ofNat markNat numbers)
section
variable {C:Ad}{H G:Hp}{B:Bk}{ch:Chs}{s:Vanbki.State}
theorem Q8 (hb:BooksAt C H G B ch s) {n:Int} (hn:Vanbki.noSide n=false) {H4 H' G':Hp}{as:List Addr}{d:Vanbki.Doc}{k:Nat} (s4:Same H H4) (gg:Same G G') (g4:Same G' H4) (nw:∀ b o,G' b=some o->G b=some o∨H b=none) (cells:CellsAt C G' as d)
 (p1:∀ b,b≠zT B n->b≠zK B n->H' b=H4 b) (p2:RL H' (zK B n) as) (p3:∃ dx,H' (zT B n)=some (.ins C.cSide dx (qW (zK B n) k))):ue C H' G' B ch (Vanbki.setSide s n d k)/\Fr H G B H' G' B:=by
 have gf:∀ b,b∈B.muts->G' b=none:=fun b m=>by
  cases e:G' b with
  | none=>rfl
  | some o =>
   rcases nw b o e with z | z
   . rw[hb.fr b m] at z
     cases z
   . exact absurd m (hb.notNew z)
 have mA:=yt B n
 have mL:=QM B n
 have keep:∀ b o,H b=some o->b≠B.ds->b≠zT B n->b≠zK B n->H' b=some o:=fun b o e _ h2 h3=>by
  rw[p1 b h2 h3]
  exact s4 _ _ e
 have ne:=hb.ne
 have dsA:B.ds≠zT B n/\B.ds≠zK B n:=by
  simp only[Bk.muts,List.nodup_cons,List.mem_cons,List.not_mem_nil,or_false,not_or] at ne
  unfold zT zK
  split
  . exact⟨ne.2.1.1,ne.2.1.2.1⟩
  . exact⟨ne.2.1.2.2.1,ne.2.1.2.2.2.1⟩
 have h1:=Q5 (a:=zT B n) (l:=zK B n) hb hn keep (by rw[Kv,p1 _ dsA.1 dsA.2];exact s4 _ _ hb.sd) p3 p2 gg (fun b o e=>by
  have b1:b≠zT B n:=fun z=>by rw[z,gf _ mA] at e;cases e
  have b2:b≠zK B n:=fun z=>by rw[z,gf _ mL] at e;cases e
  rw[p1 b b1 b2]
  exact g4 _ _ e) gf (gf _ mA) (gf _ mL) (.inl rfl) (.inl rfl) (Ku hb.ne n) cells
 have h2:=JL (a:=zT B n) (l:=zK B n) (H':=H') hb keep gg (.inl rfl) (.inl rfl) nw
 rw[Kv] at h1 h2
 exact⟨h1,h2⟩
end
theorem abf {α:Type}{l:List α}{i:Nat}{c:α} (h:l[i]?=some c):l.set i c=l:=by
 obtain⟨hi,e⟩:=List.getElem?_eq_some_iff.mp h
 rw[<-e]
 exact List.set_getElem_self hi
theorem vP {row:List Int} (h:Vanbki.bytes row=true):nats (Vanbki.textOf row)=row:=by
 unfold nats Vanbki.textOf
 rw[List.map_map]
 have:∀ x,x∈row->(ofNat ∘ Int.toNat) x=x:=fun x hx=>by
  have:=(List.all_eq_true.mp h) x hx
  simp only[Bool.and_eq_true,decide_eq_true_eq] at this
  show ((x.toNat:Nat):Int)=x
  omega
 exact (List.map_congr_left this).trans (List.map_id' row)
theorem Q9 (row:List Int):jb [row]=if Vanbki.bytes row=true then (if Vanbki.tooLong row=true then -5 else 0) else -4:=by
 unfold jb
 simp
theorem Qa {d:Vanbki.Doc}{a:Int}{i:Nat} (nd:(numbers d).Nodup) (h:y8 d a=some i) (c:Vanbki.Cell):Vanbki.putBehind d a.toNat c=d.take i++c::d.drop i/\i<=d.length/\(a == 0 || Vanbki.hasI d a)=true:=by
 unfold y8 at h
 by_cases ha:a=0
 . rw[if_pos ha] at h
   cases h
   subst ha
   exact⟨wA,Nat.zero_le _,by simp⟩
 . rw[if_neg ha] at h
   cases e:jB d a with
   | none=>rw[e] at h;cases h
   | some j =>
    rw[e] at h
    cases h
    obtain⟨c',h1,h2,h3,h4,h5⟩:=jg e
    have hj:=xB e
    exact⟨Zj nd (by omega) h4,hj,by rw[ko,e];simp⟩
theorem Qb {d:Vanbki.Doc}{a:Int} (h:y8 d a=none):(a == 0 || Vanbki.hasI d a)=false:=by
 unfold y8 at h
 by_cases ha:a=0
 . rw[if_pos ha] at h
   cases h
 . rw[if_neg ha] at h
   rw[ko]
   cases e:jB d a with
   | none=>simp[ha]
   | some j=>rw[e] at h;cases h
def J3 (C:Ad):Sp:=fun vs H Q _=>∃ G B ch s n a t row,vs=[.ref (Bk.b B),.int n,.int a,.ref t]/\BooksAt C H G B ch s/\IL G t row/\row.length<=16000/\PostEdit C H G B ch s (Vanbki.sideEdit s (.new n a row)) Q
def uU (C:Ad):Sp:=fun vs H Q _=>∃ G B ch s n a t row,vs=[.ref (Bk.b B),.int n,.int a,.ref t]/\BooksAt C H G B ch s/\IL G t row/\row.length<=16000/\PostEdit C H G B ch s (Vanbki.sideEdit s (.write n a row)) Q
def Qc (C:Ad):Sp:=fun vs H Q _=>∃ G B ch s n a b,vs=[.ref (Bk.b B),.int n,.int a,.int b]/\BooksAt C H G B ch s/\PostEdit C H G B ch s (Vanbki.sideEdit s (.move n a b)) Q
def Qe (C:Ad):Sp:=fun vs H Q _=>∃ G B ch s n a,vs=[.ref (Bk.b B),.int n,.int a]/\BooksAt C H G B ch s/\PostEdit C H G B ch s (Vanbki.sideEdit s (.drop n a)) Q
def Qg (C:Ad):Sp:=fun vs H Q _=>∃ G B ch s n a b,vs=[.ref (Bk.b B),.int n,.int a,.int b]/\BooksAt C H G B ch s/\PostEdit C H G B ch s (Vanbki.sideEdit s (.hide n a b)) Q
section
variable {P:Program}{w:World}{K:PySem.W.Frag}{mg:Str->Option Value}{base:Heap}{C:Ad}{f:Addr}{fd:FuncData}
theorem XB {f1:Addr}{fd1:FuncData}{f2:Addr}{fd2:FuncData}{f3:Addr}{fd3:FuncData} (F:Fun K "new_cell" "new_cell" w6 f fd) (T:Txt K mg C) (D_place_behind:Def P w K mg base "place_behind" 2 ["cells","after"] (vX C) f1 fd1) (D_refusal_of_texts:Def P w K mg base "refusal_of_texts" 2 ["texts"] (j8) f2 fd2) (D_Cell:Cdf P w K mg base "Cell" 1 ["self","number","mark","text"] (qM C) C.cCell f3 fd3):zU P w K mg base CX0 3 f fd ["books","side","after","text"] (J3 C):=by
 refine F.ok sc_new_cell (fun vs H Q E h=>?_) (fun cdv A outer s H vs Q E hr h=>?_)
 . obtain⟨G,B,ch,s,n,a,t,row,rfl,_⟩:=h
   rfl
 . obtain⟨G,B,ch,s,n,a,t,row,rfl,hb,ht,hz,k⟩:=h
   have hu:=jL hr
   refine⟨_,(z5 (zC (qD (vk hu (pv 1) (zf (pv 0) rfl))) (za (zg (pgi T.g_NO_SIDE))) zj)
    (z5 (zi (i:=4) sc_new_cell.nd rfl (Or.inl rfl) (qc hu (zf (pv 0) rfl) (pv 1) (fun _ _=>rfl)))
    (z5 (zi (i:=5) sc_new_cell.nd rfl (Or.inl rfl) (ze D_place_behind (hr.mono (by decide)) (z4 (zf (pv 4) rfl) (z4 (pv 2) z9))))
    (z5 (zC (qD (jD (pv 5))) (za (zg (pgi T.g_NO_FIT_AFTER))) zj)
    (z5 (zi (i:=6) sc_new_cell.nd rfl (Or.inl rfl) (ze D_refusal_of_texts (hr.mono (by decide)) (z4 (zX (z4 (pv 3) z9)) z9)))
    (z5 (zC (zo yG (pv 6) (pgi T.g_NO_REFUSAL) (zz _)) (za (zg (pv 6))) zj)
    (z5 (zC (zo ab4 (zP qS (by rfl) T.b_len qR (z4 (zf (pv 4) rfl) z9)) (pgi T.g_MOST_CELLS) (zz _)) (za (zg (pgi T.g_TOO_MANY_CELLS))) zj)
    (z5 (zi (i:=7) sc_new_cell.nd rfl (Or.inl rfl) (zf (pv 4) rfl))
    (z5 (zC (zo QW (pv 7) (pgi T.g_GREATEST_NUMBER) (zz _)) (za (zg (pgi T.g_NUMBERS_USED_UP))) zj)
    (z5 (qt (jF PySem.F.plainAttrs_list PySem.F.slot_list_insert PySem.F.type_list_insert VF (zf (pv 4) rfl) (z4 (pv 5) (z4 (qj D_Cell (hr.mono (by decide)) (z4 (pv 7) (z4 zB (z4 (pv 3) z9)))) z9))))
    (z5 (qE (pv 4) (jE xV (pv 7) zB) rfl)
    (za (zg (pv 7)))))))))))))),?_⟩
   obtain⟨dxb,eb⟩:=hb.bk
   have S:=hb.ok
   refine⟨_,rfl,_,rfl,B.b,C.cBooks,dxb,_,_,rfl,eb,T.c_Books,T.n_Books_sides,zD _ _ _,B.ds,_,rfl,yO hb.sd n,_,rfl,?_⟩
   rw[vp]
   cases hn:Vanbki.noSide n with
   | true=>exact zF (k.no (qA (qf hn)) (by decide) (Same.refl _))
   | false =>
    refine zy ?_
    obtain⟨as,rS,cS,gS⟩:=hb.dS n
    obtain⟨dxs,eS⟩:=hb.sS n
    have D:=zW S n
    have hlen:=zk cS
    have zd:=D.len
    refine⟨_,rfl,B.b,C.cBooks,dxb,_,_,rfl,eb,T.c_Books,T.n_Books_sides,zD _ _ _,_,rfl,B.ds,_,rfl,j6 hb.sd hn,?_⟩
    refine⟨_,rfl,zT B n,C.cSide,dxs,_,_,rfl,eS,T.c_Side,T.n_Side_cells,zM _ _,_,rfl,zK B n,as,_,_,rfl,rS,cS,fun H1 s1=>?_⟩
    cases hp:y8 (Vanbki.sideDoc s n) a with
    | none =>
     refine⟨_,rfl,_,rfl,zF (k.no (qA ?_) (by decide) s1)⟩
     rw[zw hn,qf (by rw[Qb hp];rfl)]
    | some i =>
     obtain⟨b1,b2,b3⟩:=Qa D.nd hp ⟨Vanbki.sideNext s n,false,Vanbki.textOf row⟩
     refine⟨_,rfl,_,rfl,zy ?_⟩
     refine⟨_,rfl,(by show 1<=sizeLine;decide),fun u hu'=>?_⟩
     have s2:=s1.trans (Same.new (o:=.lst [.ref t]) hu')
     refine⟨u,[t],[row],rfl,z6,.cons (s2 _ _ (hb.gh _ _ ht)) .nil,(by show 1<=16000;decide),(by intro t' ht';rw[List.mem_singleton.mp ht'];exact hz),fun H2 s3=>?_⟩
     have s03:=s2.trans s3
     have f2:(!(a == 0 || Vanbki.hasI (Vanbki.sideDoc s n) a))=false:=by rw[b3];rfl
     have rt:=Q9 row
     refine⟨_,rfl,rfl,_,rfl,qJ (fun hh=>⟨_,rfl,?_⟩) (fun hh=>?_)⟩
     . cases hb1:Vanbki.bytes row with
       | false =>
        rw[rt,hb1,if_neg Bool.false_ne_true]
        refine k.no (qA ?_) (by decide) s03
        rw[zw hn,zw f2,qf (by rw[hb1];rfl)]
       | true =>
        cases hb2:Vanbki.tooLong row with
        | false =>
         rw[rt,hb1,hb2] at hh
         exact absurd rfl hh
        | true =>
         rw[rt,hb1,hb2,if_pos rfl,if_pos rfl]
         refine k.no (qA ?_) (by decide) s03
         rw[zw hn,zw f2,zw (by rw[hb1];rfl),qf hb2]
     . have hb1:Vanbki.bytes row=true:=by
        cases e:Vanbki.bytes row with
        | true=>rfl
        | false=>rw[rt,e,if_neg Bool.false_ne_true] at hh;exact absurd hh (by decide)
       have hb2:Vanbki.tooLong row=false:=by
        cases e:Vanbki.tooLong row with
        | false=>rfl
        | true=>rw[rt,hb1,e,if_pos rfl,if_pos rfl] at hh;exact absurd hh (by decide)
       have f3:(!Vanbki.bytes row)=false:=by rw[hb1];rfl
       have eS3:=s03 _ _ eS
       have rS3:=s03 _ _ rS
       refine⟨_,rfl,zT B n,C.cSide,dxs,_,_,rfl,eS3,T.c_Side,T.n_Side_cells,zM _ _,zK B n,_,rfl,.inl (SqL.of rS3),_,_,rfl,rfl,_,rfl,?_⟩
       by_cases h12:12<=(Vanbki.sideDoc s n).length
       . rw[decide_eq_true (by rw[List.length_map,hlen];omega)]
         refine zF (k.no (qA ?_) (by decide) s03)
         rw[zw hn,zw f2,zw f3,zw hb2,qf (show decide (Vanbki.CELLS<=(Vanbki.sideDoc s n).length)=true from decide_eq_true h12)]
       . rw[decide_eq_false (by rw[List.length_map,hlen];omega)]
         refine zy ?_
         have f4:decide (Vanbki.CELLS<=(Vanbki.sideDoc s n).length)=false:=decide_eq_false h12
         refine⟨_,rfl,zT B n,C.cSide,dxs,_,_,rfl,eS3,T.c_Side,T.n_Side_next_number,Kg _ _,?_⟩
         refine⟨_,rfl,_,_,rfl,rfl,_,rfl,?_⟩
         by_cases h99:99<Vanbki.sideNext s n
         . rw[decide_eq_true (by omega)]
           refine zF (k.no (qA ?_) (by decide) s03)
           rw[zw hn,zw f2,zw f3,zw hb2,zw f4,qf (by simpa using h99)]
         . rw[decide_eq_false (by omega)]
           refine zy ?_
           have f5:decide (99<Vanbki.sideNext s n)=false:=by simpa using h99
           refine⟨_,rfl,zT B n,C.cSide,dxs,_,_,rfl,eS3,T.c_Side,T.n_Side_cells,zM _ _,.inl ⟨rfl,_,SqL.of rS3⟩,_,rfl,_,rfl,_,rfl,?_⟩
           intro y dy ny nd ne
           refine⟨y,dy,_,_,_,rfl,z6,rfl,?_⟩
           have s4':=jr (c:=C.cCell) (fs:=k5 (Vanbki.sideNext s n:Nat) 0 t) ny nd
           have s4:=s03.trans s4'
           have y0:=s03.free ny
           refine⟨zK B n,_,i,_,rfl,rfl,s4' _ _ rS3,(by rw[List.length_map,hlen];exact b2),(by rw[List.length_map,hlen];exact qO (by omega)),?_⟩
           have mA:=yt B n
           have nAL:=Ku hb.ne n
           refine⟨_,rfl,_,_,rfl,rfl,_,rfl,zT B n,C.cSide,dxs,_,rfl,(by rw[z8 nAL];exact s4 _ _ eS),T.c_Side,T.n_Side_next_number,(by show 2<1000;decide),_,rfl,?_⟩
           obtain⟨g1,g2⟩:=QN (C:=C) (o:=.ins C.cCell dy (k5 (Vanbki.sideNext s n:Nat) 0 t)) hb.gh y0
           obtain⟨q1,q2⟩:=Q8 hb hn (H4:=upd (upd (upd H2 dy (.own y)) y (.ins C.cCell dy [])) y (.ins C.cCell dy (k5 (Vanbki.sideNext s n:Nat) 0 t)))
            (H':=upd (upd (upd (upd (upd H2 dy (.own y)) y (.ins C.cCell dy [])) y (.ins C.cCell dy (k5 (Vanbki.sideNext s n:Nat) 0 t))) (zK B n) (.lst ((as.map V.ref).take i++.ref y::(as.map V.ref).drop i))) (zT B n) (.ins C.cSide dxs (qW (zK B n) ((Vanbki.sideNext s n:Nat)+1))))
            (as:=as.take i++y::as.drop i) (d:=(Vanbki.sideDoc s n).take i++⟨Vanbki.sideNext s n,false,Vanbki.textOf row⟩::(Vanbki.sideDoc s n).drop i) (k:=Vanbki.sideNext s n+1) s4 g1 (fun b o e=>by
             by_cases hby:b=y
             . rw[hby,z6] at e
               rw[hby,z6]
               exact e
             . rw[z8 hby] at e
               exact s4 _ _ (hb.gh _ _ e)) g2
            (zI (jh _ (gS.mono g1)) (.cons ⟨dy,t,z6,by rw[vP hb1];exact g1 _ _ ht⟩ (ji _ (gS.mono g1))))
            (fun b h1 h2=>by rw[z8 h1,z8 h2]) (by rw[RL,z8 (Ne.symm nAL),z6];simp) ⟨dxs,by rw[z6];rfl⟩
           refine k.yes (yP ?_ |>.trans ?_) (by show (0:Int)<=(Vanbki.sideNext s n:Nat);omega) q1 q2
           . rw[zw hn,zw f2,zw f3,zw hb2,zw f4,zw f5]
             rfl
           . rw[b1]
             rfl
theorem Yw {f1:Addr}{fd1:FuncData}{f2:Addr}{fd2:FuncData} (F:Fun K "drop_cell" "drop_cell" x9 f fd) (T:Txt K mg C) (D_refusal_of_cell:Def P w K mg base "refusal_of_cell" 2 ["books","side","number"] (qU C) f1 fd1) (D_place_of:Def P w K mg base "place_of" 1 ["cells","number"] (jj C) f2 fd2):zU P w K mg base CX0 3 f fd ["books","side","number"] (Qe C):=by
 refine F.ok sc_drop_cell (fun vs H Q E h=>?_) (fun cdv A outer s H vs Q E hr h=>?_)
 . obtain⟨G,B,ch,s,n,a,rfl,_⟩:=h
   rfl
 . obtain⟨G,B,ch,s,n,a,rfl,hb,k⟩:=h
   have hu:=jL hr
   refine⟨_,(z5 (zi (i:=3) sc_drop_cell.nd rfl (Or.inl rfl) (ze D_refusal_of_cell (hr.mono (by decide)) (z4 (pv 0) (z4 (pv 1) (z4 (pv 2) z9)))))
    (z5 (zC (zo yG (pv 3) (pgi T.g_NO_REFUSAL) (zz _)) (za (zg (pv 3))) zj)
    (z5 (zi (i:=4) sc_drop_cell.nd rfl (Or.inl rfl) (zf (qc hu (zf (pv 0) rfl) (pv 1) (fun _ _=>rfl)) rfl))
    (z5 (qt (jF PySem.F.plainAttrs_list PySem.F.slot_list_pop PySem.F.type_list_pop aaL (pv 4) (z4 (ze D_place_of (hr.mono (by decide)) (z4 (pv 4) (z4 (pv 2) z9))) z9)))
    (za (zg zB)))))),?_⟩
   obtain⟨dxb,eb⟩:=hb.bk
   have S:=hb.ok
   refine⟨_,rfl,_,rfl,_,rfl,G,B,ch,s,n,a,rfl,hb,fun H1 s1=>?_⟩
   refine⟨_,rfl,rfl,_,rfl,qJ (fun hh=>⟨_,rfl,?_⟩) (fun hh=>?_)⟩
   . rcases jN s n a with ⟨hn,e⟩ | ⟨hn,h1,e⟩ | ⟨hn,h1,e⟩
     . exact k.no (n:=Q6 s n a) (by rw[e];exact qA (qf hn)) (by rw[e];decide) s1
     . exact k.no (n:=Q6 s n a) (by rw[e];exact qA (by rw[zw hn,qf (by rw[h1];rfl)])) (by rw[e];decide) s1
     . exact absurd e hh
   . obtain⟨hn,h1⟩:Vanbki.noSide n=false/\Vanbki.hasI (Vanbki.sideDoc s n) a=true:=by
      rcases jN s n a with ⟨hn,e⟩ | ⟨hn,h1,e⟩ | ⟨hn,h1,e⟩
      . rw[e] at hh;exact absurd hh (by decide)
      . rw[e] at hh;exact absurd hh (by decide)
      . exact⟨hn,h1⟩
     have f1:(!Vanbki.hasI (Vanbki.sideDoc s n) a)=false:=by rw[h1];rfl
     obtain⟨as,rS,cS,gS⟩:=hb.dS n
     obtain⟨dxs,eS⟩:=hb.sS n
     have D:=zW S n
     have hlen:=zk cS
     have zd:=D.len
     have eb1:=s1 _ _ eb
     refine⟨_,rfl,B.b,C.cBooks,dxb,_,_,rfl,eb1,T.c_Books,T.n_Books_sides,zD _ _ _,_,rfl,B.ds,_,rfl,j6 (s1 _ _ hb.sd) hn,zT B n,C.cSide,dxs,_,_,rfl,s1 _ _ eS,T.c_Side,T.n_Side_cells,zM _ _,?_⟩
     rw[ko] at h1
     obtain⟨i,hp⟩:=Option.isSome_iff_exists.mp h1
     obtain⟨c,i1,i2,i3,i4,i5⟩:=jg hp
     have hil:=xB hp
     obtain⟨ai,hai⟩:∃ ai,as[i]?=some ai:=⟨_,List.getElem?_eq_getElem (by omega)⟩
     refine⟨_,rfl,.inl ⟨rfl,_,SqL.of (s1 _ _ rS)⟩,_,rfl,_,rfl,zK B n,as,_,_,rfl,s1 _ _ rS,cS.mono s1,fun H2 s2=>?_⟩
     have s02:=s1.trans s2
     rw[hp]
     refine⟨zK B n,_,_,i,.ref ai,rfl,rfl,s02 _ _ rS,(by omega),(by omega),?_,(by rw[List.getElem?_map,hai];rfl),?_⟩
     . have e:=Y6 (n:=(as.map V.ref).length) (i:=((i:Nat):Int)) (j:=i) (by
        unfold ixN
        rw[if_pos (by omega),if_pos (by rw[List.length_map];omega)]
        simp)
       exact e.1
     . obtain⟨q1,q2⟩:=Q8 hb hn (H4:=H2) (G':=G) (H':=upd H2 (zK B n) (.lst ((as.map V.ref).eraseIdx i))) (as:=as.take i++as.drop (i+1)) (d:=(Vanbki.sideDoc s n).take i++(Vanbki.sideDoc s n).drop (i+1)) (k:=Vanbki.sideNext s n) s02 (Same.refl _) (hb.gh.trans s02) (fun b o e=>.inl e)
        (zI (jh _ gS) (ji _ gS)) (fun b h1 h2=>by rw[z8 h2]) (by rw[RL,z6,List.eraseIdx_eq_take_drop_succ];simp) ⟨dxs,by rw[z8 (Ku hb.ne n)];exact s02 _ _ eS⟩
       refine k.yes (yP ?_ |>.trans ?_) (by decide) q1 q2
       . rw[zw hn,zw f1]
         rfl
       . rw[xu D.nd i4]
theorem V3 {f1:Addr}{fd1:FuncData}{f2:Addr}{fd2:FuncData}{f3:Addr}{fd3:FuncData}{f4:Addr}{fd4:FuncData} (F:Fun K "write_cell" "write_cell" yk f fd) (T:Txt K mg C) (D_refusal_of_cell:Def P w K mg base "refusal_of_cell" 2 ["books","side","number"] (qU C) f1 fd1) (D_refusal_of_texts:Def P w K mg base "refusal_of_texts" 2 ["texts"] (j8) f2 fd2) (D_place_of:Def P w K mg base "place_of" 1 ["cells","number"] (jj C) f3 fd3) (D_Cell:Cdf P w K mg base "Cell" 1 ["self","number","mark","text"] (qM C) C.cCell f4 fd4):zU P w K mg base CX0 3 f fd ["books","side","number","text"] (uU C):=by
 refine F.ok sc_write_cell (fun vs H Q E h=>?_) (fun cdv A outer s H vs Q E hr h=>?_)
 . obtain⟨G,B,ch,s,n,a,t,row,rfl,_⟩:=h
   rfl
 . obtain⟨G,B,ch,s,n,a,t,row,rfl,hb,ht,hz,k⟩:=h
   have hu:=jL hr
   refine⟨_,(z5 (zi (i:=4) sc_write_cell.nd rfl (Or.inl rfl) (ze D_refusal_of_cell (hr.mono (by decide)) (z4 (pv 0) (z4 (pv 1) (z4 (pv 2) z9)))))
    (z5 (zC (zo yG (pv 4) (pgi T.g_NO_REFUSAL) (zz _)) (za (zg (pv 4))) zj)
    (z5 (zi (i:=4) sc_write_cell.nd rfl (Or.inl rfl) (ze D_refusal_of_texts (hr.mono (by decide)) (z4 (zX (z4 (pv 3) z9)) z9)))
    (z5 (zC (zo yG (pv 4) (pgi T.g_NO_REFUSAL) (zz _)) (za (zg (pv 4))) zj)
    (z5 (zi (i:=5) sc_write_cell.nd rfl (Or.inl rfl) (zf (qc hu (zf (pv 0) rfl) (pv 1) (fun _ _=>rfl)) rfl))
    (z5 (zi (i:=6) sc_write_cell.nd rfl (Or.inl rfl) (ze D_place_of (hr.mono (by decide)) (z4 (pv 5) (z4 (pv 2) z9))))
    (z5 (zC (zo (wP hr.units) (zf (qk qb (pv 5) (pv 6) (fun _ _=>rfl)) rfl) (pv 3) (zz _)) (za (zg (pgi T.g_NOTHING_CHANGES))) zj)
    (z5 (aaA (qj D_Cell (hr.mono (by decide)) (z4 (pv 2) (z4 (zf (qk qb (pv 5) (pv 6) (fun _ _=>rfl)) rfl) (z4 (pv 3) z9)))) (aaz (pv 5) (pv 6) Xf))
    (za (zg zB)))))))))),?_⟩
   obtain⟨dxb,eb⟩:=hb.bk
   have S:=hb.ok
   refine⟨_,rfl,_,rfl,_,rfl,G,B,ch,s,n,a,rfl,hb,fun H1 s1=>?_⟩
   refine⟨_,rfl,rfl,_,rfl,qJ (fun hh=>⟨_,rfl,?_⟩) (fun hh=>?_)⟩
   . rcases jN s n a with ⟨hn,e⟩ | ⟨hn,h1,e⟩ | ⟨hn,h1,e⟩
     . exact k.no (n:=Q6 s n a) (by rw[e];exact qA (qf hn)) (by rw[e];decide) s1
     . exact k.no (n:=Q6 s n a) (by rw[e];exact qA (by rw[zw hn,qf (by rw[h1];rfl)])) (by rw[e];decide) s1
     . exact absurd e hh
   . obtain⟨hn,h1⟩:Vanbki.noSide n=false/\Vanbki.hasI (Vanbki.sideDoc s n) a=true:=by
      rcases jN s n a with ⟨hn,e⟩ | ⟨hn,h1,e⟩ | ⟨hn,h1,e⟩
      . rw[e] at hh;exact absurd hh (by decide)
      . rw[e] at hh;exact absurd hh (by decide)
      . exact⟨hn,h1⟩
     have f1:(!Vanbki.hasI (Vanbki.sideDoc s n) a)=false:=by rw[h1];rfl
     refine⟨_,rfl,(by show 1<=sizeLine;decide),fun u hu'=>?_⟩
     have s2:=s1.trans (Same.new (o:=.lst [.ref t]) hu')
     refine⟨u,[t],[row],rfl,z6,.cons (s2 _ _ (hb.gh _ _ ht)) .nil,(by show 1<=16000;decide),(by intro t' ht';rw[List.mem_singleton.mp ht'];exact hz),fun H2 s3=>?_⟩
     have s03:=s2.trans s3
     have rt:=Q9 row
     refine⟨_,rfl,rfl,_,rfl,qJ (fun hh=>⟨_,rfl,?_⟩) (fun hh=>?_)⟩
     . cases hb1:Vanbki.bytes row with
       | false =>
        rw[rt,hb1,if_neg Bool.false_ne_true]
        refine k.no (qA ?_) (by decide) s03
        rw[zw hn,zw f1,qf (by rw[hb1];rfl)]
       | true =>
        cases hb2:Vanbki.tooLong row with
        | false =>
         rw[rt,hb1,hb2] at hh
         exact absurd rfl hh
        | true =>
         rw[rt,hb1,hb2,if_pos rfl,if_pos rfl]
         refine k.no (qA ?_) (by decide) s03
         rw[zw hn,zw f1,zw (by rw[hb1];rfl),qf hb2]
     . have hb1:Vanbki.bytes row=true:=by
        cases e:Vanbki.bytes row with
        | true=>rfl
        | false=>rw[rt,e,if_neg Bool.false_ne_true] at hh;exact absurd hh (by decide)
       have hb2:Vanbki.tooLong row=false:=by
        cases e:Vanbki.tooLong row with
        | false=>rfl
        | true=>rw[rt,hb1,e,if_pos rfl,if_pos rfl] at hh;exact absurd hh (by decide)
       have f3:(!Vanbki.bytes row)=false:=by rw[hb1];rfl
       obtain⟨as,rS,cS,gS⟩:=hb.dS n
       obtain⟨dxs,eS⟩:=hb.sS n
       have D:=zW S n
       have hlen:=zk cS
       have zd:=D.len
       have eb3:=s03 _ _ eb
       have rS3:=s03 _ _ rS
       refine⟨_,rfl,B.b,C.cBooks,dxb,_,_,rfl,eb3,T.c_Books,T.n_Books_sides,zD _ _ _,_,rfl,B.ds,_,rfl,j6 (s03 _ _ hb.sd) hn,zT B n,C.cSide,dxs,_,_,rfl,s03 _ _ eS,T.c_Side,T.n_Side_cells,zM _ _,?_⟩
       rw[ko] at h1
       obtain⟨i,hp⟩:=Option.isSome_iff_exists.mp h1
       obtain⟨c,i1,i2,i3,i4,i5⟩:=jg hp
       have hil:=xB hp
       obtain⟨ai,hai⟩:∃ ai,as[i]?=some ai:=⟨_,List.getElem?_eq_getElem (by omega)⟩
       obtain⟨c',hc',hca⟩:=zG gS hai
       rw[i1] at hc'
       cases hc'
       refine⟨_,rfl,_,rfl,zK B n,as,_,_,rfl,rS3,cS.mono s03,fun H4 s4=>?_⟩
       have s04:=s03.trans s4
       have rS4:=s04 _ _ rS
       rw[hp]
       obtain⟨dxc,tq,ec,et⟩:=hca.mono (hb.gh.trans s04)
       have hat:atI (as.map V.ref) ((i:Nat):Int)=some (.ref ai):=zV (by rw[List.getElem?_map,hai];rfl)
       have hc1:Vanbki.changed1 (Vanbki.sideDoc s n) a.toNat (fun c=>{ c with text:=Vanbki.textOf row })=(Vanbki.sideDoc s n).set i { c with text:=Vanbki.textOf row }:=yw D.nd i4 i1
       refine⟨_,rfl,_,rfl,zK B n,_,_,_,rfl,rfl,SqL.of rS4,hat,ai,C.cCell,dxc,_,_,rfl,ec,T.c_Cell,T.n_Cell_text,zN _ _ _,_,rfl,_,_,vO et,vO (s04 _ _ (hb.gh _ _ ht)),q5 _,q5 _,_,rfl,?_⟩
       rw[vJ]
       have same:((Vanbki.changed1 (Vanbki.sideDoc s n) a.toNat (fun c=>{ c with text:=Vanbki.textOf row })) == Vanbki.sideDoc s n)=decide (nats c.text=row):=by
        rw[hc1]
        by_cases hx:nats c.text=row
        . rw[decide_eq_true hx]
          have:Vanbki.textOf row=c.text:=kJ (by rw[vP hb1,hx])
          rw[this]
          rw[beq_iff_eq]
          exact abf i1
        . rw[decide_eq_false hx]
          rw[beq_eq_false_iff_ne]
          intro z
          apply hx
          have h1:((Vanbki.sideDoc s n).set i { c with text:=Vanbki.textOf row })[i]?=some { c with text:=Vanbki.textOf row }:=List.getElem?_set_self hil
          rw[z,i1] at h1
          have h2:=Option.some.inj h1
          have h3:c.text=Vanbki.textOf row:=congrArg Vanbki.Cell.text h2
          rw[h3,vP hb1]
       by_cases hx:nats c.text=row
       . rw[decide_eq_true hx]
         refine zF (k.no (qA ?_) (by decide) s04)
         rw[zw hn,zw f1,zw f3,zw hb2,qf (by rw[same,decide_eq_true hx])]
       . rw[decide_eq_false hx]
         refine zy ?_
         refine⟨_,rfl,_,rfl,_,rfl,zK B n,_,_,_,rfl,rfl,SqL.of rS4,hat,ai,C.cCell,dxc,_,_,rfl,ec,T.c_Cell,T.n_Cell_mark,qo _ _ _,_,rfl,?_⟩
         intro y dy ny nd ne
         refine⟨y,dy,_,_,_,rfl,z6,rfl,?_⟩
         have s5':=jr (c:=C.cCell) (fs:=k5 a (markNat c.hidden:Nat) t) ny nd
         have s5:=s04.trans s5'
         have y0:=s04.free ny
         refine⟨_,rfl,_,rfl,zK B n,_,_,i,rfl,rfl,s5 _ _ rS,(by unfold ixN;rw[if_pos (by omega),if_pos (by rw[List.length_map];omega)];simp),?_⟩
         obtain⟨g1,g2⟩:=QN (C:=C) (o:=.ins C.cCell dy (k5 a (markNat c.hidden:Nat) t)) hb.gh y0
         obtain⟨q1,q2⟩:=Q8 hb hn (H4:=upd (upd (upd H4 dy (.own y)) y (.ins C.cCell dy [])) y (.ins C.cCell dy (k5 a (markNat c.hidden:Nat) t)))
          (H':=upd (upd (upd (upd H4 dy (.own y)) y (.ins C.cCell dy [])) y (.ins C.cCell dy (k5 a (markNat c.hidden:Nat) t))) (zK B n) (.lst ((as.map V.ref).set i (.ref y))))
          (as:=as.set i y) (d:=(Vanbki.sideDoc s n).set i { c with text:=Vanbki.textOf row }) (k:=Vanbki.sideNext s n) s5 g1 (fun b o e=>by
           by_cases hby:b=y
           . rw[hby,z6] at e
             rw[hby,z6]
             exact e
           . rw[z8 hby] at e
             exact s5 _ _ (hb.gh _ _ e)) g2
          (Z9 ⟨dy,t,by rw[z6,<-i2],by rw[vP hb1];exact g1 _ _ ht⟩ i (gS.mono g1))
          (fun b h1 h2=>by rw[z8 h2]) (by rw[RL,z6,List.map_set]) ⟨dxs,by rw[z8 (Ku hb.ne n)];exact s5 _ _ eS⟩
         refine k.yes (yP ?_ |>.trans ?_) (by decide) q1 q2
         . rw[zw hn,zw f1,zw f3,zw hb2,zw (by rw[same,decide_eq_false hx])]
           rfl
         . rw[hc1]
end
end Tb
end
section
namespace Tb
open PySem PySem.Spec PyProof.Rows L2
open Vanbki (nats ofNat markNat numbers)
theorem VH {P R G:Prop} (h1:(P->R)->G) (h2:P->R):G:=h1 h2
def Kw (as:List Addr) (i:Nat):List (Option V):=(as.take i).map (fun a=>some (V.ref a))++none::(as.drop (i+1)).map (fun a=>some (V.ref a))
theorem UX {as:List Addr}{i:Nat} (h:i<as.length):(Kw as i).length=(as.map V.ref).length:=by
 unfold Kw
 simp
 omega
theorem WB (as:List Addr) (i:Nat):(Kw as i).filterMap id=(as.take i++as.drop (i+1)).map V.ref:=by
 have key:∀ l:List Addr,(l.map fun a=>some (V.ref a)).filterMap id=l.map V.ref:=fun l=>by
  induction l with
  | nil=>rfl
  | cons x l ih=>simp[ih]
 unfold Kw
 rw[List.filterMap_append,List.filterMap_cons_none rfl,key,key,List.map_append]
theorem abg {as:List Addr}{i j:Nat}{a:Addr}{y:Option V} (h:i<as.length) (ha:as[j]?=some a) (hy:(Kw as i)[j]?=some y):y=if j=i then none else some (.ref a):=by
 unfold Kw at hy
 by_cases h1:j<i
 . rw[List.getElem?_append_left (by simp;omega),List.getElem?_map,List.getElem?_take_of_lt h1,ha] at hy
   rw[if_neg (by omega)]
   exact (Option.some.inj hy).symm
 . rw[List.getElem?_append_right (by simp;omega)] at hy
   have e:j - ((as.take i).map fun a=>some (V.ref a)).length=j - i:=by simp;omega
   rw[e] at hy
   by_cases h2:j=i
   . subst h2
     rw[Nat.sub_self] at hy
     rw[if_pos rfl]
     exact (Option.some.inj hy).symm
   . obtain⟨k,rfl⟩:∃ k,j=i+1+k:=⟨j - (i+1),by omega⟩
     have e2:i+1+k - i=k+1:=by omega
     rw[e2,List.getElem?_cons_succ,List.getElem?_map,List.getElem?_drop,ha] at hy
     rw[if_neg h2]
     exact (Option.some.inj hy).symm
theorem Yx {d:Vanbki.Doc}{a:Int} (b:Int) (h:0<=a):Vanbki.hasI (Vanbki.dropped d a.toNat) b=(Vanbki.hasI d b && !(b == a)):=by
 have hn:numbers (Vanbki.dropped d a.toNat)=(numbers d).filter fun n=>n != a.toNat:=by
  unfold numbers Vanbki.dropped
  rw[List.filter_map]
  rfl
 unfold Vanbki.hasI
 rw[xl,xl,hn]
 by_cases h0:0<=b
 . rw[decide_eq_true h0,Bool.true_and,Bool.true_and]
   by_cases hba:b=a
   . subst hba
     simp
   . have e1:(b == a)=false:=by simpa using hba
     have e2:b.toNat≠a.toNat:=by omega
     rw[e1,Bool.not_false,Bool.and_true]
     exact decide_eq_decide.mpr (by rw[List.mem_filter];simp[e2])
 . rw[decide_eq_false h0]
   rfl
theorem abh {d:Vanbki.Doc}{i j:Nat}{c c':Vanbki.Cell}{a:Int} (nd:(numbers d).Nodup) (hi:d[i]?=some c) (e:(c.number:Int)=a) (hj:d[j]?=some c'):(c'.number:Int)=a ↔ j=i:=by
 constructor
 . intro e'
   have h1:(numbers d)[i]?=some c.number:=by unfold numbers;rw[List.getElem?_map,hi];rfl
   have h2:(numbers d)[j]?=some c'.number:=by unfold numbers;rw[List.getElem?_map,hj];rfl
   have:c.number=c'.number:=by omega
   rw[this] at h1
   exact ((List.getElem?_inj (List.getElem?_eq_some_iff.mp h2).1 nd).mp (h2.trans h1.symm))
 . intro e'
   subst e'
   rw[hi] at hj
   cases hj
   exact e
section
variable {P:Program}{w:World}{K:PySem.W.Frag}{mg:Str->Option Value}{base:Heap}{C:Ad}{f:Addr}{fd:FuncData}
theorem Yy {f1:Addr}{fd1:FuncData}{f2:Addr}{fd2:FuncData}{f3:Addr}{fd3:FuncData} (F:Fun K "hide_cell" "hide_cell" xa f fd) (T:Txt K mg C) (D_refusal_of_cell:Def P w K mg base "refusal_of_cell" 2 ["books","side","number"] (qU C) f1 fd1) (D_place_of:Def P w K mg base "place_of" 1 ["cells","number"] (jj C) f2 fd2) (D_Cell:Cdf P w K mg base "Cell" 1 ["self","number","mark","text"] (qM C) C.cCell f3 fd3):zU P w K mg base CX0 3 f fd ["books","side","number","mark"] (Qg C):=by
 refine F.ok sc_hide_cell (fun vs H Q E h=>?_) (fun cdv A outer s H vs Q E hr h=>?_)
 . obtain⟨G,B,ch,s,n,a,m,rfl,_⟩:=h
   rfl
 . obtain⟨G,B,ch,s,n,a,m,rfl,hb,k⟩:=h
   have hu:=jL hr
   refine⟨_,(z5 (zi (i:=4) sc_hide_cell.nd rfl (Or.inl rfl) (ze D_refusal_of_cell (hr.mono (by decide)) (z4 (pv 0) (z4 (pv 1) (z4 (pv 2) z9)))))
    (z5 (zC (zo yG (pv 4) (pgi T.g_NO_REFUSAL) (zz _)) (za (zg (pv 4))) zj)
    (z5 (zC (Y0 (zo yG (pv 3) zB (zz _)) (JG (zo yG (pv 3) zB (zz _)))).pt (za (zg (pgi T.g_NO_MARK))) zj)
    (z5 (zi (i:=5) sc_hide_cell.nd rfl (Or.inl rfl) (zf (qc hu (zf (pv 0) rfl) (pv 1) (fun _ _=>rfl)) rfl))
    (z5 (zi (i:=6) sc_hide_cell.nd rfl (Or.inl rfl) (ze D_place_of (hr.mono (by decide)) (z4 (pv 5) (z4 (pv 2) z9))))
    (z5 (zC (zo qN (zf (qk qb (pv 5) (pv 6) (fun _ _=>rfl)) rfl) (pv 3) (zz _)) (za (zg (pgi T.g_NOTHING_CHANGES))) zj)
    (z5 (aaA (qj D_Cell (hr.mono (by decide)) (z4 (pv 2) (z4 (pv 3) (z4 (zf (qk qb (pv 5) (pv 6) (fun _ _=>rfl)) rfl) z9)))) (aaz (pv 5) (pv 6) Xf))
    (za (zg zB))))))))),?_⟩
   obtain⟨dxb,eb⟩:=hb.bk
   have S:=hb.ok
   refine⟨_,rfl,_,rfl,_,rfl,G,B,ch,s,n,a,rfl,hb,fun H1 s1=>?_⟩
   refine⟨_,rfl,rfl,_,rfl,qJ (fun hh=>⟨_,rfl,?_⟩) (fun hh=>?_)⟩
   . rcases jN s n a with ⟨hn,e⟩ | ⟨hn,h1,e⟩ | ⟨hn,h1,e⟩
     . exact k.no (n:=Q6 s n a) (by rw[e];exact qA (qf hn)) (by rw[e];decide) s1
     . exact k.no (n:=Q6 s n a) (by rw[e];exact qA (by rw[zw hn,qf (by rw[h1];rfl)])) (by rw[e];decide) s1
     . exact absurd e hh
   . obtain⟨hn,h1⟩:Vanbki.noSide n=false/\Vanbki.hasI (Vanbki.sideDoc s n) a=true:=by
      rcases jN s n a with ⟨hn,e⟩ | ⟨hn,h1,e⟩ | ⟨hn,h1,e⟩
      . rw[e] at hh;exact absurd hh (by decide)
      . rw[e] at hh;exact absurd hh (by decide)
      . exact⟨hn,h1⟩
     have f1:(!Vanbki.hasI (Vanbki.sideDoc s n) a)=false:=by rw[h1];rfl
     refine⟨_,rfl,rfl,_,rfl,?_⟩
     apply VH (P:=m=0∨m=1)
     . intro rest
       by_cases h0:m=0
       . rw[decide_eq_true (by rw[h0])]
         exact zy (rest (.inl h0))
       . have e0:¬(V.int m=V.int 0):=fun e=>h0 (by injection e)
         rw[decide_eq_false e0]
         refine zF ⟨_,rfl,rfl,_,rfl,?_⟩
         by_cases h1:m=1
         . rw[decide_eq_true (by rw[h1])]
           exact zy (rest (.inr h1))
         . have e1:¬(V.int m=V.int 1):=fun e=>h1 (by injection e)
           rw[decide_eq_false e1]
           refine zF (k.no (qA ?_) (by decide) s1)
           rw[zw hn,zw f1,qf (by simp[h0,h1])]
     . intro hm
       have f2:(!(m == 0 || m == 1))=false:=by
        rcases hm with rfl | rfl <;> rfl
       obtain⟨as,rS,cS,gS⟩:=hb.dS n
       obtain⟨dxs,eS⟩:=hb.sS n
       have D:=zW S n
       have hlen:=zk cS
       have zd:=D.len
       have eb1:=s1 _ _ eb
       have rS1:=s1 _ _ rS
       refine⟨_,rfl,B.b,C.cBooks,dxb,_,_,rfl,eb1,T.c_Books,T.n_Books_sides,zD _ _ _,_,rfl,B.ds,_,rfl,j6 (s1 _ _ hb.sd) hn,zT B n,C.cSide,dxs,_,_,rfl,s1 _ _ eS,T.c_Side,T.n_Side_cells,zM _ _,?_⟩
       rw[ko] at h1
       obtain⟨i,hp⟩:=Option.isSome_iff_exists.mp h1
       obtain⟨c,i1,i2,i3,i4,i5⟩:=jg hp
       have hil:=xB hp
       obtain⟨ai,hai⟩:∃ ai,as[i]?=some ai:=⟨_,List.getElem?_eq_getElem (by omega)⟩
       obtain⟨c',hc',hca⟩:=zG gS hai
       rw[i1] at hc'
       cases hc'
       refine⟨_,rfl,_,rfl,zK B n,as,_,_,rfl,rS1,cS.mono s1,fun H4 s4=>?_⟩
       have s04:=s1.trans s4
       have rS4:=s04 _ _ rS
       rw[hp]
       obtain⟨dxc,tq,ecG,etG⟩:=hca
       have ec:=s04 _ _ (hb.gh _ _ ecG)
       have hat:atI (as.map V.ref) ((i:Nat):Int)=some (.ref ai):=zV (by rw[List.getElem?_map,hai];rfl)
       have hc1:Vanbki.changed1 (Vanbki.sideDoc s n) a.toNat (fun c=>{ c with hidden:=m == 1 })=(Vanbki.sideDoc s n).set i { c with hidden:=m == 1 }:=yw D.nd i4 i1
       have hmk:((markNat c.hidden:Nat):Int)=m ↔ (c.hidden=(m == 1)):=by
        rcases hm with rfl | rfl <;> cases c.hidden <;> decide
       refine⟨_,rfl,_,rfl,zK B n,_,_,_,rfl,rfl,SqL.of rS4,hat,ai,C.cCell,dxc,_,_,rfl,ec,T.c_Cell,T.n_Cell_mark,qo _ _ _,_,rfl,rfl,_,rfl,?_⟩
       have same:((Vanbki.changed1 (Vanbki.sideDoc s n) a.toNat (fun c=>{ c with hidden:=m == 1 })) == Vanbki.sideDoc s n)=decide (((markNat c.hidden:Nat):Int)=m):=by
        rw[hc1]
        by_cases hx:((markNat c.hidden:Nat):Int)=m
        . rw[decide_eq_true hx]
          rw[<-hmk.mp hx]
          rw[beq_iff_eq]
          exact abf i1
        . rw[decide_eq_false hx]
          rw[beq_eq_false_iff_ne]
          intro z
          apply hx
          have h1:((Vanbki.sideDoc s n).set i { c with hidden:=m == 1 })[i]?=some { c with hidden:=m == 1 }:=List.getElem?_set_self hil
          rw[z,i1] at h1
          have h2:=Option.some.inj h1
          exact hmk.mpr (congrArg Vanbki.Cell.hidden h2)
       have hdec:decide (V.int ((markNat c.hidden:Nat):Int)=V.int m)=decide (((markNat c.hidden:Nat):Int)=m):=decide_eq_decide.mpr ⟨fun e=>by injection e,fun e=>by rw[e]⟩
       rw[hdec]
       by_cases hx:((markNat c.hidden:Nat):Int)=m
       . rw[decide_eq_true hx]
         refine zF (k.no (qA ?_) (by decide) s04)
         rw[zw hn,zw f1,zw f2,qf (by rw[same,decide_eq_true hx])]
       . rw[decide_eq_false hx]
         refine zy ?_
         refine⟨_,rfl,_,rfl,_,rfl,_,rfl,zK B n,_,_,_,rfl,rfl,SqL.of rS4,hat,ai,C.cCell,dxc,_,_,rfl,ec,T.c_Cell,T.n_Cell_text,zN _ _ _,?_⟩
         intro y dy ny nd ne
         refine⟨y,dy,_,_,_,rfl,z6,rfl,?_⟩
         have s5':=jr (c:=C.cCell) (fs:=k5 a m tq) ny nd
         have s5:=s04.trans s5'
         have y0:=s04.free ny
         refine⟨_,rfl,_,rfl,zK B n,_,_,i,rfl,rfl,s5 _ _ rS,(by unfold ixN;rw[if_pos (by omega),if_pos (by rw[List.length_map];omega)];simp),?_⟩
         obtain⟨g1,g2⟩:=QN (C:=C) (o:=.ins C.cCell dy (k5 a m tq)) hb.gh y0
         obtain⟨q1,q2⟩:=Q8 hb hn (H4:=upd (upd (upd H4 dy (.own y)) y (.ins C.cCell dy [])) y (.ins C.cCell dy (k5 a m tq)))
          (H':=upd (upd (upd (upd H4 dy (.own y)) y (.ins C.cCell dy [])) y (.ins C.cCell dy (k5 a m tq))) (zK B n) (.lst ((as.map V.ref).set i (.ref y))))
          (as:=as.set i y) (d:=(Vanbki.sideDoc s n).set i { c with hidden:=m == 1 }) (k:=Vanbki.sideNext s n) s5 g1 (fun b o e=>by
           by_cases hby:b=y
           . rw[hby,z6] at e
             rw[hby,z6]
             exact e
           . rw[z8 hby] at e
             exact s5 _ _ (hb.gh _ _ e)) g2
          (Z9 ⟨dy,tq,by rw[z6,<-i2];rcases hm with rfl | rfl <;> rfl,g1 _ _ etG⟩ i (gS.mono g1))
          (fun b h1 h2=>by rw[z8 h2]) (by rw[RL,z6,List.map_set]) ⟨dxs,by rw[z8 (Ku hb.ne n)];exact s5 _ _ eS⟩
         refine k.yes (yP ?_ |>.trans ?_) (by decide) q1 q2
         . rw[zw hn,zw f1,zw f2,zw (by rw[same,decide_eq_false hx])]
           rfl
         . rw[hc1]
theorem Yz {f1:Addr}{fd1:FuncData}{f2:Addr}{fd2:FuncData}{f3:Addr}{fd3:FuncData} (F:Fun K "move_cell" "move_cell" x8 f fd) (T:Txt K mg C) (D_refusal_of_cell:Def P w K mg base "refusal_of_cell" 2 ["books","side","number"] (qU C) f1 fd1) (D_place_of:Def P w K mg base "place_of" 1 ["cells","number"] (jj C) f2 fd2) (D_place_behind:Def P w K mg base "place_behind" 2 ["cells","after"] (vX C) f3 fd3):zU P w K mg base CX0 3 f fd ["books","side","number","after"] (Qc C):=by
 refine F.ok sc_move_cell (fun vs H Q E h=>?_) (fun cdv A outer s H vs Q E hr h=>?_)
 . obtain⟨G,B,ch,s,n,a,b,rfl,_⟩:=h
   rfl
 . obtain⟨G,B,ch,s,n,a,b,rfl,hb,k⟩:=h
   have hu:=jL hr
   refine⟨_,(z5 (zi (i:=4) sc_move_cell.nd rfl (Or.inl rfl) (ze D_refusal_of_cell (hr.mono (by decide)) (z4 (pv 0) (z4 (pv 1) (z4 (pv 2) z9)))))
    (z5 (zC (zo yG (pv 4) (pgi T.g_NO_REFUSAL) (zz _)) (za (zg (pv 4))) zj)
    (z5 (zi (i:=5) sc_move_cell.nd rfl (Or.inl rfl) (qc hu (zf (pv 0) rfl) (pv 1) (fun _ _=>rfl)))
    (z5 (zi (i:=6) sc_move_cell.nd rfl (Or.inl rfl) (ze D_place_of (hr.mono (by decide)) (z4 (zf (pv 5) rfl) (z4 (pv 2) z9))))
    (z5 (vL (i:=7) rfl sc_move_cell.nd rfl rfl (yU rfl rfl rfl rfl) (qa (zf (pv 5) rfl)) (qy (own:=[("cell",8)]) (by kernel_rfl)) (fun _ _ _ _ _=>(zJ (i:=8) sc_move_cell.nd rfl (Or.inl rfl))) (fun _ _ _ _ _=>xW (zo yG (jG (K:=K) rfl (pv 8) rfl) (pv 2) (zz _))) (fun _ _ _ _ _=>(pv 8)))
    (z5 (zi (i:=9) sc_move_cell.nd rfl (Or.inl rfl) (ze D_place_behind (hr.mono (by decide)) (z4 (pv 7) (z4 (pv 3) z9))))
    (z5 (zC (qD (jD (pv 9))) (za (zg (pgi T.g_NO_FIT_AFTER))) zj)
    (z5 (zC (zo qN (pv 9) (pv 6) (zz _)) (za (zg (pgi T.g_NOTHING_CHANGES))) zj)
    (z5 (qt (jF PySem.F.plainAttrs_list PySem.F.slot_list_insert PySem.F.type_list_insert VF (pv 7) (z4 (pv 9) (z4 (qk qb (zf (pv 5) rfl) (pv 6) (fun _ _=>rfl)) z9))))
    (z5 (qE (pv 5) (pv 7) rfl)
    (za (zg zB)))))))))))),?_⟩
   obtain⟨dxb,eb⟩:=hb.bk
   have S:=hb.ok
   refine⟨_,rfl,_,rfl,_,rfl,G,B,ch,s,n,a,rfl,hb,fun H1 s1=>?_⟩
   refine⟨_,rfl,rfl,_,rfl,qJ (fun hh=>⟨_,rfl,?_⟩) (fun hh=>?_)⟩
   . rcases jN s n a with ⟨hn,e⟩ | ⟨hn,h1,e⟩ | ⟨hn,h1,e⟩
     . exact k.no (n:=Q6 s n a) (by rw[e];exact qA (qf hn)) (by rw[e];decide) s1
     . exact k.no (n:=Q6 s n a) (by rw[e];exact qA (by rw[zw hn,qf (by rw[h1];rfl)])) (by rw[e];decide) s1
     . exact absurd e hh
   . obtain⟨hn,h1⟩:Vanbki.noSide n=false/\Vanbki.hasI (Vanbki.sideDoc s n) a=true:=by
      rcases jN s n a with ⟨hn,e⟩ | ⟨hn,h1,e⟩ | ⟨hn,h1,e⟩
      . rw[e] at hh;exact absurd hh (by decide)
      . rw[e] at hh;exact absurd hh (by decide)
      . exact⟨hn,h1⟩
     have f1:(!Vanbki.hasI (Vanbki.sideDoc s n) a)=false:=by rw[h1];rfl
     obtain⟨as,rS,cS,gS⟩:=hb.dS n
     obtain⟨dxs,eS⟩:=hb.sS n
     have D:=zW S n
     have hlen:=zk cS
     have zd:=D.len
     have eb1:=s1 _ _ eb
     have rS1:=s1 _ _ rS
     have eS1:=s1 _ _ eS
     refine⟨_,rfl,B.b,C.cBooks,dxb,_,_,rfl,eb1,T.c_Books,T.n_Books_sides,zD _ _ _,_,rfl,B.ds,_,rfl,j6 (s1 _ _ hb.sd) hn,?_⟩
     rw[ko] at h1
     obtain⟨i,hp⟩:=Option.isSome_iff_exists.mp h1
     obtain⟨c,i1,i2,i3,i4,i5⟩:=jg hp
     have hil:=xB hp
     obtain⟨ai,hai⟩:∃ ai,as[i]?=some ai:=⟨_,List.getElem?_eq_getElem (by omega)⟩
     refine⟨_,rfl,zT B n,C.cSide,dxs,_,_,rfl,eS1,T.c_Side,T.n_Side_cells,zM _ _,_,rfl,zK B n,as,_,_,rfl,rS1,cS.mono s1,fun H2 s2=>?_⟩
     have s02:=s1.trans s2
     rw[hp]
     have rS2:=s02 _ _ rS
     have eS2:=s02 _ _ eS
     refine⟨_,rfl,zT B n,C.cSide,dxs,_,_,rfl,eS2,T.c_Side,T.n_Side_cells,zM _ _,zK B n,rfl,⟨_,SqL.of rS2⟩,fun L hL=>?_⟩
     have uniq:∀ (j:Nat) (c':Vanbki.Cell),(Vanbki.sideDoc s n)[j]?=some c'->((c'.number:Int)=a ↔ j=i):=fun j c' hj=>abh D.nd i1 i2 hj
     refine Q_ (K:=K) (xs:=as.map V.ref) (Kw as i) (UX (by omega)) (SqL.of rS2) hL (by rw[List.length_map];exact qO (by omega)) (fun j x y H' P' N hj hy s3 hP hN=>?_) (fun H3 s3 e3=>?_)
     . obtain⟨aj,haj,rfl⟩:=qF hj
       obtain⟨c',hc',hca⟩:=zG gS haj
       obtain⟨dxc,tq,ec,et⟩:=hca.mono (hb.gh.trans (s02.trans s3))
       have ey:=abg (by omega) haj hy
       refine⟨rfl,_,rfl,aj,C.cCell,dxc,_,_,rfl,ec,T.c_Cell,T.n_Cell_number,zE _ _ _,_,rfl,rfl,_,rfl,?_⟩
       by_cases hji:j=i
       . rw[decide_eq_true (by rw[(uniq j c' hc').mpr hji])]
         rw[if_pos hji] at ey
         exact zy (hN ey _ (Same.refl _))
       . rw[decide_eq_false (fun z=>hji ((uniq j c' hc').mp (by injection z)))]
         rw[if_neg hji] at ey
         exact zF ⟨_,rfl,hP _ ey _ (Same.refl _)⟩
     rw[WB] at e3
     have s03:=s02.trans s3
     have cO:CellsAt C G (as.take i++as.drop (i+1)) ((Vanbki.sideDoc s n).take i++(Vanbki.sideDoc s n).drop (i+1)):=zI (jh _ gS) (ji _ gS)
     have dd:=xu D.nd i4
     have L0:=s02.free hL
     refine⟨_,rfl,_,rfl,L,_,_,_,rfl,e3,cO.mono (hb.gh.trans s03),fun H4 s4=>?_⟩
     have s04:=s03.trans s4
     generalize hd':(Vanbki.sideDoc s n).take i++(Vanbki.sideDoc s n).drop (i+1)=d' at cO dd ⊢
     have ndd:(numbers d').Nodup:=by
      rw[<-dd]
      exact (List.Sublist.map _ List.filter_sublist).nodup D.nd
     have lenD:d'.length=(Vanbki.sideDoc s n).length - 1:=by
      rw[<-hd',List.length_append,List.length_take,List.length_drop]
      omega
     have hfind:Vanbki.find (Vanbki.sideDoc s n) a.toNat=some c:=by
      unfold vc at i3
      rw[if_pos i5] at i3
      exact i3
     have hcount:Vanbki.hasI d' b=(Vanbki.hasI (Vanbki.sideDoc s n) b && !(b == a)):=by
      rw[<-dd]
      exact Yx _ i5
     cases hq:y8 d' b with
     | none =>
      refine⟨_,rfl,_,rfl,zF (k.no (qA ?_) (by decide) s04)⟩
      have h2:=Qb hq
      rw[hcount] at h2
      rw[zw hn,zw f1,qf ?_]
      revert h2
      cases (b == 0) <;> cases Vanbki.hasI (Vanbki.sideDoc s n) b <;> cases (b == a) <;> decide
     | some j =>
      obtain⟨b1,b2,b3⟩:=Qa ndd hq c
      have f2:(!(b == 0 || Vanbki.hasI (Vanbki.sideDoc s n) b) || b == a)=false:=by
       rw[hcount] at b3
       by_cases hba:b=a
       . exfalso
         subst hba
         have:b≠0:=fun z=>by
          have:=(D.num c (List.mem_of_getElem? i1)).1
          omega
         simp[this] at b3
       . have:(b == a)=false:=by simpa using hba
         rw[this] at b3 ⊢
         rw[Bool.not_false,Bool.and_true] at b3
         rw[b3]
         rfl
      have same:((match Vanbki.find (Vanbki.sideDoc s n) a.toNat with | some c=>Vanbki.putBehind (Vanbki.dropped (Vanbki.sideDoc s n) a.toNat) b.toNat c | none=>Vanbki.sideDoc s n) == Vanbki.sideDoc s n)=decide (j=i):=by
       rw[hfind,dd]
       show (Vanbki.putBehind d' b.toNat c == _)=_
       rw[b1]
       have ms:=XU D.nd i1 (j:=j) (by omega)
       rw[hd'] at ms
       by_cases hx:j=i
       . rw[decide_eq_true hx,beq_iff_eq]
         exact ms.mpr hx
       . rw[decide_eq_false hx,beq_eq_false_iff_ne]
         exact fun z=>hx (ms.mp z)
      refine⟨_,rfl,_,rfl,zy ⟨_,rfl,_,rfl,rfl,_,rfl,?_⟩⟩
      have hdec:decide (abW (some j)=abW (some i))=decide (j=i):=decide_eq_decide.mpr ⟨fun e=>by have e:V.int ((j:Nat):Int)=V.int ((i:Nat):Int):=e;injection e with e;omega,fun e=>by rw[e]⟩
      rw[hdec]
      by_cases hx:j=i
      . rw[decide_eq_true hx]
        refine zF (k.no (qA ?_) (by decide) s04)
        rw[zw hn,zw f1,zw f2]
        exact qf (same.trans (decide_eq_true hx))
      . rw[decide_eq_false hx]
        refine zy ?_
        have e4:=s4 _ _ e3
        have eS4:=s04 _ _ eS
        have hat:atI (as.map V.ref) ((i:Nat):Int)=some (.ref ai):=zV (by rw[List.getElem?_map,hai];rfl)
        have lenA:(as.take i++as.drop (i+1)).length=d'.length:=zk cO
        refine⟨_,rfl,.inl ⟨rfl,_,SqL.of e4⟩,_,rfl,_,rfl,zT B n,C.cSide,dxs,_,_,rfl,eS4,T.c_Side,T.n_Side_cells,zM _ _,_,rfl,zK B n,_,_,_,rfl,rfl,SqL.of (s04 _ _ rS),hat,?_⟩
        refine⟨L,_,j,_,rfl,rfl,e4,(by rw[List.length_map,lenA];exact b2),(by rw[List.length_map,lenA];exact qO (by omega)),?_⟩
        have AL:zT B n≠L:=z7 eS L0
        refine⟨_,rfl,_,rfl,zT B n,C.cSide,dxs,_,rfl,(by rw[z8 AL];exact eS4),T.c_Side,T.n_Side_cells,(by show 2<1000;decide),?_⟩
        have hc:CellsAt C G ((as.take i++as.drop (i+1)).take j++ai::(as.take i++as.drop (i+1)).drop j) (d'.take j++c::d'.drop j):=by
         obtain⟨c',hc',hca⟩:=zG gS hai
         rw[i1] at hc'
         cases hc'
         exact zI (jh _ cO) (.cons hca (ji _ cO))
        have keep:∀ x o,H x=some o->x≠B.ds->x≠zT B n->x≠zK B n->(upd (upd H4 L (.lst (((as.take i++as.drop (i+1)).map V.ref).take j++.ref ai::((as.take i++as.drop (i+1)).map V.ref).drop j))) (zT B n) (.ins C.cSide dxs (qW L (Vanbki.sideNext s n)))) x=some o:=fun x o e h1 h2 h3=>by
         rw[z8 h2,z8 (z7 e L0)]
         exact s04 _ _ e
        have dsA:B.ds≠zT B n:=by
         have ne:=hb.ne
         simp only[Bk.muts,List.nodup_cons,List.mem_cons,List.not_mem_nil,or_false,not_or] at ne
         unfold zT
         split
         . exact ne.2.1.1
         . exact ne.2.1.2.2.1
        have r1:=Q5 (a:=zT B n) (l:=L) hb hn keep (by
         rw[z8 dsA,z8 (z7 hb.sd L0),s04 _ _ hb.sd]
         rcases jt hn with rfl | rfl <;> rfl) ⟨dxs,z6⟩ (as:=(as.take i++as.drop (i+1)).take j++ai::(as.take i++as.drop (i+1)).drop j) (by rw[RL,z8 (Ne.symm AL),z6];simp) (Same.refl G) (fun x o e=>by
         have h1:x≠zT B n:=fun z=>by rw[z,hb.fr _ (yt B n)] at e;cases e
         rw[z8 h1,z8 (z7 (hb.gh _ _ e) L0)]
         exact s04 _ _ (hb.gh _ _ e)) hb.fr (hb.fr _ (yt B n)) (hb.gh.free L0) (.inl rfl) (.inr L0) AL hc
        have r2:=JL (a:=zT B n) (l:=L) hb keep (Same.refl G) (.inl rfl) (.inr L0) fun x o e=>.inl e
        refine k.yes (yP ?_ |>.trans ?_) (by decide) r1 r2
        . rw[zw hn,zw f1,zw f2]
          exact zw (same.trans (decide_eq_false hx))
        . rw[hfind,dd,<-b1]
end
end Tb
end
section
namespace Tb
open PySem PySem.Spec PyProof.Rows L2
open Vanbki (nats ofNat markNat numbers)
def wv:Sp:=fun vs H Q _=>∃ a row,vs=[.ref a]/\IL H a row/\row.length<=16000/\(jQ row=none->∀ H',Same H H'->Q .non H') /\
 (∀ ts,jQ row=some ts->ts.length<=row.length->(∀ t,t∈ts->t.length<=row.length)->∀ H' p as,Same H H'->H p=none->RL H' p as->Paired (fun x t=>H x=none/\IL H' x t) as ts->Q (.ref p) H')
def PostDone (C:Ad) (H G:Hp) (B:Bk) (r:Vanbki.State × Vanbki.Answer) (Q:VK):Prop:=∀ H' G' B' ch',BooksAt C H' G' B' ch' r.1->Fr H G B H' G' B'->Q (.int r.2.number) H'
theorem Fr.same {H G H':Hp}{B:Bk} (s:Same H H'):Fr H G B H' G B:=⟨rfl,fun a o e _=>s _ _ e,Same.refl _,fun a h=>.inl h,fun a o e=>.inl e⟩
theorem PostDone.no {C:Ad}{H G:Hp}{B:Bk}{ch:Chs}{s:Vanbki.State}{r:Vanbki.State × Vanbki.Answer}{Q:VK} (h:PostDone C H G B r Q) (hb:BooksAt C H G B ch s) {n:Int} (e:r=(s,⟨n,[]⟩)) {H':Hp} (k:Same H H'):Q (.int n) H':=by
 subst e
 exact h H' G B ch (hb.mono k) (Fr.same k)
theorem Kx {s:Vanbki.State} (h:s.choices=[]):Xs [] s:=⟨List.nodup_nil,fun x hx=>(nomatch hx),fun k n=>by unfold yL Vanbki.choiceOf;rw[h];rfl⟩
section
variable {C:Ad}{H G:Hp}{B:Bk}{ch:Chs}{s:Vanbki.State}
theorem UY (hb:BooksAt C H G B ch s) {H2 H':Hp} (s2:Same H H2) {lb ds x1 q1 x2 q2 dc:Addr}{as:List Addr}{d:Vanbki.Doc}{k:Nat} (hlb:H lb=none) (rl:RL H2 lb as) (cells:CellsAt C (zS G H H2) as d)
 (keep:∀ y o,H2 y=some o->y≠B.b->H' y=some o) (eb:∃ dx,H' B.b=some (.ins C.cBooks dx (qz lb ds dc))) (eds:H' ds=some (.dK [(Sum.inl 1,.ref x1),(Sum.inl 2,.ref x2)]))
 (e1:∃ dx,H' x1=some (.ins C.cSide dx (qW q1 k))) (r1:RL H' q1 as) (e2:∃ dx,H' x2=some (.ins C.cSide dx (qW q2 k))) (r2:RL H' q2 as) (edc:H' dc=some (.dT (chV [])))
 (nds:H2 ds=none) (nx1:H2 x1=none) (nq1:H2 q1=none) (nx2:H2 x2=none) (nq2:H2 q2=none) (ndc:H2 dc=none) (x12:x1≠x2) (q12:q1≠q2) {t:Vanbki.State} (ht:t=⟨d,d,d,k,k,[]⟩) (ok:qh t) :
 BooksAt C H' (zS G H H2) ⟨B.b,lb,ds,x1,q1,x2,q2,dc⟩ [] t/\Fr H G B H' (zS G H H2) ⟨B.b,lb,ds,x1,q1,x2,q2,dc⟩:=by
 subst ht
 obtain⟨dxb,eb0⟩:=hb.bk
 have mb:B.b∈B.muts:=by simp[Bk.muts]
 have gr:=qI hb.gh s2
 have Gb:zS G H H2 B.b=none:=gr.free (hb.fr _ mb) eb0
 have bH2:=s2 _ _ eb0
 obtain⟨dxb',eb⟩:=eb
 obtain⟨dx1,e1⟩:=e1
 obtain⟨dx2,e2⟩:=e2
 have nb:∀ {y:Addr},H2 y=none->B.b≠y:=fun hy z=>by rw[<-z,bH2] at hy;cases hy
 have hh:∀ {y z:Addr}{o u:HO},H' y=some o->H' z=some u->o≠u->y≠z:=fun h1 h2 h3 e=>by
  rw[e,h2] at h1
  exact h3 (Option.some.inj h1).symm
 refine⟨⟨⟨dxb',eb⟩,eds,⟨dx1,e1⟩,⟨dx2,e2⟩,⟨as,by rw[RL,qP hb.gh hlb];exact rl,cells⟩,⟨as,r1,cells⟩,⟨as,r2,cells⟩,edc,Kx rfl,?_,?_,?_,ok⟩,rfl,?_,gr.gf,?_,gr.nw⟩
 . intro y o e
   exact keep y o (gr.fh _ _ e) (fun z=>by rw[z,Gb] at e;cases e)
 . intro y hy
   simp only[Bk.muts,List.mem_cons,List.not_mem_nil,or_false] at hy
   rcases hy with rfl | rfl | rfl | rfl | rfl | rfl | rfl
   . exact Gb
   . exact gr.fh.free nds
   . exact gr.fh.free nx1
   . exact gr.fh.free nq1
   . exact gr.fh.free nx2
   . exact gr.fh.free nq2
   . exact gr.fh.free ndc
 . simp only[Bk.muts,List.nodup_cons,List.mem_cons,List.not_mem_nil,or_false,not_or,not_false_eq_true,and_true,List.nodup_nil]
   refine⟨⟨nb nds,nb nx1,nb nq1,nb nx2,nb nq2,nb ndc⟩,⟨hh eds e1 (by simp),hh eds r1 (by simp),hh eds e2 (by simp),hh eds r2 (by simp),hh eds edc (by simp)⟩,⟨hh e1 r1 (by simp),x12,hh e1 r2 (by simp),hh e1 edc (by simp)⟩,⟨hh r1 e2 (by simp),q12,hh r1 edc (by simp)⟩,⟨hh e2 r2 (by simp),hh e2 edc (by simp)⟩,hh r2 edc (by simp)⟩
 . intro y o e m
   exact keep y o (s2 _ _ e) (fun z=>m (z▸mb))
 . intro y hy
   simp only[Bk.muts,List.mem_cons,List.not_mem_nil,or_false] at hy
   rcases hy with rfl | rfl | rfl | rfl | rfl | rfl | rfl
   . exact .inl mb
   . exact .inr (s2.free nds)
   . exact .inr (s2.free nx1)
   . exact .inr (s2.free nq1)
   . exact .inr (s2.free nx2)
   . exact .inr (s2.free nq2)
   . exact .inr (s2.free ndc)
end
theorem abi {K:PySem.W.Frag}{a:Addr}{k:Nat}{xs:List V}{g:TG}{te:TE}{vs:List Nat}{σ:L2.St}{H1:Hp}{D:Addr}{Qd:Hp->Prop} (R:Nat->V->Hp->Prop) (mono:∀ i y F F',Same F F'->R i y F->R i y F') (hx:SqL K H1 a xs) (hD:H1 D=none) (hz:xs.length<sizeLine)
 (hs:∀ (i:Nat) (x:V) (H':Hp) (X:Addr) (P:V->Hp->Prop),xs[i]?=some x->Same H1 H'->(∃ o,H' D=some o)->H' X=none->(∀ y H4,Same H' H4->R i y (minus H4 D)->P y H4) ->
  g (.ref X) (qK σ vs) (upd H' X (.tup [.int ((i+k:Nat):Int),x])) fun σ2 H2=>qK σ2 vs=qK σ vs/\te σ2 H2 P)
 (hd:∀ H' ys,Same H1 H'->H' D=some (.lst ys)->ys.length=xs.length->(∀ i y,ys[i]?=some y->R i y (minus H' D))->Qd H') :
 ∃ W:Nat->Nat->Hp->Prop,(∃ m,W 0 m (upd H1 D (.lst [])))/\∀ i m H,W i m H ->
  ((aaZ K a k).stop i H/\Qd H)∨((aaZ K a k).go i H/\∃ Nx:Hp->Prop,(∀ H',Nx H'->∃ m',m'<m/\W (i+1) m' H')/\∀ x H',(aaZ K a k).yld i H x H'->g x (qK σ vs) H' fun σ2 H2=>qK σ2 vs=qK σ vs/\K4 σ2 H2 fun b H3 =>
   if b=true then te σ2 H3 fun y H4=>∃ acc,H4 D=some (.lst acc)/\acc.length<sizeLine/\Nx (upd H4 D (.lst (acc++[y]))) else Nx H3):=by
 refine⟨fun i m H=>m=xs.length - i/\i<=xs.length/\(Same H1 H/\∃ ys,H D=some (.lst ys)/\ys.length=i/\∀ j y,ys[j]?=some y->R j y (minus H D)),⟨xs.length,by simp,Nat.zero_le _,Same.new hD,[],z6,rfl,fun j y h=>by simp at h⟩,?_⟩
 rintro i m H ⟨rfl,hi,s,ys,e,hl,hr⟩
 have q:=s.seq hx
 by_cases hlt:i<xs.length
 . have hx':xs[i]?=some xs[i]:=List.getElem?_eq_getElem hlt
   refine .inr ⟨⟨xs,_,q,hx'⟩,fun H'=>Same H1 H'/\∃ zs,H' D=some (.lst zs)/\zs.length=i+1/\∀ j z,zs[j]?=some z->R j z (minus H' D),fun H' p'=>⟨xs.length - (i+1),by omega,rfl,hlt,p'⟩,fun v H' y=>?_⟩
   obtain⟨X,x,rfl,hX,rfl,y1⟩:=y
   have h1:=y1 xs q
   simp only[K4,if_true]
   refine hs i x H X _ h1 s ⟨_,e⟩ hX fun y H4 s4 r4=>⟨ys,s4 _ _ e,by omega,fun b o q=>?_,ys++[y],z6,by simp[hl],fun j z hj=>?_⟩
   . rw[z8 (z7 q hD)]
     exact s4 _ _ (s b o q)
   . rw[xI]
     by_cases hji:j<ys.length
     . rw[List.getElem?_append_left hji] at hj
       exact mono j z _ _ (Same.both s4) (hr j z hj)
     . have hjl:j<(ys++[y]).length:=(List.getElem?_eq_some_iff.mp hj).1
       have ej:j=ys.length:=by simp at hjl;omega
       subst ej
       rw[List.getElem?_append_right (Nat.le_refl _)] at hj
       simp at hj
       subst hj
       rw[hl]
       exact r4
 . have e':i=xs.length:=by omega
   subst e'
   exact .inl ⟨⟨xs,q,Nat.le_refl _⟩,hd H ys s e hl hr⟩
section
variable {P:Program}{w:World}{K:PySem.W.Frag}{mg:Str->Option Value}{base:Heap}{C:Ad}{f:Addr}{fd:FuncData}
theorem Jt (F:Fun K "texts_of_row" "texts_of_row" kR f fd) (T:Txt K mg C):zU P w K mg base CX0 1 f fd ["row"] (wv):=by
 refine F.ok sc_texts_of_row (fun vs H Q E h=>?_) (fun cdv A outer s H vs Q E hr h=>?_)
 . obtain⟨a,row,rfl,_⟩:=h
   rfl
 . obtain⟨a,row,rfl,ha,hz,k1,k2⟩:=h
   refine⟨_,(z5 (zi (i:=1) sc_texts_of_row.nd rfl (Or.inl rfl) (zX z9))
    (z5 (zi (i:=2) sc_texts_of_row.nd rfl (Or.inl rfl) zB)
    (z5 (K0 PassesOwn.never (zo K2 (pv 2) (zP qS (by rfl) T.b_len qR (z4 (pv 0) z9)) (zz _)) (z5 (zi (i:=3) sc_texts_of_row.nd rfl (Or.inl rfl) (jE xV (pv 2) zB))
    (z5 (zi (i:=4) sc_texts_of_row.nd rfl (Or.inl rfl) (jE xV (pv 3) (qk qb (pv 0) (pv 2) (fun _ _=>rfl))))
    (z5 (zC (aaw (zo K2 (pv 4) (pv 3) (zz _)) (W9 (zo QW (pv 4) (zP qS (by rfl) T.b_len qR (z4 (pv 0) z9)) (zz _)))).pt (za (zg wM)) zj)
    (z5 (qt (jF PySem.F.plainAttrs_list PySem.F.slot_list_append PySem.F.type_list_append jc (pv 1) (z4 (vK yS (pv 0) (jS (pv 3)) (jS (pv 4))) z9)))
    (za (zi (i:=2) sc_texts_of_row.nd rfl (Or.inl rfl) (pv 4))))))))
    (za (zg (pv 1)))))),?_⟩
   refine⟨Nat.zero_le _,fun p hp=>?_⟩
   refine⟨fun μ σ H'=>∃ i:Nat,μ=row.length - i/\i<=row.length/\(∃ v3 v4,σ=[some (.ref a),some (.ref p),some (.int (i:Nat)),v3,v4])/\Same H H'/\∃ as ts,RL H' p as/\Paired (fun x t=>H x=none/\x≠p/\IL H' x t) as ts/\ts.length<=i/\(∀ t,t∈ts->t.length<=row.length)/\jQ row=(jQ (row.drop i)).map fun l=>ts++l,
    ⟨row.length,0,rfl,Nat.zero_le _,⟨none,none,rfl⟩,Same.new hp,[],[],z6,.nil,Nat.zero_le _,fun t h=>(nomatch h),by simp⟩,?_⟩
   rintro μ σ H' ⟨i,rfl,hi,⟨v3,v4,rfl⟩,s1,as,ts,hr,hpa,hts,hbig,htx⟩
   have ha':=s1 _ _ ha
   have lts:=zk hpa
   refine⟨_,rfl,_,rfl,a,_,rfl,.inl (SqL.of ha'),_,_,rfl,rfl,_,rfl,?_⟩
   by_cases hlt:i<row.length
   . rw[decide_eq_true (by rw[List.length_map];omega)]
     refine zF ?_
     obtain⟨n,hn⟩:∃ n,row[i]?=some n:=⟨_,List.getElem?_eq_getElem hlt⟩
     have hdrop:row.drop i=n::row.drop (i+1):=by
      rw[List.drop_eq_getElem_cons hlt]
      congr 1
      rw[List.getElem?_eq_getElem hlt] at hn
      exact Option.some.inj hn
     have ht2:=VT n (row.drop (i+1))
     rw[<-hdrop,List.length_drop] at ht2
     refine⟨_,fun σ' H' h=>h,_,rfl,_,_,rfl,rfl,?_⟩
     refine⟨_,rfl,_,rfl,_,rfl,a,_,_,_,rfl,rfl,SqL.of ha',zV (by rw[List.getElem?_map,hn];rfl),_,_,rfl,rfl,?_⟩
     refine⟨_,rfl,_,rfl,_,_,rfl,rfl,_,rfl,?_⟩
     by_cases h1:n<0
     . rw[decide_eq_true (by omega)]
       refine zF (zF ?_)
       rw[if_pos (.inl h1)] at ht2
       rw[ht2] at htx
       exact k1 htx H' s1
     . rw[decide_eq_false (by omega)]
       refine zy ⟨_,rfl,_,rfl,a,_,rfl,.inl (SqL.of ha'),_,_,rfl,rfl,_,rfl,?_⟩
       by_cases h2:((row.length - (i+1):Nat):Int)<n
       . rw[decide_eq_true (by rw[List.length_map];omega)]
         refine zF ?_
         rw[if_pos (.inr h2)] at ht2
         rw[ht2] at htx
         exact k1 htx H' s1
       . rw[decide_eq_false (by rw[List.length_map];omega)]
         refine zy ?_
         rw[if_neg (by omega)] at ht2
         obtain⟨m,rfl⟩:∃ m:Nat,n=(m:Int):=⟨n.toNat,by omega⟩
         rw[Int.toNat_natCast,List.drop_drop] at ht2
         refine⟨_,rfl,.inl ⟨rfl,_,SqL.of hr⟩,_,rfl,_,rfl,_,rfl,_,rfl,_,rfl,a,_,rfl,SqL.of ha',fun q hq=>?_⟩
         have ecut:uz (row.map V.int) (some ((i:Nat)+1:Int)) (some ((i:Nat)+1+(m:Nat):Int))=((row.drop (i+1)).take m).map V.int:=by
          have:=ZT (xs:=row.map V.int) (i:=i+1) (j:=i+1+m) (by rw[List.length_map];omega) (by rw[List.length_map];omega)
          rw[show i+1+m - (i+1)=m by omega] at this
          rw[List.map_take,List.map_drop,<-this]
          rfl
         have qp:q≠p:=Ne.symm (z7 hr hq)
         refine⟨p,_,_,rfl,rfl,(by rw[z8 (Ne.symm qp)];exact hr),(by rw[List.length_map];exact qO (by omega)),?_⟩
         rw[ecut]
         refine⟨_,rfl,row.length - (i+1+m),by omega,i+1+m,rfl,by omega,⟨_,_,rfl⟩,fun b o e=>?_,as++[q],ts++[(row.drop (i+1)).take m],?_,?_,?_,?_,?_⟩
         . rw[z8 (z7 e hp),z8 (z7 (s1 _ _ e) hq)]
           exact s1 _ _ e
         . rw[RL,z6,List.map_append]
           rfl
         . refine j4 (zA hpa fun x t r=>⟨r.1,r.2.1,?_⟩) ⟨s1.free hq,qp,?_⟩
           . rw[IL,z8 r.2.1,z8 (z7 r.2.2 hq)]
             exact r.2.2
           . rw[IL,z8 qp,z6]
         . rw[List.length_append]
           show ts.length+1<=_
           omega
         . intro t ht
           rcases List.mem_append.mp ht with z | z
           . exact hbig t z
           . rw[List.mem_singleton.mp z,List.length_take,List.length_drop]
             omega
         . rw[htx,ht2,Option.map_map]
           congr 1
           funext l
           simp
   . rw[decide_eq_false (by rw[List.length_map];omega)]
     refine zy ?_
     have e:i=row.length:=by omega
     rw[e,List.drop_length,YZ] at htx
     refine⟨_,rfl,k2 ts (by rw[htx];simp) (by omega) hbig H' p as s1 hp hr (zA hpa fun _ _ r=>⟨r.1,r.2.2⟩)⟩
end
end Tb
end
section
namespace Tb
open PySem PySem.Spec PyProof.Rows L2
open Vanbki (nats ofNat markNat numbers)
def j5 (ts:List (List Int)):Vanbki.Doc:=ts.zipIdx.map fun x=>⟨x.2+1,false,Vanbki.textOf x.1⟩
theorem vQ (ts:List (List Int)):(j5 ts).length=ts.length:=by simp[j5]
theorem Zd {ts:List (List Int)}{i:Nat}{t:List Int} (h:ts[i]?=some t):(j5 ts)[i]?=some ⟨i+1,false,Vanbki.textOf t⟩:=by
 simp[j5,h]
theorem XC (ts:List (List Int)):Vanbki.greatest (numbers (j5 ts))=ts.length:=by
 by_cases h:ts=[]
 . subst h
   rfl
 . have hl:0<ts.length:=List.length_pos_iff.mpr h
   refine QV ?_ fun z hz=>?_
   . obtain⟨t,ht⟩:∃ t,ts[ts.length - 1]?=some t:=⟨_,List.getElem?_eq_getElem (by omega)⟩
     have h1:=List.mem_of_getElem? (Zd ht)
     have h2:ts.length - 1+1∈numbers (j5 ts):=List.mem_map.mpr ⟨_,h1,rfl⟩
     rwa [show ts.length - 1+1=ts.length by omega] at h2
   . obtain⟨c,hc,rfl⟩:=List.mem_map.mp hz
     obtain⟨i,hi,e⟩:=List.mem_iff_getElem.mp hc
     rw[vQ] at hi
     have h1:=Zd (ts:=ts) (i:=i) (List.getElem?_eq_getElem hi)
     have h2:(j5 ts)[i]?=some c:=by rw[List.getElem?_eq_getElem (by rw[vQ];exact hi),e]
     rw[h1] at h2
     rw[<-Option.some.inj h2]
     show i+1<=ts.length
     omega
theorem J4 {s:Vanbki.State}{row:List Int} (h:jQ row=none):Vanbki.doBase s row=(s,⟨-15,[]⟩):=by
 unfold Vanbki.doBase
 rw[show Vanbki.textsOf (row.length+1) row=none from h]
theorem VI {s:Vanbki.State}{row:List Int}{ts:List (List Int)} (h:jQ row=some ts) (hr:jb ts≠0):Vanbki.doBase s row=(s,⟨jb ts,[]⟩):=by
 unfold Vanbki.doBase
 rw[show Vanbki.textsOf (row.length+1) row=some ts from h]
 unfold jb at hr ⊢
 cases h1:ts.all Vanbki.bytes with
 | false =>
  simp only[h1,Bool.not_false]
  rw[qf rfl]
  rfl
 | true =>
  rw[h1,if_pos rfl] at hr
  cases h2:ts.any Vanbki.tooLong with
  | false=>rw[h2] at hr;exact absurd rfl hr
  | true =>
   simp only[h1,Bool.not_true]
   rw[zw rfl,qf h2]
   simp[h2]
theorem xz {ts:List (List Int)} (hr:jb ts=0):ts.all Vanbki.bytes=true/\ts.any Vanbki.tooLong=false:=by
 unfold jb at hr
 cases h1:ts.all Vanbki.bytes with
 | false=>rw[h1,if_neg Bool.false_ne_true] at hr;exact absurd hr (by decide)
 | true =>
  cases h2:ts.any Vanbki.tooLong with
  | true=>rw[h1,h2,if_pos rfl,if_pos rfl] at hr;exact absurd hr (by decide)
  | false=>exact⟨rfl,rfl⟩
theorem J5 {s:Vanbki.State}{row:List Int}{ts:List (List Int)} (h:jQ row=some ts) (hr:jb ts=0) (hl:12<ts.length):Vanbki.doBase s row=(s,⟨-6,[]⟩):=by
 obtain⟨h1,h2⟩:=xz hr
 unfold Vanbki.doBase
 rw[show Vanbki.textsOf (row.length+1) row=some ts from h]
 simp only[h1,h2,Bool.not_true]
 rw[zw rfl,zw rfl,qf (show decide (Vanbki.CELLS<ts.length)=true from decide_eq_true hl)]
theorem Ky {s:Vanbki.State}{row:List Int}{ts:List (List Int)} (h:jQ row=some ts) (hr:jb ts=0) (hl:¬12<ts.length):Vanbki.doBase s row=(⟨j5 ts,j5 ts,j5 ts,ts.length+1,ts.length+1,[]⟩,⟨(ts.length:Nat),[]⟩):=by
 obtain⟨h1,h2⟩:=xz hr
 unfold Vanbki.doBase
 rw[show Vanbki.textsOf (row.length+1) row=some ts from h]
 simp only[h1,h2,Bool.not_true]
 rw[zw rfl,zw rfl,zw (show decide (Vanbki.CELLS<ts.length)=false from decide_eq_false hl)]
 show (_,_)=_
 have:=vQ ts
 unfold j5 at this ⊢
 rw[this]
 rfl
section
variable {C:Ad}{H G:Hp}{B:Bk}{ch:Chs}{s:Vanbki.State}
theorem U9 (hb:BooksAt C H G B ch s) {Hc H5:Hp} (s2:Same H Hc) {lb p x1 q1 x2 q2 dc dxb dx1 dx2 ds0 dc0:Addr}{as:List Addr}{d:Vanbki.Doc}{k:Nat} (hlb:H lb=none) (rl:RL Hc lb as) (cells:CellsAt C (zS G H Hc) as d)
 (np:(upd Hc B.b (.ins C.cBooks dxb (qz lb ds0 dc0))) p=none) (s5:Same (upd (upd Hc B.b (.ins C.cBooks dxb (qz lb ds0 dc0))) p (.dK [])) H5)
 (nx1:(upd (upd Hc B.b (.ins C.cBooks dxb (qz lb ds0 dc0))) p (.dK [])) x1=none) (nq1:(upd (upd Hc B.b (.ins C.cBooks dxb (qz lb ds0 dc0))) p (.dK [])) q1=none)
 (nx2:(upd (upd Hc B.b (.ins C.cBooks dxb (qz lb ds0 dc0))) p (.dK [])) x2=none) (nq2:(upd (upd Hc B.b (.ins C.cBooks dxb (qz lb ds0 dc0))) p (.dK [])) q2=none)
 (e1:H5 x1=some (.ins C.cSide dx1 (qW q1 k))) (r1:RL H5 q1 as) (e2:H5 x2=some (.ins C.cSide dx2 (qW q2 k))) (r2:RL H5 q2 as)
 (ndc:(upd (upd H5 p (.dK [(Sum.inl 1,.ref x1),(Sum.inl 2,.ref x2)])) B.b (.ins C.cBooks dxb (qz lb p dc0))) dc=none) (x12:x1≠x2) (q12:q1≠q2) {t:Vanbki.State} (ht:t=⟨d,d,d,k,k,[]⟩) (ok:qh t) :
 BooksAt C (upd (upd (upd (upd H5 p (.dK [(Sum.inl 1,.ref x1),(Sum.inl 2,.ref x2)])) B.b (.ins C.cBooks dxb (qz lb p dc0))) dc (.dT [])) B.b (.ins C.cBooks dxb (qz lb p dc))) (zS G H Hc) ⟨B.b,lb,p,x1,q1,x2,q2,dc⟩ [] t
 /\Fr H G B (upd (upd (upd (upd H5 p (.dK [(Sum.inl 1,.ref x1),(Sum.inl 2,.ref x2)])) B.b (.ins C.cBooks dxb (qz lb p dc0))) dc (.dT [])) B.b (.ins C.cBooks dxb (qz lb p dc))) (zS G H Hc) ⟨B.b,lb,p,x1,q1,x2,q2,dc⟩:=by
 have pb:p≠B.b:=fun z=>by rw[z,z6] at np;cases np
 have np':Hc p=none:=by rw[z8 pb] at np;exact np
 have out:∀ {y:Addr},(upd (upd Hc B.b (.ins C.cBooks dxb (qz lb ds0 dc0))) p (.dK [])) y=none->y≠p/\y≠B.b/\Hc y=none:=fun {y} h=>by
  have h1:y≠p:=fun z=>by rw[z,z6] at h;cases h
  rw[z8 h1] at h
  have h2:y≠B.b:=fun z=>by rw[z,z6] at h;cases h
  rw[z8 h2] at h
  exact⟨h1,h2,h⟩
 obtain⟨a1,a2,a3⟩:=out nx1
 obtain⟨b1,b2,b3⟩:=out nq1
 obtain⟨c1,c2,c3⟩:=out nx2
 obtain⟨d1,d2,d3⟩:=out nq2
 have h1:dc≠B.b:=fun z=>by rw[z,z6] at ndc;cases ndc
 rw[z8 h1] at ndc
 have h2:dc≠p:=fun z=>by rw[z,z6] at ndc;cases ndc
 rw[z8 h2] at ndc
 have ndcc:Hc dc=none:=by
  have:=s5.free ndc
  rw[z8 h2,z8 h1] at this
  exact this
 have val:∀ {y:Addr}{o:HO},y≠B.b->y≠p->H5 y=some o->(upd (upd (upd (upd H5 p (.dK [(Sum.inl 1,.ref x1),(Sum.inl 2,.ref x2)])) B.b (.ins C.cBooks dxb (qz lb p dc0))) dc (.dT [])) B.b (.ins C.cBooks dxb (qz lb p dc))) y=some o:=fun {y o} hb1 hp1 e=>by
  rw[z8 hb1,z8 (z7 e ndc),z8 hb1,z8 hp1]
  exact e
 refine UY hb s2 hlb rl cells (fun y o e hy=>?_) ⟨dxb,z6⟩ ?_ ⟨dx1,val a2 a1 e1⟩ (val b2 b1 r1) ⟨dx2,val c2 c1 e2⟩ (val d2 d1 r2) ?_ np' a3 b3 c3 d3 ndcc x12 q12 ht ok
 . have yp:y≠p:=z7 e np'
   exact val hy yp (s5 _ _ (by rw[z8 yp,z8 hy];exact e))
 . rw[z8 pb,z8 (Ne.symm h2),z8 pb,z6]
 . rw[z8 h1,z6]
   rfl
end
def J6 (C:Ad):Sp:=fun vs H Q _=>∃ G B ch s a row,vs=[.ref (Bk.b B),.ref a]/\BooksAt C H G B ch s/\IL H a row/\row.length<=16000/\PostDone C H G B (Vanbki.doBase s row) Q
section
variable {P:Program}{w:World}{K:PySem.W.Frag}{mg:Str->Option Value}{base:Heap}{C:Ad}{f:Addr}{fd:FuncData}
theorem XD {f1:Addr}{fd1:FuncData}{f2:Addr}{fd2:FuncData}{f3:Addr}{fd3:FuncData}{f4:Addr}{fd4:FuncData} (F:Fun K "set_base" "set_base" x_ f fd) (T:Txt K mg C) (D_texts_of_row:Def P w K mg base "texts_of_row" 1 ["row"] (wv) f1 fd1) (D_refusal_of_texts:Def P w K mg base "refusal_of_texts" 2 ["texts"] (j8) f2 fd2) (D_Cell:Cdf P w K mg base "Cell" 1 ["self","number","mark","text"] (qM C) C.cCell f3 fd3) (D_copy_of_base:Def P w K mg base "copy_of_base" 3 ["books"] (vZ C) f4 fd4):zU P w K mg base CX0 4 f fd ["books","row"] (J6 C):=by
 refine F.ok sc_set_base (fun vs H Q E h=>?_) (fun cdv A outer s H vs Q E hr h=>?_)
 . obtain⟨G,B,ch,s,a,row,rfl,_⟩:=h
   rfl
 . obtain⟨G,B,ch,s,a,row,rfl,hb,ha,hz,k⟩:=h
   have hu:=jL hr
   refine⟨_,(z5 (zi (i:=2) sc_set_base.nd rfl (Or.inl rfl) (ze D_texts_of_row (hr.mono (by decide)) (z4 (pv 1) z9)))
    (z5 (zC (qD (jD (pv 2))) (za (zg (pgi T.g_ROW_NOT_WHOLE))) zj)
    (z5 (zi (i:=3) sc_set_base.nd rfl (Or.inl rfl) (ze D_refusal_of_texts (hr.mono (by decide)) (z4 (pv 2) z9)))
    (z5 (zC (zo yG (pv 3) (pgi T.g_NO_REFUSAL) (zz _)) (za (zg (pv 3))) zj)
    (z5 (zC (zo QW (zP qS (by rfl) T.b_len qR (z4 (pv 2) z9)) (pgi T.g_MOST_CELLS) (zz _)) (za (zg (pgi T.g_TOO_MANY_CELLS))) zj)
    (z5 (qE (pv 0) (wU rfl sc_set_base.nd (aa1 T.b_enumerate (pv 2) zB) (qy (own:=[("number",4),("text",5)]) (by kernel_rfl)) (fun _ _ _ _ _=>(U4 (K:=K) (n:=2) rfl rfl (k7 (zJ (i:=4) sc_set_base.nd rfl (Or.inl rfl)) (k7 (zJ (i:=5) sc_set_base.nd rfl (Or.inl rfl)) ZD)))) (fun _ _ _ _ _=>ke) (fun _ _ _ _ _=>(qj D_Cell (hr.mono (by decide)) (z4 (pv 4) (z4 zB (z4 (pv 5) z9)))))) rfl)
    (z5 (qE (pv 0) (ZM (kM (pgi T.g_LEFT) (ze D_copy_of_base (hr.mono (by decide)) (z4 (pv 0) z9)) (kM (pgi T.g_RIGHT) (ze D_copy_of_base (hr.mono (by decide)) (z4 (pv 0) z9)) ZL)) rfl rfl (by simp) (by decide)) rfl)
    (z5 (qE (pv 0) wW rfl)
    (za (zg (zP qS (by rfl) T.b_len qR (z4 (pv 2) z9)))))))))))),?_⟩
   obtain⟨dxb,eb⟩:=hb.bk
   have S:=hb.ok
   refine⟨_,rfl,a,row,rfl,ha,hz,fun hN H1 s1=>?_,fun ts hts hlen hbig H1 p as s1 hp rp pp=>?_⟩
   . exact⟨_,rfl,_,rfl,zF (k.no hb (J4 hN) s1)⟩
   . refine⟨_,rfl,_,rfl,zy ?_⟩
     have lp:=zk pp
     refine⟨_,rfl,p,as,ts,rfl,rp,zA pp (fun _ _ r=>r.2),(by omega),(fun t ht=>Nat.le_trans (hbig t ht) hz),fun H2 s2=>?_⟩
     have s02:=s1.trans s2
     refine⟨_,rfl,rfl,_,rfl,qJ (fun hh=>⟨_,rfl,?_⟩) (fun hh=>?_)⟩
     . exact k.no hb (VI hts hh) s02
     . refine⟨_,rfl,p,_,rfl,.inl (SqL.of (s2 _ _ rp)),_,_,rfl,rfl,_,rfl,?_⟩
       by_cases h12:12<ts.length
       . rw[decide_eq_true (by rw[List.length_map];omega)]
         exact zF (k.no hb (J5 hts hh h12) s02)
       . rw[decide_eq_false (by rw[List.length_map];omega)]
         refine zy ?_
         obtain⟨hby,_⟩:=xz hh
         refine⟨_,rfl,p,_,1,rfl,rfl,(by decide),SqL.of (s2 _ _ rp),fun D hD=>?_⟩
         have D0:=s02.free hD
         refine abi (K:=K) (xs:=as.map V.ref) (fun i y F=>∃ x dx q,y=.ref x/\H x=none/\as[i]?=some q/\F x=some (.ins C.cCell dx (k5 ((i+1:Nat):Int) 0 q))) (fun i y F F' sF ⟨x,dx,q,h1,h2,h3,h4⟩=>⟨x,dx,q,h1,h2,h3,sF _ _ h4⟩) (SqL.of (s2 _ _ rp)) hD (by rw[List.length_map];exact qO (by omega)) (fun i x H' X P' hi s3 hDo hX hP=>?_) (fun H3 ys s3 e3 hyl hr'=>?_)
         . obtain⟨q,hq,rfl⟩:=qF hi
           refine⟨X,_,rfl,SqT.of z6,rfl,_,_,rfl,_,_,rfl,rfl,rfl,_,rfl,_,rfl,?_⟩
           intro y dy ny nd ne
           refine⟨y,dy,_,_,_,rfl,z6,rfl,?_⟩
           have s5:=jr (c:=C.cCell) (fs:=k5 ((i+1:Nat):Int) 0 q) ny nd
           have yD:y≠D:=fun z=>by
            obtain⟨ob,hob⟩:=hDo
            have:=Same.new (o:=.tup [.int ((i+1:Nat):Int),.ref q]) hX _ _ hob
            rw[<-z,ny] at this
            cases this
           refine hP _ _ ((Same.new hX).trans s5) ⟨y,dy,q,rfl,(s02.trans (s3.trans (Same.new hX))).free ny,hq,?_⟩
           rw[qC yD,z6]
         . have s03:=s02.trans s3
           have gr:=qI hb.gh s03
           obtain⟨cs,rfl,pc⟩:=yr (R:=CellAt C (zS G H H3)) (ys:=ys) (bs:=j5 ts) (by rw[hyl,List.length_map,vQ,lp]) fun i y b hy hbd=>by
            obtain⟨x,dx,q,h1,h2,h3,h4⟩:=hr' i y hy
            obtain⟨t,ht,hq0,hqt⟩:=zG pp h3
            rw[Zd ht] at hbd
            cases hbd
            have xD:x≠D:=fun z=>by rw[z,jp] at h4;cases h4
            rw[qC xD] at h4
            refine⟨x,h1,dx,q,?_,?_⟩
            . rw[qP hb.gh h2]
              exact h4
            . rw[IL,qP hb.gh hq0,vP ((List.all_eq_true.mp hby) t (List.mem_of_getElem? ht))]
              exact s3 _ _ (s2 _ _ hqt)
           have e3:RL H3 D cs:=e3
           have ok:qh (Vanbki.doBase s row).1:=xA S (.base row)
           rw[Ky hts hh h12] at ok k
           have eb3:=s03 _ _ eb
           have Db:D≠B.b:=Ne.symm (z7 eb D0)
           refine⟨_,rfl,B.b,C.cBooks,dxb,_,rfl,eb3,T.c_Books,T.n_Books_base_cells,(by show 3<1000;decide),fun pd npd=>?_⟩
           have npd:(upd H3 B.b (.ins C.cBooks dxb (qz D B.ds B.dc))) pd=none:=npd
           have pdb:pd≠B.b:=fun z=>by rw[z,z6] at npd;cases npd
           have pdD:pd≠D:=fun z=>by rw[z,z8 Db,e3] at npd;cases npd
           generalize hH4:upd (upd H3 B.b (.ins C.cBooks dxb (qz D B.ds B.dc))) pd (.dK [])=H4
           have hH4':upd (upd H3 B.b (.ins C.cBooks dxb (xE "base_cells" (.ref D) (qz B.lb B.ds B.dc)))) pd (.dK [])=H4:=hH4
           rw[hH4']
           have eb4:H4 B.b=some (.ins C.cBooks dxb (qz D B.ds B.dc)):=by rw[<-hH4,z8 (Ne.symm pdb),z6]
           have eD4:RL H4 D cs:=by rw[<-hH4,RL,z8 (Ne.symm pdD),z8 Db];exact e3
           have keep4:∀ y o,H3 y=some o->y≠B.b->H4 y=some o:=fun y o e hy=>by
            have yp:y≠pd:=fun z=>by rw[z] at e;rw[z8 pdb,e] at npd;cases npd
            rw[<-hH4,z8 yp,z8 hy]
            exact e
           have Gb:zS G H H3 B.b=none:=gr.free (hb.fr _ (by simp[Bk.muts])) eb
           have cells4:CellsAt C H4 cs (j5 ts):=zA pc fun x c ⟨dx,q,h1,h2⟩=>⟨dx,q,keep4 _ _ (gr.fh _ _ h1) (fun z=>by rw[z,Gb] at h1;cases h1),keep4 _ _ (gr.fh _ _ h2) (fun z=>by rw[z] at h2;rw[IL,Gb] at h2;cases h2)⟩
           have lz:(j5 ts).length<=1000:=by rw[vQ];omega
           have ek:((Vanbki.greatest (numbers (j5 ts)):Int)+1)=((ts.length+1:Nat):Int):=by rw[XC];omega
           refine⟨_,rfl,B.b,dxb,D,B.ds,B.dc,cs,j5 ts,rfl,eb4,eD4,cells4,lz,fun H5 x1 dx1 q1 s5 nx1 nq1 qx1 ex1 rx1=>?_⟩
           refine⟨_,rfl,B.b,dxb,D,B.ds,B.dc,cs,j5 ts,rfl,s5 _ _ eb4,s5 _ _ eD4,cells4.mono s5,lz,fun H6 x2 dx2 q2 s6 nx2 nq2 qx2 ex2 rx2=>?_⟩
           rw[ek] at ex1 ex2
           have s46:=s5.trans s6
           refine⟨s46 _ _ (by rw[<-hH4,z6]),[(Sum.inl 1,.ref x1),(Sum.inl 2,.ref x2)],rfl,(by show 2<=15;decide),?_⟩
           refine⟨_,rfl,B.b,C.cBooks,dxb,_,rfl,(by rw[z8 (Ne.symm pdb)];exact s46 _ _ eb4),T.c_Books,T.n_Books_sides,(by show 3<1000;decide),?_⟩
           intro dc ndc
           refine⟨_,rfl,B.b,C.cBooks,dxb,_,rfl,(by rw[z8 (Ne.symm (fun z=>by rw[z,z6] at ndc;cases ndc)),z6]),T.c_Books,T.n_Books_choices,(by show 3<1000;decide),?_⟩
           subst hH4
           obtain⟨f1,f2⟩:=U9 hb s03 D0 e3 pc npd s46 nx1 nq1 (s5.free nx2) (s5.free nq2) (s6 _ _ ex1) (s6 _ _ rx1) ex2 rx2 ndc (z7 ex1 nx2) (z7 rx1 nq2) rfl ok
           have rp9:=f2.kept
           have q:=k _ _ _ _ f1 f2
           refine⟨_,rfl,p,as.map V.ref,rfl,.inl (SqL.of ?_),?_⟩
           . have h1:H3 p=some (.lst (as.map V.ref)):=s3 _ _ (s2 _ _ rp)
             have h0:p≠B.b:=Ne.symm (z7 eb hp)
             have h2:p≠pd:=fun z=>by rw[z] at h1;rw[z8 pdb,h1] at npd;cases npd
             have h6:H6 p=some (.lst (as.map V.ref)):=s46 _ _ (keep4 _ _ h1 h0)
             have h7:p≠dc:=fun z=>by
              rw[<-z,z8 h0,z8 h2,h6] at ndc
              cases ndc
             rw[z8 h0,z8 h7,z8 h0,z8 h2]
             exact h6
           . rw[List.length_map,lp]
             exact q
end
end Tb
end
section
namespace Tb
open PySem PySem.Spec PyProof.Rows L2
open Vanbki (nats ofNat markNat numbers)
theorem UZ {d:Addr}{o:Obj}{kvs:List (List Key × V)}{g:TG}{tb:TS}{D:V_}{σ:L2.St}{H:Hp} (Pv:Nat->L2.St->Hp->Prop) (h0:Pv 0 σ H) (hl:∀ i σ H,i<=kvs.length->Pv i σ H->H d=some (.frz o (.dT kvs)))
 (hs:∀ i k v σ H T q,kvs[i]?=some (k,v)->H T=none->H q=some (.tup (k.map kV))->Pv i σ H->g (.ref T) σ (upd H T (.tup [.ref q,v])) fun σ2 H2=>tb { D with nx:=Pv (i+1),ct:=Pv (i+1),bk:=D.nx } σ2 H2) (hd:∀ σ H,Pv kvs.length σ H->D.nx σ H) :
 ∃ W:Nat->Nat->L2.St->Hp->Prop,(∃ m,W 0 m σ H)/\∀ i m σ H,W i m σ H ->
  ((aa3 d o kvs).stop i H/\D.nx σ H)∨((aa3 d o kvs).go i H/\∃ N:L2.St->Hp->Prop,(∀ σ' H',N σ' H'->∃ m',m'<m/\W (i+1) m' σ' H')/\∀ x H',(aa3 d o kvs).yld i H x H'->g x σ H' fun σ2 H2=>tb { D with nx:=N,ct:=N,bk:=D.nx } σ2 H2):=by
 refine⟨fun i m σ H=>m=kvs.length - i/\i<=kvs.length/\Pv i σ H,⟨kvs.length,by simp,Nat.zero_le _,h0⟩,?_⟩
 rintro i m σ H ⟨rfl,hi,p⟩
 have q:=hl i σ H hi p
 by_cases hlt:i<kvs.length
 . refine .inr ⟨⟨q,hlt⟩,Pv (i+1),fun σ' H' p'=>⟨kvs.length - (i+1),by omega,rfl,hlt,p'⟩,fun x H' y=>?_⟩
   obtain⟨X,k,v,z,hk,rfl,hX,hz,rfl⟩:=y
   exact hs i k v σ _ X z hk hX hz p
 . have e:i=kvs.length:=by omega
   subst e
   exact .inl ⟨⟨q,Nat.le_refl _⟩,hd σ H p⟩
def xk (k:Nat):Nat:=if k=2 then 3 else if k=3 then 2 else k
def xc (c:Nat):Nat:=if c=1 then 2 else if c=2 then 1 else c
def swp (x:(Nat × Nat) × Nat):(Nat × Nat) × Nat:=((xk x.1.1,x.1.2),xc x.2)
theorem Ua (k:Nat):xk (xk k)=k:=by
 unfold xk
 by_cases h2:k=2
 . subst h2;rfl
 . by_cases h3:k=3
   . subst h3;rfl
   . rw[if_neg h2,if_neg h3,if_neg h2,if_neg h3]
theorem abj {a b:Nat} (h:xk a=xk b):a=b:=by rw[<-Ua a,h,Ua]
theorem XE (l:Chs):(l.map swp).map (fun x=>x.1)=(l.map fun x=>x.1).map fun x=>(xk x.1,x.2):=by
 rw[List.map_map,List.map_map]
 rfl
theorem qZ (x:(Nat × Nat) × Nat) (l:Chs) (k n:Nat):yL (x::l) k n=if x.1=(k,n) then x.2 else yL l k n:=by
 unfold yL
 by_cases h:x.1=(k,n)
 . rw[List.find?_cons_of_pos (by simpa using h),if_pos h]
 . rw[List.find?_cons_of_neg (by simpa using h),if_neg h]
theorem Kz:∀ (l:Chs) (k n:Nat),yL (l.map swp) k n=xc (yL l (xk k) n)
 | [],k,n=>rfl
 | x::l,k,n=>by
  rw[List.map_cons,qZ,qZ,Kz l k n]
  have:(swp x).1=(k,n) ↔ x.1=(xk k,n):=by
   show (xk x.1.1,x.1.2)=(k,n) ↔ _
   constructor
   . intro h
     injection h with h1 h2
     rw[<-h1,<-h2,Ua]
   . intro h
     rw[h]
     show (xk (xk k),n)=_
     rw[Ua]
  by_cases h:x.1=(xk k,n)
  . rw[if_pos h,if_pos (this.mpr h)]
    rfl
  . rw[if_neg h,if_neg (fun z=>h (this.mp z))]
theorem we {α β:Type}{f:α->β}:∀ {l:List α},l.Nodup->(∀ x,x∈l->∀ y,y∈l->f x=f y->x=y)->(l.map f).Nodup
 | [],_,_=>List.nodup_nil
 | a::l,h,hf=>by
  obtain⟨h1,h2⟩:=List.nodup_cons.mp h
  rw[List.map_cons,List.nodup_cons]
  refine⟨fun z=>?_,we h2 fun x hx y hy=>hf x (List.mem_cons_of_mem _ hx) y (List.mem_cons_of_mem _ hy)⟩
  obtain⟨b,hb,e⟩:=List.mem_map.mp z
  rw[hf b (List.mem_cons_of_mem _ hb) a (List.mem_cons_self ..) e] at hb
  exact h1 hb
theorem XF {ch:Chs}{s:Vanbki.State} (h:Xs ch s):ch.length<=500:=by
 have h1:=List.Nodup.length_le_of_subset (l₁:=(ch.map fun x=>x.1).map fun x=>x.1 * 100+x.2) (l₂:=List.range 500) ?_ ?_
 . simpa using h1
 . refine we h.nd ?_
   intro x hx y hy e
   obtain⟨a,ha,rfl⟩:=List.mem_map.mp hx
   obtain⟨b,hb,rfl⟩:=List.mem_map.mp hy
   have:=h.rg a ha
   have:=h.rg b hb
   have e:a.1.1 * 100+a.1.2=b.1.1 * 100+b.1.2:=e
   exact Prod.ext (by omega) (by omega)
 . intro z hz
   obtain⟨x,hx,rfl⟩:=List.mem_map.mp hz
   obtain⟨a,ha,rfl⟩:=List.mem_map.mp hx
   have:=h.rg a ha
   exact List.mem_range.mpr (by show a.1.1 * 100+a.1.2<500;omega)
theorem abk {ch:Chs}{s:Vanbki.State} (h:Xs ch s):Xs (ch.map swp) (Vanbki.swapped s) where
 nd:=by
  rw[XE]
  refine we h.nd ?_
  intro x _ y _ e
  injection e with e1 e2
  exact Prod.ext (abj e1) e2
 rg:=fun x hx=>by
  obtain⟨y,hy,rfl⟩:=List.mem_map.mp hx
  obtain⟨h1,h2,h3⟩:=h.rg y hy
  refine⟨?_,h2,?_⟩
  . show xk y.1.1<=4
    unfold xk
    split
    . omega
    . split <;> omega
  . show xc y.2<=3
    unfold xc
    split
    . omega
    . split <;> omega
 eq:=fun k n=>by
  rw[Kz,h.eq]
  show xc (yL s.choices (xk k) n)=yL (s.choices.map swp) k n
  rw[Kz]
def vR:Sp:=fun vs H Q _=>∃ d ch,vs=[.ref d]/\H d=some (.dT (chV ch))/\(ch.map fun x=>x.1).Nodup/\(∀ x,x∈ch->x.1.1<=4/\x.1.2<=99/\x.2<=3)/\ch.length<=500/\∀ H' p,Same H H'->H p=none->H' p=some (.dT (chV (ch.map swp)))->Q (.ref p) H'
def uV (C:Ad):Sp:=fun vs H Q _=>∃ G B ch s,vs=[.ref (Bk.b B)]/\BooksAt C H G B ch s/\PostDone C H G B (Vanbki.swapped s,⟨0,[]⟩) Q
theorem Ub (ch:Chs):(chV ch).length=ch.length:=by simp[chV]
theorem acL {ch:Chs}{i:Nat}{kk:List Key}{v:V} (h:(chV ch)[i]?=some (kk,v)):∃ x,ch[i]?=some x/\kk=[Sum.inl (x.1.1:Int),Sum.inl (x.1.2:Int)]/\v=.int (x.2:Nat):=by
 unfold chV at h
 rw[List.getElem?_map] at h
 cases e:ch[i]? with
 | none=>rw[e] at h;cases h
 | some x =>
  rw[e] at h
  have h:=Option.some.inj h
  injection h with h1 h2
  exact⟨x,rfl,h1.symm,h2.symm⟩
theorem abl {ch:Chs}{k n c:Nat} (h:¬(k,n)∈ch.map fun x=>x.1):ye (chV ch) [Sum.inl (k:Int),Sum.inl (n:Int)] (.int (c:Nat))=chV (ch++[((k,n),c)]):=by
 rw[Xw]
 . unfold chV
   rw[List.map_append]
   rfl
 . intro z
   unfold chV at z
   rw[List.map_map] at z
   obtain⟨x,hx,e⟩:=List.mem_map.mp z
   have e:([Sum.inl (x.1.1:Int),Sum.inl (x.1.2:Int)]:List Key)=[Sum.inl (k:Int),Sum.inl (n:Int)]:=e
   injection e with e1 e2
   injection e2 with e2 e3
   injection e1 with e1
   injection e2 with e2
   exact h (List.mem_map.mpr ⟨x,hx,Prod.ext (by omega) (by omega)⟩)
theorem abm {k:Nat} (h:k<=4):atI (([0,1,3,2,4]:List Int).map V.int) ((k:Nat):Int)=some (.int (xk k:Nat)):=by
 refine zV ?_
 match k,h with
 | 0,_=>rfl
 | 1,_=>rfl
 | 2,_=>rfl
 | 3,_=>rfl
 | 4,_=>rfl
 | k+5,h=>omega
theorem WC {k:Nat} (h:k<=3):atI (([0,2,1,3]:List Int).map V.int) ((k:Nat):Int)=some (.int (xc k:Nat)):=by
 refine zV ?_
 match k,h with
 | 0,_=>rfl
 | 1,_=>rfl
 | 2,_=>rfl
 | 3,_=>rfl
 | k+4,h=>omega
section
variable {P:Program}{w:World}{K:PySem.W.Frag}{mg:Str->Option Value}{base:Heap}{C:Ad}{f:Addr}{fd:FuncData}
theorem uf (F:Fun K "exchanged_choices" "exchanged_choices" j7 f fd) (T:Txt K mg C):zU P w K mg base CX0 1 f fd ["choices"] (vR):=by
 refine F.ok sc_exchanged_choices (fun vs H Q E h=>?_) (fun cdv A outer s H vs Q E hr h=>?_)
 . obtain⟨d,ch,rfl,_⟩:=h
   rfl
 . obtain⟨d,ch,rfl,hd,hnd,hrg,hz,k⟩:=h
   have hu:=jL hr
   refine⟨_,(z5 (zi (i:=1) sc_exchanged_choices.nd rfl (Or.inl rfl) wW)
    (z5 (abL (kK PassesOwn.never rfl (UM (pv 0)) (Y2 rfl (k7 (zJ (i:=2) sc_exchanged_choices.nd rfl (Or.inl rfl)) (k7 (zJ (i:=3) sc_exchanged_choices.nd rfl (Or.inl rfl)) ZD))) (za (ZK hu (pv 1) (yH (z4 (qk kL (ZC (v:=.ref C.aEXCHANGED_KINDS) rfl T.g_EXCHANGED_KINDS rfl) (qk kL (pv 2) zB (fun _ _=>rfl)) (fun _ _=>rfl)) (z4 (qk kL (pv 2) zB (fun _ _=>rfl)) z9))) (qk kL (ZC (v:=.ref C.aEXCHANGED_CHOICES) rfl T.g_EXCHANGED_CHOICES rfl) (pv 3) (fun _ _=>rfl)) rfl))))
    (za (zg (pv 1))))),?_⟩
   intro e he
   have de:d≠e:=z7 hd he
   refine⟨d,.dT (chV ch),(by rw[z8 de];exact hd),trivial,fun od=>?_⟩
   have s0:∀ b o,H b=some o->b≠d->(upd (upd H e (.dT [])) d (.frz od (.dT (chV ch)))) b=some o:=fun b o eb hb=>by
    rw[z8 hb,z8 (z7 eb he)]
    exact eb
   refine⟨_,rfl,d,od,chV ch,rfl,z6,UZ (fun i σ H'=>(∃ v2 v3,σ=[some (.ref d),some (.ref e),v2,v3])/\H' d=some (.frz od (.dT (chV ch)))/\(∀ b o,H b=some o->b≠d->H' b=some o)/\H' e=some (.dT (chV ((ch.take i).map swp)))) ⟨⟨none,none,rfl⟩,z6,s0,(by rw[z8 (Ne.symm de),z6];rfl)⟩ (fun i σ H' _ h=>h.2.1) ?_ ?_⟩
   . rintro i kk v σ H' X q hi hX hq ⟨⟨v2,v3,rfl⟩,h1,h2,h3⟩
     obtain⟨x,hx,rfl,rfl⟩:=acL hi
     obtain⟨g1,g2,g3⟩:=hrg x (List.mem_of_getElem? hx)
     have hix:i<ch.length:=(List.getElem?_eq_some_iff.mp hx).1
     have Xq:q≠X:=z7 hq hX
     have Xe:e≠X:=z7 h3 hX
     have Xd:d≠X:=z7 h1 hX
     have hq':(upd H' X (.tup [.ref q,.int (x.2:Nat)])) q=some (.tup [.int (x.1.1:Nat),.int (x.1.2:Nat)]):=by rw[z8 Xq];exact hq
     refine⟨X,_,rfl,SqT.of z6,rfl,_,_,rfl,_,_,rfl,rfl,?_⟩
     refine⟨_,rfl,C.aEXCHANGED_CHOICES,_,_,_,rfl,rfl,T.s_EXCHANGED_CHOICES _,WC g3,_,rfl,?_⟩
     refine⟨_,rfl,q,_,_,_,rfl,rfl,SqT.of hq',zV (j:=0) rfl,C.aEXCHANGED_KINDS,_,_,_,rfl,rfl,T.s_EXCHANGED_KINDS _,abm g1,_,rfl,q,_,_,_,rfl,rfl,SqT.of hq',zV (j:=1) rfl,(by show 2<=sizeLine;decide),fun t ht=>?_⟩
     have te:e≠t:=z7 (by rw[z8 Xe];exact h3) ht
     have td:d≠t:=z7 (by rw[z8 Xd];exact h1) ht
     refine⟨e,_,rfl,DPut.t (k:=[Sum.inl (xk x.1.1:Int),Sum.inl (x.1.2:Int)]) (by rw[z8 te,z8 Xe];exact h3) z6 (by rw[Ub,List.length_map,List.length_take];exact qO (by omega)),⟨_,_,rfl⟩,?_,fun b o eb hb=>?_,?_⟩
     . rw[z8 de,z8 td,z8 Xd]
       exact h1
     . have hb2:=h2 b o eb hb
       rw[z8 (z7 eb he),z8 (z7 (by rw[z8 (z7 hb2 hX)];exact hb2) ht),z8 (z7 hb2 hX)]
       exact hb2
     . rw[z6,abl ?_,zH hx,List.map_append]
       . rfl
       . rw[XE]
         intro z
         obtain⟨y,hy,ey⟩:=List.mem_map.mp z
         injection ey with e1 e2
         have hyx:y=x.1:=Prod.ext (abj e1) e2
         rw[hyx] at hy
         have nd:(((ch.take (i+1)).map fun x=>x.1)).Nodup:=((List.take_sublist (i+1) ch).map _).nodup hnd
         rw[zH hx,List.map_append,List.nodup_append] at nd
         exact nd.2.2 _ hy _ (List.mem_singleton.mpr rfl) rfl
   . rintro σ H' ⟨⟨v2,v3,rfl⟩,h1,h2,h3⟩
     refine⟨h1,_,rfl,k _ e (fun b o eb=>?_) he ?_⟩
     . by_cases hb:b=d
       . rw[hb,z6,<-eb,hb,hd]
       . rw[z8 hb]
         exact h2 b o eb hb
     . rw[z8 (Ne.symm de),h3]
       congr 4
       rw[show (chV ch).length=ch.length by simp[chV],List.take_length]
end
end Tb
end
section
namespace Tb
open PySem PySem.Spec PyProof.Rows L2
open Vanbki (nats ofNat markNat numbers)
def uW (C:Ad):Sp:=fun vs H Q _=>∃ p dx,vs=[.ref p]/\H p=some (.ins C.cBooks dx [])/\∀ H' G B,Bk.b B=p->BooksAt C H' G B [] Vanbki.start->(∀ a o,H a=some o->a≠p->H' a=some o)->(∀ a,a∈B.muts->a=p∨H a=none)->(∀ a o,G a=some o->H a=none)->Q .non H'
section
variable {P:Program}{w:World}{K:PySem.W.Frag}{mg:Str->Option Value}{base:Heap}{C:Ad}{f:Addr}{fd:FuncData}
theorem V4 {f1:Addr}{fd1:FuncData} (F:Fun K "swap_sides" "swap_sides" yj f fd) (T:Txt K mg C) (D_exchanged_choices:Def P w K mg base "exchanged_choices" 1 ["choices"] (vR) f1 fd1):zU P w K mg base CX0 2 f fd ["books"] (uV C):=by
 refine F.ok KU (fun vs H Q E h=>?_) (fun cdv A outer s H vs Q E hr h=>?_)
 . obtain⟨G,B,ch,s,rfl,_⟩:=h
   rfl
 . obtain⟨G,B,ch,s,rfl,hb,k⟩:=h
   have hu:=jL hr
   refine⟨_,(z5 (qE (pv 0) (ZM (kM (pgi T.g_LEFT) (qc hu (zf (pv 0) rfl) (pgi T.g_RIGHT) (fun _ _=>rfl)) (kM (pgi T.g_RIGHT) (qc hu (zf (pv 0) rfl) (pgi T.g_LEFT) (fun _ _=>rfl)) ZL)) rfl rfl (by simp) (by decide)) rfl)
    (z5 (qE (pv 0) (ze D_exchanged_choices (hr.mono (by decide)) (z4 (zf (pv 0) rfl) z9)) rfl)
    (za (zg zB)))),?_⟩
   obtain⟨dxb,eb⟩:=hb.bk
   obtain⟨dx1,e1⟩:=hb.s1
   obtain⟨dx2,e2⟩:=hb.s2
   obtain⟨as1,f1,c1⟩:=hb.c1
   obtain⟨as2,f2,c2⟩:=hb.c2
   have S:=hb.ok
   intro pd npd
   have s1:=Same.new (o:=.dK []) npd
   have pdb:B.b≠pd:=z7 eb npd
   have d1:∀ {H1:Hp},H1 B.ds=some (.dK [(Sum.inl 1,.ref B.a1),(Sum.inl 2,.ref B.a2)])->DGet H1 B.ds (.int 1) (some (.ref B.a1)):=fun h=>Kl (.ref B.a1) (.ref B.a2)▸DGet.k (k:=Sum.inl 1) h
   have d2:∀ {H1:Hp},H1 B.ds=some (.dK [(Sum.inl 1,.ref B.a1),(Sum.inl 2,.ref B.a2)])->DGet H1 B.ds (.int 2) (some (.ref B.a2)):=fun h=>Km (.ref B.a1) (.ref B.a2)▸DGet.k (k:=Sum.inl 2) h
   refine⟨_,rfl,B.b,C.cBooks,dxb,_,_,rfl,s1 _ _ eb,T.c_Books,T.n_Books_sides,zD _ _ _,B.ds,_,rfl,d2 (s1 _ _ hb.sd),?_⟩
   refine⟨_,rfl,B.b,C.cBooks,dxb,_,_,rfl,s1 _ _ eb,T.c_Books,T.n_Books_sides,zD _ _ _,B.ds,_,rfl,d1 (s1 _ _ hb.sd),?_⟩
   refine⟨z6,[(Sum.inl 1,.ref B.a2),(Sum.inl 2,.ref B.a1)],rfl,(by show 2<=15;decide),?_⟩
   refine⟨_,rfl,B.b,C.cBooks,dxb,_,rfl,(by rw[z8 pdb];exact s1 _ _ eb),T.c_Books,T.n_Books_sides,(by show 3<1000;decide),?_⟩
   generalize hH2:upd (upd (upd H pd (.dK [])) pd (.dK (wX [] [(Sum.inl 1,.ref B.a2),(Sum.inl 2,.ref B.a1)]))) B.b (.ins C.cBooks dxb (qz B.lb pd B.dc))=H2
   have hH2':upd (upd (upd H pd (.dK [])) pd (.dK (wX [] [(Sum.inl 1,.ref B.a2),(Sum.inl 2,.ref B.a1)]))) B.b (.ins C.cBooks dxb (xE "sides" (.ref pd) (qz B.lb B.ds B.dc)))=H2:=hH2
   rw[hH2']
   have keep2:∀ y o,H y=some o->y≠B.b->H2 y=some o:=fun y o e hy=>by
    rw[<-hH2,z8 hy,z8 (z7 e npd),z8 (z7 e npd)]
    exact e
   have eb2:H2 B.b=some (.ins C.cBooks dxb (qz B.lb pd B.dc)):=by rw[<-hH2,z6]
   have ed2:H2 pd=some (.dK [(Sum.inl 1,.ref B.a2),(Sum.inl 2,.ref B.a1)]):=by rw[<-hH2,z8 (Ne.symm pdb),z6];rfl
   have ne:=hb.ne
   have fr:=hb.fr
   have nn:=hb.notNew (a:=pd) npd
   simp only[Bk.muts,List.nodup_cons,List.mem_cons,List.not_mem_nil,or_false,not_or] at ne nn
   obtain⟨⟨n1,n2,n3,n4,n5,n6⟩,⟨n7,n8,n9,n10,n11⟩,⟨n12,n13,n14,n15⟩,⟨n16,n17,n18⟩,⟨n19,n20⟩,n21,_⟩:=ne
   obtain⟨m1,m2,m3,m4,m5,m6,m7⟩:=nn
   refine⟨_,rfl,B.b,C.cBooks,dxb,_,_,rfl,eb2,T.c_Books,T.n_Books_choices,xx _ _ _,B.dc,ch,rfl,keep2 _ _ hb.dc (Ne.symm n6),hb.co.nd,hb.co.rg,XF hb.co,fun H3 dc s3 ndc e3=>?_⟩
   refine⟨_,rfl,B.b,C.cBooks,dxb,_,rfl,s3 _ _ eb2,T.c_Books,T.n_Books_choices,(by show 3<1000;decide),?_⟩
   have dcb:dc≠B.b:=fun z=>by rw[z,eb2] at ndc;cases ndc
   have dcp:pd≠dc:=z7 ed2 ndc
   have ndc0:H dc=none:=by
    cases e:H dc with
    | none=>rfl
    | some o=>rw[keep2 _ _ e dcb] at ndc;cases ndc
   have keep3:∀ y o,H y=some o->y≠B.b->(upd H3 B.b (.ins C.cBooks dxb (qz B.lb pd dc))) y=some o:=fun y o e hy=>by
    rw[z8 hy]
    exact s3 _ _ (keep2 y o e hy)
   have nn2:=hb.notNew (a:=dc) ndc0
   simp only[Bk.muts,List.mem_cons,List.not_mem_nil,or_false,not_or] at nn2
   obtain⟨o1,o2,o3,o4,o5,o6,o7⟩:=nn2
   refine k (upd H3 B.b (.ins C.cBooks dxb (qz B.lb pd dc))) G ⟨B.b,B.lb,pd,B.a2,B.l2,B.a1,B.l1,dc⟩ (ch.map swp) ⟨⟨dxb,z6⟩,?_,⟨dx2,keep3 _ _ e2 (Ne.symm n4)⟩,⟨dx1,keep3 _ _ e1 (Ne.symm n2)⟩,hb.c0,⟨as2,keep3 _ _ f2 (Ne.symm n5),c2⟩,⟨as1,keep3 _ _ f1 (Ne.symm n3),c1⟩,?_,abk hb.co,?_,?_,?_,xA S .swap⟩ ⟨rfl,?_,Same.refl _,?_,fun a o e=>.inl e⟩
   . rw[z8 (Ne.symm pdb)]
     exact s3 _ _ ed2
   . rw[z8 dcb]
     exact e3
   . intro y o e
     exact keep3 y o (hb.gh _ _ e) (fun z=>by rw[z,fr B.b (by simp[Bk.muts])] at e;cases e)
   . intro y hy
     simp only[Bk.muts,List.mem_cons,List.not_mem_nil,or_false] at hy
     rcases hy with rfl | rfl | rfl | rfl | rfl | rfl | rfl
     . exact fr _ (by simp[Bk.muts])
     . exact hb.gh.free npd
     . exact fr _ (by simp[Bk.muts])
     . exact fr _ (by simp[Bk.muts])
     . exact fr _ (by simp[Bk.muts])
     . exact fr _ (by simp[Bk.muts])
     . exact hb.gh.free ndc0
   . simp only[Bk.muts,List.nodup_cons,List.mem_cons,List.not_mem_nil,or_false,not_or,not_false_eq_true,and_true,List.nodup_nil]
     exact⟨⟨pdb,n4,n5,n2,n3,Ne.symm dcb⟩,⟨m5,m6,m3,m4,dcp⟩,⟨n19,Ne.symm n13,Ne.symm n16,Ne.symm o5⟩,⟨Ne.symm n14,Ne.symm n17,Ne.symm o6⟩,⟨n12,Ne.symm o3⟩,Ne.symm o4⟩
   . intro y o e m
     exact keep3 y o e (fun z=>m (by rw[z];simp[Bk.muts]))
   . intro y hy
     simp only[Bk.muts,List.mem_cons,List.not_mem_nil,or_false] at hy ⊢
     rcases hy with rfl | rfl | rfl | rfl | rfl | rfl | rfl
     . exact .inl (.inl rfl)
     . exact .inr npd
     . exact .inl (by simp)
     . exact .inl (by simp)
     . exact .inl (by simp)
     . exact .inl (by simp)
     . exact .inr ndc0
theorem V5 {f1:Addr}{fd1:FuncData} (F:Fun K "__init__" "Books.__init__" yf f fd) (T:Txt K mg C) (D_Side:Cdf P w K mg base "Side" 1 ["self","cells","next_number"] (jq C) C.cSide f1 fd1):zU P w K mg base CX0 3 f fd ["self"] (uW C):=by
 refine F.ok KR (fun vs H Q E h=>?_) (fun cdv A outer s H vs Q E hr h=>?_)
 . obtain⟨p,dx,rfl,_⟩:=h
   rfl
 . obtain⟨p,dx,rfl,hp,k⟩:=h
   refine⟨_,(z5 (qE (pv 0) (zX z9) rfl)
    (z5 (qE (pv 0) (ZM (kM (pgi T.g_LEFT) (qj D_Side (hr.mono (by decide)) (z4 (zX z9) (z4 zB z9))) (kM (pgi T.g_RIGHT) (qj D_Side (hr.mono (by decide)) (z4 (zX z9) (z4 zB z9))) ZL)) rfl rfl (by simp) (by decide)) rfl)
    (za (qE (pv 0) wW rfl)))),?_⟩
   refine⟨Nat.zero_le _,fun lb nlb=>?_⟩
   have pl:p≠lb:=z7 hp nlb
   refine⟨_,rfl,p,C.cBooks,dx,_,rfl,(by rw[z8 pl];exact hp),T.c_Books,T.n_Books_base_cells,(by show 0<1000;decide),?_⟩
   generalize hH2:upd (upd H lb (.lst [])) p (.ins C.cBooks dx [("base_cells",.ref lb)])=H2
   have hH2':upd (upd H lb (.lst [])) p (.ins C.cBooks dx (xE "base_cells" (.ref lb) []))=H2:=hH2
   rw[hH2']
   have keep2:∀ y o,H y=some o->y≠p->H2 y=some o:=fun y o e hy=>by
    rw[<-hH2,z8 hy,z8 (z7 e nlb)]
    exact e
   have ep2:H2 p=some (.ins C.cBooks dx [("base_cells",.ref lb)]):=by rw[<-hH2,z6]
   have el2:H2 lb=some (.lst []):=by rw[<-hH2,z8 (Ne.symm pl),z6]
   intro pd npd
   have s3:=Same.new (o:=.dK []) npd
   have pdp:pd≠p:=Ne.symm (z7 ep2 npd)
   have pdl:lb≠pd:=z7 el2 npd
   refine⟨Nat.zero_le _,fun m1 nm1=>?_⟩
   have s4:=s3.trans (Same.new (o:=.lst []) nm1)
   intro x1 dx1 nx1 nd1 ne1
   refine⟨x1,dx1,m1,[],_,rfl,z6,(by rw[z8 (z7 z6 nx1),z8 (z7 z6 nd1)];exact z6),fun q1 hq1=>⟨rfl,?_⟩⟩
   obtain⟨nq1,qx1,s5,eq5⟩:=yQ (C:=C) (xs:=[]) (k:=1) nx1 nd1 ne1 hq1
   generalize hH5:upd (upd (upd (upd (upd (upd H2 pd (.dK [])) m1 (.lst [])) dx1 (.own x1)) x1 (.ins C.cSide dx1 [])) q1 (.lst [])) x1 (.ins C.cSide dx1 (qW q1 1))=H5 at s5 eq5 ⊢
   have ex5:H5 x1=some (.ins C.cSide dx1 (qW q1 1)):=by rw[<-hH5,z6]
   have s45:=s4.trans s5
   refine⟨Nat.zero_le _,fun m2 nm2=>?_⟩
   have s6:=s45.trans (Same.new (o:=.lst []) nm2)
   intro x2 dx2 nx2 nd2 ne2
   refine⟨x2,dx2,m2,[],_,rfl,z6,(by rw[z8 (z7 z6 nx2),z8 (z7 z6 nd2)];exact z6),fun q2 hq2=>⟨rfl,?_⟩⟩
   obtain⟨nq2,qx2,s7,eq7⟩:=yQ (C:=C) (xs:=[]) (k:=1) nx2 nd2 ne2 hq2
   generalize hH7:upd (upd (upd (upd (upd H5 m2 (.lst [])) dx2 (.own x2)) x2 (.ins C.cSide dx2 [])) q2 (.lst [])) x2 (.ins C.cSide dx2 (qW q2 1))=H7 at s7 eq7 ⊢
   have ex7:H7 x2=some (.ins C.cSide dx2 (qW q2 1)):=by rw[<-hH7,z6]
   have s27:=s6.trans s7
   have s57:=(Same.new (o:=.lst []) nm2).trans s7
   have sP:Same (upd H2 pd (.dK [])) H7:=((Same.new nm1).trans s5).trans s57
   have ep7:=s27 _ _ ep2
   refine⟨sP _ _ z6,[(Sum.inl 1,.ref x1),(Sum.inl 2,.ref x2)],rfl,(by show 2<=15;decide),?_⟩
   refine⟨_,rfl,p,C.cBooks,dx,_,rfl,(by rw[z8 (Ne.symm pdp)];exact ep7),T.c_Books,T.n_Books_sides,(by show 1<1000;decide),?_⟩
   intro dc ndc
   have ndc:(upd (upd H7 pd (.dK [(Sum.inl 1,.ref x1),(Sum.inl 2,.ref x2)])) p (.ins C.cBooks dx [("base_cells",.ref lb),("sides",.ref pd)])) dc=none:=ndc
   have dcp:dc≠p:=fun z=>by rw[z,z6] at ndc;cases ndc
   rw[z8 dcp] at ndc
   have dcd:dc≠pd:=fun z=>by rw[z,z6] at ndc;cases ndc
   rw[z8 dcd] at ndc
   refine⟨_,rfl,p,C.cBooks,dx,_,rfl,(by rw[z8 (Ne.symm dcp),z6]),T.c_Books,T.n_Books_choices,(by show 2<1000;decide),?_⟩
   show Q .non (upd (upd (upd (upd H7 pd (.dK [(Sum.inl 1,.ref x1),(Sum.inl 2,.ref x2)])) p (.ins C.cBooks dx [("base_cells",.ref lb),("sides",.ref pd)])) dc (.dT [])) p (.ins C.cBooks dx (qz lb pd dc)))
   generalize hH':upd (upd (upd (upd H7 pd (.dK [(Sum.inl 1,.ref x1),(Sum.inl 2,.ref x2)])) p (.ins C.cBooks dx [("base_cells",.ref lb),("sides",.ref pd)])) dc (.dT [])) p (.ins C.cBooks dx (qz lb pd dc))=H'
   have val:∀ {y:Addr}{o:HO},H7 y=some o->y≠p->y≠pd->H' y=some o:=fun {y o} e h1 h2=>by
    rw[<-hH',z8 h1,z8 (z7 e ndc),z8 h1,z8 h2]
    exact e
   have free:∀ {y:Addr},(upd H2 pd (.dK [])) y=none->y≠p/\y≠pd/\y≠lb/\H y=none:=fun {y} e=>by
    have h1:y≠pd:=fun z=>by rw[z,z6] at e;cases e
    rw[z8 h1] at e
    have h2:y≠p:=fun z=>by rw[z,ep2] at e;cases e
    have h3:y≠lb:=fun z=>by rw[z,el2] at e;cases e
    rw[<-hH2,z8 h2,z8 h3] at e
    exact⟨h2,h1,h3,e⟩
   have a1:=free ((Same.new nm1).free nx1)
   have a2:=free ((Same.new nm1).free nq1)
   have a3:=free (((Same.new nm1).trans s5).free ((Same.new nm2).free nx2))
   have a4:=free (((Same.new nm1).trans s5).free ((Same.new nm2).free nq2))
   have a5:=free (sP.free ndc)
   have np0:H pd=none:=by
    cases e:H pd with
    | none=>rfl
    | some o=>rw[keep2 _ _ e pdp] at npd;cases npd
   have ex1:=val (s57 _ _ ex5) a1.1 a1.2.1
   have er1:=val (s57 _ _ eq5) a2.1 a2.2.1
   have ex2:=val ex7 a3.1 a3.2.1
   have er2:=val eq7 a4.1 a4.2.1
   have edc:H' dc=some (.dT []):=by rw[<-hH',z8 dcp,z6]
   have epd:H' pd=some (.dK [(Sum.inl 1,.ref x1),(Sum.inl 2,.ref x2)]):=by rw[<-hH',z8 pdp,z8 (Ne.symm dcd),z8 pdp,z6]
   have elb:H' lb=some (.lst []):=val (s27 _ _ el2) (Ne.symm pl) pdl
   have x12:x1≠x2:=z7 (Same.new nm2 _ _ ex5) nx2
   have q12:q1≠q2:=z7 (Same.new nm2 _ _ eq5) nq2
   have hh:∀ {y z:Addr}{o u:HO},H' y=some o->H' z=some u->o≠u->y≠z:=fun h1 h2 h3 e=>by
    rw[e,h2] at h1
    exact h3 (Option.some.inj h1).symm
   refine k H' (fun a=>if a=lb then some (.lst []) else none) ⟨p,lb,pd,x1,q1,x2,q2,dc⟩ rfl ⟨⟨dx,by rw[<-hH',z6]⟩,epd,⟨dx1,ex1⟩,⟨dx2,ex2⟩,⟨[],if_pos rfl,.nil⟩,⟨[],er1,.nil⟩,⟨[],er2,.nil⟩,edc,Kx rfl,?_,?_,?_,XV⟩ ?_ ?_ ?_
   . intro y o e
     have e:(if y=lb then some (HO.lst []) else none)=some o:=e
     by_cases h:y=lb
     . rw[if_pos h] at e
       rw[h,elb]
       exact e
     . rw[if_neg h] at e
       cases e
   . intro y hy
     simp only[Bk.muts,List.mem_cons,List.not_mem_nil,or_false] at hy
     refine if_neg ?_
     rcases hy with rfl | rfl | rfl | rfl | rfl | rfl | rfl
     . exact pl
     . exact Ne.symm pdl
     . exact a1.2.2.1
     . exact a2.2.2.1
     . exact a3.2.2.1
     . exact a4.2.2.1
     . exact a5.2.2.1
   . simp only[Bk.muts,List.nodup_cons,List.mem_cons,List.not_mem_nil,or_false,not_or,not_false_eq_true,and_true,List.nodup_nil]
     refine⟨⟨Ne.symm pdp,Ne.symm a1.1,Ne.symm a2.1,Ne.symm a3.1,Ne.symm a4.1,Ne.symm dcp⟩,⟨hh epd ex1 (by simp),hh epd er1 (by simp),hh epd ex2 (by simp),hh epd er2 (by simp),hh epd edc (by simp)⟩,⟨hh ex1 er1 (by simp),x12,hh ex1 er2 (by simp),hh ex1 edc (by simp)⟩,⟨hh er1 ex2 (by simp),q12,hh er1 edc (by simp)⟩,⟨hh ex2 er2 (by simp),hh ex2 edc (by simp)⟩,hh er2 edc (by simp)⟩
   . intro y o e hy
     exact val (s27 _ _ (keep2 y o e hy)) hy (fun z=>by rw[z,np0] at e;cases e)
   . intro y hy
     simp only[Bk.muts,List.mem_cons,List.not_mem_nil,or_false] at hy
     rcases hy with rfl | rfl | rfl | rfl | rfl | rfl | rfl
     . exact .inl rfl
     . exact .inr np0
     . exact .inr a1.2.2.2
     . exact .inr a2.2.2.2
     . exact .inr a3.2.2.2
     . exact .inr a4.2.2.2
     . exact .inr a5.2.2.2
   . intro y o e
     have e:(if y=lb then some (HO.lst []) else none)=some o:=e
     by_cases h:y=lb
     . rw[h]
       exact nlb
     . rw[if_neg h] at e
       cases e
end
end Tb
end
section
namespace Tb
open PySem PySem.Spec PyProof.Rows L2
open Vanbki (nats ofNat markNat numbers)
def J7 (a b:Int):PyData:=.tuple (([a,b]:List Int).map PyData.int)
theorem J8 (a b:Int):SeqAt.shaped (J7 a b)=true:=by rfl
theorem abn (a b c d:Int):PyData.eqv (J7 a b) (J7 c d)=(a == c && b == d):=by
 show PyData.eqvAll (([a,b]:List Int).map PyData.int) (([c,d]:List Int).map PyData.int)=_
 rw[wK]
 by_cases h1:a=c <;> by_cases h2:b=d <;> simp[h1,h2]
def J9 (ch:Chs) (k n c:Nat):Chs:=if (k,n)∈ch.map (fun x=>x.1) then ch.map (fun x=>if x.1=(k,n) then (x.1,c) else x) else ch++[((k,n),c)]
theorem ab1 {ch:Chs}{k n c:Nat} (h:(k,n)∈ch.map fun x=>x.1):ye (chV ch) [Sum.inl (k:Int),Sum.inl (n:Int)] (.int (c:Nat))=chV (ch.map fun x=>if x.1=(k,n) then (x.1,c) else x):=by
 have key:∀ x:(Nat × Nat) × Nat,([Sum.inl (x.1.1:Int),Sum.inl (x.1.2:Int)]:List Key)=[Sum.inl (k:Int),Sum.inl (n:Int)] ↔ x.1=(k,n):=fun x=>by
  constructor
  . intro e
    injection e with e1 e2
    injection e2 with e2 e3
    injection e1 with e1
    injection e2 with e2
    exact Prod.ext (by omega) (by omega)
  . intro e
    rw[e]
 unfold ye
 rw[if_pos ?_]
 . unfold chV
   rw[List.map_map,List.map_map]
   refine List.map_congr_left fun x hx=>?_
   simp only[Function.comp]
   by_cases e:x.1=(k,n)
   . rw[if_pos e,if_pos ((key x).mpr e)]
   . rw[if_neg e,if_neg (fun z=>e ((key x).mp z))]
 . obtain⟨x,hx,e⟩:=List.mem_map.mp h
   refine List.any_eq_true.mpr ⟨_,List.mem_map.mpr ⟨x,hx,rfl⟩,?_⟩
   exact decide_eq_true ((key x).mpr e)
theorem ab2 (ch:Chs) (k n c:Nat):ye (chV ch) [Sum.inl (k:Int),Sum.inl (n:Int)] (.int (c:Nat))=chV (J9 ch k n c):=by
 unfold J9
 by_cases h:(k,n)∈ch.map fun x=>x.1
 . rw[if_pos h]
   exact ab1 h
 . rw[if_neg h]
   exact abl h
theorem U_ (ch:Chs) (k n c:Nat):(ch.map fun x=>if x.1=(k,n) then (x.1,c) else x).map (fun x=>x.1)=ch.map fun x=>x.1:=by
 rw[List.map_map]
 refine List.map_congr_left fun x hx=>?_
 simp only[Function.comp]
 split <;> rfl
theorem QO (k n c:Nat) (k' n':Nat):∀ ch:Chs,(k,n)∈ch.map (fun x=>x.1)->yL (ch.map fun x=>if x.1=(k,n) then (x.1,c) else x) k' n'=if (k',n')=(k,n) then c else yL ch k' n'
 | [],h=>by simp at h
 | x::l,h=>by
  rw[List.map_cons,qZ,qZ]
  by_cases hx:x.1=(k,n)
  . simp only[hx,if_true]
    by_cases e:(k',n')=(k,n)
    . rw[if_pos e.symm,if_pos e]
    . rw[if_neg (fun z=>e z.symm),if_neg e,if_neg (fun z=>e z.symm)]
      by_cases hl:(k,n)∈l.map fun x=>x.1
      . rw[QO k n c k' n' l hl,if_neg e]
      . have:(l.map fun x=>if x.1=(k,n) then (x.1,c) else x)=l:=by
         rw[List.map_congr_left (g:=id),List.map_id]
         intro y hy
         rw[if_neg (fun z=>hl (List.mem_map.mpr ⟨y,hy,z⟩))]
         rfl
        rw[this]
  . have hl:(k,n)∈l.map fun x=>x.1:=by
     rcases List.mem_cons.mp h with z | z
     . exact absurd z.symm hx
     . exact z
    simp only[hx,if_false]
    rw[QO k n c k' n' l hl]
    by_cases e:(k',n')=(k,n)
    . rw[if_pos e,if_neg (fun z=>hx (z.trans e)),if_pos e]
    . rw[if_neg e,if_neg e]
theorem ug (l m:Chs) (k n:Nat) (h:¬(k,n)∈l.map fun x=>x.1):yL (l++m) k n=yL m k n:=by
 induction l with
 | nil=>rfl
 | cons x l ih =>
  rw[List.map_cons,List.mem_cons,not_or] at h
  rw[List.cons_append,qZ,if_neg (fun z=>h.1 z.symm),ih h.2]
theorem xM {l m:Chs}{k n:Nat} (h:¬(k,n)∈m.map fun x=>x.1):yL (l++m) k n=yL l k n:=by
 induction l with
 | nil =>
  rw[List.nil_append]
  have:=ug m [] k n h
  rw[List.append_nil] at this
  exact this
 | cons x l ih=>rw[List.cons_append,qZ,qZ,ih]
theorem abo (ch:Chs) (k n c:Nat) (k' n':Nat):yL (J9 ch k n c) k' n'=if (k',n')=(k,n) then c else yL ch k' n':=by
 unfold J9
 by_cases h:(k,n)∈ch.map fun x=>x.1
 . rw[if_pos h]
   exact QO k n c k' n' ch h
 . rw[if_neg h]
   by_cases e:(k',n')=(k,n)
   . rw[if_pos e]
     injection e with e1 e2
     subst e1 e2
     rw[ug _ _ _ _ h,qZ,if_pos rfl]
   . rw[if_neg e,xM (by simpa using e)]
theorem XG (l:Chs) (k n:Nat) (k' n':Nat):yL (l.filter fun x=>x.1 != (k,n)) k' n'=if (k',n')=(k,n) then 0 else yL l k' n':=by
 induction l with
 | nil =>
  show 0=_
  split <;> rfl
 | cons x l ih =>
  by_cases hx:x.1=(k,n)
  . rw[List.filter_cons_of_neg (by simpa using hx),ih,qZ]
    by_cases e:(k',n')=(k,n)
    . rw[if_pos e,if_pos e]
    . rw[if_neg e,if_neg e,if_neg (fun z=>e (z.symm.trans hx))]
  . rw[List.filter_cons_of_pos (by simpa using hx),qZ,qZ,ih]
    by_cases e:(k',n')=(k,n)
    . rw[if_pos e,if_neg (fun z=>hx (z.trans e)),if_pos e]
    . rw[if_neg e,if_neg e]
theorem aaa (s:Vanbki.State) (k n c:Nat) (k' n':Nat):Vanbki.choiceOf (Vanbki.chooseIn s k n c) k' n'=if (k',n')=(k,n) then c else Vanbki.choiceOf s k' n':=by
 show yL ((s.choices.filter fun x=>x.1 != (k,n))++(if c=0 then [] else [((k,n),c)])) k' n'=if (k',n')=(k,n) then c else yL s.choices k' n'
 by_cases e:(k',n')=(k,n)
 . rw[if_pos e]
   injection e with e1 e2
   subst e1 e2
   rw[ug]
   . by_cases h:c=0
     . rw[if_pos h,h]
       rfl
     . rw[if_neg h,qZ,if_pos rfl]
   . intro z
     obtain⟨x,hx,ex⟩:=List.mem_map.mp z
     have:=(List.mem_filter.mp hx).2
     simp[ex] at this
 . rw[if_neg e,xM,XG,if_neg e]
   by_cases h:c=0
   . simp[h]
   . rw[if_neg h]
     simpa using e
theorem abp {ch:Chs}{s:Vanbki.State} (h:Xs ch s) {k n c:Nat} (hk:k<=4) (hn:n<=99) (hc:c<=3):Xs (J9 ch k n c) (Vanbki.chooseIn s k n c) where
 nd:=by
  unfold J9
  by_cases hh:(k,n)∈ch.map fun x=>x.1
  . rw[if_pos hh,U_]
    exact h.nd
  . rw[if_neg hh,List.map_append,List.nodup_append]
    refine⟨h.nd,by simp,fun a ha b hb e=>?_⟩
    have hb:b=(k,n):=by simpa using hb
    rw[e,hb] at ha
    exact hh ha
 rg:=fun x hx=>by
  unfold J9 at hx
  by_cases hh:(k,n)∈ch.map fun x=>x.1
  . rw[if_pos hh] at hx
    obtain⟨y,hy,rfl⟩:=List.mem_map.mp hx
    obtain⟨h1,h2,h3⟩:=h.rg y hy
    split
    . exact⟨h1,h2,hc⟩
    . exact⟨h1,h2,h3⟩
  . rw[if_neg hh] at hx
    rcases List.mem_append.mp hx with z | z
    . exact h.rg x z
    . rw[List.mem_singleton.mp z]
      exact⟨hk,hn,hc⟩
 eq:=fun k' n'=>by rw[abo,aaa,h.eq]
theorem BooksAt.setCh {C:Ad}{H G H1:Hp}{B:Bk}{ch ch':Chs}{s t:Vanbki.State} (hb:BooksAt C H G B ch s) (s1:Same H H1) (e:t={ s with choices:=t.choices }) (co:Xs ch' t) (ok:qh t):BooksAt C (upd H1 B.dc (.dT (chV ch'))) G B ch' t:=by
 have ne:=hb.ne
 simp only[Bk.muts,List.nodup_cons,List.mem_cons,List.not_mem_nil,or_false,not_or] at ne
 obtain⟨⟨n1,n2,n3,n4,n5,n6⟩,⟨n7,n8,n9,n10,n11⟩,⟨n12,n13,n14,n15⟩,⟨n16,n17,n18⟩,⟨n19,n20⟩,n21,_⟩:=ne
 obtain⟨dxb,eb⟩:=hb.bk
 obtain⟨dx1,e1⟩:=hb.s1
 obtain⟨dx2,e2⟩:=hb.s2
 obtain⟨as1,f1,c1⟩:=hb.c1
 obtain⟨as2,f2,c2⟩:=hb.c2
 have kp:∀ y o,H y=some o->y≠B.dc->(upd H1 B.dc (.dT (chV ch'))) y=some o:=fun y o ey hy=>by
  rw[z8 hy]
  exact s1 _ _ ey
 generalize t.choices=cs at e
 subst e
 exact⟨⟨dxb,kp _ _ eb n6⟩,kp _ _ hb.sd n11,⟨dx1,kp _ _ e1 n15⟩,⟨dx2,kp _ _ e2 n20⟩,hb.c0,⟨as1,kp _ _ f1 n18,c1⟩,⟨as2,kp _ _ f2 n21,c2⟩,z6,co,fun y o ey=>kp y o (hb.gh _ _ ey) (fun z=>by rw[z,hb.fr B.dc (by simp[Bk.muts])] at ey;cases ey),hb.fr,hb.ne,ok⟩
theorem Fr.up {H G H1 H2 G':Hp}{B B':Bk} (f:Fr H G B H1 G' B') (s:Same H1 H2):Fr H G B H2 G' B':=⟨f.b,fun a o e m=>s _ _ (f.kept a o e m),f.grow,f.newM,f.newG⟩
theorem Fr.dc {H G H1:Hp}{B:Bk}{o:HO} (s:Same H H1):Fr H G B (upd H1 B.dc o) G B:=⟨rfl,fun a u e m=>by rw[z8 (fun z=>m (by rw[z];simp[Bk.muts]))];exact s _ _ e,Same.refl _,fun a h=>.inl h,fun a u e=>.inl e⟩
theorem aab {l:List (Nat × Nat)}{k n:Int}:(l.map fun x=>J7 (x.1:Int) (x.2:Int)).any (fun e=>PyData.eqv e (J7 k n))=l.any fun x=>ofNat x.1 == k && ofNat x.2 == n:=by
 rw[List.any_map]
 congr 1
 funext x
 exact abn _ _ _ _
def VJ (C:Ad):Sp:=fun vs H Q _=>∃ G B ch s k n c,vs=[.ref (Bk.b B),.int k,.int n,.int c]/\BooksAt C H G B ch s/\PostDone C H G B (Vanbki.doChoose s k n c) Q
section
variable {P:Program}{w:World}{K:PySem.W.Frag}{mg:Str->Option Value}{base:Heap}{C:Ad}{f:Addr}{fd:FuncData}
theorem XH {H:Hp}{qs:List Addr}{l:List (Nat × Nat)} (h:Paired (vo H) qs l):uM K H (qs.map V.ref) (l.map fun x=>J7 (x.1:Int) (x.2:Int)):=by
 induction h with
 | nil=>exact .nil
 | cons r t ih=>exact .cons (.tup (SqT.of r) (.cons (.int _) (.cons (.int _) .nil))) ih
theorem aac {f1:Addr}{fd1:FuncData}{f2:Addr}{fd2:FuncData} (F:Fun K "choose" "choose" ZQ f fd) (T:Txt K mg C) (D_count_without_choice:Def P w K mg base "count_without_choice" 7 ["books"] (jd C) f1 fd1) (D_conflicts_of:Def P w K mg base "conflicts_of" 6 ["books"] (ki C) f2 fd2):zU P w K mg base CX0 8 f fd ["books","kind","number","choice"] (VJ C):=by
 refine F.ok UP (fun vs H Q E h=>?_) (fun cdv A outer s H vs Q E hr h=>?_)
 . obtain⟨G,B,ch,s,kd,n,c,rfl,_⟩:=h
   rfl
 . obtain⟨G,B,ch,s,kd,n,c,rfl,hb,k⟩:=h
   have hu:=jL hr
   refine⟨_,(z5 (zC (zo (UL hr.units1) (yH (z4 (pv 1) (z4 (pv 2) z9))) (ze D_conflicts_of (hr.mono (by decide)) (z4 (pv 0) z9)) rfl) (za (zg (pgi T.g_NO_SUCH_CONFLICT))) zj)
    (z5 (zC (aaw (zo K2 (pv 3) (pgi T.g_NO_CHOICE) (zz _)) (W9 (zo QW (pv 3) (pgi T.g_GREATEST_CHOICE) (zz _)))).pt (za (zg (pgi T.g_CHOICE_OUTSIDE))) zj)
    (z5 (ZK hu (zf (pv 0) rfl) (yH (z4 (pv 1) (z4 (pv 2) z9))) (pv 3) rfl)
    (za (zg (ze D_count_without_choice (hr.mono (by decide)) (z4 (pv 0) z9))))))),?_⟩
   obtain⟨dxb,eb⟩:=hb.bk
   have S:=hb.ok
   refine⟨_,rfl,_,rfl,(by show 2<=sizeLine;decide),fun t ht=>?_⟩
   have s1:=Same.new (o:=.tup [.int kd,.int n]) ht
   refine⟨_,rfl,G,B,ch,s,rfl,hb.mono s1,fun H2 p qs s2 np rp pp=>?_⟩
   have s02:=s1.trans s2
   refine⟨p,qs.map V.ref,(Vanbki.conflicts s).map (fun x=>J7 (x.1:Int) (x.2:Int)),J7 kd n,rfl,SqL.of rp,XH pp,.tup (SqT.of (s2 _ _ z6)) (.cons (.int _) (.cons (.int _) .nil)),J8 _ _,(fun e he=>by obtain⟨x,_,rfl⟩:=List.mem_map.mp he;exact J8 _ _),_,rfl,?_⟩
   simp only[if_true]
   rw[aab]
   have k:PostDone C H G B (if ((Vanbki.conflicts s).any fun x=>ofNat x.1 == kd && ofNat x.2 == n)=false then (s,⟨-9,[]⟩) else if (decide (0<=c) && decide (c<=3))=false then (s,⟨-10,[]⟩) else (Vanbki.chooseIn s kd.toNat n.toNat c.toNat,⟨ofNat (Vanbki.open_ (Vanbki.chooseIn s kd.toNat n.toNat c.toNat)),[]⟩)) Q:=k
   have okS:=xA S (.choose kd n c)
   have okS:qh (if ((Vanbki.conflicts s).any fun x=>ofNat x.1 == kd && ofNat x.2 == n)=false then (s,(⟨-9,[]⟩:Vanbki.Answer)) else if (decide (0<=c) && decide (c<=3))=false then (s,⟨-10,[]⟩) else (Vanbki.chooseIn s kd.toNat n.toNat c.toNat,⟨ofNat (Vanbki.open_ (Vanbki.chooseIn s kd.toNat n.toNat c.toNat)),[]⟩)).1:=okS
   cases hc:(Vanbki.conflicts s).any fun x=>ofNat x.1 == kd && ofNat x.2 == n with
   | false =>
    rw[hc,if_pos rfl] at k
    exact zF (k.no hb rfl s02)
   | true =>
    rw[hc,if_neg (by decide)] at k okS
    refine zy ?_
    obtain⟨x,hx,ex⟩:=List.any_eq_true.mp hc
    rw[Bool.and_eq_true,beq_iff_eq,beq_iff_eq] at ex
    obtain⟨rfl,rfl⟩:=ex
    obtain⟨x1,x2⟩:=Jd S hx
    have t1:(ofNat x.1).toNat=x.1:=Int.toNat_natCast _
    have t2:(ofNat x.2).toNat=x.2:=Int.toNat_natCast _
    rw[t1,t2] at k okS
    apply VH (P:=0<=c/\c<=3)
    . intro rest
      refine⟨_,rfl,_,_,rfl,rfl,_,rfl,?_⟩
      by_cases h1:c<0
      . rw[decide_eq_true (by omega)]
        rw[if_pos (by rw[decide_eq_false (by omega)];rfl)] at k
        exact zF (zF (k.no hb rfl s02))
      . rw[decide_eq_false (by omega)]
        refine zy ⟨_,rfl,_,_,rfl,rfl,_,rfl,?_⟩
        by_cases h2:3<c
        . rw[decide_eq_true (by omega)]
          rw[if_pos (by rw[decide_eq_false (show ¬c<=3 by omega),Bool.and_false])] at k
          exact zF (k.no hb rfl s02)
        . rw[decide_eq_false (by omega)]
          exact zy (rest ⟨by omega,by omega⟩)
    . rintro⟨c1,c2⟩
      obtain⟨m,rfl⟩:∃ m:Nat,c=(m:Int):=⟨c.toNat,by omega⟩
      rw[if_neg (by rw[decide_eq_true c1,decide_eq_true c2];decide),Int.toNat_natCast] at k okS
      refine⟨_,rfl,_,rfl,B.b,C.cBooks,dxb,_,_,rfl,s02 _ _ eb,T.c_Books,T.n_Books_choices,xx _ _ _,_,rfl,_,rfl,(by show 2<=sizeLine;decide),fun t2 ht2=>?_⟩
      have s3:=s02.trans (Same.new (o:=.tup [.int (ofNat x.1),.int (ofNat x.2)]) ht2)
      have hl:=XF hb.co
      refine⟨B.dc,_,rfl,DPut.t (k:=[Sum.inl (x.1:Int),Sum.inl (x.2:Int)]) (s3 _ _ hb.dc) z6 (by rw[Ub];exact qO (by omega)),?_⟩
      rw[ab2]
      have hb3:=hb.setCh (ch':=J9 ch x.1 x.2 m) (t:=Vanbki.chooseIn s x.1 x.2 m) s3 rfl (abp hb.co x1 x2 (by omega)) okS
      refine⟨_,rfl,G,B,_,_,rfl,hb3,fun H4 s4=>?_⟩
      exact k H4 G B _ (hb3.mono s4) ((Fr.dc s3).up s4)
end
end Tb
end
section
namespace Tb
open PySem PySem.Spec PyProof.Rows L2
open Vanbki (nats ofNat markNat numbers)
theorem abq {C:Ad}{F:Hp}:∀ {qs:List Addr}{ms:List MC},Paired (MCAt C F) qs ms->∃ as,as.length=qs.length/\CellsAt C F as (ms.map fun m=>m.cell)/\∀ (i:Nat) (q:Addr),qs[i]?=some q->∃ a dx l r,as[i]?=some a/\F q=some (.ins C.cMergedCell dx (jZ a l r)):=by
 intro qs ms h
 induction h with
 | nil=>exact⟨[],rfl,.nil,fun i q h=>by simp at h⟩
 | @cons q m qs ms r t ih =>
  obtain⟨as,h1,h2,h3⟩:=ih
  obtain⟨dx,a,e1,e2⟩:=r
  refine⟨a::as,by simp[h1],.cons e2 h2,fun i q' hq=>?_⟩
  cases i with
  | zero =>
   simp at hq
   subst hq
   exact⟨a,dx,_,_,rfl,e1⟩
  | succ i =>
   obtain⟨a',dx',l',r',f1,f2⟩:=h3 i q' (by simpa using hq)
   exact⟨a',dx',l',r',by simpa using f1,f2⟩
def XI (C:Ad):Sp:=fun vs H Q _=>∃ G B ch s,vs=[.ref (Bk.b B)]/\BooksAt C H G B ch s/\PostDone C H G B (Vanbki.step s .adopt) Q
section
variable {P:Program}{w:World}{K:PySem.W.Frag}{mg:Str->Option Value}{base:Heap}{C:Ad}{f:Addr}{fd:FuncData}
theorem abr {f1:Addr}{fd1:FuncData}{f2:Addr}{fd2:FuncData}{f3:Addr}{fd3:FuncData} (F:Fun K "adopt" "adopt" JK f fd) (T:Txt K mg C) (D_merge_of:Def P w K mg base "merge_of" 8 ["books"] (xp C) f1 fd1) (D_number_above:Def P w K mg base "number_above" 2 ["cells"] (kh C) f2 fd2) (D_Side:Cdf P w K mg base "Side" 1 ["self","cells","next_number"] (jq C) C.cSide f3 fd3):zU P w K mg base CX0 9 f fd ["books"] (XI C):=by
 refine F.ok sc_adopt (fun vs H Q E h=>?_) (fun cdv A outer s H vs Q E hr h=>?_)
 . obtain⟨G,B,ch,s,rfl,_⟩:=h
   rfl
 . obtain⟨G,B,ch,s,rfl,hb,k⟩:=h
   have hu:=jL hr
   refine⟨_,(z5 (zi (i:=1) sc_adopt.nd rfl (Or.inl rfl) (ze D_merge_of (hr.mono (by decide)) (z4 (pv 0) z9)))
    (z5 (zC (zo yG (zf (pv 1) rfl) (pgi T.g_NO_REFUSAL) (zz _)) (za (zg (zf (pv 1) rfl))) zj)
    (z5 (vL (i:=2) rfl sc_adopt.nd rfl rfl (yU rfl rfl rfl rfl) (qa (zf (pv 1) rfl)) (qy (own:=[("one",3)]) (by kernel_rfl)) (fun _ _ _ _ _=>(zJ (i:=3) sc_adopt.nd rfl (Or.inl rfl))) (fun _ _ _ _ _=>ke) (fun _ _ _ _ _=>(jG (K:=K) rfl (pv 3) rfl)))
    (z5 (zi (i:=4) sc_adopt.nd rfl (Or.inl rfl) (ze D_number_above (hr.mono (by decide)) (z4 (jE yI (jE yI (pv 2) (zf (qc hu (zf (pv 0) rfl) (pgi T.g_LEFT) (fun _ _=>rfl)) rfl)) (zf (qc hu (zf (pv 0) rfl) (pgi T.g_RIGHT) (fun _ _=>rfl)) rfl)) z9)))
    (z5 (qE (pv 0) (pv 2) rfl)
    (z5 (qE (pv 0) (ZM (kM (pgi T.g_LEFT) (qj D_Side (hr.mono (by decide)) (z4 (pv 2) (z4 (pv 4) z9))) (kM (pgi T.g_RIGHT) (qj D_Side (hr.mono (by decide)) (z4 (pv 2) (z4 (pv 4) z9))) ZL)) rfl rfl (by simp) (by decide)) rfl)
    (z5 (qE (pv 0) wW rfl)
    (za (zg (zP qS (by rfl) T.b_len qR (z4 (pv 2) z9))))))))))),?_⟩
   have S:=hb.ok
   refine⟨_,rfl,G,B,ch,s,rfl,hb,fun H1 x dx p qs F s1 gr ex rp pp=>?_⟩
   obtain⟨w1,w2⟩:=wc S (fun l=>(Vanbki.adopted s (Vanbki.docOf l),⟨ofNat l.length,[]⟩))
   have k:PostDone C H G B (Vanbki.withResult s (fun l=>(Vanbki.adopted s (Vanbki.docOf l),⟨ofNat l.length,[]⟩))) Q:=k
   have lq:=zk pp
   have l12:=wd S
   refine⟨_,rfl,x,C.cOutcome,dx,_,_,rfl,ex,T.c_Outcome,T.n_Outcome_refusal,j_ _ _,rfl,_,rfl,qJ (fun hh=>?_) (fun hh=>?_)⟩
   . obtain⟨_,e⟩:=w1 hh
     exact⟨_,rfl,x,C.cOutcome,dx,_,_,rfl,ex,T.c_Outcome,T.n_Outcome_refusal,j_ _ _,k.no hb e s1⟩
   . obtain⟨l,e1,e2,e3,e4⟩:=w2 hh
     have okS:qh (Vanbki.withResult s (fun l=>(Vanbki.adopted s (Vanbki.docOf l),(⟨ofNat l.length,[]⟩:Vanbki.Answer)))).1:=xA S .adopt
     rw[e4] at k okS
     have ed:Vanbki.docOf l=(qe s).2.map fun m=>m.cell:=by rw[Vj,e3]
     have el:l.length=((qe s).2.map fun m=>m.cell).length:=by rw[<-ed];unfold Vanbki.docOf;rw[List.length_map]
     rw[ed,el] at k
     have okS:qh (Vanbki.adopted s (Vanbki.docOf l)):=okS
     rw[ed] at okS
     obtain⟨as,h1,h2,h3⟩:=abq pp
     have ld:((qe s).2.map fun m=>m.cell).length=as.length:=(zk h2).symm
     generalize hd:(qe s).2.map (fun m=>m.cell)=d at k okS h2 ld
     refine⟨_,rfl,x,C.cOutcome,dx,_,_,rfl,ex,T.c_Outcome,T.n_Outcome_merged,xi _ _,p,rfl,⟨_,SqL.of rp⟩,fun Dl hDl=>?_⟩
     have Dl0:=s1.free hDl
     refine Za (K:=K) (xs:=qs.map V.ref) (as.map V.ref) (by rw[List.length_map,List.length_map,h1]) (SqL.of rp) hDl (by rw[List.length_map];exact qO (by omega)) (fun i y z H' P' hi hy s2 hP=>?_) (fun H2 s2 e2=>?_)
     . obtain⟨q,hq,rfl⟩:=qF hi
       obtain⟨a,hz,rfl⟩:=qF hy
       obtain⟨a',dx',l',r',f1,f2⟩:=h3 i q hq
       rw[hz] at f1
       cases f1
       exact⟨rfl,_,rfl,q,C.cMergedCell,dx',_,_,rfl,s2 _ _ (gr.fh _ _ f2),T.c_MergedCell,T.n_MergedCell_cell,kY _ _ _,hP H' (Same.refl _)⟩
     . have e2:RL H2 Dl as:=e2
       have s02:=s1.trans s2
       obtain⟨as1,r1,c1,_⟩:=hb.d1
       obtain⟨as2,r2,c2,_⟩:=hb.d2
       obtain⟨dxb,eb⟩:=hb.bk
       obtain⟨dx1,es1⟩:=hb.s1
       obtain⟨dx2,es2⟩:=hb.s2
       have z1:=S.l.len
       have z2:=S.r.len
       have l1:=zk c1
       have l2:=zk c2
       have d1:∀ {H1:Hp},H1 B.ds=some (.dK [(Sum.inl 1,.ref B.a1),(Sum.inl 2,.ref B.a2)])->DGet H1 B.ds (.int 1) (some (.ref B.a1)):=fun h=>Kl (.ref B.a1) (.ref B.a2)▸DGet.k (k:=Sum.inl 1) h
       have d2:∀ {H1:Hp},H1 B.ds=some (.dK [(Sum.inl 1,.ref B.a1),(Sum.inl 2,.ref B.a2)])->DGet H1 B.ds (.int 2) (some (.ref B.a2)):=fun h=>Km (.ref B.a1) (.ref B.a2)▸DGet.k (k:=Sum.inl 2) h
       refine⟨_,rfl,_,rfl,B.b,C.cBooks,dxb,_,_,rfl,s02 _ _ eb,T.c_Books,T.n_Books_sides,zD _ _ _,B.ds,_,rfl,d1 (s02 _ _ hb.sd),B.a1,C.cSide,dx1,_,_,rfl,s02 _ _ es1,T.c_Side,T.n_Side_cells,zM _ _,Dl,B.l1,_,_,rfl,rfl,e2,s02 _ _ r1,(by rw[List.length_map,List.length_map];exact qH (by omega)),fun p3 n3=>?_⟩
       have s3:=Same.new (o:=.lst (as.map V.ref++as1.map V.ref)) n3
       have s03:=s02.trans s3
       refine⟨_,rfl,B.b,C.cBooks,dxb,_,_,rfl,s03 _ _ eb,T.c_Books,T.n_Books_sides,zD _ _ _,B.ds,_,rfl,d2 (s03 _ _ hb.sd),B.a2,C.cSide,dx2,_,_,rfl,s03 _ _ es2,T.c_Side,T.n_Side_cells,zM _ _,p3,B.l2,_,_,rfl,rfl,z6,s03 _ _ r2,(by rw[List.length_append,List.length_map,List.length_map,List.length_map];exact qH (by omega)),fun p4 n4=>?_⟩
       have s4:=Same.new (o:=.lst ((as.map V.ref++as1.map V.ref)++as2.map V.ref)) n4
       have s04:=s03.trans s4
       have cF4:=h2.mono ((gr.fh.trans s2).trans (s3.trans s4))
       refine⟨p4,as++as1++as2,d++s.left++s.right,rfl,(by rw[RL,z6];simp),zI (zI cF4 (c1.mono s04)) (c2.mono s04),(by simp only[List.length_append];omega),fun H5 s5=>?_⟩
       have etop:((Vanbki.greatest (numbers (d++s.left++s.right)):Int)+1)=((Vanbki.greatest (numbers d++numbers s.left++numbers s.right)+1:Nat):Int):=by
        unfold numbers
        rw[List.map_append,List.map_append]
        push_cast
        rfl
       rw[etop]
       generalize hkk:Vanbki.greatest (numbers d++numbers s.left++numbers s.right)+1=kk
       have hst:Vanbki.adopted s d=⟨d,d,d,kk,kk,[]⟩:=by
        unfold Vanbki.adopted
        rw[hkk]
       rw[hst] at k okS
       have s05:=s04.trans s5
       have e5:RL H5 Dl as:=s5 _ _ (s4 _ _ (s3 _ _ e2))
       have eb5:=s05 _ _ eb
       have Db:Dl≠B.b:=Ne.symm (z7 eb Dl0)
       have pc:CellsAt C (zS G H H5) as d:=h2.mono (gr.part hb.gh (Same.refl _) (s2.trans (s3.trans (s4.trans s5))))
       refine⟨_,rfl,_,rfl,B.b,C.cBooks,dxb,_,rfl,eb5,T.c_Books,T.n_Books_base_cells,(by show 3<1000;decide),fun pd npd=>?_⟩
       have npd:(upd H5 B.b (.ins C.cBooks dxb (qz Dl B.ds B.dc))) pd=none:=npd
       have pdb:pd≠B.b:=fun z=>by rw[z,z6] at npd;cases npd
       have pdD:pd≠Dl:=fun z=>by rw[z,z8 Db,e5] at npd;cases npd
       generalize hH6:upd (upd H5 B.b (.ins C.cBooks dxb (qz Dl B.ds B.dc))) pd (.dK [])=H6
       have hH6':upd (upd H5 B.b (.ins C.cBooks dxb (xE "base_cells" (.ref Dl) (qz B.lb B.ds B.dc)))) pd (.dK [])=H6:=hH6
       rw[hH6']
       have eb6:H6 B.b=some (.ins C.cBooks dxb (qz Dl B.ds B.dc)):=by rw[<-hH6,z8 (Ne.symm pdb),z6]
       have eD6:RL H6 Dl as:=by rw[<-hH6,RL,z8 (Ne.symm pdD),z8 Db];exact e5
       refine⟨_,rfl,_,rfl,?_⟩
       intro x1 dy1 nx1 nd1 ne1
       refine⟨x1,dy1,Dl,as.map V.ref,_,rfl,z6,(by rw[z8 (z7 eD6 nx1),z8 (z7 eD6 nd1)];exact eD6),fun q1 hq1=>⟨rfl,?_⟩⟩
       obtain⟨nq1,qx1,s7,eq7⟩:=yQ (C:=C) (xs:=as.map V.ref) (k:=(kk:Nat)) nx1 nd1 ne1 hq1
       generalize hH7:upd (upd (upd (upd H6 dy1 (.own x1)) x1 (.ins C.cSide dy1 [])) q1 (.lst (as.map V.ref))) x1 (.ins C.cSide dy1 (qW q1 (kk:Nat)))=H7 at s7 eq7 ⊢
       have ex7:H7 x1=some (.ins C.cSide dy1 (qW q1 (kk:Nat))):=by rw[<-hH7,z6]
       refine⟨_,rfl,_,rfl,?_⟩
       intro x2 dy2 nx2 nd2 ne2
       have eD7:=s7 _ _ eD6
       refine⟨x2,dy2,Dl,as.map V.ref,_,rfl,z6,(by rw[z8 (z7 eD7 nx2),z8 (z7 eD7 nd2)];exact eD7),fun q2 hq2=>⟨rfl,?_⟩⟩
       obtain⟨nq2,qx2,s8,eq8⟩:=yQ (C:=C) (xs:=as.map V.ref) (k:=(kk:Nat)) nx2 nd2 ne2 hq2
       generalize hH8:upd (upd (upd (upd H7 dy2 (.own x2)) x2 (.ins C.cSide dy2 [])) q2 (.lst (as.map V.ref))) x2 (.ins C.cSide dy2 (qW q2 (kk:Nat)))=H8 at s8 eq8 ⊢
       have ex8:H8 x2=some (.ins C.cSide dy2 (qW q2 (kk:Nat))):=by rw[<-hH8,z6]
       have s68:=s7.trans s8
       refine⟨s68 _ _ (by rw[<-hH6,z6]),[(Sum.inl 1,.ref x1),(Sum.inl 2,.ref x2)],rfl,(by show 2<=15;decide),?_⟩
       refine⟨_,rfl,B.b,C.cBooks,dxb,_,rfl,(by rw[z8 (Ne.symm pdb)];exact s68 _ _ eb6),T.c_Books,T.n_Books_sides,(by show 3<1000;decide),?_⟩
       intro dc ndc
       refine⟨_,rfl,B.b,C.cBooks,dxb,_,rfl,(by rw[z8 (Ne.symm (fun z=>by rw[z,z6] at ndc;cases ndc)),z6]),T.c_Books,T.n_Books_choices,(by show 3<1000;decide),?_⟩
       subst hH6
       obtain⟨f1,f2⟩:=U9 hb s05 Dl0 e5 pc npd s68 nx1 nq1 (s7.free nx2) (s7.free nq2) (s8 _ _ ex7) (s8 _ _ eq7) ex8 eq8 ndc (z7 ex7 nx2) (z7 eq7 nq2) rfl okS
       have q:=k _ _ _ _ f1 f2
       refine⟨_,rfl,Dl,as.map V.ref,rfl,.inl (SqL.of ?_),?_⟩
       . have h7:Dl≠dc:=fun z=>by
          rw[<-z,z8 Db,z8 (Ne.symm pdD),s8 _ _ eD7] at ndc
          cases ndc
         rw[z8 Db,z8 h7,z8 Db,z8 (Ne.symm pdD)]
         exact s8 _ _ eD7
       . rw[List.length_map,<-ld]
         exact q
end
end Tb
end
section
namespace Tb
open PySem PySem.Spec PyProof.Rows L2
open Vanbki (nats ofNat markNat numbers)
def zn:Vanbki.Call->Nat × List Int × List Int
 | .base t=>(0,[],t)
 | .new d a t=>(1,[d,a],t)
 | .write d n t=>(2,[d,n],t)
 | .move d n a=>(3,[d,n,a],[])
 | .drop d n=>(4,[d,n],[])
 | .hide d n m=>(5,[d,n,m],[])
 | .copy d=>(6,[d],[])
 | .reset d=>(7,[d],[])
 | .swap=>(8,[],[])
 | .document w=>(9,[w],[])
 | .changes d=>(10,[d],[])
 | .change d n=>(11,[d,n],[])
 | .conflicts=>(12,[],[])
 | .choose k n c=>(13,[k,n,c],[])
 | .merged=>(14,[],[])
 | .origins=>(15,[],[])
 | .adopt=>(16,[],[])
theorem VL:∀ {l:List (Bool × Int)}{n:Int},Vanbki.first l=some n->∃ x,x∈l/\x.2=n
 | [],n,h=>by cases h
 | (c,m)::r,n,h=>by
  unfold Vanbki.first at h
  split at h
  . cases h
    exact⟨_,List.mem_cons_self ..,rfl⟩
  . obtain⟨x,hx,e⟩:=VL h
    exact⟨x,List.mem_cons_of_mem _ hx,e⟩
theorem ju {s:Vanbki.State}{side:Int}{own:List (Bool × Int)}{d:Vanbki.Doc}{k:Nat}{a:Int} (ho:∀ x,x∈own->x.2<0) (h:0<=(Vanbki.edit s side own d k a).2.number):(Vanbki.edit s side own d k a).1.choices=[]:=by
 unfold Vanbki.edit at h ⊢
 cases e:Vanbki.first ((Vanbki.noSide side,-8)::own) with
 | none =>
  show (Vanbki.setSide s side d k).choices=[]
  unfold Vanbki.setSide
  split <;> rfl
 | some n =>
  rw[e] at h
  have h:0<=n:=h
  obtain⟨x,hx,rfl⟩:=VL e
  rcases List.mem_cons.mp hx with z | z
  . rw[z] at h
    exact absurd h (by show ¬((0:Int)<=-8);decide)
  . have:=ho x z
    omega
theorem QP {s:Vanbki.State}{c:Vanbki.Call} (hc:1<=(zn c).1/\(zn c).1<=7) (h:0<=(Vanbki.sideEdit s c).2.number):(Vanbki.sideEdit s c).1.choices=[]:=by
 cases c with
 | new d a t=>exact ju (by intro x hx;simp only[List.mem_cons,List.not_mem_nil,or_false] at hx;rcases hx with rfl | rfl | rfl | rfl | rfl <;> (show _<_;simp)) h
 | write d a t=>exact ju (by intro x hx;simp only[List.mem_cons,List.not_mem_nil,or_false] at hx;rcases hx with rfl | rfl | rfl | rfl <;> (show _<_;simp)) h
 | move d a t=>exact ju (by intro x hx;simp only[List.mem_cons,List.not_mem_nil,or_false] at hx;rcases hx with rfl | rfl | rfl <;> (show _<_;simp)) h
 | drop d a=>exact ju (by intro x hx;simp only[List.mem_cons,List.not_mem_nil,or_false] at hx;rcases hx with rfl;(show _<_;simp)) h
 | hide d a t=>exact ju (by intro x hx;simp only[List.mem_cons,List.not_mem_nil,or_false] at hx;rcases hx with rfl | rfl | rfl <;> (show _<_;simp)) h
 | copy d=>exact ju (by intro x hx;cases hx) h
 | reset d=>exact ju (by intro x hx;cases hx) h
 | base _=>exact absurd hc (by simp[zn])
 | _=>exact absurd hc (by simp[zn])
theorem XJ {C:Ad}{H' G':Hp}{B':Bk}{ch:Chs}{t:Vanbki.State}{dc dx:Addr} (h:ue C H' G' B' ch t) (ndc:H' dc=none) (hc:t.choices=[]) (ok:qh t) :
 BooksAt C (upd (upd H' dc (.dT [])) B'.b (.ins C.cBooks dx (qz B'.lb B'.ds dc))) G' { B' with dc:=dc } [] t:=by
 have ne:=h.ne
 simp only[Bk.muts,List.nodup_cons,List.mem_cons,List.not_mem_nil,or_false,not_or] at ne
 obtain⟨⟨n1,n2,n3,n4,n5,n6⟩,⟨n7,n8,n9,n10,n11⟩,⟨n12,n13,n14,n15⟩,⟨n16,n17,n18⟩,⟨n19,n20⟩,n21,_⟩:=ne
 obtain⟨dxb,eb⟩:=h.bk
 obtain⟨dx1,e1⟩:=h.s1
 obtain⟨dx2,e2⟩:=h.s2
 obtain⟨as1,f1,c1⟩:=h.c1
 obtain⟨as2,f2,c2⟩:=h.c2
 have kp:∀ y o,H' y=some o->y≠B'.b->(upd (upd H' dc (.dT [])) B'.b (.ins C.cBooks dx (qz B'.lb B'.ds dc))) y=some o:=fun y o ey hy=>by
  rw[z8 hy,z8 (z7 ey ndc)]
  exact ey
 have dcb:dc≠B'.b:=Ne.symm (z7 eb ndc)
 refine⟨⟨dx,z6⟩,kp _ _ h.sd (Ne.symm n1),⟨dx1,kp _ _ e1 (Ne.symm n2)⟩,⟨dx2,kp _ _ e2 (Ne.symm n4)⟩,h.c0,⟨as1,kp _ _ f1 (Ne.symm n3),c1⟩,⟨as2,kp _ _ f2 (Ne.symm n5),c2⟩,(by rw[z8 dcb,z6];rfl),Kx hc,fun y o ey=>kp y o (h.gh _ _ ey) (fun z=>by rw[z,h.fr B'.b (by simp[Bk.muts])] at ey;cases ey),?_,?_,ok⟩
 . intro y hy
   simp only[Bk.muts,List.mem_cons,List.not_mem_nil,or_false] at hy
   rcases hy with rfl | rfl | rfl | rfl | rfl | rfl | rfl
   . exact h.fr _ (by simp[Bk.muts])
   . exact h.fr _ (by simp[Bk.muts])
   . exact h.fr _ (by simp[Bk.muts])
   . exact h.fr _ (by simp[Bk.muts])
   . exact h.fr _ (by simp[Bk.muts])
   . exact h.fr _ (by simp[Bk.muts])
   . exact h.gh.free ndc
 . simp only[Bk.muts,List.nodup_cons,List.mem_cons,List.not_mem_nil,or_false,not_or,not_false_eq_true,and_true,List.nodup_nil]
   exact⟨⟨n1,n2,n3,n4,n5,Ne.symm dcb⟩,⟨n7,n8,n9,n10,z7 h.sd ndc⟩,⟨n12,n13,n14,z7 e1 ndc⟩,⟨n16,n17,z7 f1 ndc⟩,⟨n19,z7 e2 ndc⟩,z7 f2 ndc⟩
theorem WD {H G H' G':Hp}{B B':Bk}{dc:Addr}{o:HO} (h:Fr H G B H' G' B') (ndc:H' dc=none):Fr H G B (upd (upd H' dc (.dT [])) B'.b o) G' { B' with dc:=dc } where
 b:=h.b
 kept:=fun a u e m=>by
  have h1:a≠B'.b:=fun z=>m (by rw[z,h.b];simp[Bk.muts])
  have h2:=h.kept a u e m
  rw[z8 h1,z8 (z7 h2 ndc)]
  exact h2
 grow:=h.grow
 newM:=fun a ha=>by
  have key:a∈B'.muts∨a=dc:=by
   simp only[Bk.muts,List.mem_cons,List.not_mem_nil,or_false] at ha ⊢
   rcases ha with z | z | z | z | z | z | z <;> simp[z]
  rcases key with z | z
  . exact h.newM a z
  . subst z
    by_cases m:a∈B.muts
    . exact .inl m
    . refine .inr ?_
      cases e:H a with
      | none=>rfl
      | some u=>rw[h.kept a u e m] at ndc;cases ndc
 newG:=h.newG
def xq (C:Ad):Sp:=fun vs H Q _=>∃ G B ch s c wl rl,vs=[.ref (Bk.b B),.int ((zn c).1:Nat),.ref wl,.ref rl]/\(1<=(zn c).1/\(zn c).1<=7)/\BooksAt C H G B ch s/\IL H wl (zn c).2.1/\IL G rl (zn c).2.2/\(zn c).2.2.length<=16000/\PostEdit C H G B ch s (Vanbki.sideEdit s c) Q
def uh (C:Ad):Sp:=fun vs H Q _=>∃ G B ch s c wl rl,vs=[.ref (Bk.b B),.int ((zn c).1:Nat),.ref wl,.ref rl]/\(1<=(zn c).1/\(zn c).1<=7)/\BooksAt C H G B ch s/\IL H wl (zn c).2.1/\IL G rl (zn c).2.2/\(zn c).2.2.length<=16000/\PostDone C H G B (Vanbki.step s c) Q
def xr (C:Ad):Sp:=fun vs H Q _=>∃ G B ch s c wl,vs=[.ref (Bk.b B),.int ((zn c).1:Nat),.ref wl]/\(9<=(zn c).1/\(zn c).1<=15/\(zn c).1≠13)/\BooksAt C H G B ch s/\IL H wl (zn c).2.1/\∀ H' p,Same H H'->H p=none->IL H' p (enc (Vanbki.step s c).2)->Q (.ref p) H'
def wf (C:Ad):Sp:=fun vs H Q _=>∃ G B ch s c wl rl,vs=[.ref (Bk.b B),.int ((zn c).1:Nat),.ref wl,.ref rl]/\BooksAt C H G B ch s/\IL H wl (zn c).2.1/\IL G rl (zn c).2.2/\(zn c).2.2.length<=16000 /\
 ∀ H' G' B' ch' p,BooksAt C H' G' B' ch' (Vanbki.step s c).1->Fr H G B H' G' B'->(∀ a o,H a=some o->¬a∈B.muts->a≠p)->IL H' p (enc (Vanbki.step s c).2)->Q (.ref p) H'
theorem vq (s:Vanbki.State) (side:Int) (own:List (Bool × Int)) (d:Vanbki.Doc) (k:Nat) (a:Int):(Vanbki.edit s side own d k a).2.more=[]:=by
 unfold Vanbki.edit
 cases Vanbki.first ((Vanbki.noSide side,-8)::own) <;> rfl
theorem acM {s:Vanbki.State}{c:Vanbki.Call} (hc:(zn c).1<=8∨(zn c).1=13∨(zn c).1=16):(Vanbki.step s c).2.more=[]:=by
 cases c with
 | base t =>
  show (Vanbki.doBase s t).2.more=[]
  cases h:jQ t with
  | none=>rw[J4 h]
  | some ts =>
   by_cases h1:jb ts=0
   . by_cases h2:12<ts.length
     . rw[J5 h h1 h2]
     . rw[Ky h h1 h2]
   . rw[VI h h1]
 | new d a t=>exact vq ..
 | write d a t=>exact vq ..
 | move d a t=>exact vq ..
 | drop d a=>exact vq ..
 | hide d a t=>exact vq ..
 | copy d=>exact vq ..
 | reset d=>exact vq ..
 | swap=>rfl
 | choose k n c =>
  show (Vanbki.doChoose s k n c).2.more=[]
  unfold Vanbki.doChoose
  split
  . rfl
  . split <;> rfl
 | adopt =>
  show (Vanbki.withResult s _).2.more=[]
  unfold Vanbki.withResult
  cases Vanbki.result s with
  | none=>rfl
  | some l =>
   show (if Vanbki.tooGreat l=true then _ else _:Vanbki.State × Vanbki.Answer).2.more=[]
   split <;> rfl
 | _=>exact absurd hc (by simp[zn])
theorem vt {s:Vanbki.State}{c:Vanbki.Call} (hc:9<=(zn c).1/\(zn c).1<=15/\(zn c).1≠13):Vanbki.step s c=(s,(Vanbki.step s c).2):=by
 have wr:∀ g:List (Nat × Vanbki.Item)->Vanbki.Answer,Vanbki.withResult s (fun l=>(s,g l))=(s,(Vanbki.withResult s (fun l=>(s,g l))).2):=fun g=>by
  unfold Vanbki.withResult
  cases Vanbki.result s with
  | none=>rfl
  | some l =>
   show (if Vanbki.tooGreat l=true then _ else _)=(s,(if Vanbki.tooGreat l=true then _ else _:Vanbki.State × Vanbki.Answer).2)
   split <;> rfl
 cases c with
 | document w =>
  show (if w=0 then _ else _)=(s,(if w=0 then _ else _:Vanbki.State × Vanbki.Answer).2)
  split
  . rfl
  . split <;> rfl
 | changes d =>
  unfold Vanbki.step Vanbki.withSide
  dsimp only
  split <;> rfl
 | change d n =>
  unfold Vanbki.step Vanbki.withSide
  dsimp only
  split
  . rfl
  . split
    . rfl
    . split <;> rfl
 | conflicts=>rfl
 | merged=>exact wr _
 | origins=>exact wr _
 | _=>exact absurd hc (by simp[zn])
theorem BooksAt.other {C:Ad}{H G:Hp}{B:Bk}{ch:Chs}{s:Vanbki.State}{q:Addr}{o:HO} (h:BooksAt C H G B ch s) (hq:¬q∈B.muts) (hg:G q=none):BooksAt C (upd H q o) G B ch s:=by
 obtain⟨dxb,eb⟩:=h.bk
 obtain⟨dx1,e1⟩:=h.s1
 obtain⟨dx2,e2⟩:=h.s2
 obtain⟨as1,f1,c1⟩:=h.c1
 obtain⟨as2,f2,c2⟩:=h.c2
 have kp:∀ y u,H y=some u->y∈B.muts->(upd H q o) y=some u:=fun y u e m=>by
  rw[z8 (fun z:y=q=>hq (z▸m))]
  exact e
 refine⟨⟨dxb,kp _ _ eb (by simp[Bk.muts])⟩,kp _ _ h.sd (by simp[Bk.muts]),⟨dx1,kp _ _ e1 (by simp[Bk.muts])⟩,⟨dx2,kp _ _ e2 (by simp[Bk.muts])⟩,h.c0,⟨as1,kp _ _ f1 (by simp[Bk.muts]),c1⟩,⟨as2,kp _ _ f2 (by simp[Bk.muts]),c2⟩,kp _ _ h.dc (by simp[Bk.muts]),h.co,fun y u e=>?_,h.fr,h.ne,h.ok⟩
 rw[z8 (fun z=>by rw[z,hg] at e;cases e)]
 exact h.gh _ _ e
section
variable {P:Program}{w:World}{K:PySem.W.Frag}{mg:Str->Option Value}{base:Heap}{C:Ad}{f:Addr}{fd:FuncData}
theorem Qh {f1:Addr}{fd1:FuncData}{f2:Addr}{fd2:FuncData}{f3:Addr}{fd3:FuncData}{f4:Addr}{fd4:FuncData}{f5:Addr}{fd5:FuncData}{f6:Addr}{fd6:FuncData}{f7:Addr}{fd7:FuncData} (F:Fun K "answer_on_side" "answer_on_side" jX f fd) (T:Txt K mg C) (D_reset_side:Def P w K mg base "reset_side" 4 ["books","side"] (uT C) f1 fd1) (D_new_cell:Def P w K mg base "new_cell" 3 ["books","side","after","text"] (J3 C) f2 fd2) (D_write_cell:Def P w K mg base "write_cell" 3 ["books","side","number","text"] (uU C) f3 fd3) (D_move_cell:Def P w K mg base "move_cell" 3 ["books","side","number","after"] (Qc C) f4 fd4) (D_drop_cell:Def P w K mg base "drop_cell" 3 ["books","side","number"] (Qe C) f5 fd5) (D_hide_cell:Def P w K mg base "hide_cell" 3 ["books","side","number","mark"] (Qg C) f6 fd6) (D_copy_side:Def P w K mg base "copy_side" 3 ["books","side"] (Q7 C) f7 fd7):zU P w K mg base CX0 5 f fd ["books","call","wholes","row"] (xq C):=by
 refine F.ok sc_answer_on_side (fun vs H Q E h=>?_) (fun cdv A outer s H vs Q E hr h=>?_)
 . obtain⟨G,B,ch,s,c,wl,rl,rfl,_⟩:=h
   rfl
 . obtain⟨G,B,ch,s,c,wl,rl,rfl,hc,hb,hw,hrl,hz,k⟩:=h
   refine⟨_,(z5 (zi (i:=4) sc_answer_on_side.nd rfl (Or.inl rfl) (qk qb (pv 2) zB (fun _ _=>rfl)))
    (z5 (zC (zo qN (pv 1) (pgi T.g_NEW_merge) (zz _)) (za (zg (ze D_new_cell (hr.mono (by decide)) (z4 (pv 0) (z4 (pv 4) (z4 (qk qb (pv 2) zB (fun _ _=>rfl)) (z4 (pv 3) z9))))))) zj)
    (z5 (zC (zo qN (pv 1) (pgi T.g_WRITE) (zz _)) (za (zg (ze D_write_cell (hr.mono (by decide)) (z4 (pv 0) (z4 (pv 4) (z4 (qk qb (pv 2) zB (fun _ _=>rfl)) (z4 (pv 3) z9))))))) zj)
    (z5 (zC (zo qN (pv 1) (pgi T.g_MOVE) (zz _)) (za (zg (ze D_move_cell (hr.mono (by decide)) (z4 (pv 0) (z4 (pv 4) (z4 (qk qb (pv 2) zB (fun _ _=>rfl)) (z4 (qk qb (pv 2) zB (fun _ _=>rfl)) z9))))))) zj)
    (z5 (zC (zo qN (pv 1) (pgi T.g_DROP) (zz _)) (za (zg (ze D_drop_cell (hr.mono (by decide)) (z4 (pv 0) (z4 (pv 4) (z4 (qk qb (pv 2) zB (fun _ _=>rfl)) z9)))))) zj)
    (z5 (zC (zo qN (pv 1) (pgi T.g_HIDE) (zz _)) (za (zg (ze D_hide_cell (hr.mono (by decide)) (z4 (pv 0) (z4 (pv 4) (z4 (qk qb (pv 2) zB (fun _ _=>rfl)) (z4 (qk qb (pv 2) zB (fun _ _=>rfl)) z9))))))) zj)
    (z5 (zC (zo qN (pv 1) (pgi T.g_COPY) (zz _)) (za (zg (ze D_copy_side (hr.mono (by decide)) (z4 (pv 0) (z4 (pv 4) z9))))) zj)
    (za (zg (ze D_reset_side (hr.mono (by decide)) (z4 (pv 0) (z4 (pv 4) z9)))))))))))),?_⟩
   have t0:∀ {x:Int}{l:List Int},atI ((x::l).map V.int) 0=some (.int x):=zV (j:=0) rfl
   have t1:∀ {x y:Int}{l:List Int},atI ((x::y::l).map V.int) 1=some (.int y):=zV (j:=1) rfl
   have t2:∀ {x y z:Int}{l:List Int},atI ((x::y::z::l).map V.int) 2=some (.int z):=zV (j:=2) rfl
   cases c with
   | new d a t =>
    refine⟨_,rfl,wl,_,_,_,rfl,rfl,SqL.of hw,t0,?_⟩
    refine⟨_,rfl,rfl,_,rfl,zF ?_⟩
    exact⟨_,rfl,_,rfl,_,rfl,wl,_,_,_,rfl,rfl,SqL.of hw,t1,_,rfl,G,B,ch,s,d,a,rl,t,rfl,hb,hrl,hz,k⟩
   | write d a t =>
    refine⟨_,rfl,wl,_,_,_,rfl,rfl,SqL.of hw,t0,?_⟩
    refine⟨_,rfl,rfl,_,rfl,zy ?_⟩
    refine⟨_,rfl,rfl,_,rfl,zF ?_⟩
    exact⟨_,rfl,_,rfl,_,rfl,wl,_,_,_,rfl,rfl,SqL.of hw,t1,_,rfl,G,B,ch,s,d,a,rl,t,rfl,hb,hrl,hz,k⟩
   | move d a b =>
    refine⟨_,rfl,wl,_,_,_,rfl,rfl,SqL.of hw,t0,?_⟩
    refine⟨_,rfl,rfl,_,rfl,zy ?_⟩
    refine⟨_,rfl,rfl,_,rfl,zy ?_⟩
    refine⟨_,rfl,rfl,_,rfl,zF ?_⟩
    exact⟨_,rfl,_,rfl,_,rfl,wl,_,_,_,rfl,rfl,SqL.of hw,t1,_,rfl,wl,_,_,_,rfl,rfl,SqL.of hw,t2,G,B,ch,s,d,a,b,rfl,hb,k⟩
   | drop d a =>
    refine⟨_,rfl,wl,_,_,_,rfl,rfl,SqL.of hw,t0,?_⟩
    refine⟨_,rfl,rfl,_,rfl,zy ?_⟩
    refine⟨_,rfl,rfl,_,rfl,zy ?_⟩
    refine⟨_,rfl,rfl,_,rfl,zy ?_⟩
    refine⟨_,rfl,rfl,_,rfl,zF ?_⟩
    exact⟨_,rfl,_,rfl,_,rfl,wl,_,_,_,rfl,rfl,SqL.of hw,t1,G,B,ch,s,d,a,rfl,hb,k⟩
   | hide d a b =>
    refine⟨_,rfl,wl,_,_,_,rfl,rfl,SqL.of hw,t0,?_⟩
    refine⟨_,rfl,rfl,_,rfl,zy ?_⟩
    refine⟨_,rfl,rfl,_,rfl,zy ?_⟩
    refine⟨_,rfl,rfl,_,rfl,zy ?_⟩
    refine⟨_,rfl,rfl,_,rfl,zy ?_⟩
    refine⟨_,rfl,rfl,_,rfl,zF ?_⟩
    exact⟨_,rfl,_,rfl,_,rfl,wl,_,_,_,rfl,rfl,SqL.of hw,t1,_,rfl,wl,_,_,_,rfl,rfl,SqL.of hw,t2,G,B,ch,s,d,a,b,rfl,hb,k⟩
   | copy d =>
    refine⟨_,rfl,wl,_,_,_,rfl,rfl,SqL.of hw,t0,?_⟩
    refine⟨_,rfl,rfl,_,rfl,zy ?_⟩
    refine⟨_,rfl,rfl,_,rfl,zy ?_⟩
    refine⟨_,rfl,rfl,_,rfl,zy ?_⟩
    refine⟨_,rfl,rfl,_,rfl,zy ?_⟩
    refine⟨_,rfl,rfl,_,rfl,zy ?_⟩
    refine⟨_,rfl,rfl,_,rfl,zF ?_⟩
    exact⟨_,rfl,_,rfl,G,B,ch,s,d,rfl,hb,k⟩
   | reset d =>
    refine⟨_,rfl,wl,_,_,_,rfl,rfl,SqL.of hw,t0,?_⟩
    refine⟨_,rfl,rfl,_,rfl,zy ?_⟩
    refine⟨_,rfl,rfl,_,rfl,zy ?_⟩
    refine⟨_,rfl,rfl,_,rfl,zy ?_⟩
    refine⟨_,rfl,rfl,_,rfl,zy ?_⟩
    refine⟨_,rfl,rfl,_,rfl,zy ?_⟩
    refine⟨_,rfl,rfl,_,rfl,zy ?_⟩
    exact⟨_,rfl,_,rfl,G,B,ch,s,d,rfl,hb,k⟩
   | base _=>exact absurd hc (by simp[zn])
   | _=>exact absurd hc (by simp[zn])
theorem KA {f1:Addr}{fd1:FuncData} (F:Fun K "edited_side" "edited_side" vC f fd) (T:Txt K mg C) (D_answer_on_side:Def P w K mg base "answer_on_side" 5 ["books","call","wholes","row"] (xq C) f1 fd1):zU P w K mg base CX0 6 f fd ["books","call","wholes","row"] (uh C):=by
 refine F.ok sc_edited_side (fun vs H Q E h=>?_) (fun cdv A outer s H vs Q E hr h=>?_)
 . obtain⟨G,B,ch,s,c,wl,rl,rfl,_⟩:=h
   rfl
 . obtain⟨G,B,ch,s,c,wl,rl,rfl,hc,hb,hw,hrl,hz,k⟩:=h
   refine⟨_,(z5 (zi (i:=4) sc_edited_side.nd rfl (Or.inl rfl) (ze D_answer_on_side (hr.mono (by decide)) (z4 (pv 0) (z4 (pv 1) (z4 (pv 2) (z4 (pv 3) z9))))))
    (z5 (zC (zo ab4 (pv 4) zB (zz _)) (za (qE (pv 0) wW rfl)) zj)
    (za (zg (pv 4))))),?_⟩
   have ec:Vanbki.step s c=Vanbki.sideEdit s c:=by
    cases c <;> first | rfl | exact absurd hc (by simp[zn])
   have S:qh (Vanbki.sideEdit s c).1:=by rw[<-ec];exact xA hb.ok c
   rw[ec] at k
   refine⟨_,rfl,_,rfl,_,rfl,_,rfl,G,B,ch,s,c,wl,rl,rfl,hc,hb,hw,hrl,hz,fun hn he H1 s1=>?_,fun hn H1 G1 B1 h1 f1=>?_⟩
   . refine⟨_,rfl,_,_,rfl,rfl,_,rfl,?_⟩
     rw[decide_eq_false (by omega)]
     refine zy ⟨_,rfl,?_⟩
     exact k H1 G B ch (by rw[he];exact hb.mono s1) (Fr.same s1)
   . refine⟨_,rfl,_,_,rfl,rfl,_,rfl,?_⟩
     rw[decide_eq_true (by omega)]
     refine zF ?_
     intro dc ndc
     obtain⟨dxb,eb⟩:=h1.bk
     have fb:=f1.b
     have bb:(upd H1 dc (.dT [])) B.b=some (.ins C.cBooks dxb (qz B1.lb B1.ds B1.dc)):=by
      rw[<-fb,z8 (z7 eb ndc)]
      exact eb
     refine⟨_,rfl,B.b,C.cBooks,dxb,_,rfl,bb,T.c_Books,T.n_Books_choices,(by show 3<1000;decide),_,rfl,?_⟩
     have q:=k _ _ _ _ (XJ (dx:=dxb) h1 ndc (QP hc hn) S) (WD f1 ndc)
     rw[fb] at q
     exact q
theorem Qi {f1:Addr}{fd1:FuncData}{f2:Addr}{fd2:FuncData}{f3:Addr}{fd3:FuncData}{f4:Addr}{fd4:FuncData}{f5:Addr}{fd5:FuncData}{f6:Addr}{fd6:FuncData} (F:Fun K "answer_telling" "answer_telling" jY f fd) (T:Txt K mg C) (D_tell_origins:Def P w K mg base "tell_origins" 9 ["books"] (wt C) f1 fd1) (D_tell_document:Def P w K mg base "tell_document" 2 ["books","which"] (xK C) f2 fd2) (D_tell_changes:Def P w K mg base "tell_changes" 3 ["books","side"] (wp C) f3 fd3) (D_tell_change:Def P w K mg base "tell_change" 4 ["books","side","number"] (u5 C) f4 fd4) (D_tell_conflicts:Def P w K mg base "tell_conflicts" 7 ["books"] (xm C) f5 fd5) (D_tell_merged:Def P w K mg base "tell_merged" 9 ["books"] (uc C) f6 fd6):zU P w K mg base CX0 10 f fd ["books","call","wholes"] (xr C):=by
 refine F.ok ZR (fun vs H Q E h=>?_) (fun cdv A outer s H vs Q E hr h=>?_)
 . obtain⟨G,B,ch,s,c,wl,rfl,_⟩:=h
   rfl
 . obtain⟨G,B,ch,s,c,wl,rfl,hc,hb,hw,k⟩:=h
   refine⟨_,(z5 (zC (zo qN (pv 1) (pgi T.g_DOCUMENT) (zz _)) (za (zg (ze D_tell_document (hr.mono (by decide)) (z4 (pv 0) (z4 (qk qb (pv 2) zB (fun _ _=>rfl)) z9))))) zj)
    (z5 (zC (zo qN (pv 1) (pgi T.g_CHANGES) (zz _)) (za (zg (ze D_tell_changes (hr.mono (by decide)) (z4 (pv 0) (z4 (qk qb (pv 2) zB (fun _ _=>rfl)) z9))))) zj)
    (z5 (zC (zo qN (pv 1) (pgi T.g_CHANGE) (zz _)) (za (zg (ze D_tell_change (hr.mono (by decide)) (z4 (pv 0) (z4 (qk qb (pv 2) zB (fun _ _=>rfl)) (z4 (qk qb (pv 2) zB (fun _ _=>rfl)) z9)))))) zj)
    (z5 (zC (zo qN (pv 1) (pgi T.g_CONFLICTS) (zz _)) (za (zg (ze D_tell_conflicts (hr.mono (by decide)) (z4 (pv 0) z9)))) zj)
    (z5 (zC (zo qN (pv 1) (pgi T.g_MERGED) (zz _)) (za (zg (ze D_tell_merged (hr.mono (by decide)) (z4 (pv 0) z9)))) zj)
    (za (zg (ze D_tell_origins (hr.mono (by decide)) (z4 (pv 0) z9))))))))),?_⟩
   have t0:∀ {x:Int}{l:List Int},atI ((x::l).map V.int) 0=some (.int x):=zV (j:=0) rfl
   have t1:∀ {x y:Int}{l:List Int},atI ((x::y::l).map V.int) 1=some (.int y):=zV (j:=1) rfl
   cases c with
   | document d =>
    refine⟨_,rfl,rfl,_,rfl,zF ?_⟩
    exact⟨_,rfl,_,rfl,wl,_,_,_,rfl,rfl,SqL.of hw,t0,G,B,ch,s,d,rfl,hb,k⟩
   | changes d =>
    refine⟨_,rfl,rfl,_,rfl,zy ?_⟩
    refine⟨_,rfl,rfl,_,rfl,zF ?_⟩
    exact⟨_,rfl,_,rfl,wl,_,_,_,rfl,rfl,SqL.of hw,t0,G,B,ch,s,d,rfl,hb,k⟩
   | change d n =>
    refine⟨_,rfl,rfl,_,rfl,zy ?_⟩
    refine⟨_,rfl,rfl,_,rfl,zy ?_⟩
    refine⟨_,rfl,rfl,_,rfl,zF ?_⟩
    exact⟨_,rfl,_,rfl,wl,_,_,_,rfl,rfl,SqL.of hw,t0,_,rfl,wl,_,_,_,rfl,rfl,SqL.of hw,t1,G,B,ch,s,d,n,rfl,hb,k⟩
   | conflicts =>
    refine⟨_,rfl,rfl,_,rfl,zy ?_⟩
    refine⟨_,rfl,rfl,_,rfl,zy ?_⟩
    refine⟨_,rfl,rfl,_,rfl,zy ?_⟩
    refine⟨_,rfl,rfl,_,rfl,zF ?_⟩
    exact⟨_,rfl,G,B,ch,s,rfl,hb,k⟩
   | merged =>
    refine⟨_,rfl,rfl,_,rfl,zy ?_⟩
    refine⟨_,rfl,rfl,_,rfl,zy ?_⟩
    refine⟨_,rfl,rfl,_,rfl,zy ?_⟩
    refine⟨_,rfl,rfl,_,rfl,zy ?_⟩
    refine⟨_,rfl,rfl,_,rfl,zF ?_⟩
    exact⟨_,rfl,G,B,ch,s,rfl,hb,k⟩
   | origins =>
    refine⟨_,rfl,rfl,_,rfl,zy ?_⟩
    refine⟨_,rfl,rfl,_,rfl,zy ?_⟩
    refine⟨_,rfl,rfl,_,rfl,zy ?_⟩
    refine⟨_,rfl,rfl,_,rfl,zy ?_⟩
    refine⟨_,rfl,rfl,_,rfl,zy ?_⟩
    exact⟨_,rfl,G,B,ch,s,rfl,hb,k⟩
   | _=>exact absurd hc (by simp[zn])
theorem YA {f1:Addr}{fd1:FuncData}{f2:Addr}{fd2:FuncData}{f3:Addr}{fd3:FuncData}{f4:Addr}{fd4:FuncData}{f5:Addr}{fd5:FuncData}{f6:Addr}{fd6:FuncData} (F:Fun K "answer_of" "answer_of" xg f fd) (T:Txt K mg C) (D_answer_telling:Def P w K mg base "answer_telling" 10 ["books","call","wholes"] (xr C) f1 fd1) (D_adopt:Def P w K mg base "adopt" 9 ["books"] (XI C) f2 fd2) (D_set_base:Def P w K mg base "set_base" 4 ["books","row"] (J6 C) f3 fd3) (D_edited_side:Def P w K mg base "edited_side" 6 ["books","call","wholes","row"] (uh C) f4 fd4) (D_swap_sides:Def P w K mg base "swap_sides" 2 ["books"] (uV C) f5 fd5) (D_choose:Def P w K mg base "choose" 8 ["books","kind","number","choice"] (VJ C) f6 fd6):zU P w K mg base CX0 11 f fd ["books","call","wholes","row"] (wf C):=by
 refine F.ok Yk (fun vs H Q E h=>?_) (fun cdv A outer s H vs Q E hr h=>?_)
 . obtain⟨G,B,ch,s,c,wl,rl,rfl,_⟩:=h
   rfl
 . obtain⟨G,B,ch,s,c,wl,rl,rfl,hb,hw,hrl,hz,k⟩:=h
   refine⟨_,(z5 (zC (zo qN (pv 1) (pgi T.g_BASE) (zz _)) (za (zg (zX (z4 (ze D_set_base (hr.mono (by decide)) (z4 (pv 0) (z4 (pv 3) z9))) z9)))) zj)
    (z5 (zC (zo X9 (pv 1) (pgi T.g_RESET) (zz _)) (za (zg (zX (z4 (ze D_edited_side (hr.mono (by decide)) (z4 (pv 0) (z4 (pv 1) (z4 (pv 2) (z4 (pv 3) z9))))) z9)))) zj)
    (z5 (zC (zo qN (pv 1) (pgi T.g_SWAP) (zz _)) (za (zg (zX (z4 (ze D_swap_sides (hr.mono (by decide)) (z4 (pv 0) z9)) z9)))) zj)
    (z5 (zC (zo qN (pv 1) (pgi T.g_CHOOSE) (zz _)) (za (zg (zX (z4 (ze D_choose (hr.mono (by decide)) (z4 (pv 0) (z4 (qk qb (pv 2) zB (fun _ _=>rfl)) (z4 (qk qb (pv 2) zB (fun _ _=>rfl)) (z4 (qk qb (pv 2) zB (fun _ _=>rfl)) z9))))) z9)))) zj)
    (z5 (zC (zo X9 (pv 1) (pgi T.g_ORIGINS) (zz _)) (za (zg (ze D_answer_telling (hr.mono (by decide)) (z4 (pv 0) (z4 (pv 1) (z4 (pv 2) z9)))))) zj)
    (za (zg (zX (z4 (ze D_adopt (hr.mono (by decide)) (z4 (pv 0) z9)) z9))))))))),?_⟩
   have t0:∀ {x:Int}{l:List Int},atI ((x::l).map V.int) 0=some (.int x):=zV (j:=0) rfl
   have t1:∀ {x y:Int}{l:List Int},atI ((x::y::l).map V.int) 1=some (.int y):=zV (j:=1) rfl
   have t2:∀ {x y z:Int}{l:List Int},atI ((x::y::z::l).map V.int) 2=some (.int z):=zV (j:=2) rfl
   have one:((zn c).1<=8∨(zn c).1=13∨(zn c).1=16)->PostDone C H G B (Vanbki.step s c) (fun v H1=>1<=sizeLine/\∀ p,H1 p=none->Q (.ref p) (upd H1 p (.lst [v]))):=fun hc H1 G1 B1 ch1 h1 f1=>⟨(by decide),fun p hp=>by
    refine k _ G1 B1 ch1 p (h1.mono (Same.new hp)) (f1.up (Same.new hp)) (fun a o e m z=>?_) ?_
    . rw[z] at e m
      rw[f1.kept p o e m] at hp
      cases hp
    . rw[IL,z6,enc,acM hc]
      rfl⟩
   have tell:(9<=(zn c).1/\(zn c).1<=15/\(zn c).1≠13)->Vanbki.step s c=(s,(Vanbki.step s c).2)->∀ H' p,Same H H'->H p=none->IL H' p (enc (Vanbki.step s c).2)->Q (.ref p) H':=fun hc e H1 p s1 hp hi=>by
    refine k H1 G B ch p (by rw[e];exact hb.mono s1) (Fr.same s1) (fun a o ea _ z=>?_) hi
    rw[z,hp] at ea
    cases ea
   cases c with
   | base t =>
    refine⟨_,rfl,rfl,_,rfl,zF ?_⟩
    exact⟨_,rfl,_,rfl,G,B,ch,s,rl,t,rfl,hb,hb.gh _ _ hrl,hz,one (by simp[zn])⟩
   | swap =>
    refine⟨_,rfl,rfl,_,rfl,zy ?_⟩
    refine⟨_,rfl,_,_,rfl,rfl,_,rfl,zy ?_⟩
    refine⟨_,rfl,rfl,_,rfl,zF ?_⟩
    exact⟨_,rfl,G,B,ch,s,rfl,hb,one (by simp[zn])⟩
   | choose d n m =>
    refine⟨_,rfl,rfl,_,rfl,zy ?_⟩
    refine⟨_,rfl,_,_,rfl,rfl,_,rfl,zy ?_⟩
    refine⟨_,rfl,rfl,_,rfl,zy ?_⟩
    refine⟨_,rfl,rfl,_,rfl,zF ?_⟩
    exact⟨_,rfl,_,rfl,wl,_,_,_,rfl,rfl,SqL.of hw,t0,_,rfl,wl,_,_,_,rfl,rfl,SqL.of hw,t1,_,rfl,wl,_,_,_,rfl,rfl,SqL.of hw,t2,G,B,ch,s,d,n,m,rfl,hb,one (by simp[zn])⟩
   | adopt =>
    refine⟨_,rfl,rfl,_,rfl,zy ?_⟩
    refine⟨_,rfl,_,_,rfl,rfl,_,rfl,zy ?_⟩
    refine⟨_,rfl,rfl,_,rfl,zy ?_⟩
    refine⟨_,rfl,rfl,_,rfl,zy ?_⟩
    refine⟨_,rfl,_,_,rfl,rfl,_,rfl,zy ?_⟩
    exact⟨_,rfl,G,B,ch,s,rfl,hb,one (by simp[zn])⟩
   | document d =>
    refine⟨_,rfl,rfl,_,rfl,zy ?_⟩
    refine⟨_,rfl,_,_,rfl,rfl,_,rfl,zy ?_⟩
    refine⟨_,rfl,rfl,_,rfl,zy ?_⟩
    refine⟨_,rfl,rfl,_,rfl,zy ?_⟩
    refine⟨_,rfl,_,_,rfl,rfl,_,rfl,zF ?_⟩
    exact⟨_,rfl,_,rfl,_,rfl,G,B,ch,s,_,wl,rfl,by simp[zn],hb,hw,tell (by simp[zn]) (vt (by simp[zn]))⟩
   | changes d =>
    refine⟨_,rfl,rfl,_,rfl,zy ?_⟩
    refine⟨_,rfl,_,_,rfl,rfl,_,rfl,zy ?_⟩
    refine⟨_,rfl,rfl,_,rfl,zy ?_⟩
    refine⟨_,rfl,rfl,_,rfl,zy ?_⟩
    refine⟨_,rfl,_,_,rfl,rfl,_,rfl,zF ?_⟩
    exact⟨_,rfl,_,rfl,_,rfl,G,B,ch,s,_,wl,rfl,by simp[zn],hb,hw,tell (by simp[zn]) (vt (by simp[zn]))⟩
   | change d n =>
    refine⟨_,rfl,rfl,_,rfl,zy ?_⟩
    refine⟨_,rfl,_,_,rfl,rfl,_,rfl,zy ?_⟩
    refine⟨_,rfl,rfl,_,rfl,zy ?_⟩
    refine⟨_,rfl,rfl,_,rfl,zy ?_⟩
    refine⟨_,rfl,_,_,rfl,rfl,_,rfl,zF ?_⟩
    exact⟨_,rfl,_,rfl,_,rfl,G,B,ch,s,_,wl,rfl,by simp[zn],hb,hw,tell (by simp[zn]) (vt (by simp[zn]))⟩
   | conflicts =>
    refine⟨_,rfl,rfl,_,rfl,zy ?_⟩
    refine⟨_,rfl,_,_,rfl,rfl,_,rfl,zy ?_⟩
    refine⟨_,rfl,rfl,_,rfl,zy ?_⟩
    refine⟨_,rfl,rfl,_,rfl,zy ?_⟩
    refine⟨_,rfl,_,_,rfl,rfl,_,rfl,zF ?_⟩
    exact⟨_,rfl,_,rfl,_,rfl,G,B,ch,s,_,wl,rfl,by simp[zn],hb,hw,tell (by simp[zn]) (vt (by simp[zn]))⟩
   | merged =>
    refine⟨_,rfl,rfl,_,rfl,zy ?_⟩
    refine⟨_,rfl,_,_,rfl,rfl,_,rfl,zy ?_⟩
    refine⟨_,rfl,rfl,_,rfl,zy ?_⟩
    refine⟨_,rfl,rfl,_,rfl,zy ?_⟩
    refine⟨_,rfl,_,_,rfl,rfl,_,rfl,zF ?_⟩
    exact⟨_,rfl,_,rfl,_,rfl,G,B,ch,s,_,wl,rfl,by simp[zn],hb,hw,tell (by simp[zn]) (vt (by simp[zn]))⟩
   | origins =>
    refine⟨_,rfl,rfl,_,rfl,zy ?_⟩
    refine⟨_,rfl,_,_,rfl,rfl,_,rfl,zy ?_⟩
    refine⟨_,rfl,rfl,_,rfl,zy ?_⟩
    refine⟨_,rfl,rfl,_,rfl,zy ?_⟩
    refine⟨_,rfl,_,_,rfl,rfl,_,rfl,zF ?_⟩
    exact⟨_,rfl,_,rfl,_,rfl,G,B,ch,s,_,wl,rfl,by simp[zn],hb,hw,tell (by simp[zn]) (vt (by simp[zn]))⟩
   | new d a t =>
    refine⟨_,rfl,rfl,_,rfl,zy ?_⟩
    refine⟨_,rfl,_,_,rfl,rfl,_,rfl,zF ?_⟩
    exact⟨_,rfl,_,rfl,_,rfl,_,rfl,G,B,ch,s,_,wl,rl,rfl,by simp[zn],hb,hw,hrl,hz,one (by simp[zn])⟩
   | write d a t =>
    refine⟨_,rfl,rfl,_,rfl,zy ?_⟩
    refine⟨_,rfl,_,_,rfl,rfl,_,rfl,zF ?_⟩
    exact⟨_,rfl,_,rfl,_,rfl,_,rfl,G,B,ch,s,_,wl,rl,rfl,by simp[zn],hb,hw,hrl,hz,one (by simp[zn])⟩
   | move d a t =>
    refine⟨_,rfl,rfl,_,rfl,zy ?_⟩
    refine⟨_,rfl,_,_,rfl,rfl,_,rfl,zF ?_⟩
    exact⟨_,rfl,_,rfl,_,rfl,_,rfl,G,B,ch,s,_,wl,rl,rfl,by simp[zn],hb,hw,hrl,hz,one (by simp[zn])⟩
   | drop d a =>
    refine⟨_,rfl,rfl,_,rfl,zy ?_⟩
    refine⟨_,rfl,_,_,rfl,rfl,_,rfl,zF ?_⟩
    exact⟨_,rfl,_,rfl,_,rfl,_,rfl,G,B,ch,s,_,wl,rl,rfl,by simp[zn],hb,hw,hrl,hz,one (by simp[zn])⟩
   | hide d a t =>
    refine⟨_,rfl,rfl,_,rfl,zy ?_⟩
    refine⟨_,rfl,_,_,rfl,rfl,_,rfl,zF ?_⟩
    exact⟨_,rfl,_,rfl,_,rfl,_,rfl,G,B,ch,s,_,wl,rl,rfl,by simp[zn],hb,hw,hrl,hz,one (by simp[zn])⟩
   | copy d =>
    refine⟨_,rfl,rfl,_,rfl,zy ?_⟩
    refine⟨_,rfl,_,_,rfl,rfl,_,rfl,zF ?_⟩
    exact⟨_,rfl,_,rfl,_,rfl,_,rfl,G,B,ch,s,_,wl,rl,rfl,by simp[zn],hb,hw,hrl,hz,one (by simp[zn])⟩
   | reset d =>
    refine⟨_,rfl,rfl,_,rfl,zy ?_⟩
    refine⟨_,rfl,_,_,rfl,rfl,_,rfl,zF ?_⟩
    exact⟨_,rfl,_,rfl,_,rfl,_,rfl,G,B,ch,s,_,wl,rl,rfl,by simp[zn],hb,hw,hrl,hz,one (by simp[zn])⟩
end
end Tb
end
section
namespace Tb
open PySem PySem.Spec PyProof.Rows L2
open Vanbki (nats ofNat markNat numbers)
def v_ (k:Vanbki.Call):List Int:=((zn k).1:Int)::((zn k).2.1++(if (zn k).1<=2 then ((zn k).2.2.length:Int)::(zn k).2.2 else []))
theorem Ju {l:List α} (h:l.length=1):∃ x,l=[x]:=List.length_eq_one_iff.mp h
theorem WE:∀ {l:List α},l.length=2->∃ x y,l=[x,y]
 | [x,y],_=>⟨x,y,rfl⟩
theorem WF:∀ {l:List α},l.length=3->∃ x y z,l=[x,y,z]
 | [x,y,z],_=>⟨x,y,z,rfl⟩
structure add (c:List (List Int)) (k:Vanbki.Call):Prop where
 of:VanbkiNeutral.callOf c=some k
 put:PyFlat.put1 c=v_ k
 wh:wholesT[(zn k).1]?=some (zn k).2.1.length
 rw:rowsT[(zn k).1]?=some (if (zn k).1<=2 then 1 else 0)
 no:2<(zn k).1->(zn k).2.2=[]
theorem WG {c:List (List Int)} (h:PyFlat.okCall PyVanbki.shape c):∃ k,add c k:=by
 obtain⟨p,a,xs,rfl,hs⟩:=h
 obtain⟨i,rfl,hi,hw,hr⟩:=Y_ hs
 have e0:∀ {l:List Int},PyFlat.put1 [l]=l:=fun {l}=>by simp[PyFlat.put1,PyFlat.putRows]
 match i,hi,hw,hr with
 | 0,_,hw,hr =>
  obtain rfl:=List.length_eq_zero_iff.mp (Option.some.inj hw).symm
  obtain⟨t,rfl⟩:=Ju (Option.some.inj hr).symm
  exact⟨.base t,rfl,by simp[PyFlat.put1,PyFlat.putRows,PyFlat.putRow,v_,zn],rfl,rfl,fun h=>absurd h (by simp[zn])⟩
 | 1,_,hw,hr =>
  obtain⟨x,y,rfl⟩:=WE (Option.some.inj hw).symm
  obtain⟨t,rfl⟩:=Ju (Option.some.inj hr).symm
  exact⟨.new x y t,rfl,by simp[PyFlat.put1,PyFlat.putRows,PyFlat.putRow,v_,zn],rfl,rfl,fun h=>absurd h (by simp[zn])⟩
 | 2,_,hw,hr =>
  obtain⟨x,y,rfl⟩:=WE (Option.some.inj hw).symm
  obtain⟨t,rfl⟩:=Ju (Option.some.inj hr).symm
  exact⟨.write x y t,rfl,by simp[PyFlat.put1,PyFlat.putRows,PyFlat.putRow,v_,zn],rfl,rfl,fun h=>absurd h (by simp[zn])⟩
 | 3,_,hw,hr =>
  obtain⟨x,y,z,rfl⟩:=WF (Option.some.inj hw).symm
  obtain rfl:=List.length_eq_zero_iff.mp (Option.some.inj hr).symm
  exact⟨.move x y z,rfl,by simp[e0,v_,zn],rfl,rfl,fun _=>rfl⟩
 | 4,_,hw,hr =>
  obtain⟨x,y,rfl⟩:=WE (Option.some.inj hw).symm
  obtain rfl:=List.length_eq_zero_iff.mp (Option.some.inj hr).symm
  exact⟨.drop x y,rfl,by simp[e0,v_,zn],rfl,rfl,fun _=>rfl⟩
 | 5,_,hw,hr =>
  obtain⟨x,y,z,rfl⟩:=WF (Option.some.inj hw).symm
  obtain rfl:=List.length_eq_zero_iff.mp (Option.some.inj hr).symm
  exact⟨.hide x y z,rfl,by simp[e0,v_,zn],rfl,rfl,fun _=>rfl⟩
 | 6,_,hw,hr =>
  obtain⟨x,rfl⟩:=Ju (Option.some.inj hw).symm
  obtain rfl:=List.length_eq_zero_iff.mp (Option.some.inj hr).symm
  exact⟨.copy x,rfl,by simp[e0,v_,zn],rfl,rfl,fun _=>rfl⟩
 | 7,_,hw,hr =>
  obtain⟨x,rfl⟩:=Ju (Option.some.inj hw).symm
  obtain rfl:=List.length_eq_zero_iff.mp (Option.some.inj hr).symm
  exact⟨.reset x,rfl,by simp[e0,v_,zn],rfl,rfl,fun _=>rfl⟩
 | 8,_,hw,hr =>
  obtain rfl:=List.length_eq_zero_iff.mp (Option.some.inj hw).symm
  obtain rfl:=List.length_eq_zero_iff.mp (Option.some.inj hr).symm
  exact⟨.swap,rfl,by simp[e0,v_,zn],rfl,rfl,fun _=>rfl⟩
 | 9,_,hw,hr =>
  obtain⟨x,rfl⟩:=Ju (Option.some.inj hw).symm
  obtain rfl:=List.length_eq_zero_iff.mp (Option.some.inj hr).symm
  exact⟨.document x,rfl,by simp[e0,v_,zn],rfl,rfl,fun _=>rfl⟩
 | 10,_,hw,hr =>
  obtain⟨x,rfl⟩:=Ju (Option.some.inj hw).symm
  obtain rfl:=List.length_eq_zero_iff.mp (Option.some.inj hr).symm
  exact⟨.changes x,rfl,by simp[e0,v_,zn],rfl,rfl,fun _=>rfl⟩
 | 11,_,hw,hr =>
  obtain⟨x,y,rfl⟩:=WE (Option.some.inj hw).symm
  obtain rfl:=List.length_eq_zero_iff.mp (Option.some.inj hr).symm
  exact⟨.change x y,rfl,by simp[e0,v_,zn],rfl,rfl,fun _=>rfl⟩
 | 12,_,hw,hr =>
  obtain rfl:=List.length_eq_zero_iff.mp (Option.some.inj hw).symm
  obtain rfl:=List.length_eq_zero_iff.mp (Option.some.inj hr).symm
  exact⟨.conflicts,rfl,by simp[e0,v_,zn],rfl,rfl,fun _=>rfl⟩
 | 13,_,hw,hr =>
  obtain⟨x,y,z,rfl⟩:=WF (Option.some.inj hw).symm
  obtain rfl:=List.length_eq_zero_iff.mp (Option.some.inj hr).symm
  exact⟨.choose x y z,rfl,by simp[e0,v_,zn],rfl,rfl,fun _=>rfl⟩
 | 14,_,hw,hr =>
  obtain rfl:=List.length_eq_zero_iff.mp (Option.some.inj hw).symm
  obtain rfl:=List.length_eq_zero_iff.mp (Option.some.inj hr).symm
  exact⟨.merged,rfl,by simp[e0,v_,zn],rfl,rfl,fun _=>rfl⟩
 | 15,_,hw,hr =>
  obtain rfl:=List.length_eq_zero_iff.mp (Option.some.inj hw).symm
  obtain rfl:=List.length_eq_zero_iff.mp (Option.some.inj hr).symm
  exact⟨.origins,rfl,by simp[e0,v_,zn],rfl,rfl,fun _=>rfl⟩
 | 16,_,hw,hr =>
  obtain rfl:=List.length_eq_zero_iff.mp (Option.some.inj hw).symm
  obtain rfl:=List.length_eq_zero_iff.mp (Option.some.inj hr).symm
  exact⟨.adopt,rfl,by simp[e0,v_,zn],rfl,rfl,fun _=>rfl⟩
 | i+17,hi,_,_=>omega
theorem Ze:∀ (cs ds:List (List (List Int))),PyFlat.put (cs++ds)=PyFlat.put cs++PyFlat.put ds
 | [],ds=>rfl
 | c::cs,ds=>by
  rw[List.cons_append,PyFlat.put,PyFlat.put,Ze cs ds,List.append_assoc]
def kj (s:Vanbki.State) (cs:List (List (List Int))):Vanbki.State:=cs.foldl (fun s c=>(VanbkiNeutral.step s c).1) s
theorem Ja (c:List (List Int)):∀ (cs:List (List (List Int))) (s:Vanbki.State),PyFlat.played VanbkiNeutral.step s (cs++[c])=PyFlat.played VanbkiNeutral.step s cs++[(VanbkiNeutral.step (kj s cs) c).2]
 | [],s=>rfl
 | d::cs,s=>by
  rw[List.cons_append,PyFlat.played,PyFlat.played,Ja c cs]
  rfl
theorem YB (s:Vanbki.State) (cs:List (List (List Int))) (c:List (List Int)):kj s (cs++[c])=(VanbkiNeutral.step (kj s cs) c).1:=by
 unfold kj
 rw[List.foldl_append]
 rfl
theorem aad (l:List (List Int)) (a:List Int):PyFlat.told (l++[a])=PyFlat.told l++((a.length:Int)::a):=by
 unfold PyFlat.told
 rw[List.flatMap_append]
 simp
theorem Uc {s:Vanbki.State}{c:List (List Int)}{k:Vanbki.Call} (h:VanbkiNeutral.callOf c=some k):VanbkiNeutral.step s c=((Vanbki.step s k).1,enc (Vanbki.step s k).2):=by
 unfold VanbkiNeutral.step
 rw[h]
 rfl
theorem BooksAt.addG {C:Ad}{H G:Hp}{B:Bk}{ch:Chs}{s:Vanbki.State}{q:Addr}{o:HO} (h:BooksAt C H G B ch s) (e:H q=some o) (hq:¬q∈B.muts) (hg:G q=none):BooksAt C H (upd G q o) B ch s:=by
 have sg:Same G (upd G q o):=Same.new hg
 obtain⟨as0,f0,c0⟩:=h.c0
 obtain⟨as1,f1,c1⟩:=h.c1
 obtain⟨as2,f2,c2⟩:=h.c2
 refine⟨h.bk,h.sd,h.s1,h.s2,⟨as0,sg _ _ f0,c0.mono sg⟩,⟨as1,f1,c1.mono sg⟩,⟨as2,f2,c2.mono sg⟩,h.dc,h.co,fun y u ey=>?_,fun y hy=>?_,h.ne,h.ok⟩
 . by_cases z:y=q
   . rw[z,z6] at ey
     rw[z,e,<-ey]
   . rw[z8 z] at ey
     exact h.gh _ _ ey
 . rw[z8 (fun z:y=q=>hq (z▸hy))]
   exact h.fr y hy
theorem ab9 {l A ws T:List Int}{x:Int} (h:l=A++x::(ws++T)):(l.map V.int)[A.length]?=some (.int x)/\uz (l.map V.int) (some ((A.length:Nat)+1:Int)) (some ((A.length:Nat)+1+(ws.length:Nat):Int))=ws.map V.int/\A.length+1+ws.length<=l.length:=by
 have hlen:A.length+1+ws.length<=l.length:=by
  rw[h]
  simp only[List.length_append,List.length_cons]
  omega
 refine⟨?_,?_,hlen⟩
 . rw[List.getElem?_map,h,List.getElem?_append_right (Nat.le_refl _),Nat.sub_self]
   rfl
 . have:=ZT (xs:=l.map V.int) (i:=A.length+1) (j:=A.length+1+ws.length) (by rw[List.length_map];omega) (by rw[List.length_map];omega)
   rw[show A.length+1+ws.length - (A.length+1)=ws.length by omega] at this
   refine Eq.trans ?_ (this.trans ?_)
   . rfl
   . rw[<-List.map_drop,<-List.map_take]
     congr 1
     have e:l=(A++[x])++(ws++T):=by rw[h];simp
     rw[e,List.drop_left' (by simp),List.take_left' rfl]
theorem aae {i n:Nat} (h:wholesT[i]?=some n):atI (([0,2,2,3,2,3,1,1,0,1,1,2,0,3,0,0,0]:List Int).map V.int) ((i:Nat):Int)=some (.int (n:Nat)):=by
 refine zV ?_
 show ((wholesT.map fun n:Nat=>(n:Int)).map V.int)[i]?=_
 rw[List.map_map,List.getElem?_map,h]
 rfl
theorem ab3 {i n:Nat} (h:rowsT[i]?=some n):atI (([1,1,1,0,0,0,0,0,0,0,0,0,0,0,0,0,0]:List Int).map V.int) ((i:Nat):Int)=some (.int (n:Nat)):=by
 refine zV ?_
 show ((rowsT.map fun n:Nat=>(n:Int)).map V.int)[i]?=_
 rw[List.map_map,List.getElem?_map,h]
 rfl
def Zf (K:PySem.W.Frag):Sp:=fun vs H Q _=>∃ a l,vs=[.ref a]/\SqL K H a (l.map V.int)/\l.length<=16000/\PyVanbki.answers_asked l=true/\∀ H' p,IL H' p (PyVanbki.answers l)->Q (.ref p) H'
section
variable {P:Program}{w:World}{K:PySem.W.Frag}{mg:Str->Option Value}{base:Heap}{C:Ad}{f:Addr}{fd:FuncData}
theorem WH {f1:Addr}{fd1:FuncData}{f2:Addr}{fd2:FuncData} (F:Fun K "answers" "answers" uu f fd) (T:Txt K mg C) (D_Books:Cdf P w K mg base "Books" 3 ["self"] (uW C) C.cBooks f1 fd1) (D_answer_of:Def P w K mg base "answer_of" 11 ["books","call","wholes","row"] (wf C) f2 fd2):zU P w K mg base CX0 12 f fd ["calls"] (Zf K):=by
 refine F.ok sc_answers (fun vs H Q E h=>?_) (fun cdv A outer s H vs Q E hr h=>?_)
 . obtain⟨a,l,rfl,_⟩:=h
   rfl
 . obtain⟨a,l,rfl,hs,hz,hask,k⟩:=h
   refine⟨_,(z5 (zi (i:=1) sc_answers.nd rfl (Or.inl rfl) (UI D_Books (hr.mono (by decide))))
    (z5 (zi (i:=2) sc_answers.nd rfl (Or.inl rfl) (zX z9))
    (z5 (zi (i:=3) sc_answers.nd rfl (Or.inl rfl) zB)
    (z5 (K0 PassesOwn.never (zo K2 (pv 3) (zP qS (by rfl) T.b_len qR (z4 (pv 0) z9)) (zz _)) (z5 (zi (i:=4) sc_answers.nd rfl (Or.inl rfl) (qk qb (pv 0) (pv 3) (fun _ _=>rfl)))
    (z5 (zi (i:=5) sc_answers.nd rfl (Or.inl rfl) (jE xV (pv 3) zB))
    (z5 (zi (i:=3) sc_answers.nd rfl (Or.inl rfl) (jE xV (pv 5) (qk kL (ZC (v:=.ref C.aWHOLES) rfl T.g_WHOLES rfl) (pv 4) (fun _ _=>rfl))))
    (z5 (zi (i:=6) sc_answers.nd rfl (Or.inl rfl) (vK yS (pv 0) (jS (pv 5)) (jS (pv 3))))
    (z5 (zi (i:=7) sc_answers.nd rfl (Or.inl rfl) (zX z9))
    (z5 (zC (zo qN (qk kL (ZC (v:=.ref C.aROWS) rfl T.g_ROWS rfl) (pv 4) (fun _ _=>rfl)) zB (zz _)) (z5 (zi (i:=5) sc_answers.nd rfl (Or.inl rfl) (jE xV (pv 3) zB))
    (z5 (zi (i:=3) sc_answers.nd rfl (Or.inl rfl) (jE xV (pv 5) (qk qb (pv 0) (pv 3) (fun _ _=>rfl))))
    (za (zi (i:=7) sc_answers.nd rfl (Or.inl rfl) (vK yS (pv 0) (jS (pv 5)) (jS (pv 3))))))) zj)
    (z5 (zi (i:=8) sc_answers.nd rfl (Or.inl rfl) (ze D_answer_of (hr.mono (by decide)) (z4 (pv 1) (z4 (pv 4) (z4 (pv 6) (z4 (pv 7) z9))))))
    (z5 (qt (jF PySem.F.plainAttrs_list PySem.F.slot_list_append PySem.F.type_list_append jc (pv 2) (z4 (zP qS (by rfl) T.b_len qR (z4 (pv 8) z9)) z9)))
    (za (qt (jF PySem.F.plainAttrs_list PySem.F.slot_list_extend PySem.F.type_list_extend jy (pv 2) (z4 (pv 8) z9)))))))))))))
    (za (zg (pv 2))))))),?_⟩
   obtain⟨cs,hcs,h400⟩:∃ cs,PyVanbki.calls l=some cs/\cs.length<=400:=by
    unfold PyVanbki.answers_asked at hask
    cases e:PyVanbki.calls l with
    | none=>rw[e] at hask;cases hask
    | some cs =>
     rw[e] at hask
     have hask:(PyFlat.atMost 400 cs && VanbkiNeutral.asked cs)=true:=hask
     rw[Bool.and_eq_true] at hask
     exact⟨cs,rfl,of_decide_eq_true hask.1⟩
   obtain⟨hput,hok⟩:=XZ hcs
   have hans:PyVanbki.answers l=PyFlat.told (PyFlat.played VanbkiNeutral.step VanbkiNeutral.start cs):=by
    unfold PyVanbki.answers
    rw[hcs]
   rw[hans] at k
   intro b dx nb nd ne
   refine⟨b,dx,rfl,z6,fun H1 G B hB hb0 kp nM nG=>⟨rfl,?_⟩⟩
   refine⟨Nat.zero_le _,fun q hq=>?_⟩
   have s01:Same H H1:=fun y o e=>kp y o (by rw[z8 (z7 e nb),z8 (z7 e nd)];exact e) (z7 e nb)
   have Hq:H q=none:=s01.free hq
   refine⟨fun μ σ H'=>∃ done rest,cs=done++rest/\μ=rest.length/\(∃ v4 v5 v6 v7 v8,σ=[some (.ref a),some (.ref b),some (.ref q),some (.int ((PyFlat.put done).length:Nat)),v4,v5,v6,v7,v8])/\Same H H'/\IL H' q (PyFlat.told (PyFlat.played VanbkiNeutral.step VanbkiNeutral.start done))/\(PyFlat.told (PyFlat.played VanbkiNeutral.step VanbkiNeutral.start done)).length<=2438 * done.length /\
    ∃ G B ch,Bk.b B=b/\BooksAt C H' G B ch (kj VanbkiNeutral.start done)/\¬q∈B.muts/\G q=none/\∀ y,y∈B.muts->H y=none,
    ⟨cs.length,[],cs,rfl,rfl,⟨none,none,none,none,none,rfl⟩,s01.trans (Same.new hq),z6,Nat.zero_le _,G,B,[],hB,hb0.mono (Same.new hq),hb0.notNew hq,hb0.gh.free hq,fun y hy=>?_⟩,?_⟩
   . rcases nM y hy with z | z
     . rw[z]
       exact nb
     . have h1:y≠b:=fun e=>by rw[e,z6] at z;cases z
       rw[z8 h1] at z
       have h2:y≠dx:=fun e=>by rw[e,z6] at z;cases z
       rw[z8 h2] at z
       exact z
   . rintro μ σ H' ⟨done,rest,hcs',rfl,⟨v4,v5,v6,v7,v8,rfl⟩,s1,et,ht,G,B,ch,rfl,hb,qm,qg,mH⟩
     have hs':=s1.seq hs
     have hl:l=PyFlat.put done++PyFlat.put rest:=by rw[<-hput,hcs',Ze]
     refine⟨_,rfl,_,rfl,a,_,rfl,.inl hs',_,_,rfl,rfl,_,rfl,?_⟩
     cases rest with
     | nil =>
      rw[List.append_nil] at hcs'
      subst hcs'
      have hll:l.length=(PyFlat.put cs).length:=by rw[hl];simp[PyFlat.put]
      rw[decide_eq_false (by rw[List.length_map,hll];omega)]
      exact zy ⟨_,rfl,k H' q et⟩
     | cons c rest =>
      obtain⟨kc,hk⟩:=WG (hok c (by rw[hcs'];simp))
      have hl2:l=PyFlat.put done++(v_ kc++PyFlat.put rest):=by rw[hl,PyFlat.put,hk.put]
      obtain⟨p1,p2,p3⟩:=ab9 (l:=l) (A:=PyFlat.put done) (x:=((zn kc).1:Int)) (ws:=(zn kc).2.1) (T:=(if (zn kc).1<=2 then ((zn kc).2.2.length:Int)::(zn kc).2.2 else [])++PyFlat.put rest) (by rw[hl2];simp[v_])
      rw[decide_eq_true (by rw[List.length_map];omega)]
      refine zF ?_
      refine⟨_,fun σ' H' h=>h,?_⟩
      refine⟨_,rfl,_,rfl,a,_,_,_,rfl,rfl,hs',zV p1,?_⟩
      refine⟨_,rfl,_,_,rfl,rfl,?_⟩
      refine⟨_,rfl,_,rfl,C.aWHOLES,_,_,_,rfl,rfl,T.s_WHOLES _,aae hk.wh,_,_,rfl,rfl,?_⟩
      refine⟨_,rfl,_,rfl,_,rfl,_,rfl,_,rfl,a,_,rfl,hs',fun wl nwl=>?_⟩
      rw[p2]
      refine⟨Nat.zero_le _,fun r0 nr0=>?_⟩
      refine⟨_,rfl,C.aROWS,_,_,_,rfl,rfl,T.s_ROWS _,ab3 hk.rw,rfl,_,rfl,?_⟩
      have hq0:∀ {y:Addr},H' y=none->q≠y:=fun hy=>z7 et hy
      have hdl:done.length<400:=by
       rw[hcs',List.length_append,List.length_cons] at h400
       omega
      have hcs2:cs=(done++[c])++rest:=by rw[hcs'];simp
      have hput2:PyFlat.put (done++[c])=PyFlat.put done++v_ kc:=by
       rw[Ze,PyFlat.put,hk.put]
       simp[PyFlat.put]
      have hrow:(zn kc).2.2.length<=16000:=by
       by_cases h2:(zn kc).1<=2
       . have:=congrArg List.length hl2
         rw[v_,if_pos h2] at this
         simp only[List.length_append,List.length_cons] at this
         omega
       . rw[hk.no (by omega)]
         exact Nat.zero_le _
      have hmore:=Ug hb.ok kc
      have henc:(enc (Vanbki.step (kj VanbkiNeutral.start done) kc).2).length<=2437:=by
       show (Vanbki.step (kj VanbkiNeutral.start done) kc).2.more.length+1<=2437
       omega
      have htold:PyFlat.told (PyFlat.played VanbkiNeutral.step VanbkiNeutral.start (done++[c]))=PyFlat.told (PyFlat.played VanbkiNeutral.step VanbkiNeutral.start done)++(((enc (Vanbki.step (kj VanbkiNeutral.start done) kc).2).length:Int)::enc (Vanbki.step (kj VanbkiNeutral.start done) kc).2):=by
       rw[Ja,aad,Uc hk.of]
      have hst:kj VanbkiNeutral.start (done++[c])=(Vanbki.step (kj VanbkiNeutral.start done) kc).1:=by rw[YB,Uc hk.of]
      have tail:∀ (D:V_) (H5:Hp) (rl:Addr) (v5:Option V) (pl:Int),pl=((PyFlat.put (done++[c])).length:Nat)->Same H' H5->IL H5 wl (zn kc).2.1->IL H5 rl (zn kc).2.2->H' rl=none ->
       (∀ σ' H6,(∃ m',m'<(c::rest).length/\∃ done rest,cs=done++rest/\m'=rest.length/\(∃ v4 v5 v6 v7 v8,σ'=[some (.ref a),some (.ref B.b),some (.ref q),some (.int ((PyFlat.put done).length:Nat)),v4,v5,v6,v7,v8])/\Same H H6/\IL H6 q (PyFlat.told (PyFlat.played VanbkiNeutral.step VanbkiNeutral.start done))/\(PyFlat.told (PyFlat.played VanbkiNeutral.step VanbkiNeutral.start done)).length<=2438 * done.length /\
        ∃ G B' ch,Bk.b B'=B.b/\BooksAt C H6 G B' ch (kj VanbkiNeutral.start done)/\¬q∈B'.muts/\G q=none/\∀ y,y∈B'.muts->H y=none)->D.nx σ' H6) ->
       KP (Y3 (WU (wf C) [] E0 (qw (qv 1) (qw (qv 4) (qw (qv 6) (qw (qv 7) xF))))) (wj 8)) (KP (WO (tBM K "list" Y9 (qv 2) (qw (tCB (abU K) (qw (qv 8) xF)) xF))) (WO (tBM K "list" WW (qv 2) (qw (qv 8) xF)))) D [some (.ref a),some (.ref B.b),some (.ref q),some (.int pl),some (.int ((zn kc).1:Nat)),v5,some (.ref wl),some (.ref rl),v8] H5:=by
       intro D H5 rl v5 pl hpl s5 hwl hrl nrl hD
       have ql:=hq0 nrl
       have hb5:BooksAt C H5 (upd G rl (.lst ((zn kc).2.2.map V.int))) B ch _:=(hb.mono s5).addG hrl (hb.notNew nrl) (hb.gh.free nrl)
       refine⟨_,rfl,_,rfl,_,rfl,_,rfl,_,B,ch,_,kc,wl,rl,rfl,hb5,hwl,z6,hrow,fun H6 G6 B6 ch6 p h6 f6 np ep=>?_⟩
       have et5:=s5 _ _ et
       have et6:=f6.kept q _ et5 qm
       have qp:q≠p:=np q _ et5 qm
       have qm6:¬q∈B6.muts:=fun z=>by
        rcases f6.newM q z with z | z
        . exact qm z
        . rw[et5] at z;cases z
       have qg6:G6 q=none:=by
        cases e:G6 q with
        | none=>rfl
        | some o =>
         rcases f6.newG q o e with z | z
         . rw[z8 ql,qg] at z;cases z
         . rw[et5] at z;cases z
       refine⟨_,rfl,.inl ⟨rfl,_,SqL.of et6⟩,_,rfl,p,_,rfl,.inl (SqL.of ep),q,_,_,rfl,rfl,et6,(by rw[List.length_map];exact qO (by omega)),?_⟩
       refine⟨_,rfl,.inl ⟨rfl,_,SqL.of z6⟩,_,rfl,q,p,_,_,rfl,rfl,z6,(by rw[z8 (Ne.symm qp)];exact ep),(by rw[List.length_append,List.length_map,List.length_map];show _+1+_<=_;exact qH (by omega)),?_⟩
       refine hD _ _ ⟨rest.length,(by rw[List.length_cons];omega),done++[c],rest,hcs2,rfl,⟨_,_,_,_,_,by rw[<-hpl];rfl⟩,fun y o e=>?_,?_,?_,G6,B6,ch6,f6.b,?_,qm6,qg6,fun y hy=>?_⟩
       . have yq:y≠q:=z7 e Hq
         rw[z8 yq,z8 yq]
         exact f6.kept y o (s5 _ _ (s1 _ _ e)) (fun m=>by rw[mH y m] at e;cases e)
       . rw[IL,z6,htold]
         simp
       . rw[htold,List.length_append,List.length_cons,List.length_append]
         show _<=2438 * (done.length+1)
         omega
       . rw[hst]
         exact (h6.other qm6 qg6).other qm6 qg6
       . rcases f6.newM y hy with z | z
         . exact mH y z
         . exact (s1.trans s5).free z
      have s2:=Same.new (o:=.lst ((zn kc).2.1.map V.int)) nwl
      have s3:=s2.trans (Same.new (o:=.lst []) nr0)
      have ewl:IL (upd (upd H' wl (.lst ((zn kc).2.1.map V.int))) r0 (.lst [])) wl (zn kc).2.1:=Same.new nr0 _ _ z6
      by_cases h2:(zn kc).1<=2
      . obtain⟨r1,r2,r3⟩:=ab9 (l:=l) (A:=PyFlat.put done++((zn kc).1:Int)::(zn kc).2.1) (x:=((zn kc).2.2.length:Int)) (ws:=(zn kc).2.2) (T:=PyFlat.put rest) (by rw[hl2,v_,if_pos h2];simp)
        have eA:(PyFlat.put done++((zn kc).1:Int)::(zn kc).2.1).length=(PyFlat.put done).length+1+(zn kc).2.1.length:=by
         simp only[List.length_append,List.length_cons]
         omega
        rw[if_pos h2]
        refine zF ?_
        have r1':atI (l.map V.int) ((((PyFlat.put done).length:Nat):Int)+1+(((zn kc).2.1.length:Nat):Int))=some (.int ((zn kc).2.2.length:Int)):=by
         have h:=zV r1
         rw[eA] at h
         exact h
        have r2':uz (l.map V.int) (some ((((PyFlat.put done).length:Nat):Int)+1+(((zn kc).2.1.length:Nat):Int)+1)) (some ((((PyFlat.put done).length:Nat):Int)+1+(((zn kc).2.1.length:Nat):Int)+1+(((zn kc).2.2.length:Nat):Int)))=(zn kc).2.2.map V.int:=by
         have h:=r2
         rw[eA] at h
         exact h
        have hs3:=s3.seq hs'
        refine⟨_,rfl,_,_,rfl,rfl,?_⟩
        refine⟨_,rfl,_,rfl,_,rfl,a,_,_,_,rfl,rfl,hs3,r1',_,_,rfl,rfl,?_⟩
        refine⟨_,rfl,_,rfl,_,rfl,_,rfl,_,rfl,a,_,rfl,hs3,fun rl nrl=>?_⟩
        rw[r2']
        refine tail _ _ rl _ _ ?_ (s3.trans (Same.new nrl)) (Same.new nrl _ _ ewl) z6 (s3.free nrl) fun σ' H6 h=>h
        rw[hput2,List.length_append,v_,if_pos h2]
        simp
        omega
      . rw[if_neg h2]
        refine zy ?_
        refine tail _ _ r0 _ _ ?_ s3 ewl (by rw[hk.no (by omega)];exact z6) (s2.free nr0) fun σ' H6 h=>h
        rw[hput2,List.length_append,v_,if_neg h2]
        simp
        omega
end
end Tb
end
section
namespace Tb
open PySem PySem.Spec PyProof.Rows L2
abbrev fn0 (x q:Str) (st:Stmt) (kV doc pm:Value) (an:Option Addr) (cdv ct:Value):FuncData:=PySem.W.fnOf x q (xX st) (yV st) (zh st) .none kV doc pm an cdv ct
def Bd (x q:Str) (st:Stmt) (ps:List Str):Prop:=∀ (kV doc pm:Value) (an:Option Addr) (cdv ct:Value) (us:List Value),us.length=ps.length->bindArgs (fn0 x q st kV doc pm an cdv ct) ⟨us,[]⟩=pure (ps.zip us)
def DefIn (K:PySem.W.Frag) (mg:Str->Option Value) (x:Str) (st:Stmt) (ps:List Str):Prop:=∃ f fd,mg x=some (.ref f)/\PySem.W.keepIn K (.ref f)=true/\Binds K fd ps []/\Fun K x x st f fd/\∀ (s:Shared) (us:List Value),us.length=ps.length->BindsTo s fd ⟨us,[]⟩ (ps.zip us)
def ClsIn (K:PySem.W.Frag) (mg:Str->Option Value) (x q:Str) (c:Addr) (st:Stmt) (ps:List Str):Prop:=∃ f fd,mg x=some (.ref c)/\Mk K c f/\Binds K fd ps []/\Fun K "__init__" q st f fd
def zQ (mg:Str->Option Value) (x:Str) (v:Int):Prop:=∃ t,mg x=some (Value.int v t)
def XL (K:PySem.W.Frag) (mg:Str->Option Value) (x:Str) (l:List Int):Prop:=∃ a,mg x=some (.ref a)/\∀ H,SqT K H a (l.map V.int)
section
variable {P:Program}{w:World}{K:PySem.W.Frag}{h base:Heap}{mg:Str->Option Value}{x q:Str}{st:Stmt}{ps:List Str}{f c:Addr}{od an:Option Addr}{osl:Array (Option Value)}{oc kV doc pm cdv ct:Value}{sp:Sp}{k:Nat}
theorem DefIn.to (I:DefIn K mg x st ps) (ok:∀ {f:Addr}{fd:FuncData},Fun K x x st f fd->zU P w K mg base CX0 k f fd ps sp):∃ f fd,Def P w K mg base x k ps sp f fd :=
 let ⟨f,fd,m,kp,b,F,_⟩:=I
 ⟨f,fd,m,kp,b,ok F⟩
theorem ClsIn.to (I:ClsIn K mg x q c st ps) (ok:∀ {f:Addr}{fd:FuncData},Fun K "__init__" q st f fd->zU P w K mg base CX0 k f fd ps sp):∃ f fd,Cdf P w K mg base x k ps sp c f fd :=
 let ⟨f,fd,m,mk,b,F⟩:=I
 ⟨f,fd,m,mk,b,ok F⟩
theorem zt (X:K.In h) (G:h.Ns mainGlobals mg) (hb:Bd x x st ps) (a:PySem.W.nsIn K mainGlobals x=some (some (.ref f))) (l:K.lookup f=some ⟨oc,od,.func (PySem.W.fnOf x x (xX st) (yV st) (zh st) .none kV doc pm an cdv ct),osl⟩)
 (cd:PySem.W.codeIn K cdv x=true) (k:PySem.W.keepIn K (.ref f)=true):DefIn K mg x st ps :=
 have F:=aaU (st:=st) l cd k
 ⟨f,_,PySem.W.mg_of X G a,k,F.binds hb,F,fun s us hu=>.of_eq (hb kV doc pm an cdv ct us hu)⟩
theorem zx (x:Str) (v:Int) {t:Tok} (X:K.In h) (G:h.Ns mainGlobals mg) (a:PySem.W.nsIn K mainGlobals x=some (some (.int v t))):zQ mg x v:=⟨t,PySem.W.mg_of X G a⟩
theorem va (x:Str) (X:K.In h) (G:h.Ns mainGlobals mg) (a:PySem.W.nsIn K mainGlobals x=some none):mg x=none:=PySem.W.mg_none_of X G a
theorem Qj (x:Str) (v:List Int) {o:Obj}{its:Array Value}{n:Nat} (X:K.In h) (G:h.Ns mainGlobals mg) (a:PySem.W.nsIn K mainGlobals x=some (some (.ref f))) (l:K.lookup f=some o) (hc:o.cls=.type "tuple") (hd:o.data=.seq its n) (hz:its.size<=sizeLine) (hv:Vals (v.map V.int) its.toList):XL K mg x v:=⟨f,PySem.W.mg_of X G a,fun H=>.inr ⟨o,its,n,l,hc,hd,hz,hv⟩⟩
theorem xN (X:K.In h) (G:h.Ns mainGlobals mg) (hb:Bd "__init__" q st ps) (a:PySem.W.nsIn K mainGlobals x=some (some (.ref c))) (mk:PySem.W.makesIn K c=true) (kc:PySem.W.keepIn K (.ref c)=true) (ai:PySem.W.findIn K (.ref c) "__init__"=some (some (.ref f))) (fi:PySem.W.isFn K (.ref f)=true)
 (l:K.lookup f=some ⟨oc,od,.func (PySem.W.fnOf "__init__" q (xX st) (yV st) (zh st) .none kV doc pm an cdv ct),osl⟩) (cd:PySem.W.codeIn K cdv q=true) (k:PySem.W.keepIn K (.ref f)=true)
 (pg:PySem.W.plainGet K c Str.empty=true) (hd:PySem.W.hasDictIn K c=true) (po:PySem.W.plainOver K c=true) (sa:PySem.W.findIn K (.ref c) "__setattr__"=some (some (.builtin "object.__setattr__"))):ClsIn K mg x q c st ps/\Cls K c :=
 have F:=aaU (st:=st) l cd k
 ⟨⟨f,_,PySem.W.mg_of X G a,⟨mk,ai,fi,kc⟩,F.binds hb,F⟩,⟨pg,hd,po,sa⟩⟩
theorem j9 {x:Str} (a:PySem.W.findIn K (.ref c) x=some none):NoAttr K c x:=a
end
theorem vlS {n:Nat}{us:List Value} (h:us.length=n+1):∃ a r,us=a::r/\r.length=n:=by
 cases us with
 | nil=>cases h
 | cons a r=>exact⟨a,r,rfl,Nat.succ.inj h⟩
theorem vl1 {us:List Value} (h:us.length=1):∃ a,us=[a]:=by
 obtain⟨a,r,e,h⟩:=vlS h
 cases r with
 | nil=>exact⟨a,e⟩
 | cons _ _=>cases h
theorem vl2 {us:List Value} (h:us.length=2):∃ a0 a1,us=[a0,a1]:=by
 obtain⟨a0,r,rfl,k⟩:=vlS h
 obtain⟨a1,rfl⟩:=vl1 k
 exact⟨a0,a1,rfl⟩
theorem vl3 {us:List Value} (h:us.length=3):∃ a0 a1 a2,us=[a0,a1,a2]:=by
 obtain⟨a0,r,rfl,k⟩:=vlS h
 obtain⟨a1,a2,rfl⟩:=vl2 k
 exact⟨a0,a1,a2,rfl⟩
theorem vl4 {us:List Value} (h:us.length=4):∃ a0 a1 a2 a3,us=[a0,a1,a2,a3]:=by
 obtain⟨a0,r,rfl,k⟩:=vlS h
 obtain⟨a1,a2,a3,rfl⟩:=vl3 k
 exact⟨a0,a1,a2,a3,rfl⟩
theorem vl5 {us:List Value} (h:us.length=5):∃ a0 a1 a2 a3 a4,us=[a0,a1,a2,a3,a4]:=by
 obtain⟨a0,r,rfl,k⟩:=vlS h
 obtain⟨a1,a2,a3,a4,rfl⟩:=vl4 k
 exact⟨a0,a1,a2,a3,a4,rfl⟩
theorem vl6 {us:List Value} (h:us.length=6):∃ a0 a1 a2 a3 a4 a5,us=[a0,a1,a2,a3,a4,a5]:=by
 obtain⟨a0,r,rfl,k⟩:=vlS h
 obtain⟨a1,a2,a3,a4,a5,rfl⟩:=vl5 k
 exact⟨a0,a1,a2,a3,a4,a5,rfl⟩
theorem YC:Bd "__init__" "Side.__init__" yY ["self","cells","next_number"]:=fun _ _ _ _ _ _ us hl=>by
 obtain⟨_,_,_,rfl⟩:=vl3 hl
 rfl
theorem V6:Bd "__init__" "Books.__init__" yf ["self"]:=fun _ _ _ _ _ _ us hl=>by
 obtain⟨_,rfl⟩:=vl1 hl
 rfl
theorem V7:Bd "numbers_of" "numbers_of" yh ["cells"]:=fun _ _ _ _ _ _ us hl=>by
 obtain⟨_,rfl⟩:=vl1 hl
 rfl
theorem Jv:Bd "number_above" "number_above" kP ["cells"]:=fun _ _ _ _ _ _ us hl=>by
 obtain⟨_,rfl⟩:=vl1 hl
 rfl
theorem YD:Bd "__init__" "Cell.__init__" yX ["self","number","mark","text"]:=fun _ _ _ _ _ _ us hl=>by
 obtain⟨_,_,_,_,rfl⟩:=vl4 hl
 rfl
theorem Zg:Bd "__init__" "MergedCell.__init__" jH ["self","cell","on_left","on_right"]:=fun _ _ _ _ _ _ us hl=>by
 obtain⟨_,_,_,_,rfl⟩:=vl4 hl
 rfl
theorem XM:Bd "numbered" "numbered" w8 ["books","merged"]:=fun _ _ _ _ _ _ us hl=>by
 obtain⟨_,_,rfl⟩:=vl2 hl
 rfl
theorem YE:Bd "too_great" "too_great" xf ["merged"]:=fun _ _ _ _ _ _ us hl=>by
 obtain⟨_,rfl⟩:=vl1 hl
 rfl
theorem Jw:Bd "__init__" "Outcome.__init__" kN ["self","refusal","merged"]:=fun _ _ _ _ _ _ us hl=>by
 obtain⟨_,_,_,rfl⟩:=vl3 hl
 rfl
theorem XN:Bd "place_of" "place_of" xZ ["cells","number"]:=fun _ _ _ _ _ _ us hl=>by
 obtain⟨_,_,rfl⟩:=vl2 hl
 rfl
theorem WI:Bd "cell_of" "cell_of" ur ["cells","number"]:=fun _ _ _ _ _ _ us hl=>by
 obtain⟨_,_,rfl⟩:=vl2 hl
 rfl
theorem aaf:Bd "agreed" "agreed" ZO ["base","left","right"]:=fun _ _ _ _ _ _ us hl=>by
 obtain⟨_,_,_,rfl⟩:=vl3 hl
 rfl
theorem XO:Bd "lines_of" "lines_of" w4 ["text"]:=fun _ _ _ _ _ _ us hl=>by
 obtain⟨_,rfl⟩:=vl1 hl
 rfl
theorem uD:Bd "common_beginning" "common_beginning" jm ["lines","others","most"]:=fun _ _ _ _ _ _ us hl=>by
 obtain⟨_,_,_,rfl⟩:=vl3 hl
 rfl
theorem KB:Bd "__init__" "Change.__init__" vw ["self","begin","end","new_lines"]:=fun _ _ _ _ _ _ us hl=>by
 obtain⟨_,_,_,_,rfl⟩:=vl4 hl
 rfl
theorem YF:Bd "change_of" "change_of" y_ ["base_text","side_text"]:=fun _ _ _ _ _ _ us hl=>by
 obtain⟨_,_,rfl⟩:=vl2 hl
 rfl
theorem WJ:Bd "text_of" "text_of" ut ["lines"]:=fun _ _ _ _ _ _ us hl=>by
 obtain⟨_,rfl⟩:=vl1 hl
 rfl
theorem Qk:Bd "text_with_both" "text_with_both" jT ["base_text","first","second"]:=fun _ _ _ _ _ _ us hl=>by
 obtain⟨_,_,_,rfl⟩:=vl3 hl
 rfl
theorem KC:Bd "merged_text" "merged_text" vx ["base_text","left_text","right_text"]:=fun _ _ _ _ _ _ us hl=>by
 obtain⟨_,_,_,rfl⟩:=vl3 hl
 rfl
theorem YG:Bd "unchanged" "unchanged" x5 ["base_cell","cell"]:=fun _ _ _ _ _ _ us hl=>by
 obtain⟨_,_,rfl⟩:=vl2 hl
 rfl
theorem KD:Bd "conflict_at" "conflict_at" vy ["base_cell","left","right"]:=fun _ _ _ _ _ _ us hl=>by
 obtain⟨_,_,_,rfl⟩:=vl3 hl
 rfl
theorem Jx:Bd "agreed_order" "agreed_order" kS ["orders"]:=fun _ _ _ _ _ _ us hl=>by
 obtain⟨_,rfl⟩:=vl1 hl
 rfl
theorem QQ:Bd "common_orders" "common_orders" kf ["books"]:=fun _ _ _ _ _ _ us hl=>by
 obtain⟨_,rfl⟩:=vl1 hl
 rfl
theorem Jy:Bd "conflicts_of" "conflicts_of" kT ["books"]:=fun _ _ _ _ _ _ us hl=>by
 obtain⟨_,rfl⟩:=vl1 hl
 rfl
theorem YH:Bd "choice_of" "choice_of" x6 ["books","conflict"]:=fun _ _ _ _ _ _ us hl=>by
 obtain⟨_,_,rfl⟩:=vl2 hl
 rfl
theorem xO:Bd "count_without_choice" "count_without_choice" qL ["books"]:=fun _ _ _ _ _ _ us hl=>by
 obtain⟨_,rfl⟩:=vl1 hl
 rfl
theorem V8:Bd "loose_cell" "loose_cell" yn ["books","side","cell"]:=fun _ _ _ _ _ _ us hl=>by
 obtain⟨_,_,_,rfl⟩:=vl3 hl
 rfl
theorem KF:Bd "loose_cells" "loose_cells" vA ["books","side","common"]:=fun _ _ _ _ _ _ us hl=>by
 obtain⟨_,_,_,rfl⟩:=vl3 hl
 rfl
theorem YI:Bd "sort_keys" "sort_keys" xb ["cells","base_numbers"]:=fun _ _ _ _ _ _ us hl=>by
 obtain⟨_,_,rfl⟩:=vl2 hl
 rfl
theorem Ql:Bd "loose_together" "loose_together" jV ["left","right","base_numbers"]:=fun _ _ _ _ _ _ us hl=>by
 obtain⟨_,_,_,rfl⟩:=vl3 hl
 rfl
theorem aag:Bd "chosen" "chosen" ZP ["choice","base","left","right"]:=fun _ _ _ _ _ _ us hl=>by
 obtain⟨_,_,_,_,rfl⟩:=vl4 hl
 rfl
theorem Jz:Bd "merged_order" "merged_order" kW ["books","orders"]:=fun _ _ _ _ _ _ us hl=>by
 obtain⟨_,_,rfl⟩:=vl2 hl
 rfl
theorem wy:Bd "merged_common_cell" "merged_common_cell" j3 ["books","number"]:=fun _ _ _ _ _ _ us hl=>by
 obtain⟨_,_,rfl⟩:=vl2 hl
 rfl
theorem Qm:Bd "cells_in_order" "cells_in_order" jW ["books"]:=fun _ _ _ _ _ _ us hl=>by
 obtain⟨_,rfl⟩:=vl1 hl
 rfl
theorem XQ:Bd "merge_of" "merge_of" w9 ["books"]:=fun _ _ _ _ _ _ us hl=>by
 obtain⟨_,rfl⟩:=vl1 hl
 rfl
theorem JA:Bd "tell_origins" "tell_origins" kX ["books"]:=fun _ _ _ _ _ _ us hl=>by
 obtain⟨_,rfl⟩:=vl1 hl
 rfl
theorem V9:Bd "tell_cells" "tell_cells" yl ["cells"]:=fun _ _ _ _ _ _ us hl=>by
 obtain⟨_,rfl⟩:=vl1 hl
 rfl
theorem QR:Bd "tell_document" "tell_document" kg ["books","which"]:=fun _ _ _ _ _ _ us hl=>by
 obtain⟨_,_,rfl⟩:=vl2 hl
 rfl
theorem Va:Bd "difference" "difference" ym ["base_cell","cell"]:=fun _ _ _ _ _ _ us hl=>by
 obtain⟨_,_,rfl⟩:=vl2 hl
 rfl
theorem uE:Bd "in_another_order" "in_another_order" jo ["base_numbers","side_numbers"]:=fun _ _ _ _ _ _ us hl=>by
 obtain⟨_,_,rfl⟩:=vl2 hl
 rfl
theorem JB:Bd "tell_changes" "tell_changes" kU ["books","side"]:=fun _ _ _ _ _ _ us hl=>by
 obtain⟨_,_,rfl⟩:=vl2 hl
 rfl
theorem KG:Bd "tell_change" "tell_change" vz ["books","side","number"]:=fun _ _ _ _ _ _ us hl=>by
 obtain⟨_,_,_,rfl⟩:=vl3 hl
 rfl
theorem Qn:Bd "tell_conflicts" "tell_conflicts" jU ["books"]:=fun _ _ _ _ _ _ us hl=>by
 obtain⟨_,rfl⟩:=vl1 hl
 rfl
theorem KH:Bd "tell_merged" "tell_merged" vB ["books"]:=fun _ _ _ _ _ _ us hl=>by
 obtain⟨_,rfl⟩:=vl1 hl
 rfl
theorem Qo:Bd "answer_telling" "answer_telling" jY ["books","call","wholes"]:=fun _ _ _ _ _ _ us hl=>by
 obtain⟨_,_,_,rfl⟩:=vl3 hl
 rfl
theorem abt:Bd "adopt" "adopt" JK ["books"]:=fun _ _ _ _ _ _ us hl=>by
 obtain⟨_,rfl⟩:=vl1 hl
 rfl
theorem JC:Bd "texts_of_row" "texts_of_row" kR ["row"]:=fun _ _ _ _ _ _ us hl=>by
 obtain⟨_,rfl⟩:=vl1 hl
 rfl
theorem Vb:Bd "only_bytes" "only_bytes" yg ["text"]:=fun _ _ _ _ _ _ us hl=>by
 obtain⟨_,rfl⟩:=vl1 hl
 rfl
theorem uF:Bd "refusal_of_texts" "refusal_of_texts" jl ["texts"]:=fun _ _ _ _ _ _ us hl=>by
 obtain⟨_,rfl⟩:=vl1 hl
 rfl
theorem JD:Bd "copy_of_base" "copy_of_base" kQ ["books"]:=fun _ _ _ _ _ _ us hl=>by
 obtain⟨_,rfl⟩:=vl1 hl
 rfl
theorem XR:Bd "set_base" "set_base" x_ ["books","row"]:=fun _ _ _ _ _ _ us hl=>by
 obtain⟨_,_,rfl⟩:=vl2 hl
 rfl
theorem Vc:Bd "reset_side" "reset_side" yi ["books","side"]:=fun _ _ _ _ _ _ us hl=>by
 obtain⟨_,_,rfl⟩:=vl2 hl
 rfl
theorem JE:Bd "place_behind" "place_behind" kO ["cells","after"]:=fun _ _ _ _ _ _ us hl=>by
 obtain⟨_,_,rfl⟩:=vl2 hl
 rfl
theorem XS:Bd "new_cell" "new_cell" w6 ["books","side","after","text"]:=fun _ _ _ _ _ _ us hl=>by
 obtain⟨_,_,_,_,rfl⟩:=vl4 hl
 rfl
theorem Zh:Bd "refusal_of_cell" "refusal_of_cell" jI ["books","side","number"]:=fun _ _ _ _ _ _ us hl=>by
 obtain⟨_,_,_,rfl⟩:=vl3 hl
 rfl
theorem Vd:Bd "write_cell" "write_cell" yk ["books","side","number","text"]:=fun _ _ _ _ _ _ us hl=>by
 obtain⟨_,_,_,_,rfl⟩:=vl4 hl
 rfl
theorem YJ:Bd "move_cell" "move_cell" x8 ["books","side","number","after"]:=fun _ _ _ _ _ _ us hl=>by
 obtain⟨_,_,_,_,rfl⟩:=vl4 hl
 rfl
theorem YK:Bd "drop_cell" "drop_cell" x9 ["books","side","number"]:=fun _ _ _ _ _ _ us hl=>by
 obtain⟨_,_,_,rfl⟩:=vl3 hl
 rfl
theorem YL:Bd "hide_cell" "hide_cell" xa ["books","side","number","mark"]:=fun _ _ _ _ _ _ us hl=>by
 obtain⟨_,_,_,_,rfl⟩:=vl4 hl
 rfl
theorem YM:Bd "copy_side" "copy_side" yZ ["books","side"]:=fun _ _ _ _ _ _ us hl=>by
 obtain⟨_,_,rfl⟩:=vl2 hl
 rfl
theorem Qp:Bd "answer_on_side" "answer_on_side" jX ["books","call","wholes","row"]:=fun _ _ _ _ _ _ us hl=>by
 obtain⟨_,_,_,_,rfl⟩:=vl4 hl
 rfl
theorem KI:Bd "edited_side" "edited_side" vC ["books","call","wholes","row"]:=fun _ _ _ _ _ _ us hl=>by
 obtain⟨_,_,_,_,rfl⟩:=vl4 hl
 rfl
theorem ui:Bd "exchanged_choices" "exchanged_choices" j7 ["choices"]:=fun _ _ _ _ _ _ us hl=>by
 obtain⟨_,rfl⟩:=vl1 hl
 rfl
theorem Ve:Bd "swap_sides" "swap_sides" yj ["books"]:=fun _ _ _ _ _ _ us hl=>by
 obtain⟨_,rfl⟩:=vl1 hl
 rfl
theorem aah:Bd "choose" "choose" ZQ ["books","kind","number","choice"]:=fun _ _ _ _ _ _ us hl=>by
 obtain⟨_,_,_,_,rfl⟩:=vl4 hl
 rfl
theorem YN:Bd "answer_of" "answer_of" xg ["books","call","wholes","row"]:=fun _ _ _ _ _ _ us hl=>by
 obtain⟨_,_,_,_,rfl⟩:=vl4 hl
 rfl
theorem WK:Bd "answers" "answers" uu ["calls"]:=fun _ _ _ _ _ _ us hl=>by
 obtain⟨_,rfl⟩:=vl1 hl
 rfl
theorem acN {P:Program}{w:World}{K:PySem.W.Frag}{mg:Str->Option Value}{fa cCell cSide cBooks cChange cMergedCell cOutcome:Addr} (hfa:mg "answers"=some (.ref fa))
 (qCell:ClsIn K mg "Cell" "Cell.__init__" cCell yX ["self","number","mark","text"]/\Cls K cCell) (nCell_number:NoAttr K cCell "number") (nCell_mark:NoAttr K cCell "mark") (nCell_text:NoAttr K cCell "text")
 (qSide:ClsIn K mg "Side" "Side.__init__" cSide yY ["self","cells","next_number"]/\Cls K cSide) (nSide_cells:NoAttr K cSide "cells") (nSide_next_number:NoAttr K cSide "next_number")
 (qBooks:ClsIn K mg "Books" "Books.__init__" cBooks yf ["self"]/\Cls K cBooks) (nBooks_base_cells:NoAttr K cBooks "base_cells") (nBooks_sides:NoAttr K cBooks "sides") (nBooks_choices:NoAttr K cBooks "choices")
 (qChange:ClsIn K mg "Change" "Change.__init__" cChange vw ["self","begin","end","new_lines"]/\Cls K cChange) (nChange_begin:NoAttr K cChange "begin") (nChange_end:NoAttr K cChange "end") (nChange_new_lines:NoAttr K cChange "new_lines")
 (qMergedCell:ClsIn K mg "MergedCell" "MergedCell.__init__" cMergedCell jH ["self","cell","on_left","on_right"]/\Cls K cMergedCell) (nMergedCell_cell:NoAttr K cMergedCell "cell") (nMergedCell_on_left:NoAttr K cMergedCell "on_left") (nMergedCell_on_right:NoAttr K cMergedCell "on_right")
 (qOutcome:ClsIn K mg "Outcome" "Outcome.__init__" cOutcome kN ["self","refusal","merged"]/\Cls K cOutcome) (nOutcome_refusal:NoAttr K cOutcome "refusal") (nOutcome_merged:NoAttr K cOutcome "merged")
 (g_NO_REFUSAL:zQ mg "NO_REFUSAL" 0)
 (g_NO_CELL:zQ mg "NO_CELL" (-1))
 (g_NO_FIT_AFTER:zQ mg "NO_FIT_AFTER" (-2))
 (g_NO_BYTE:zQ mg "NO_BYTE" (-4))
 (g_TEXT_TOO_LONG:zQ mg "TEXT_TOO_LONG" (-5))
 (g_TOO_MANY_CELLS:zQ mg "TOO_MANY_CELLS" (-6))
 (g_NOTHING_CHANGES:zQ mg "NOTHING_CHANGES" (-7))
 (g_NO_SIDE:zQ mg "NO_SIDE" (-8))
 (g_NO_SUCH_CONFLICT:zQ mg "NO_SUCH_CONFLICT" (-9))
 (g_CHOICE_OUTSIDE:zQ mg "CHOICE_OUTSIDE" (-10))
 (g_CHOICE_MISSING:zQ mg "CHOICE_MISSING" (-11))
 (g_TOO_GREAT:zQ mg "TOO_GREAT" (-12))
 (g_ROW_NOT_WHOLE:zQ mg "ROW_NOT_WHOLE" (-15))
 (g_NUMBERS_USED_UP:zQ mg "NUMBERS_USED_UP" (-16))
 (g_NO_MARK:zQ mg "NO_MARK" (-18))
 (g_NO_DOCUMENT:zQ mg "NO_DOCUMENT" (-19))
 (g_GREATEST_BYTE:zQ mg "GREATEST_BYTE" 255)
 (g_MOST_BYTES:zQ mg "MOST_BYTES" 200)
 (g_MOST_CELLS:zQ mg "MOST_CELLS" 12)
 (g_GREATEST_NUMBER:zQ mg "GREATEST_NUMBER" 99)
 (g_LEFT:zQ mg "LEFT" 1)
 (g_RIGHT:zQ mg "RIGHT" 2)
 (g_NO_CHOICE:zQ mg "NO_CHOICE" 0)
 (g_BASE_CHOICE:zQ mg "BASE_CHOICE" 3)
 (g_GREATEST_CHOICE:zQ mg "GREATEST_CHOICE" 3)
 (g_NO_CONFLICT:zQ mg "NO_CONFLICT" 0)
 (g_TEXT_CONFLICT:zQ mg "TEXT_CONFLICT" 1)
 (g_LEFT_HAS_NOT:zQ mg "LEFT_HAS_NOT" 2)
 (g_RIGHT_HAS_NOT:zQ mg "RIGHT_HAS_NOT" 3)
 (g_ORDER_CONFLICT:zQ mg "ORDER_CONFLICT" 4)
 (g_LINE_END:zQ mg "LINE_END" 10)
 (g_BASE_DOCUMENT:zQ mg "BASE_DOCUMENT" 0)
 (g_UNCHANGED:zQ mg "UNCHANGED" 0)
 (g_DROPPED:zQ mg "DROPPED" 1)
 (g_NEW_telling:zQ mg "NEW_telling" 2)
 (g_TEXT_DIFFERS:zQ mg "TEXT_DIFFERS" 3)
 (g_MARK_DIFFERS:zQ mg "MARK_DIFFERS" 4)
 (g_BOTH_DIFFER:zQ mg "BOTH_DIFFER" 5)
 (g_FRONT:zQ mg "FRONT" 0)
 (g_BASE:zQ mg "BASE" 0)
 (g_NEW_merge:zQ mg "NEW_merge" 1)
 (g_WRITE:zQ mg "WRITE" 2)
 (g_MOVE:zQ mg "MOVE" 3)
 (g_DROP:zQ mg "DROP" 4)
 (g_HIDE:zQ mg "HIDE" 5)
 (g_COPY:zQ mg "COPY" 6)
 (g_RESET:zQ mg "RESET" 7)
 (g_SWAP:zQ mg "SWAP" 8)
 (g_DOCUMENT:zQ mg "DOCUMENT" 9)
 (g_CHANGES:zQ mg "CHANGES" 10)
 (g_CHANGE:zQ mg "CHANGE" 11)
 (g_CONFLICTS:zQ mg "CONFLICTS" 12)
 (g_CHOOSE:zQ mg "CHOOSE" 13)
 (g_MERGED:zQ mg "MERGED" 14)
 (g_ORIGINS:zQ mg "ORIGINS" 15)
 (t_EXCHANGED_KINDS:XL K mg "EXCHANGED_KINDS" [0,1,3,2,4])
 (t_EXCHANGED_CHOICES:XL K mg "EXCHANGED_CHOICES" [0,2,1,3])
 (t_WHOLES:XL K mg "WHOLES" [0,2,2,3,2,3,1,1,0,1,1,2,0,3,0,0,0])
 (t_ROWS:XL K mg "ROWS" [1,1,1,0,0,0,0,0,0,0,0,0,0,0,0,0,0])
 (b_len:mg "len"=none)
 (b_all:mg "all"=none)
 (b_any:mg "any"=none)
 (b_max:mg "max"=none)
 (b_min:mg "min"=none)
 (b_list:mg "list"=none)
 (b_reversed:mg "reversed"=none)
 (b_enumerate:mg "enumerate"=none)
 (b_zip:mg "zip"=none)
 (I_numbers_of:DefIn K mg "numbers_of" yh ["cells"])
 (I_number_above:DefIn K mg "number_above" kP ["cells"])
 (I_numbered:DefIn K mg "numbered" w8 ["books","merged"])
 (I_too_great:DefIn K mg "too_great" xf ["merged"])
 (I_place_of:DefIn K mg "place_of" xZ ["cells","number"])
 (I_cell_of:DefIn K mg "cell_of" ur ["cells","number"])
 (I_agreed:DefIn K mg "agreed" ZO ["base","left","right"])
 (I_lines_of:DefIn K mg "lines_of" w4 ["text"])
 (I_common_beginning:DefIn K mg "common_beginning" jm ["lines","others","most"])
 (I_change_of:DefIn K mg "change_of" y_ ["base_text","side_text"])
 (I_text_of:DefIn K mg "text_of" ut ["lines"])
 (I_text_with_both:DefIn K mg "text_with_both" jT ["base_text","first","second"])
 (I_merged_text:DefIn K mg "merged_text" vx ["base_text","left_text","right_text"])
 (I_unchanged:DefIn K mg "unchanged" x5 ["base_cell","cell"])
 (I_conflict_at:DefIn K mg "conflict_at" vy ["base_cell","left","right"])
 (I_agreed_order:DefIn K mg "agreed_order" kS ["orders"])
 (I_common_orders:DefIn K mg "common_orders" kf ["books"])
 (I_conflicts_of:DefIn K mg "conflicts_of" kT ["books"])
 (I_choice_of:DefIn K mg "choice_of" x6 ["books","conflict"])
 (I_count_without_choice:DefIn K mg "count_without_choice" qL ["books"])
 (I_loose_cell:DefIn K mg "loose_cell" yn ["books","side","cell"])
 (I_loose_cells:DefIn K mg "loose_cells" vA ["books","side","common"])
 (I_sort_keys:DefIn K mg "sort_keys" xb ["cells","base_numbers"])
 (I_loose_together:DefIn K mg "loose_together" jV ["left","right","base_numbers"])
 (I_chosen:DefIn K mg "chosen" ZP ["choice","base","left","right"])
 (I_merged_order:DefIn K mg "merged_order" kW ["books","orders"])
 (I_merged_common_cell:DefIn K mg "merged_common_cell" j3 ["books","number"])
 (I_cells_in_order:DefIn K mg "cells_in_order" jW ["books"])
 (I_merge_of:DefIn K mg "merge_of" w9 ["books"])
 (I_tell_origins:DefIn K mg "tell_origins" kX ["books"])
 (I_tell_cells:DefIn K mg "tell_cells" yl ["cells"])
 (I_tell_document:DefIn K mg "tell_document" kg ["books","which"])
 (I_difference:DefIn K mg "difference" ym ["base_cell","cell"])
 (I_in_another_order:DefIn K mg "in_another_order" jo ["base_numbers","side_numbers"])
 (I_tell_changes:DefIn K mg "tell_changes" kU ["books","side"])
 (I_tell_change:DefIn K mg "tell_change" vz ["books","side","number"])
 (I_tell_conflicts:DefIn K mg "tell_conflicts" jU ["books"])
 (I_tell_merged:DefIn K mg "tell_merged" vB ["books"])
 (I_answer_telling:DefIn K mg "answer_telling" jY ["books","call","wholes"])
 (I_adopt:DefIn K mg "adopt" JK ["books"])
 (I_texts_of_row:DefIn K mg "texts_of_row" kR ["row"])
 (I_only_bytes:DefIn K mg "only_bytes" yg ["text"])
 (I_refusal_of_texts:DefIn K mg "refusal_of_texts" jl ["texts"])
 (I_copy_of_base:DefIn K mg "copy_of_base" kQ ["books"])
 (I_set_base:DefIn K mg "set_base" x_ ["books","row"])
 (I_reset_side:DefIn K mg "reset_side" yi ["books","side"])
 (I_place_behind:DefIn K mg "place_behind" kO ["cells","after"])
 (I_new_cell:DefIn K mg "new_cell" w6 ["books","side","after","text"])
 (I_refusal_of_cell:DefIn K mg "refusal_of_cell" jI ["books","side","number"])
 (I_write_cell:DefIn K mg "write_cell" yk ["books","side","number","text"])
 (I_move_cell:DefIn K mg "move_cell" x8 ["books","side","number","after"])
 (I_drop_cell:DefIn K mg "drop_cell" x9 ["books","side","number"])
 (I_hide_cell:DefIn K mg "hide_cell" xa ["books","side","number","mark"])
 (I_copy_side:DefIn K mg "copy_side" yZ ["books","side"])
 (I_answer_on_side:DefIn K mg "answer_on_side" jX ["books","call","wholes","row"])
 (I_edited_side:DefIn K mg "edited_side" vC ["books","call","wholes","row"])
 (I_exchanged_choices:DefIn K mg "exchanged_choices" j7 ["choices"])
 (I_swap_sides:DefIn K mg "swap_sides" yj ["books"])
 (I_choose:DefIn K mg "choose" ZQ ["books","kind","number","choice"])
 (I_answer_of:DefIn K mg "answer_of" xg ["books","call","wholes","row"])
 (I_answers:DefIn K mg "answers" uu ["calls"])
:∃ fd:FuncData,(∀ (s:Shared) (us:List Value),us.length=(["calls"]:List Str).length->BindsTo s fd ⟨us,[]⟩ ((["calls"]:List Str).zip us))/\∀ base:Heap,K.In base->base.Ns mainGlobals mg->zU P w K mg base CX0 12 fa fd ["calls"] (Zf K):=by
 obtain⟨aEXCHANGED_KINDS,hEXCHANGED_KINDS,zEXCHANGED_KINDS⟩:=t_EXCHANGED_KINDS
 obtain⟨aEXCHANGED_CHOICES,hEXCHANGED_CHOICES,zEXCHANGED_CHOICES⟩:=t_EXCHANGED_CHOICES
 obtain⟨aWHOLES,hWHOLES,zWHOLES⟩:=t_WHOLES
 obtain⟨aROWS,hROWS,zROWS⟩:=t_ROWS
 obtain⟨iCell,dCell⟩:=qCell
 obtain⟨iSide,dSide⟩:=qSide
 obtain⟨iBooks,dBooks⟩:=qBooks
 obtain⟨iChange,dChange⟩:=qChange
 obtain⟨iMergedCell,dMergedCell⟩:=qMergedCell
 obtain⟨iOutcome,dOutcome⟩:=qOutcome
 have T:Txt K mg ⟨cCell,cSide,cBooks,cChange,cMergedCell,cOutcome,aEXCHANGED_KINDS,aEXCHANGED_CHOICES,aWHOLES,aROWS⟩:=⟨dCell,nCell_number,nCell_mark,nCell_text,dSide,nSide_cells,nSide_next_number,dBooks,nBooks_base_cells,nBooks_sides,nBooks_choices,dChange,nChange_begin,nChange_end,nChange_new_lines,dMergedCell,nMergedCell_cell,nMergedCell_on_left,nMergedCell_on_right,dOutcome,nOutcome_refusal,nOutcome_merged,g_NO_REFUSAL,g_NO_CELL,g_NO_FIT_AFTER,g_NO_BYTE,g_TEXT_TOO_LONG,g_TOO_MANY_CELLS,g_NOTHING_CHANGES,g_NO_SIDE,g_NO_SUCH_CONFLICT,g_CHOICE_OUTSIDE,g_CHOICE_MISSING,g_TOO_GREAT,g_ROW_NOT_WHOLE,g_NUMBERS_USED_UP,g_NO_MARK,g_NO_DOCUMENT,g_GREATEST_BYTE,g_MOST_BYTES,g_MOST_CELLS,g_GREATEST_NUMBER,g_LEFT,g_RIGHT,g_NO_CHOICE,g_BASE_CHOICE,g_GREATEST_CHOICE,g_NO_CONFLICT,g_TEXT_CONFLICT,g_LEFT_HAS_NOT,g_RIGHT_HAS_NOT,g_ORDER_CONFLICT,g_LINE_END,g_BASE_DOCUMENT,g_UNCHANGED,g_DROPPED,g_NEW_telling,g_TEXT_DIFFERS,g_MARK_DIFFERS,g_BOTH_DIFFER,g_FRONT,g_BASE,g_NEW_merge,g_WRITE,g_MOVE,g_DROP,g_HIDE,g_COPY,g_RESET,g_SWAP,g_DOCUMENT,g_CHANGES,g_CHANGE,g_CONFLICTS,g_CHOOSE,g_MERGED,g_ORIGINS,hEXCHANGED_KINDS,zEXCHANGED_KINDS,hEXCHANGED_CHOICES,zEXCHANGED_CHOICES,hWHOLES,zWHOLES,hROWS,zROWS,b_len,b_all,b_any,b_max,b_min,b_list,b_reversed,b_enumerate,b_zip⟩
 obtain⟨f,fd,hm,_,_,F,hb⟩:=I_answers
 have e:fa=f:=by
  have:=hfa.symm.trans hm
  injection this with this
  injection this
 subst e
 refine⟨fd,hb,fun base _ _=>?_⟩
 obtain⟨_,_,D_Side⟩:=iSide.to fun F=>Yn (P:=P) (w:=w) (base:=base) F T
 obtain⟨_,_,D_Books⟩:=iBooks.to fun F=>V5 (P:=P) (w:=w) (base:=base) F T D_Side
 obtain⟨_,_,D_numbers_of⟩:=I_numbers_of.to fun F=>KZ (P:=P) (w:=w) (base:=base) F T
 obtain⟨_,_,D_number_above⟩:=I_number_above.to fun F=>Jm (P:=P) (w:=w) (base:=base) F T D_numbers_of
 obtain⟨_,_,D_Cell⟩:=iCell.to fun F=>Ym (P:=P) (w:=w) (base:=base) F T
 obtain⟨_,_,D_MergedCell⟩:=iMergedCell.to fun F=>Zb (P:=P) (w:=w) (base:=base) F T
 obtain⟨_,_,D_numbered⟩:=I_numbered.to fun F=>Xz (P:=P) (w:=w) (base:=base) F T D_numbers_of D_number_above D_Cell D_MergedCell
 obtain⟨_,_,D_too_great⟩:=I_too_great.to fun F=>Yu (P:=P) (w:=w) (base:=base) F T
 obtain⟨_,_,D_Outcome⟩:=iOutcome.to fun F=>Jk (P:=P) (w:=w) (base:=base) F T
 obtain⟨_,_,D_place_of⟩:=I_place_of.to fun F=>Xt (P:=P) (w:=w) (base:=base) F T
 obtain⟨_,_,D_cell_of⟩:=I_cell_of.to fun F=>Wt (P:=P) (w:=w) (base:=base) F T D_place_of
 obtain⟨_,_,D_agreed⟩:=I_agreed.to fun F=>UR (P:=P) (w:=w) (base:=base) F T
 obtain⟨_,_,D_lines_of⟩:=I_lines_of.to fun F=>Xv (P:=P) (w:=w) (base:=base) F T
 obtain⟨_,_,D_common_beginning⟩:=I_common_beginning.to fun F=>uB (P:=P) (w:=w) (base:=base) F T
 obtain⟨_,_,D_Change⟩:=iChange.to fun F=>Kh (P:=P) (w:=w) (base:=base) F T
 obtain⟨_,_,D_change_of⟩:=I_change_of.to fun F=>Yo (P:=P) (w:=w) (base:=base) F T D_lines_of D_common_beginning D_Change
 obtain⟨_,_,D_text_of⟩:=I_text_of.to fun F=>Wu (P:=P) (w:=w) (base:=base) F T
 obtain⟨_,_,D_text_with_both⟩:=I_text_with_both.to fun F=>ZV (P:=P) (w:=w) (base:=base) F T D_lines_of D_text_of
 obtain⟨_,_,D_merged_text⟩:=I_merged_text.to fun F=>Kk (P:=P) (w:=w) (base:=base) F T D_agreed D_change_of D_text_with_both
 obtain⟨_,_,D_unchanged⟩:=I_unchanged.to fun F=>Yq (P:=P) (w:=w) (base:=base) F T
 obtain⟨_,_,D_conflict_at⟩:=I_conflict_at.to fun F=>Kn (P:=P) (w:=w) (base:=base) F T D_merged_text D_unchanged
 obtain⟨_,_,D_agreed_order⟩:=I_agreed_order.to fun F=>Jn (P:=P) (w:=w) (base:=base) F T D_agreed
 obtain⟨_,_,D_common_orders⟩:=I_common_orders.to fun F=>QJ (P:=P) (w:=w) (base:=base) F T D_numbers_of
 obtain⟨_,_,D_conflicts_of⟩:=I_conflicts_of.to fun F=>Jo (P:=P) (w:=w) (base:=base) F T D_cell_of D_conflict_at D_agreed_order D_common_orders
 obtain⟨_,_,D_choice_of⟩:=I_choice_of.to fun F=>Yr (P:=P) (w:=w) (base:=base) F T
 obtain⟨_,_,D_count_without_choice⟩:=I_count_without_choice.to fun F=>xL (P:=P) (w:=w) (base:=base) F T D_conflicts_of D_choice_of
 obtain⟨_,_,D_loose_cell⟩:=I_loose_cell.to fun F=>V1 (P:=P) (w:=w) (base:=base) F T D_cell_of D_choice_of
 obtain⟨_,_,D_loose_cells⟩:=I_loose_cells.to fun F=>Kq (P:=P) (w:=w) (base:=base) F T D_loose_cell
 obtain⟨_,_,D_sort_keys⟩:=I_sort_keys.to fun F=>Ys (P:=P) (w:=w) (base:=base) F T
 obtain⟨_,_,D_loose_together⟩:=I_loose_together.to fun F=>Q1 (P:=P) (w:=w) (base:=base) F T D_sort_keys D_MergedCell
 obtain⟨_,_,D_chosen⟩:=I_chosen.to fun F=>US (P:=P) (w:=w) (base:=base) F T
 obtain⟨_,_,D_merged_order⟩:=I_merged_order.to fun F=>Jq (P:=P) (w:=w) (base:=base) F T D_agreed_order D_chosen D_choice_of
 obtain⟨_,_,D_merged_common_cell⟩:=I_merged_common_cell.to fun F=>wx (P:=P) (w:=w) (base:=base) F T D_cell_of D_merged_text D_MergedCell D_chosen D_Cell D_choice_of
 obtain⟨_,_,D_cells_in_order⟩:=I_cells_in_order.to fun F=>Q2 (P:=P) (w:=w) (base:=base) F T D_common_orders D_numbers_of D_loose_cells D_loose_together D_merged_order D_merged_common_cell
 obtain⟨_,_,D_merge_of⟩:=I_merge_of.to fun F=>XA (P:=P) (w:=w) (base:=base) F T D_numbered D_too_great D_Outcome D_count_without_choice D_cells_in_order
 obtain⟨_,_,D_tell_origins⟩:=I_tell_origins.to fun F=>Jr (P:=P) (w:=w) (base:=base) F T D_merge_of
 obtain⟨_,_,D_tell_cells⟩:=I_tell_cells.to fun F=>K_ (P:=P) (w:=w) (base:=base) F T
 obtain⟨_,_,D_tell_document⟩:=I_tell_document.to fun F=>QK (P:=P) (w:=w) (base:=base) F T D_tell_cells
 obtain⟨_,_,D_difference⟩:=I_difference.to fun F=>V0 (P:=P) (w:=w) (base:=base) F T
 obtain⟨_,_,D_in_another_order⟩:=I_in_another_order.to fun F=>uC (P:=P) (w:=w) (base:=base) F T
 obtain⟨_,_,D_tell_changes⟩:=I_tell_changes.to fun F=>Jp (P:=P) (w:=w) (base:=base) F T D_numbers_of D_difference D_in_another_order D_cell_of
 obtain⟨_,_,D_tell_change⟩:=I_tell_change.to fun F=>Kp (P:=P) (w:=w) (base:=base) F T D_cell_of D_change_of
 obtain⟨_,_,D_tell_conflicts⟩:=I_tell_conflicts.to fun F=>ZX (P:=P) (w:=w) (base:=base) F T D_conflicts_of D_choice_of
 obtain⟨_,_,D_tell_merged⟩:=I_tell_merged.to fun F=>Kt (P:=P) (w:=w) (base:=base) F T D_merge_of D_tell_cells
 obtain⟨_,_,D_answer_telling⟩:=I_answer_telling.to fun F=>Qi (P:=P) (w:=w) (base:=base) F T D_tell_origins D_tell_document D_tell_changes D_tell_change D_tell_conflicts D_tell_merged
 obtain⟨_,_,D_adopt⟩:=I_adopt.to fun F=>abr (P:=P) (w:=w) (base:=base) F T D_merge_of D_number_above D_Side
 obtain⟨_,_,D_texts_of_row⟩:=I_texts_of_row.to fun F=>Jt (P:=P) (w:=w) (base:=base) F T
 obtain⟨_,_,D_only_bytes⟩:=I_only_bytes.to fun F=>KY (P:=P) (w:=w) (base:=base) F T
 obtain⟨_,_,D_refusal_of_texts⟩:=I_refusal_of_texts.to fun F=>uA (P:=P) (w:=w) (base:=base) F T D_only_bytes
 obtain⟨_,_,D_copy_of_base⟩:=I_copy_of_base.to fun F=>Js (P:=P) (w:=w) (base:=base) F T D_Side D_number_above
 obtain⟨_,_,D_set_base⟩:=I_set_base.to fun F=>XD (P:=P) (w:=w) (base:=base) F T D_texts_of_row D_refusal_of_texts D_Cell D_copy_of_base
 obtain⟨_,_,D_reset_side⟩:=I_reset_side.to fun F=>V2 (P:=P) (w:=w) (base:=base) F T D_copy_of_base
 obtain⟨_,_,D_place_behind⟩:=I_place_behind.to fun F=>Jl (P:=P) (w:=w) (base:=base) F T D_place_of
 obtain⟨_,_,D_new_cell⟩:=I_new_cell.to fun F=>XB (P:=P) (w:=w) (base:=base) F T D_place_behind D_refusal_of_texts D_Cell
 obtain⟨_,_,D_refusal_of_cell⟩:=I_refusal_of_cell.to fun F=>Zc (P:=P) (w:=w) (base:=base) F T D_place_of
 obtain⟨_,_,D_write_cell⟩:=I_write_cell.to fun F=>V3 (P:=P) (w:=w) (base:=base) F T D_refusal_of_cell D_refusal_of_texts D_place_of D_Cell
 obtain⟨_,_,D_move_cell⟩:=I_move_cell.to fun F=>Yz (P:=P) (w:=w) (base:=base) F T D_refusal_of_cell D_place_of D_place_behind
 obtain⟨_,_,D_drop_cell⟩:=I_drop_cell.to fun F=>Yw (P:=P) (w:=w) (base:=base) F T D_refusal_of_cell D_place_of
 obtain⟨_,_,D_hide_cell⟩:=I_hide_cell.to fun F=>Yy (P:=P) (w:=w) (base:=base) F T D_refusal_of_cell D_place_of D_Cell
 obtain⟨_,_,D_copy_side⟩:=I_copy_side.to fun F=>Yv (P:=P) (w:=w) (base:=base) F T D_Side
 obtain⟨_,_,D_answer_on_side⟩:=I_answer_on_side.to fun F=>Qh (P:=P) (w:=w) (base:=base) F T D_reset_side D_new_cell D_write_cell D_move_cell D_drop_cell D_hide_cell D_copy_side
 obtain⟨_,_,D_edited_side⟩:=I_edited_side.to fun F=>KA (P:=P) (w:=w) (base:=base) F T D_answer_on_side
 obtain⟨_,_,D_exchanged_choices⟩:=I_exchanged_choices.to fun F=>uf (P:=P) (w:=w) (base:=base) F T
 obtain⟨_,_,D_swap_sides⟩:=I_swap_sides.to fun F=>V4 (P:=P) (w:=w) (base:=base) F T D_exchanged_choices
 obtain⟨_,_,D_choose⟩:=I_choose.to fun F=>aac (P:=P) (w:=w) (base:=base) F T D_count_without_choice D_conflicts_of
 obtain⟨_,_,D_answer_of⟩:=I_answer_of.to fun F=>YA (P:=P) (w:=w) (base:=base) F T D_answer_telling D_adopt D_set_base D_edited_side D_swap_sides D_choose
 exact WH F T D_Books D_answer_of
end Tb
end
namespace PySem.W.Fast
theorem tw18179344521407214363:True:=⟨⟩
theorem tw11182966361452483555:True:=⟨⟩
theorem tw8796143854180321776:True:=⟨⟩
theorem tw8944486668414635837:True:=⟨⟩
theorem tw4673061873789511347:True:=⟨⟩
theorem tw7151591866790944660:True:=⟨⟩
theorem tw8945419415028919026:True:=⟨⟩
theorem tw9702263312291459030:True:=⟨⟩
theorem tw4925550142917743085:True:=⟨⟩
theorem tw14500518697794599730:True:=⟨⟩
theorem tw16389471458818220605:True:=⟨⟩
theorem tw13562217757585884678:True:=⟨⟩
theorem tw17559614630244326769:True:=⟨⟩
theorem tw16440914421780168183:True:=⟨⟩
theorem tw12351211442219577603:True:=⟨⟩
theorem tw10283690499733056914:True:=⟨⟩
theorem tw101899170828626783:True:=⟨⟩
theorem tw18241861283748260064:True:=⟨⟩
theorem tw13203655667296645783:True:=⟨⟩
theorem tw7546203388974707305:True:=⟨⟩
theorem tw9469013433623456748:True:=⟨⟩
theorem tw8994834230966907941:True:=⟨⟩
theorem tw11585527118382361967:True:=⟨⟩
theorem tw5097965562598219062:True:=⟨⟩
theorem tw286676723762495238:True:=⟨⟩
theorem tw15800201276375408352:True:=⟨⟩
theorem tw12791004846921273109:True:=⟨⟩
theorem tw8197176839504618688:True:=⟨⟩
theorem tw3722955214883279376:True:=⟨⟩
theorem tw8971087297066750307:True:=⟨⟩
theorem tw14756704370290646878:True:=⟨⟩
theorem tw7171633237875035238:True:=⟨⟩
theorem tw12819085184446549612:True:=⟨⟩
theorem tw17540753092135870758:True:=⟨⟩
theorem tw7258997195049628378:True:=⟨⟩
theorem tw10557938755885160410:True:=⟨⟩
theorem tw2458203389756885846:True:=⟨⟩
theorem tw17307988512718445795:True:=⟨⟩
theorem tw17558802540367854000:True:=⟨⟩
theorem tw4852782598227493455:True:=⟨⟩
theorem tw5451578391596330871:True:=⟨⟩
theorem tw7957786937356217720:True:=⟨⟩
theorem tw14723905738833884029:True:=⟨⟩
theorem tw3803521101912679735:True:=⟨⟩
theorem tw12603334635212679935:True:=⟨⟩
theorem tw1313071160906594939:True:=⟨⟩
theorem tw512555625267547819:True:=⟨⟩
theorem tw901137172975917684:True:=⟨⟩
theorem tw1653489494285304308:True:=⟨⟩
theorem tw1813746199821984803:True:=⟨⟩
theorem tw12242025959899231620:True:=⟨⟩
theorem tw607568118489222797:True:=⟨⟩
theorem tw12015752207004577152:True:=⟨⟩
theorem tw4354955374120211327:True:=⟨⟩
theorem tw6117396961862675707:True:=⟨⟩
theorem tw14169530741810280500:True:=⟨⟩
theorem tw9674569489935330829:True:=⟨⟩
theorem tw9015665495970508488:True:=⟨⟩
theorem tw1958095500337090813:True:=⟨⟩
theorem tw3237960984421060463:True:=⟨⟩
theorem tw13218444226757721509:True:=⟨⟩
theorem tw4764294689863682926:True:=⟨⟩
theorem tw13225804982520986606:True:=⟨⟩
theorem tw12817139779747231790:True:=⟨⟩
theorem tw7215274900154485934:True:=⟨⟩
theorem tw8769108156413086552:True:=⟨⟩
theorem tw3855232155699779960:True:=⟨⟩
theorem tw7247045973846152501:True:=⟨⟩
theorem tw3243810800601420480:True:=⟨⟩
theorem tw134532723411474260:True:=⟨⟩
theorem tw7312270896562690523:True:=⟨⟩
theorem tw9276325811498238588:True:=⟨⟩
theorem tw473419478632460076:True:=⟨⟩
theorem tw5225425201287576191:True:=⟨⟩
theorem tw5500043056314212876:True:=⟨⟩
theorem tw15597525544540264475:True:=⟨⟩
theorem tw9236737993900780557:True:=⟨⟩
theorem tw14366817323257803709:True:=⟨⟩
theorem tw706794741873031549:True:=⟨⟩
theorem tw1153121388363772942:True:=⟨⟩
theorem tw164380462556975842:True:=⟨⟩
theorem tw13105514750037727246:True:=⟨⟩
theorem tw3233216515679096282:True:=⟨⟩
theorem tw14791038116450230018:True:=⟨⟩
theorem tw3618972458243562275:True:=⟨⟩
theorem tw12083962206507980825:True:=⟨⟩
theorem tw7503616253814342329:True:=⟨⟩
theorem tw15200337166528050825:True:=⟨⟩
theorem tw2129400186886704732:True:=⟨⟩
theorem tw15474702465781016775:True:=⟨⟩
theorem tw17989911007214953759:True:=⟨⟩
theorem tw17061803659417753179:True:=⟨⟩
theorem tw919966964027379447:True:=⟨⟩
theorem tw11374616291049527543:True:=⟨⟩
theorem tw12506625951889015659:True:=⟨⟩
theorem tw14432116951127558001:True:=⟨⟩
theorem tw10388607519785381436:True:=⟨⟩
theorem tw12392927395312233320:True:=⟨⟩
theorem tw13010437608401012707:True:=⟨⟩
theorem tw16149664555909113011:True:=⟨⟩
theorem tw14139400434121275548:True:=⟨⟩
theorem tw16768686759131557126:True:=⟨⟩
theorem tw14722002914431930192:True:=⟨⟩
theorem tw7840265009054110179:True:=⟨⟩
theorem tw2989683790164385415:True:=⟨⟩
theorem tw14201402504330934344:True:=⟨⟩
theorem tw10361160293854581515:True:=⟨⟩
theorem tw9926507768443142082:True:=⟨⟩
theorem tw7050589461362737493:True:=⟨⟩
theorem tw12502409369156761478:True:=⟨⟩
theorem tw5463686292380745010:True:=⟨⟩
theorem tw5184392940275522064:True:=⟨⟩
theorem tw2691801883735887089:True:=⟨⟩
theorem tw4532559564963994786:True:=⟨⟩
theorem tw14991981466112878279:True:=⟨⟩
theorem tw10635456843224840866:True:=⟨⟩
theorem tw11306881796873365882:True:=⟨⟩
theorem tw4552934173021576266:True:=⟨⟩
theorem tw7448978956746275568:True:=⟨⟩
theorem tw1581611434946645885:True:=⟨⟩
theorem tw16510966204623621691:True:=⟨⟩
theorem tw18133088762054588925:True:=⟨⟩
theorem tw14886767649903169280:True:=⟨⟩
theorem tw2207532635686994675:True:=⟨⟩
theorem tw8323385623658482480:True:=⟨⟩
theorem tw15809725860873175511:True:=⟨⟩
theorem tw11039289654377220690:True:=⟨⟩
theorem tw12561438156470105043:True:=⟨⟩
theorem tw6556927820478602502:True:=⟨⟩
theorem tw14692610622682649894:True:=⟨⟩
theorem tw16691893236911478882:True:=⟨⟩
theorem tw15261628356072652138:True:=⟨⟩
theorem tw8749439600194253105:True:=⟨⟩
theorem tw7585954931725079918:True:=⟨⟩
theorem tw7379618726878885261:True:=⟨⟩
theorem tw9092889675091062954:True:=⟨⟩
theorem tw5460171771837714403:True:=⟨⟩
theorem tw2107825398028706640:True:=⟨⟩
theorem tw1322236807809225940:True:=⟨⟩
theorem tw13793842101808787041:True:=⟨⟩
theorem tw5548747496166714980:True:=⟨⟩
theorem tw4958513970856073881:True:=⟨⟩
theorem tw7587736880883462455:True:=⟨⟩
theorem tw5513407795234309636:True:=⟨⟩
theorem tw3820477549682307450:True:=⟨⟩
theorem tw2710205421209336284:True:=⟨⟩
theorem tw12165372129874233710:True:=⟨⟩
theorem tw14601957546513301642:True:=⟨⟩
theorem tw2912482098125591634:True:=⟨⟩
theorem tw3053394553672457867:True:=⟨⟩
theorem tw15943740214782545037:True:=⟨⟩
theorem tw2953079528767562915:True:=⟨⟩
theorem tw13635368088906139424:True:=⟨⟩
theorem tw8298131469250969578:True:=⟨⟩
theorem tw8918237508482731308:True:=⟨⟩
theorem tw1837139863755296982:True:=⟨⟩
theorem tw2284746563425719638:True:=⟨⟩
theorem tw15381687306042746342:True:=⟨⟩
theorem tw738055350070086398:True:=⟨⟩
theorem tw8879066350265082377:True:=⟨⟩
theorem tw3372644369574658420:True:=⟨⟩
theorem tw7589688208321517234:True:=⟨⟩
theorem tw12361349414077336185:True:=⟨⟩
theorem tw5089933063582031673:True:=⟨⟩
theorem tw18248332866445438401:True:=⟨⟩
theorem tw148074904361383298:True:=⟨⟩
theorem tw14778510560156911194:True:=⟨⟩
theorem tw17262432817493509698:True:=⟨⟩
theorem tw921963083188277340:True:=⟨⟩
theorem tw6000997935143711275:True:=⟨⟩
theorem tw18046793590934006127:True:=⟨⟩
theorem tw9976881959132980013:True:=⟨⟩
theorem tw12888279515080316381:True:=⟨⟩
end PySem.W.Fast
section
open PySem PySem.W PyProof.Rows
set_option maxRecDepth 100000 in
set_option maxHeartbeats 0 in
theorem PySem.Challenge.cw_twobooks_s01_answers_holds : PySem.Challenge.rw_twobooks_s01_answers.Holds := by
 w_on; k_headS; (case hw => exact ⟨[.list [.int 12]], by decide +kernel, by decide +kernel⟩)
 k_fillS
 refine L2.Wj (r := PySem.Challenge.rw_twobooks_s01_answers) (k := 12) (CX := L2.CX0) (ps := ["calls"]) (sp := Tb.Zf) (by decide +kernel) rfl rfl ⟨rfl, by decide, by decide⟩ (fun w h Y => PySem.W.kIn_of Y) ?F ?S (fun _ _ _ _ z => z)
 case F =>
  intro w mg fa h Y KX G hmg
  apply Tb.acN hmg
  · exact Tb.xN KX G Tb.YD (by k_is) (by k_is) (by k_is) (by k_is) (by k_is) (by k_is) (by k_is) (by k_is) (by k_is) (by k_is) (by k_is) (by k_is)
  · exact Tb.j9 (by k_is)
  · exact Tb.j9 (by k_is)
  · exact Tb.j9 (by k_is)
  · exact Tb.xN KX G Tb.YC (by k_is) (by k_is) (by k_is) (by k_is) (by k_is) (by k_is) (by k_is) (by k_is) (by k_is) (by k_is) (by k_is) (by k_is)
  · exact Tb.j9 (by k_is)
  · exact Tb.j9 (by k_is)
  · exact Tb.xN KX G Tb.V6 (by k_is) (by k_is) (by k_is) (by k_is) (by k_is) (by k_is) (by k_is) (by k_is) (by k_is) (by k_is) (by k_is) (by k_is)
  · exact Tb.j9 (by k_is)
  · exact Tb.j9 (by k_is)
  · exact Tb.j9 (by k_is)
  · exact Tb.xN KX G Tb.KB (by k_is) (by k_is) (by k_is) (by k_is) (by k_is) (by k_is) (by k_is) (by k_is) (by k_is) (by k_is) (by k_is) (by k_is)
  · exact Tb.j9 (by k_is)
  · exact Tb.j9 (by k_is)
  · exact Tb.j9 (by k_is)
  · exact Tb.xN KX G Tb.Zg (by k_is) (by k_is) (by k_is) (by k_is) (by k_is) (by k_is) (by k_is) (by k_is) (by k_is) (by k_is) (by k_is) (by k_is)
  · exact Tb.j9 (by k_is)
  · exact Tb.j9 (by k_is)
  · exact Tb.j9 (by k_is)
  · exact Tb.xN KX G Tb.Jw (by k_is) (by k_is) (by k_is) (by k_is) (by k_is) (by k_is) (by k_is) (by k_is) (by k_is) (by k_is) (by k_is) (by k_is)
  · exact Tb.j9 (by k_is)
  · exact Tb.j9 (by k_is)
  · exact Tb.zx _ _ KX G (by k_is)
  · exact Tb.zx _ _ KX G (by k_is)
  · exact Tb.zx _ _ KX G (by k_is)
  · exact Tb.zx _ _ KX G (by k_is)
  · exact Tb.zx _ _ KX G (by k_is)
  · exact Tb.zx _ _ KX G (by k_is)
  · exact Tb.zx _ _ KX G (by k_is)
  · exact Tb.zx _ _ KX G (by k_is)
  · exact Tb.zx _ _ KX G (by k_is)
  · exact Tb.zx _ _ KX G (by k_is)
  · exact Tb.zx _ _ KX G (by k_is)
  · exact Tb.zx _ _ KX G (by k_is)
  · exact Tb.zx _ _ KX G (by k_is)
  · exact Tb.zx _ _ KX G (by k_is)
  · exact Tb.zx _ _ KX G (by k_is)
  · exact Tb.zx _ _ KX G (by k_is)
  · exact Tb.zx _ _ KX G (by k_is)
  · exact Tb.zx _ _ KX G (by k_is)
  · exact Tb.zx _ _ KX G (by k_is)
  · exact Tb.zx _ _ KX G (by k_is)
  · exact Tb.zx _ _ KX G (by k_is)
  · exact Tb.zx _ _ KX G (by k_is)
  · exact Tb.zx _ _ KX G (by k_is)
  · exact Tb.zx _ _ KX G (by k_is)
  · exact Tb.zx _ _ KX G (by k_is)
  · exact Tb.zx _ _ KX G (by k_is)
  · exact Tb.zx _ _ KX G (by k_is)
  · exact Tb.zx _ _ KX G (by k_is)
  · exact Tb.zx _ _ KX G (by k_is)
  · exact Tb.zx _ _ KX G (by k_is)
  · exact Tb.zx _ _ KX G (by k_is)
  · exact Tb.zx _ _ KX G (by k_is)
  · exact Tb.zx _ _ KX G (by k_is)
  · exact Tb.zx _ _ KX G (by k_is)
  · exact Tb.zx _ _ KX G (by k_is)
  · exact Tb.zx _ _ KX G (by k_is)
  · exact Tb.zx _ _ KX G (by k_is)
  · exact Tb.zx _ _ KX G (by k_is)
  · exact Tb.zx _ _ KX G (by k_is)
  · exact Tb.zx _ _ KX G (by k_is)
  · exact Tb.zx _ _ KX G (by k_is)
  · exact Tb.zx _ _ KX G (by k_is)
  · exact Tb.zx _ _ KX G (by k_is)
  · exact Tb.zx _ _ KX G (by k_is)
  · exact Tb.zx _ _ KX G (by k_is)
  · exact Tb.zx _ _ KX G (by k_is)
  · exact Tb.zx _ _ KX G (by k_is)
  · exact Tb.zx _ _ KX G (by k_is)
  · exact Tb.zx _ _ KX G (by k_is)
  · exact Tb.zx _ _ KX G (by k_is)
  · exact Tb.zx _ _ KX G (by k_is)
  · exact Tb.zx _ _ KX G (by k_is)
  · exact Tb.zx _ _ KX G (by k_is)
  · exact Tb.zx _ _ KX G (by k_is)
  · exact Tb.zx _ _ KX G (by k_is)
  · exact Tb.Qj _ _ KX G (by k_is) (by k_is) rfl rfl (by decide +kernel) (by repeat (first | exact .nil | refine .cons ⟨_, rfl⟩ ?_))
  · exact Tb.Qj _ _ KX G (by k_is) (by k_is) rfl rfl (by decide +kernel) (by repeat (first | exact .nil | refine .cons ⟨_, rfl⟩ ?_))
  · exact Tb.Qj _ _ KX G (by k_is) (by k_is) rfl rfl (by decide +kernel) (by repeat (first | exact .nil | refine .cons ⟨_, rfl⟩ ?_))
  · exact Tb.Qj _ _ KX G (by k_is) (by k_is) rfl rfl (by decide +kernel) (by repeat (first | exact .nil | refine .cons ⟨_, rfl⟩ ?_))
  · exact Tb.va _ KX G (by k_is)
  · exact Tb.va _ KX G (by k_is)
  · exact Tb.va _ KX G (by k_is)
  · exact Tb.va _ KX G (by k_is)
  · exact Tb.va _ KX G (by k_is)
  · exact Tb.va _ KX G (by k_is)
  · exact Tb.va _ KX G (by k_is)
  · exact Tb.va _ KX G (by k_is)
  · exact Tb.va _ KX G (by k_is)
  · exact Tb.zt KX G Tb.V7 (by k_is) (by k_is) (by k_is) (by k_is)
  · exact Tb.zt KX G Tb.Jv (by k_is) (by k_is) (by k_is) (by k_is)
  · exact Tb.zt KX G Tb.XM (by k_is) (by k_is) (by k_is) (by k_is)
  · exact Tb.zt KX G Tb.YE (by k_is) (by k_is) (by k_is) (by k_is)
  · exact Tb.zt KX G Tb.XN (by k_is) (by k_is) (by k_is) (by k_is)
  · exact Tb.zt KX G Tb.WI (by k_is) (by k_is) (by k_is) (by k_is)
  · exact Tb.zt KX G Tb.aaf (by k_is) (by k_is) (by k_is) (by k_is)
  · exact Tb.zt KX G Tb.XO (by k_is) (by k_is) (by k_is) (by k_is)
  · exact Tb.zt KX G Tb.uD (by k_is) (by k_is) (by k_is) (by k_is)
  · exact Tb.zt KX G Tb.YF (by k_is) (by k_is) (by k_is) (by k_is)
  · exact Tb.zt KX G Tb.WJ (by k_is) (by k_is) (by k_is) (by k_is)
  · exact Tb.zt KX G Tb.Qk (by k_is) (by k_is) (by k_is) (by k_is)
  · exact Tb.zt KX G Tb.KC (by k_is) (by k_is) (by k_is) (by k_is)
  · exact Tb.zt KX G Tb.YG (by k_is) (by k_is) (by k_is) (by k_is)
  · exact Tb.zt KX G Tb.KD (by k_is) (by k_is) (by k_is) (by k_is)
  · exact Tb.zt KX G Tb.Jx (by k_is) (by k_is) (by k_is) (by k_is)
  · exact Tb.zt KX G Tb.QQ (by k_is) (by k_is) (by k_is) (by k_is)
  · exact Tb.zt KX G Tb.Jy (by k_is) (by k_is) (by k_is) (by k_is)
  · exact Tb.zt KX G Tb.YH (by k_is) (by k_is) (by k_is) (by k_is)
  · exact Tb.zt KX G Tb.xO (by k_is) (by k_is) (by k_is) (by k_is)
  · exact Tb.zt KX G Tb.V8 (by k_is) (by k_is) (by k_is) (by k_is)
  · exact Tb.zt KX G Tb.KF (by k_is) (by k_is) (by k_is) (by k_is)
  · exact Tb.zt KX G Tb.YI (by k_is) (by k_is) (by k_is) (by k_is)
  · exact Tb.zt KX G Tb.Ql (by k_is) (by k_is) (by k_is) (by k_is)
  · exact Tb.zt KX G Tb.aag (by k_is) (by k_is) (by k_is) (by k_is)
  · exact Tb.zt KX G Tb.Jz (by k_is) (by k_is) (by k_is) (by k_is)
  · exact Tb.zt KX G Tb.wy (by k_is) (by k_is) (by k_is) (by k_is)
  · exact Tb.zt KX G Tb.Qm (by k_is) (by k_is) (by k_is) (by k_is)
  · exact Tb.zt KX G Tb.XQ (by k_is) (by k_is) (by k_is) (by k_is)
  · exact Tb.zt KX G Tb.JA (by k_is) (by k_is) (by k_is) (by k_is)
  · exact Tb.zt KX G Tb.V9 (by k_is) (by k_is) (by k_is) (by k_is)
  · exact Tb.zt KX G Tb.QR (by k_is) (by k_is) (by k_is) (by k_is)
  · exact Tb.zt KX G Tb.Va (by k_is) (by k_is) (by k_is) (by k_is)
  · exact Tb.zt KX G Tb.uE (by k_is) (by k_is) (by k_is) (by k_is)
  · exact Tb.zt KX G Tb.JB (by k_is) (by k_is) (by k_is) (by k_is)
  · exact Tb.zt KX G Tb.KG (by k_is) (by k_is) (by k_is) (by k_is)
  · exact Tb.zt KX G Tb.Qn (by k_is) (by k_is) (by k_is) (by k_is)
  · exact Tb.zt KX G Tb.KH (by k_is) (by k_is) (by k_is) (by k_is)
  · exact Tb.zt KX G Tb.Qo (by k_is) (by k_is) (by k_is) (by k_is)
  · exact Tb.zt KX G Tb.abt (by k_is) (by k_is) (by k_is) (by k_is)
  · exact Tb.zt KX G Tb.JC (by k_is) (by k_is) (by k_is) (by k_is)
  · exact Tb.zt KX G Tb.Vb (by k_is) (by k_is) (by k_is) (by k_is)
  · exact Tb.zt KX G Tb.uF (by k_is) (by k_is) (by k_is) (by k_is)
  · exact Tb.zt KX G Tb.JD (by k_is) (by k_is) (by k_is) (by k_is)
  · exact Tb.zt KX G Tb.XR (by k_is) (by k_is) (by k_is) (by k_is)
  · exact Tb.zt KX G Tb.Vc (by k_is) (by k_is) (by k_is) (by k_is)
  · exact Tb.zt KX G Tb.JE (by k_is) (by k_is) (by k_is) (by k_is)
  · exact Tb.zt KX G Tb.XS (by k_is) (by k_is) (by k_is) (by k_is)
  · exact Tb.zt KX G Tb.Zh (by k_is) (by k_is) (by k_is) (by k_is)
  · exact Tb.zt KX G Tb.Vd (by k_is) (by k_is) (by k_is) (by k_is)
  · exact Tb.zt KX G Tb.YJ (by k_is) (by k_is) (by k_is) (by k_is)
  · exact Tb.zt KX G Tb.YK (by k_is) (by k_is) (by k_is) (by k_is)
  · exact Tb.zt KX G Tb.YL (by k_is) (by k_is) (by k_is) (by k_is)
  · exact Tb.zt KX G Tb.YM (by k_is) (by k_is) (by k_is) (by k_is)
  · exact Tb.zt KX G Tb.Qp (by k_is) (by k_is) (by k_is) (by k_is)
  · exact Tb.zt KX G Tb.KI (by k_is) (by k_is) (by k_is) (by k_is)
  · exact Tb.zt KX G Tb.ui (by k_is) (by k_is) (by k_is) (by k_is)
  · exact Tb.zt KX G Tb.Ve (by k_is) (by k_is) (by k_is) (by k_is)
  · exact Tb.zt KX G Tb.aah (by k_is) (by k_is) (by k_is) (by k_is)
  · exact Tb.zt KX G Tb.YN (by k_is) (by k_is) (by k_is) (by k_is)
  · exact Tb.zt KX G Tb.WK (by k_is) (by k_is) (by k_is) (by k_is)
 case S =>
  intro K H xs a hO hwi hask hx
  cases hx with
  | cons h1 h2 =>
   cases h2
   cases h1 with
   | lst hs ha =>
    have e := L2.U0 a.1 _ ha
    subst e
    have q : ((Codec.inLen 0 16000 a.1 && a.1.all (Codec.inInt (Int.negSucc 999999999999999999) (Int.ofNat 1000000000000000000))) && true) = true := hwi
    rw [Bool.and_eq_true, Bool.and_eq_true] at q
    exact ⟨_, a.1, rfl, hs, (Codec.inNat_iff.mp q.1.1).2, hask, fun H' p hp => .lst (L2.SqL.of hp) (L2.W_ _)⟩
end
