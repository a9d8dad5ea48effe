import PyProof.Rows.All
import Wide.All
import OpenK.AllK
import Wide.FinOn
import PyProof.EqAt
import PyProof.EqKinds
import PyProof.TupleCall
import KE.BitLaws
import PyVbnlal
import PyProof.Rows.SortShellAny
import PySem.Challenge.RW_namecourt_s01_answers
import PyProof.IsiPairs
import PyProof.FitsInt
import Open.SpecLaws
import KE.OsHead
import KE.OsGo
set_option Elab.async false
set_option linter.all false
set_option maxRecDepth 100000
section
namespace Nc
open Vbnlal
theorem AW{α:Type}(p:α->Bool):∀l:List α,(l.dropWhile p).length<=l.length
 |[]=>Nat.le_refl _
 |a::l=>by
  rw[List.dropWhile_cons]
  split
  ·exact Nat.le_trans (AW p l) (Nat.le_succ _)
  ·exact Nat.le_refl _
theorem iQ{α:Type}{p:α->Bool}{a:α}{l:List α}(h:p a=true):((a::l).dropWhile p).length<(a::l).length:=by
 rw[List.dropWhile_cons,if_pos h]
 exact Nat.lt_of_le_of_lt (AW p l) (Nat.lt_succ_self _)
theorem pZ:∀(n k j:Nat)(l:Text),l.length<=n->l.length<=k->l.length<=j->tokens k l=tokens j l
 |_,k,j,[],_,_,_=>by cases k <;> cases j <;> rfl
 |0,_,_,c::r,h,_,_=>by simp at h
 |_,0,_,c::r,_,h,_=>by simp at h
 |_,_,0,c::r,_,_,h=>by simp at h
 |n+1,k+1,j+1,c::r,hn,hk,hj=>by
  have e1:r.length<=n:=Nat.le_of_succ_le_succ hn
  have e2:r.length<=k:=Nat.le_of_succ_le_succ hk
  have e3:r.length<=j:=Nat.le_of_succ_le_succ hj
  unfold tokens
  rw[pZ n k j r e1 e2 e3]
  by_cases h1:c=32
  ·rw[if_pos h1,if_pos h1]
  rw[if_neg h1,if_neg h1]
  by_cases h2:c=59
  ·rw[if_pos h2,if_pos h2]
  rw[if_neg h2,if_neg h2]
  by_cases h3:isLetter c=true
  ·rw[if_pos h3,if_pos h3]
   have q:=iQ (l:=r) h3
   have q':((c::r).dropWhile isLetter).length<=n:=by simp at q hn ⊢;omega
   rw[pZ n k j _ q' (by simp at q hk ⊢;omega) (by simp at q hj ⊢;omega)]
  rw[if_neg h3,if_neg h3]
  by_cases h4:isDigit c=true
  ·rw[if_pos h4,if_pos h4]
   have q:=iQ (l:=r) h4
   have q':((c::r).dropWhile isDigit).length<=n:=by simp at q hn ⊢;omega
   rw[pZ n k j _ q' (by simp at q hk ⊢;omega) (by simp at q hj ⊢;omega)]
  rw[if_neg h4,if_neg h4]
def tok(l:Text):Option (List Token):=tokens l.length l
theorem ahW:tok []=some []:=rfl
theorem YQ(c:Int)(r:Text):tok (c::r) =
  if c=32 then tok r else if c=59 then(tok r).map λl=>.semi::l
  else if isLetter c=true then(tok ((c::r).dropWhile isLetter)).map λl=>.word (((c::r).takeWhile isLetter).map small)::l
  else if isDigit c=true then(tok ((c::r).dropWhile isDigit)).map λl=>.num (valueOf ((c::r).takeWhile isDigit))::l
  else none:=by
 unfold tok
 show tokens (r.length+1) (c::r)=_
 rw[tokens]
 by_cases h1:c=32
 ·rw[if_pos h1,if_pos h1]
 rw[if_neg h1,if_neg h1]
 by_cases h2:c=59
 ·rw[if_pos h2,if_pos h2]
 rw[if_neg h2,if_neg h2]
 by_cases h3:isLetter c=true
 ·rw[if_pos h3,if_pos h3]
  have q:=iQ (l:=r) h3
  rw[pZ r.length r.length _ _ (by simp at q ⊢;omega) (by simp at q ⊢;omega) (Nat.le_refl _)]
 rw[if_neg h3,if_neg h3]
 by_cases h4:isDigit c=true
 ·rw[if_pos h4,if_pos h4]
  have q:=iQ (l:=r) h4
  rw[pZ r.length r.length _ _ (by simp at q ⊢;omega) (by simp at q ⊢;omega) (Nat.le_refl _)]
 rw[if_neg h4,if_neg h4]
def glue(done:List (List Token))(cur:List Token)(cs:List (List Token)):List (List Token):=match cs with
 |[]=>done++[cur]
 |f::fs=>done++(cur++f)::fs
theorem iZ:∀l:List Token,clauses l≠[]
 |[]=>by simp[clauses]
 |.semi::r=>by simp[clauses]
 |.word t::r=>by
  unfold clauses
  cases clauses r <;> simp
 |.num t::r=>by
  unfold clauses
  cases clauses r <;> simp
theorem aTQ(done:List (List Token))(cur:List Token):glue done cur (clauses [])=done++[cur]:=by simp[clauses,glue]
theorem aNU(done:List (List Token))(cur:List Token)(r:List Token):glue done cur (clauses (.semi::r))=glue (done++[cur]) [] (clauses r):=by
 show glue done cur ([]::clauses r)=_
 have:=iZ r
 cases h:clauses r with
 |nil=>exact absurd h this
 |cons f fs=>simp[glue]
theorem nQ{t:Token}{r f:List Token}{fs:List (List Token)}(h:t≠.semi)(e:clauses r=f::fs):clauses (t::r)=(t::f)::fs:=by
 cases t with
 |semi=>exact absurd rfl h
 |word w=>rw[clauses,e];exact λq=>nomatch q
 |num w=>rw[clauses,e];exact λq=>nomatch q
theorem asQ(done:List (List Token))(cur:List Token)(t:Token)(r:List Token)(h:t≠.semi):glue done cur (clauses (t::r))=glue done (cur++[t]) (clauses r):=by
 have:=iZ r
 cases e:clauses r with
 |nil=>exact absurd e this
 |cons f fs=>rw[nQ h e];simp[glue]
theorem aHW(l:List Token):glue [] [] (clauses l)=clauses l:=by
 have:=iZ l
 cases h:clauses l with
 |nil=>exact absurd h this
 |cons f fs=>simp[glue]
theorem asU{α:Type}(p:α->Bool):∀l:List α,l.take (l.takeWhile p).length=l.takeWhile p
 |[]=>rfl
 |a::l=>by
  rw[List.takeWhile_cons]
  split
  ·simp[asU p l]
  ·rfl
theorem drop_run{α:Type}(p:α->Bool):∀l:List α,l.drop (l.takeWhile p).length=l.dropWhile p
 |[]=>rfl
 |a::l=>by
  rw[List.takeWhile_cons,List.dropWhile_cons]
  split
  ·simp[drop_run p l]
  ·rfl
def shp:Token->List Int
 |.word t=>t
 |.num _=>[35]
 |.semi=>[59]
def nums(l:List Token):List Int:=l.filterMap λt=>match t with
 |.num n=>some n
 |_=>none
def fm(k:Nat):List (List Int):=match k with
 |0=>[ascii "restore",[35]]
 |1=>[ascii "suppress",[35]]
 |2=>[ascii "suppress",[35],ascii "wholly"]
 |3=>[ascii "conserve",[35],ascii "over",[35]]
 |4=>[ascii "type",[35],ascii "is",[35]]
 |5=>[ascii "reject",ascii "work",[35]]
 |_=>[ascii "annul",[35]]
def plainT(l:List Token):Prop:=∀t∈l,t≠.word [35]/\t≠.semi
def pick(l:List Token)(k:Nat):Effect:=⟨k,(nums l).getD 0 0,if(nums l).length=2 then(nums l).getD 1 0 else 0⟩
theorem rQ{t:Token}{w:List Int}(h:shp t=w)(hw:w≠[35])(hs:t≠.semi):t = .word w:=by
 cases t with
 |word v=>rw[<-h];rfl
 |num n=>exact absurd h.symm hw
 |semi=>exact absurd rfl hs
theorem HW{t:Token}(h:shp t=[35])(hp:t≠.word [35])(hs:t≠.semi):∃n,t = .num n:=by
 cases t with
 |word v=>exact absurd (congrArg Token.word h) hp
 |num n=>exact⟨n,rfl⟩
 |semi=>exact absurd rfl hs
theorem map2{l:List Token}{a b:List Int}(h:l.map shp=[a,b]):∃x y,l=[x,y]/\shp x=a/\shp y=b:=by
 match l,h with
 |[x,y],h=>simp at h;exact⟨x,y,rfl,h.1,h.2⟩
theorem map3{l:List Token}{a b c:List Int}(h:l.map shp=[a,b,c]):∃x y z,l=[x,y,z]/\shp x=a/\shp y=b/\shp z=c:=by
 match l,h with
 |[x,y,z],h=>simp at h;exact⟨x,y,z,rfl,h.1,h.2.1,h.2.2⟩
theorem map4{l:List Token}{a b c d:List Int}(h:l.map shp=[a,b,c,d]):∃x y z u,l=[x,y,z,u]/\shp x=a/\shp y=b/\shp z=c/\shp u=d:=by
 match l,h with
 |[x,y,z,u],h=>simp at h;exact⟨x,y,z,u,rfl,h.1,h.2.1,h.2.2.1,h.2.2.2⟩
theorem TQ{l:List Token}{a:List Int}(p:plainT l)(ha:a≠[35])(h:l.map shp=[a,[35]]):∃n,l=[.word a,.num n]:=by
 obtain⟨x,y,rfl,h1,h2⟩:=map2 h
 have px:=p x (by simp)
 have py:=p y (by simp)
 have e1:=rQ h1 ha px.2
 obtain⟨n,e2⟩:=HW h2 py.1 py.2
 subst e1 e2
 exact⟨n,rfl⟩
theorem aNV{l:List Token}{a b:List Int}(p:plainT l)(ha:a≠[35])(hb:b≠[35])(h:l.map shp=[a,[35],b]):∃n,l=[.word a,.num n,.word b]:=by
 obtain⟨x,y,z,rfl,h1,h2,h3⟩:=map3 h
 have px:=p x (by simp)
 have py:=p y (by simp)
 have pz:=p z (by simp)
 have e1:=rQ h1 ha px.2
 obtain⟨n,e2⟩:=HW h2 py.1 py.2
 have e3:=rQ h3 hb pz.2
 subst e1 e2 e3
 exact⟨n,rfl⟩
theorem aNW{l:List Token}{a b:List Int}(p:plainT l)(ha:a≠[35])(hb:b≠[35])(h:l.map shp=[a,b,[35]]):∃n,l=[.word a,.word b,.num n]:=by
 obtain⟨x,y,z,rfl,h1,h2,h3⟩:=map3 h
 have px:=p x (by simp)
 have py:=p y (by simp)
 have pz:=p z (by simp)
 have e1:=rQ h1 ha px.2
 have e2:=rQ h2 hb py.2
 obtain⟨n,e3⟩:=HW h3 pz.1 pz.2
 subst e1 e2 e3
 exact⟨n,rfl⟩
theorem TU{l:List Token}{a b:List Int}(p:plainT l)(ha:a≠[35])(hb:b≠[35])(h:l.map shp=[a,[35],b,[35]]):∃n m,l=[.word a,.num n,.word b,.num m]:=by
 obtain⟨x,y,z,u,rfl,h1,h2,h3,h4⟩:=map4 h
 have px:=p x (by simp)
 have py:=p y (by simp)
 have pz:=p z (by simp)
 have pu:=p u (by simp)
 have e1:=rQ h1 ha px.2
 obtain⟨n,e2⟩:=HW h2 py.1 py.2
 have e3:=rQ h3 hb pz.2
 obtain⟨m,e4⟩:=HW h4 pu.1 pu.2
 subst e1 e2 e3 e4
 exact⟨n,m,rfl⟩
theorem azZ{l:List Token}(p:plainT l):∀{k:Nat},k<7->l.map shp=fm k->clause l=some (pick l k)
 |0,_,h=>by obtain⟨n,rfl⟩:=TQ p (by decide) h;rfl
 |1,_,h=>by obtain⟨n,rfl⟩:=TQ p (by decide) h;rfl
 |2,_,h=>by obtain⟨n,rfl⟩:=aNV p (by decide) (by decide) h;rfl
 |3,_,h=>by obtain⟨n,m,rfl⟩:=TU p (by decide) (by decide) h;rfl
 |4,_,h=>by obtain⟨n,m,rfl⟩:=TU p (by decide) (by decide) h;rfl
 |5,_,h=>by obtain⟨n,rfl⟩:=aNW p (by decide) (by decide) h;rfl
 |6,_,h=>by obtain⟨n,rfl⟩:=TQ p (by decide) h;rfl
 |k+7,hk,_=>absurd hk (by omega)
theorem aAJ{l:List Token}(h:∀k,k<7->l.map shp≠fm k):clause l=none:=by
 unfold clause
 split
 ·rename_i w a
  have h0:=h 0 (by decide)
  have h1:=h 1 (by decide)
  have h6:=h 6 (by decide)
  rw[if_neg (λe=>h1 (by rw[e];rfl)),if_neg (λe=>h0 (by rw[e];rfl)),if_neg (λe=>h6 (by rw[e];rfl))]
 ·rename_i w a v
  have h2:=h 2 (by decide)
  rw[if_neg (λe=>h2 (by rw[e.1,e.2];rfl))]
 ·rename_i w v a
  have h5:=h 5 (by decide)
  rw[if_neg (λe=>h5 (by rw[e.1,e.2];rfl))]
 ·rename_i w a v b
  have h3:=h 3 (by decide)
  have h4:=h 4 (by decide)
  rw[if_neg (λe=>h3 (by rw[e.1,e.2];rfl)),if_neg (λe=>h4 (by rw[e.1,e.2];rfl))]
 ·rfl
theorem aTU{l:List Token}(p:plainT l):∀{k:Nat},k<7->l.map shp=fm k->(nums l).length=if k=3\/k=4 then 2 else 1
 |0,_,h=>by obtain⟨n,rfl⟩:=TQ p (by decide) h;rfl
 |1,_,h=>by obtain⟨n,rfl⟩:=TQ p (by decide) h;rfl
 |2,_,h=>by obtain⟨n,rfl⟩:=aNV p (by decide) (by decide) h;rfl
 |3,_,h=>by obtain⟨n,m,rfl⟩:=TU p (by decide) (by decide) h;rfl
 |4,_,h=>by obtain⟨n,m,rfl⟩:=TU p (by decide) (by decide) h;rfl
 |5,_,h=>by obtain⟨n,rfl⟩:=aNW p (by decide) (by decide) h;rfl
 |6,_,h=>by obtain⟨n,rfl⟩:=TQ p (by decide) h;rfl
 |k+7,hk,_=>absurd hk (by omega)
def smallW(t:Token):Prop:=match t with
 |.word w=>∀c∈w,97<=c/\c<=122
 |_=>True
theorem aTV{c:Int}(h:isLetter c=true):97<=small c/\small c<=122:=by
 unfold isLetter within at h
 unfold small within
 simp only[Bool.or_eq_true,Bool.and_eq_true,decide_eq_true_eq] at h ⊢
 split <;> omega
theorem kQ{α:Type}{p:α->Bool}:∀{l:List α}{c:α},c∈l.takeWhile p->p c=true
 |a::l,c,h=>by
  rw[List.takeWhile_cons] at h
  split at h
  ·rename_i q
   rcases List.mem_cons.mp h with rfl | h
   ·exact q
   ·exact kQ h
  ·exact absurd h (by simp)
theorem wV:∀(n:Nat)(l:Text),l.length<=n->∀ts,tok l=some ts->∀t∈ts,smallW t
 |_,[],_,ts,h,t,ht=>by rw[ahW] at h;cases h;exact absurd ht (by simp)
 |0,c::r,h,_,_,_,_=>by simp at h
 |n+1,c::r,hn,ts,h,t,ht=>by
  have e1:r.length<=n:=Nat.le_of_succ_le_succ hn
  rw[YQ] at h
  by_cases h1:c=32
  ·rw[if_pos h1] at h
   exact wV n r e1 ts h t ht
  rw[if_neg h1] at h
  by_cases h2:c=59
  ·rw[if_pos h2] at h
   obtain⟨l,el,rfl⟩:=Option.map_eq_some_iff.mp h
   rcases List.mem_cons.mp ht with rfl | ht
   ·trivial
   ·exact wV n r e1 l el t ht
  rw[if_neg h2] at h
  by_cases h3:isLetter c=true
  ·rw[if_pos h3] at h
   obtain⟨l,el,rfl⟩:=Option.map_eq_some_iff.mp h
   rcases List.mem_cons.mp ht with rfl | ht
   ·intro x hx
    obtain⟨y,hy,rfl⟩:=List.mem_map.mp hx
    exact aTV (kQ hy)
   ·have q:=iQ (l:=r) h3
    exact wV n _ (by simp at q hn ⊢;omega) l el t ht
  rw[if_neg h3] at h
  by_cases h4:isDigit c=true
  ·rw[if_pos h4] at h
   obtain⟨l,el,rfl⟩:=Option.map_eq_some_iff.mp h
   rcases List.mem_cons.mp ht with rfl | ht
   ·trivial
   ·have q:=iQ (l:=r) h4
    exact wV n _ (by simp at q hn ⊢;omega) l el t ht
  rw[if_neg h4] at h
  cases h
theorem vY:∀(ts:List Token)(p:List Token),p∈clauses ts->∀t∈p,t∈ts/\t≠.semi
 |[],p,h,t,ht=>by
  simp[clauses] at h
  subst h
  exact absurd ht (by simp)
 |x::r,p,h,t,ht=>by
  by_cases hx:x = .semi
  ·subst hx
   rw[clauses] at h
   rcases List.mem_cons.mp h with rfl | h
   ·exact absurd ht (by simp)
   ·have:=vY r p h t ht
    exact⟨List.mem_cons_of_mem _ this.1,this.2⟩
  ·cases e:clauses r with
   |nil=>exact absurd e (iZ r)
   |cons f fs=>
    rw[nQ hx e] at h
    rcases List.mem_cons.mp h with rfl | h
    ·rcases List.mem_cons.mp ht with rfl | ht
     ·exact⟨List.mem_cons_self,hx⟩
     ·have:=vY r f (by rw[e];exact List.mem_cons_self) t ht
      exact⟨List.mem_cons_of_mem _ this.1,this.2⟩
    ·have:=vY r p (by rw[e];exact List.mem_cons_of_mem _ h) t ht
     exact⟨List.mem_cons_of_mem _ this.1,this.2⟩
theorem asV{t:Token}(h:smallW t):t≠.word [35]:=by
 rintro rfl
 have:=h 35 (by simp)
 omega
def serves(t:Int)(m:Member):Bool:=decide (t<=m.until_)
def dayM(s:State)(d:Int):State×Ans:=
 if dayOk d=false then(s,[-9]) else if d<s.today then(s,[-12])
 else({ s with today:=d,members:=s.members.filter (serves d),president:=if(s.members.filter (serves d)).any (λm=>m.key==s.president)=true then s.president else 0 },[0])
def seatM(s:State)(m u:Int):State×Ans:=
 if keyOk m=false then(s,[-4]) else if dayOk u=false then(s,[-9]) else if u<s.today then(s,[-12])
 else if s.members.any (λx=>x.key==m)=true then(s,[-5])
 else if MEMBERS<=s.members.length then(s,[-8])
 else({ s with members:=s.members++[⟨m,u⟩] },[0])
def petitionM(s:State)(k:Int)(t:Text):State×Ans:=
 if keyOk k=false then(s,[-4]) else match read t with
  |.error r=>(s,[r])
  |.ok es=>if(caseOf s k).isSome=true then(s,[-5]) else if targetsOk s es=false then(s,[-6]) else if CASES<=s.cases.length then(s,[-8])
   else({ s with cases:=s.cases++[{ key:=k,effects:=es,opened:=s.today,last:=s.today }] },[(es.length:Int)])
theorem aNX{α:Type}{f:α->Int}{l l':List α}(p:l.Perm l')(nd:(l.map f).Nodup)(k:Int):(l.find? λx=>f x==k)=(l'.find? λx=>f x==k):=by
 have nd':(l'.map f).Nodup:=(p.map f).nodup_iff.mp nd
 have aux:∀{l:List α},(l.map f).Nodup->∀{x:α},(l.find? (λx=>f x==k)=some x↔(x∈l/\f x=k)):=by
  intro l
  induction l with
  |nil=>intro _ x;simp
  |cons a l ih=>
   intro nd x
   have nd2:=List.nodup_cons.mp (show(f a::l.map f).Nodup from nd)
   rw[List.find?_cons]
   by_cases e:f a=k
   ·rw[show(f a==k)=true from beq_iff_eq.mpr e]
    constructor
    ·intro h
     have:a=x:=Option.some.inj h
     subst this
     exact⟨List.mem_cons_self,e⟩
    ·rintro⟨hm,hk⟩
     rcases List.mem_cons.mp hm with rfl | hm
     ·rfl
     ·exact absurd (List.mem_map.mpr ⟨x,hm,hk.trans e.symm⟩) nd2.1
   ·rw[show(f a==k)=false from beq_eq_false_iff_ne.mpr e]
    show(List.find? _ l=some x)↔_
    rw[ih nd2.2]
    constructor
    ·rintro⟨hm,hk⟩
     exact⟨List.mem_cons_of_mem _ hm,hk⟩
    ·rintro⟨hm,hk⟩
     rcases List.mem_cons.mp hm with rfl | hm
     ·exact absurd hk e
     ·exact⟨hm,hk⟩
 apply Option.ext
 intro x
 rw[aux nd,aux nd',p.mem_iff]
theorem YU{α:Type}{l l':List α}(p:l.Perm l')(f:α->Bool):l.any f=l'.any f:=by
 rw[Bool.eq_iff_iff,List.any_eq_true,List.any_eq_true]
 exact⟨λ⟨x,h1,h2⟩=>⟨x,p.mem_iff.mp h1,h2⟩,λ⟨x,h1,h2⟩=>⟨x,p.mem_iff.mpr h1,h2⟩⟩
theorem aTW{α:Type}{l l':List α}(p:l.Perm l')(f:α->Bool):l.all f=l'.all f:=by
 rw[Bool.eq_iff_iff,List.all_eq_true,List.all_eq_true]
 exact⟨λh x hx=>h x (p.mem_iff.mpr hx),λh x hx=>h x (p.mem_iff.mp hx)⟩
theorem AX(x:Case):∀l:List Case,(putCase x l).Perm (x::l)
 |[]=>.refl _
 |y::r=>by
  unfold putCase
  split
  ·exact .refl _
  ·exact((AX x r).cons y).trans (.swap x y r)
theorem hZ(x:Member):∀l:List Member,(putMember x l).Perm (x::l)
 |[]=>.refl _
 |y::r=>by
  unfold putMember
  split
  ·exact .refl _
  ·exact((hZ x r).cons y).trans (.swap x y r)
structure R(m s:State):Prop where
 today:m.today=s.today
 mem:m.members.Perm (serving s)
 msort:s.members.Pairwise λa b=>a.key<b.key
 mkey:∀x∈s.members,1<=x.key
 pres:m.president=if inOffice s s.president=true then s.president else 0
 cas:m.cases.Perm s.cases
 cnd:(m.cases.map (·.key)).Nodup
 csort:s.cases.Pairwise λa b=>a.key<b.key
 rul:m.rulings=s.rulings
theorem JW{α:Type}{f:α->Int}{l:List α}(h:l.Pairwise λa b=>f a<f b):(l.map f).Nodup:=by
 unfold List.Nodup
 rw[List.pairwise_map]
 exact h.imp λq e=>by omega
section
variable{m s:State}
theorem R.mnd(r:R m s):(s.members.map (·.key)).Nodup:=JW r.msort
theorem R.caseOf(r:R m s)(k:Int):caseOf m k=caseOf s k:=aNX (f:=Case.key) r.cas r.cnd k
theorem R.rulingsBy(r:R m s)(d:Int):rulingsBy m d=rulingsBy s d:=by
 unfold Vbnlal.rulingsBy
 rw[r.rul]
 congr 2
 funext k
 exact r.caseOf k
theorem R.serving_nd(r:R m s):((serving s).map (·.key)).Nodup:=List.Nodup.sublist (List.Sublist.map _ List.filter_sublist) r.mnd
theorem R.mem_nd(r:R m s):(m.members.map (·.key)).Nodup:=(r.mem.map _).nodup_iff.mpr r.serving_nd
theorem R.serves(r:R m s){x:Member}(h:x∈m.members):m.today<=x.until_:=by
 have q:=(List.mem_filter.mp (r.mem.mem_iff.mp h)).2
 rw[r.today]
 exact of_decide_eq_true q
theorem eU(nd:(s.members.map (·.key)).Nodup)(k:Int):inOffice s k=(serving s).any λx=>x.key==k:=by
 unfold inOffice memberOf serving
 rw[List.any_filter]
 generalize s.members=l at nd
 induction l with
 |nil=>rfl
 |cons a l ih=>
  have nd2:=List.nodup_cons.mp (show(a.key::l.map (·.key)).Nodup from nd)
  rw[List.find?_cons,List.any_cons]
  by_cases e:a.key=k
  ·rw[show(a.key==k)=true from beq_iff_eq.mpr e]
   show decide _=(decide _&&true || _)
   rw[Bool.and_true]
   have:(l.any λx=>decide (s.today<=x.until_)&&(x.key==k))=false:=by
    rw[List.any_eq_false]
    intro x hx hk
    rw[Bool.and_eq_true,beq_iff_eq] at hk
    exact nd2.1 (List.mem_map.mpr ⟨x,hx,hk.2.trans e.symm⟩)
   rw[this,Bool.or_false]
  ·rw[show(a.key==k)=false from beq_eq_false_iff_ne.mpr e,Bool.and_false,Bool.false_or]
   exact ih nd2.2
theorem R.office(r:R m s)(k:Int):(m.members.any λx=>x.key==k)=inOffice s k:=by
 rw[eU r.mnd,YU r.mem]
theorem R.serving_self(r:R m s):serving m=m.members:=List.filter_eq_self.mpr λ_ hx=>decide_eq_true (r.serves hx)
theorem R.officeM(r:R m s)(k:Int):inOffice m k=inOffice s k:=by
 rw[eU r.mem_nd,r.serving_self,r.office]
theorem R.no0(r:R m s):inOffice s 0=false:=by
 rw[eU r.mnd,List.any_eq_false]
 intro x hx h
 have:=r.mkey x (List.mem_filter.mp hx).1
 rw[beq_iff_eq] at h
 omega
theorem R.pres_in(r:R m s):inOffice s m.president=inOffice s s.president:=by
 rw[r.pres]
 split
 ·rfl
 ·rename_i h
  rw[r.no0]
  exact(Bool.not_eq_true _▸h:inOffice s s.president=false).symm
theorem R.allVoted(r:R m s)(c:Case):allVoted m c=allVoted s c:=by
 unfold Vbnlal.allVoted
 rw[r.serving_self,aTW r.mem]
theorem R.outcome(r:R m s)(c:Case):outcome m c=outcome s c:=by
 unfold Vbnlal.outcome
 have e:(votes c 1=votes c 2/\inOffice m m.president=true/\c.ballots.contains (m.president,1)=true)↔(votes c 1=votes c 2/\inOffice s s.president=true/\c.ballots.contains (s.president,1)=true):=by
  rw[r.officeM,r.pres_in]
  constructor
  ·rintro⟨a,b,c⟩
   rw[r.pres,if_pos b] at c
   exact⟨a,b,c⟩
  ·rintro⟨a,b,c⟩
   refine⟨a,b,?_⟩
   rw[r.pres,if_pos b]
   exact c
 simp only[e]
theorem R.targets(r:R m s)(es:List Effect):targetsOk m es=targetsOk s es:=by
 unfold targetsOk
 rw[r.rul]
theorem R.ncases(r:R m s):m.cases.length=s.cases.length:=r.cas.length_eq
theorem R.nmem(r:R m s):m.members.length=(serving s).length:=r.mem.length_eq
theorem R.setCase(r:R m s)(c:Case):R (setCase m c) (setCase s c):=by
 refine⟨r.today,r.mem,r.msort,r.mkey,?_,r.cas.map _,?_,?_,r.rul⟩
 ·exact r.pres
 ·have:(Vbnlal.setCase m c).cases.map (·.key)=m.cases.map (·.key):=by
   unfold Vbnlal.setCase
   rw[List.map_map]
   apply List.map_congr_left
   intro x _
   show(if x.key=c.key then c else x).key=x.key
   split
   ·rename_i h;exact h.symm
   ·rfl
  rw[this]
  exact r.cnd
 ·unfold Vbnlal.setCase
  show(s.cases.map _).Pairwise _
  rw[List.pairwise_map]
  refine r.csort.imp λ{a b} h=>?_
  have e:∀x:Case,(if x.key=c.key then c else x).key=x.key:=λx=>by
   split
   ·rename_i h;exact h.symm
   ·rfl
  rw[e,e]
  exact h
theorem OY{α:Type}{f:α->Int}:∀{l l':List α},(l.Pairwise λa b=>f a<f b)->(l'.Pairwise λa b=>f a<f b)->l.Perm l'->l=l'
 |[],l',_,_,p=>(List.nil_perm.mp p).symm▸rfl
 |a::l,[],_,_,p=>by simpa using p.length_eq
 |a::l,b::l',h,h',p=>by
  have h1:=List.pairwise_cons.mp h
  have h2:=List.pairwise_cons.mp h'
  have e:a=b:=by
   rcases List.mem_cons.mp (p.mem_iff.mp List.mem_cons_self) with e | e
   ·exact e
   ·rcases List.mem_cons.mp (p.mem_iff.mpr List.mem_cons_self) with e' | e'
    ·exact e'.symm
    ·have:=h1.1 _ e'
     have:=h2.1 _ e
     omega
  subst e
  rw[OY h1.2 h2.2 (List.Perm.cons_inv p)]
theorem OZ{x:Case}:∀{l:List Case},(l.Pairwise λa b=>a.key<b.key)->(∀y∈l,y.key≠x.key)->(putCase x l).Pairwise λa b=>a.key<b.key
 |[],_,_=>by simp[putCase]
 |y::r,h,hn=>by
  have h1:=List.pairwise_cons.mp h
  unfold putCase
  split
  ·rename_i q
   refine List.pairwise_cons.mpr ⟨λz hz=>?_,h⟩
   rcases List.mem_cons.mp hz with rfl | hz
   ·exact q
   ·exact Int.lt_trans q (h1.1 z hz)
  ·rename_i q
   have hy:=hn y List.mem_cons_self
   refine List.pairwise_cons.mpr ⟨λz hz=>?_,OZ h1.2 λz hz=>hn z (List.mem_cons_of_mem _ hz)⟩
   rcases List.mem_cons.mp ((AX x r).mem_iff.mp hz) with rfl | hz
   ·omega
   ·exact h1.1 z hz
theorem tY{x:Member}:∀{l:List Member},(l.Pairwise λa b=>a.key<b.key)->(∀y∈l,y.key≠x.key)->(putMember x l).Pairwise λa b=>a.key<b.key
 |[],_,_=>by simp[putMember]
 |y::r,h,hn=>by
  have h1:=List.pairwise_cons.mp h
  unfold putMember
  split
  ·rename_i q
   refine List.pairwise_cons.mpr ⟨λz hz=>?_,h⟩
   rcases List.mem_cons.mp hz with rfl | hz
   ·exact q
   ·exact Int.lt_trans q (h1.1 z hz)
  ·rename_i q
   have hy:=hn y List.mem_cons_self
   refine List.pairwise_cons.mpr ⟨λz hz=>?_,tY h1.2 λz hz=>hn z (List.mem_cons_of_mem _ hz)⟩
   rcases List.mem_cons.mp ((hZ x r).mem_iff.mp hz) with rfl | hz
   ·omega
   ·exact h1.1 z hz
theorem vZ{s:State}{k:Int}(h:Vbnlal.caseOf s k=none):∀c∈s.cases,c.key≠k:=λc hc e=>by
 have q:=List.find?_eq_none.mp h c hc
 exact q (beq_iff_eq.mpr e)
theorem aTX(s:State)(d:Int):step s (.day d)=if dayOk d=false then(s,[-9]) else if d<s.today then(s,[-12]) else({ s with today:=d },[0]):=rfl
theorem aNY(s:State)(m u:Int):step s (.seat m u)=if keyOk m=false then(s,[-4]) else if dayOk u=false then(s,[-9]) else if u<s.today then(s,[-12])
  else if inOffice s m=true then(s,[-5]) else if MEMBERS<=(serving s).length then(s,[-8])
  else({ s with members:=putMember ⟨m,u⟩ ((serving s).filter λx=>x.key != m),president:=if s.president=m then 0 else s.president },[0]):=rfl
theorem step_leave(s:State)(m:Int):step s (.leave m)=if inOffice s m=false then(s,[-6])
  else({ s with members:=s.members.filter (λx=>x.key != m),president:=if s.president=m then 0 else s.president },[0]):=rfl
theorem step_preside(s:State)(m:Int):step s (.preside m)=if inOffice s m=false then(s,[-6]) else({ s with president:=m },[0]):=rfl
theorem aoV(s:State)(k:Int)(t:Text):step s (.petition k t)=if keyOk k=false then(s,[-4]) else match Vbnlal.read t with
  |.error r=>(s,[r])
  |.ok es=>if(Vbnlal.caseOf s k).isSome=true then(s,[-5]) else if targetsOk s es=false then(s,[-6]) else if CASES<=s.cases.length then(s,[-8])
   else({ s with cases:=putCase { key:=k,effects:=es,opened:=s.today,last:=s.today } s.cases },[(es.length:Int)]):=rfl
theorem aAK(s:State){d:Int}(h2:¬d<s.today):serving { s with today:=d }=(serving s).filter (Nc.serves d):=by
 unfold serving
 rw[List.filter_filter]
 apply List.filter_congr
 intro x _
 show decide (d<=x.until_)=(Nc.serves d x&&decide (s.today<=x.until_))
 unfold Nc.serves
 by_cases q:d<=x.until_
 ·rw[decide_eq_true q,decide_eq_true (show s.today<=x.until_ by omega)];rfl
 ·rw[decide_eq_false q];rfl
theorem R.day(r:R m s)(d:Int):(dayM m d).2=(step s (.day d)).2/\R (dayM m d).1 (step s (.day d)).1:=by
 rw[aTX]
 unfold dayM
 by_cases h1:dayOk d=false
 ·rw[if_pos h1,if_pos h1];exact⟨rfl,r⟩
 rw[if_neg h1,if_neg h1,r.today]
 by_cases h2:d<s.today
 ·rw[if_pos h2,if_pos h2];exact⟨rfl,r⟩
 rw[if_neg h2,if_neg h2]
 have hs:=aAK s h2
 have pm:(m.members.filter (Nc.serves d)).Perm (serving { s with today:=d }):=by
  rw[hs];exact r.mem.filter _
 refine⟨rfl,rfl,pm,r.msort,r.mkey,?_,r.cas,r.cnd,r.csort,r.rul⟩
 show(if((m.members.filter (Nc.serves d)).any λx=>x.key==m.president)=true then m.president else 0)=_
 rw[YU pm]
 have e:∀k,inOffice { s with today:=d } k=(serving { s with today:=d }).any λx=>x.key==k:=λk=>eU (s:={ s with today:=d }) r.mnd k
 show _=if inOffice { s with today:=d } s.president=true then s.president else 0
 rw[e,r.pres]
 by_cases h:inOffice s s.president=true
 ·rw[if_pos h]
 ·rw[if_neg h]
  have z:∀k,inOffice s k=false->((serving { s with today:=d }).any λx=>x.key==k)=false:=λk hk=>by
   rw[hs,List.any_eq_false]
   intro x hx hk2
   rw[eU r.mnd,List.any_eq_false] at hk
   exact hk x (List.mem_filter.mp hx).1 hk2
  rw[z 0 r.no0,z s.president (by simpa using h)]
  rfl
theorem DZ{k:Int}:keyOk k=true↔1<=k/\k<=1000000000:=by
 unfold keyOk within MOSTKEY
 rw[Bool.and_eq_true,decide_eq_true_eq,decide_eq_true_eq]
theorem HX(s:State)(k:Int)(p:Int):serving { s with members:=s.members.filter (λx=>x.key != k),president:=p }=(serving s).filter λx=>x.key != k:=by
 unfold serving
 show(s.members.filter _).filter _=(s.members.filter _).filter _
 rw[List.filter_filter,List.filter_filter]
 apply List.filter_congr
 intro x _
 rw[Bool.and_comm]
theorem R.seat(r:R m s)(k u:Int):(seatM m k u).2=(step s (.seat k u)).2/\R (seatM m k u).1 (step s (.seat k u)).1:=by
 rw[aNY]
 unfold seatM
 by_cases h1:keyOk k=false
 ·rw[if_pos h1,if_pos h1];exact⟨rfl,r⟩
 rw[if_neg h1,if_neg h1]
 by_cases h2:dayOk u=false
 ·rw[if_pos h2,if_pos h2];exact⟨rfl,r⟩
 rw[if_neg h2,if_neg h2,r.today]
 by_cases h3:u<s.today
 ·rw[if_pos h3,if_pos h3];exact⟨rfl,r⟩
 rw[if_neg h3,if_neg h3,r.office]
 by_cases h4:inOffice s k=true
 ·rw[if_pos h4,if_pos h4];exact⟨rfl,r⟩
 rw[if_neg h4,if_neg h4,r.nmem]
 by_cases h5:MEMBERS<=(serving s).length
 ·rw[if_pos h5,if_pos h5];exact⟨rfl,r⟩
 rw[if_neg h5,if_neg h5]
 have hk:1<=k:=(DZ.mp (by simpa using h1)).1
 have hno:∀x∈serving s,x.key≠k:=λx hx e=>by
  rw[eU r.mnd] at h4
  exact h4 (List.any_eq_true.mpr ⟨x,hx,beq_iff_eq.mpr e⟩)
 have ef:(serving s).filter (λx=>x.key != k)=serving s:=List.filter_eq_self.mpr λx hx=>by
  rw[bne_iff_ne];exact hno x hx
 rw[ef]
 have ss:(serving s).Pairwise λa b=>a.key<b.key:=r.msort.sublist List.filter_sublist
 have sv:∀p c q,serving { today:=s.today,members:=putMember ⟨k,u⟩ (serving s),president:=p,cases:=c,rulings:=q }=putMember ⟨k,u⟩ (serving s):=λp c q=>by
  refine List.filter_eq_self.mpr λx hx=>?_
  rcases List.mem_cons.mp ((hZ _ _).mem_iff.mp hx) with rfl | hx
  ·exact decide_eq_true (by show s.today<=u;omega)
  ·exact(List.mem_filter.mp hx).2
 have srt:=tY (x:=⟨k,u⟩) ss hno
 refine⟨rfl,rfl,?_,srt,?_,?_,r.cas,r.cnd,r.csort,r.rul⟩
 ·rw[sv]
  exact(List.perm_append_singleton _ _).trans ((r.mem.cons _).trans (hZ _ _).symm)
 ·intro x hx
  rcases List.mem_cons.mp ((hZ _ _).mem_iff.mp hx) with rfl | hx
  ·exact hk
  ·exact r.mkey x (List.mem_filter.mp hx).1
 ·show m.president=if inOffice { today:=s.today,members:=putMember ⟨k,u⟩ (serving s),president:=if s.president=k then 0 else s.president,cases:=s.cases,rulings:=s.rulings } (if s.president=k then 0 else s.president)=true then(if s.president=k then 0 else s.president) else 0
  rw[eU (JW srt),sv,YU (hZ _ _),List.any_cons]
  rw[r.pres]
  by_cases e:s.president=k
  ·rw[if_pos e,e,if_neg h4]
   split <;> rfl
  ·rw[if_neg e]
   have:((Member.mk k u).key==s.president)=false:=beq_eq_false_iff_ne.mpr λq=>e q.symm
   rw[this,Bool.false_or,<-eU r.mnd]
theorem R.leave(r:R m s)(k:Int):(step m (.leave k)).2=(step s (.leave k)).2/\R (step m (.leave k)).1 (step s (.leave k)).1:=by
 rw[step_leave,step_leave,r.officeM]
 by_cases h1:inOffice s k=false
 ·rw[if_pos h1,if_pos h1];exact⟨rfl,r⟩
 rw[if_neg h1,if_neg h1]
 have srt:(s.members.filter λx=>x.key != k).Pairwise λa b=>a.key<b.key:=r.msort.sublist List.filter_sublist
 refine⟨rfl,r.today,?_,srt,λx hx=>r.mkey x (List.mem_filter.mp hx).1,?_,r.cas,r.cnd,r.csort,r.rul⟩
 ·rw[HX]
  exact r.mem.filter _
 ·show(if m.president=k then 0 else m.president)=if inOffice { s with members:=s.members.filter (λx=>x.key != k),president:=if s.president=k then 0 else s.president } (if s.president=k then 0 else s.president)=true then(if s.president=k then 0 else s.president) else 0
  have oo:∀j,inOffice { s with members:=s.members.filter (λx=>x.key != k),president:=if s.president=k then 0 else s.president } j=((serving s).filter λx=>x.key != k).any λx=>x.key==j:=λj=>by
   rw[eU (JW srt),HX]
  rw[oo,r.pres]
  have ne:∀j,j≠k->(((serving s).filter λx=>x.key != k).any λx=>x.key==j)=inOffice s j:=λj hj=>by
   rw[eU r.mnd,List.any_filter,Bool.eq_iff_iff,List.any_eq_true,List.any_eq_true]
   constructor
   ·rintro⟨x,h1,h2⟩
    rw[Bool.and_eq_true] at h2
    exact⟨x,h1,h2.2⟩
   ·rintro⟨x,h1,h2⟩
    refine⟨x,h1,?_⟩
    rw[Bool.and_eq_true]
    refine⟨?_,h2⟩
    rw[bne_iff_ne]
    rw[beq_iff_eq] at h2
    rw[h2]
    exact hj
  by_cases e:s.president=k
  ·rw[e,if_pos (show k=k from rfl),if_pos (show inOffice s k=true by simpa using h1),if_pos (show k=k from rfl)]
   split <;> rfl
  ·rw[if_neg e,ne _ e]
   by_cases h:inOffice s s.president=true
   ·rw[if_pos h,if_neg e]
   ·rw[if_neg h]
    split <;> rfl
theorem R.preside(r:R m s)(k:Int):(step m (.preside k)).2=(step s (.preside k)).2/\R (step m (.preside k)).1 (step s (.preside k)).1:=by
 rw[step_preside,step_preside,r.officeM]
 by_cases h1:inOffice s k=false
 ·rw[if_pos h1,if_pos h1];exact⟨rfl,r⟩
 rw[if_neg h1,if_neg h1]
 refine⟨rfl,r.today,r.mem,r.msort,r.mkey,?_,r.cas,r.cnd,r.csort,r.rul⟩
 show k=if inOffice { s with president:=k } k=true then k else 0
 have:inOffice { s with president:=k } k=inOffice s k:=rfl
 rw[this,if_pos (by simpa using h1)]
theorem R.petition(r:R m s)(k:Int)(t:Text):(petitionM m k t).2=(step s (.petition k t)).2/\R (petitionM m k t).1 (step s (.petition k t)).1:=by
 rw[aoV]
 unfold petitionM
 by_cases h1:keyOk k=false
 ·rw[if_pos h1,if_pos h1];exact⟨rfl,r⟩
 rw[if_neg h1,if_neg h1]
 cases Vbnlal.read t with
 |error e=>exact⟨rfl,r⟩
 |ok es=>
  show(if(Vbnlal.caseOf m k).isSome=true then(m,[-5]) else if targetsOk m es=false then(m,[-6]) else if CASES<=m.cases.length then(m,[-8])
   else({ m with cases:=m.cases++[{ key:=k,effects:=es,opened:=m.today,last:=m.today }] },[(es.length:Int)])).2=(if(Vbnlal.caseOf s k).isSome=true then(s,[-5]) else if targetsOk s es=false then(s,[-6]) else if CASES<=s.cases.length then(s,[-8])
   else({ s with cases:=putCase { key:=k,effects:=es,opened:=s.today,last:=s.today } s.cases },[(es.length:Int)])).2/\R (if(Vbnlal.caseOf m k).isSome=true then(m,[-5]) else if targetsOk m es=false then(m,[-6]) else if CASES<=m.cases.length then(m,[-8])
   else({ m with cases:=m.cases++[{ key:=k,effects:=es,opened:=m.today,last:=m.today }] },[(es.length:Int)])).1 (if(Vbnlal.caseOf s k).isSome=true then(s,[-5]) else if targetsOk s es=false then(s,[-6]) else if CASES<=s.cases.length then(s,[-8])
   else({ s with cases:=putCase { key:=k,effects:=es,opened:=s.today,last:=s.today } s.cases },[(es.length:Int)])).1
  rw[r.targets,r.ncases,r.caseOf]
  by_cases h2:(Vbnlal.caseOf s k).isSome=true
  ·rw[if_pos h2,if_pos h2];exact⟨rfl,r⟩
  rw[if_neg h2,if_neg h2]
  by_cases h3:targetsOk s es=false
  ·rw[if_pos h3,if_pos h3];exact⟨rfl,r⟩
  rw[if_neg h3,if_neg h3]
  by_cases h4:CASES<=s.cases.length
  ·rw[if_pos h4,if_pos h4];exact⟨rfl,r⟩
  rw[if_neg h4,if_neg h4,r.today]
  have hn:∀c∈s.cases,c.key≠k:=vZ (by simpa using h2)
  refine⟨rfl,rfl,r.mem,r.msort,r.mkey,r.pres,?_,?_,OZ r.csort hn,r.rul⟩
  ·exact(List.perm_append_singleton _ _).trans ((r.cas.cons _).trans (AX _ _).symm)
  ·show((m.cases++[_]).map _).Nodup
   rw[List.map_append]
   refine List.nodup_append.mpr ⟨r.cnd,by simp,?_⟩
   intro a ha b hb e
   obtain⟨c,hc,rfl⟩:=List.mem_map.mp ha
   have:b=k:=by simpa using hb
   exact hn c (r.cas.mem_iff.mp hc) (e.trans this)
theorem iW(s:State)(k:Int):step s (.withdraw k)=match Vbnlal.caseOf s k with
  |none=>(s,[-6])
  |some c=>if c.phase=1\/c.phase=3 then(Vbnlal.setCase s { c with phase:=7 },[0]) else(s,[-13]):=rfl
theorem jX(s:State)(k:Int):step s (.comment k)=match Vbnlal.caseOf s k with
  |none=>(s,[-6])
  |some c=>if c.phase≠1 then(s,[-13]) else if COMMENTS<=c.comments then(s,[-8])
   else(Vbnlal.setCase s { c with comments:=c.comments+1,last:=s.today },[c.comments+1]):=rfl
theorem iX(s:State)(k:Int):step s (.openVote k)=match Vbnlal.caseOf s k with
  |none=>(s,[-6])
  |some c=>if c.phase≠1/\c.phase≠3 then(s,[-13])
   else if c.phase=1/\(s.today<c.opened+WAIT\/(0<c.comments/\s.today<c.last+AFTER)) then(s,[-14])
   else(Vbnlal.setCase s { c with phase:=c.phase+1,closing:=s.today+VOTE,ballots:=[] },[s.today+VOTE]):=rfl
theorem lK(s:State)(k m v:Int):step s (.ballot k m v)=match Vbnlal.caseOf s k with
  |none=>(s,[-6])
  |some c=>if voting c=false then(s,[-13]) else if c.closing<s.today then(s,[-14]) else if inOffice s m=false then(s,[-6])
   else if within v 1 3=false then(s,[-9]) else if c.ballots.any (λb=>b.1==m)=true then(s,[-5])
   else(Vbnlal.setCase s { c with ballots:=c.ballots++[(m,v)] },[0]):=rfl
theorem mU(s:State)(k:Int):step s (.close k)=match Vbnlal.caseOf s k with
  |none=>(s,[-6])
  |some c=>if voting c=false then(s,[-13]) else if s.today<=c.closing/\Vbnlal.allVoted s c=false then(s,[-14])
   else(Vbnlal.setCase s { c with phase:=Vbnlal.outcome s c },[Vbnlal.outcome s c]):=rfl
theorem jY(s:State)(k:Int):step s (.publish k)=match Vbnlal.caseOf s k with
  |none=>(s,[-6])
  |some c=>if c.phase≠5 then(s,[-13]) else
   ({ Vbnlal.setCase s { c with phase:=8,published:=s.today } with rulings:=s.rulings++[k] },[((s.rulings.length:Int)+1)]):=rfl
def Both(a b:State×Ans):Prop:=a.2=b.2/\R a.1 b.1
theorem Both.ite{c:Prop}[Decidable c]{a b a' b':State×Ans}(h1:c->Both a a')(h2:¬c->Both b b'):Both (if c then a else b) (if c then a' else b'):=by
 by_cases h:c
 ·rw[if_pos h,if_pos h];exact h1 h
 ·rw[if_neg h,if_neg h];exact h2 h
theorem R.stay(r:R m s)(a:Ans):Both (m,a) (s,a):=⟨rfl,r⟩
theorem R.byCase(r:R m s)(k:Int){f:State->Case->State×Ans}(h:∀c,Vbnlal.caseOf s k=some c->Both (f m c) (f s c)) :
  Both (match Vbnlal.caseOf m k with | none=>(m,[-6]) | some c=>f m c) (match Vbnlal.caseOf s k with | none=>(s,[-6]) | some c=>f s c):=by
 rw[r.caseOf]
 cases e:Vbnlal.caseOf s k with
 |none=>exact r.stay _
 |some c=>exact h c e
theorem R.withdraw(r:R m s)(k:Int):Both (step m (.withdraw k)) (step s (.withdraw k)):=by
 rw[iW,iW]
 refine r.byCase k (f:=λs c=>if c.phase=1\/c.phase=3 then(Vbnlal.setCase s { c with phase:=7 },[0]) else(s,[-13])) λc _=>?_
 exact .ite (λ_=>⟨rfl,r.setCase _⟩) λ_=>r.stay _
theorem R.comment(r:R m s)(k:Int):Both (step m (.comment k)) (step s (.comment k)):=by
 rw[jX,jX]
 refine r.byCase k (f:=λs c=>if c.phase≠1 then(s,[-13]) else if COMMENTS<=c.comments then(s,[-8])
   else(Vbnlal.setCase s { c with comments:=c.comments+1,last:=s.today },[c.comments+1])) λc _=>?_
 refine .ite (λ_=>r.stay _) λ_=>.ite (λ_=>r.stay _) λ_=>?_
 rw[r.today]
 exact⟨rfl,r.setCase _⟩
theorem R.openVote(r:R m s)(k:Int):Both (step m (.openVote k)) (step s (.openVote k)):=by
 rw[iX,iX]
 refine r.byCase k (f:=λs c=>if c.phase≠1/\c.phase≠3 then(s,[-13])
   else if c.phase=1/\(s.today<c.opened+WAIT\/(0<c.comments/\s.today<c.last+AFTER)) then(s,[-14])
   else(Vbnlal.setCase s { c with phase:=c.phase+1,closing:=s.today+VOTE,ballots:=[] },[s.today+VOTE])) λc _=>?_
 rw[r.today]
 exact .ite (λ_=>r.stay _) λ_=>.ite (λ_=>r.stay _) λ_=>⟨rfl,r.setCase _⟩
theorem R.ballot(r:R m s)(k x v:Int):Both (step m (.ballot k x v)) (step s (.ballot k x v)):=by
 rw[lK,lK]
 refine r.byCase k (f:=λs c=>if voting c=false then(s,[-13]) else if c.closing<s.today then(s,[-14]) else if inOffice s x=false then(s,[-6])
   else if within v 1 3=false then(s,[-9]) else if c.ballots.any (λb=>b.1==x)=true then(s,[-5])
   else(Vbnlal.setCase s { c with ballots:=c.ballots++[(x,v)] },[0])) λc _=>?_
 rw[r.today,r.officeM]
 exact .ite (λ_=>r.stay _) λ_=>.ite (λ_=>r.stay _) λ_=>.ite (λ_=>r.stay _) λ_=>.ite (λ_=>r.stay _) λ_=>.ite (λ_=>r.stay _) λ_=>⟨rfl,r.setCase _⟩
theorem R.close(r:R m s)(k:Int):Both (step m (.close k)) (step s (.close k)):=by
 rw[mU,mU]
 refine r.byCase k (f:=λs c=>if voting c=false then(s,[-13]) else if s.today<=c.closing/\Vbnlal.allVoted s c=false then(s,[-14])
   else(Vbnlal.setCase s { c with phase:=Vbnlal.outcome s c },[Vbnlal.outcome s c])) λc _=>?_
 rw[r.today,r.allVoted,r.outcome]
 exact .ite (λ_=>r.stay _) λ_=>.ite (λ_=>r.stay _) λ_=>⟨rfl,r.setCase _⟩
theorem R.publish(r:R m s)(k:Int):Both (step m (.publish k)) (step s (.publish k)):=by
 rw[jY,jY]
 refine r.byCase k (f:=λs c=>if c.phase≠5 then(s,[-13]) else
   ({ Vbnlal.setCase s { c with phase:=8,published:=s.today } with rulings:=s.rulings++[k] },[((s.rulings.length:Int)+1)])) λc _=>?_
 rw[r.today,r.rul]
 refine .ite (λ_=>r.stay _) λ_=>⟨rfl,?_⟩
 have q:=r.setCase { c with phase:=8,published:=s.today }
 exact⟨q.today,q.mem,q.msort,q.mkey,q.pres,q.cas,q.cnd,q.csort,rfl⟩
theorem R.asks(r:R m s)(d k:Int)(a:Ans):Both (askRuling m d k a) (askRuling s d k a):=by
 unfold askRuling
 rw[r.rulingsBy]
 exact .ite (λ_=>r.stay _) λ_=>.ite (λ_=>r.stay _) λ_=>r.stay _
theorem R.forceAt(r:R m s)(d:Int):forceAt m d=forceAt s d:=by unfold Vbnlal.forceAt;rw[r.rulingsBy]
theorem R.effectsAt(r:R m s)(d:Int):effectsAt m d=effectsAt s d:=by unfold Vbnlal.effectsAt;rw[r.forceAt]
theorem R.lastEffect(r:R m s)(d:Int)(p:Effect->Bool):lastEffect m d p=lastEffect s d p:=by unfold Vbnlal.lastEffect;rw[r.effectsAt]
theorem R.statusOf(r:R m s)(d a:Int):statusOf m d a=statusOf s d a:=by unfold Vbnlal.statusOf;rw[r.lastEffect]
theorem R.overOf(r:R m s)(d a b:Int):overOf m d a b=overOf s d a b:=by unfold Vbnlal.overOf;rw[r.lastEffect]
theorem R.typeOf(r:R m s)(d a:Int):typeOf m d a=typeOf s d a:=by unfold Vbnlal.typeOf;rw[r.lastEffect]
theorem R.rejectedBy(r:R m s)(d a:Int):rejectedBy m d a=rejectedBy s d a:=by unfold Vbnlal.rejectedBy;rw[r.lastEffect]
theorem R.indexAt(r:R m s)(d:Int):indexAt m d=indexAt s d:=by
 unfold Vbnlal.indexAt
 rw[r.effectsAt]
 congr 1
 funext a
 rw[r.statusOf]
theorem R.edgesAt(r:R m s)(d:Int):edgesAt m d=edgesAt s d:=by unfold Vbnlal.edgesAt;rw[r.effectsAt]
theorem R.because(r:R m s)(d k:Int):because m d k=because s d k:=by unfold Vbnlal.because;rw[r.rulingsBy]
theorem R.check(r:R m s)(d k v:Int)(l:List (Int×Int)):check m d k v l=check s d k v l:=by unfold Vbnlal.check;rw[r.rulingsBy]
theorem R.same(r:R m s):∀c:Call,(match c with | .day _=>False | .seat _ _=>False | .petition _ _=>False | .office=>False | .stays _=>False | _=>True)->Both (step m c) (step s c)
 |.leave k,_=>r.leave k
 |.preside k,_=>r.preside k
 |.withdraw k,_=>r.withdraw k
 |.comment k,_=>r.comment k
 |.openVote k,_=>r.openVote k
 |.ballot k x v,_=>r.ballot k x v
 |.close k,_=>r.close k
 |.publish k,_=>r.publish k
 |.read t,_=>by
  show Both (match Vbnlal.read t with | .error r=>(m,[r]) | .ok es=>(m,(es.length:Int)::es.flatMap λe=>[e.kind,e.a,e.b])) (match Vbnlal.read t with | .error r=>(s,[r]) | .ok es=>(s,(es.length:Int)::es.flatMap λe=>[e.kind,e.a,e.b]))
  cases Vbnlal.read t with
  |error e=>exact r.stay _
  |ok es=>exact r.stay _
 |.show_ k,_=>r.byCase k (f:=λs c=>(s,0::written c.effects)) λ_ _=>r.stay _
 |.phase k,_=>r.byCase k (f:=λs c=>(s,[c.phase,c.opened,c.comments,c.last,c.closing,c.published])) λ_ _=>r.stay _
 |.tally k,_=>r.byCase k (f:=λs c=>(s,[0,votes c 1,votes c 2,votes c 3])) λ_ _=>r.stay _
 |.rulings d,_=>by
  show Both (if dayOk d=false then(m,[-9]) else(m,0::(Vbnlal.rulingsBy m d).flatMap λc=>[c.key,truth ((kernel (Vbnlal.rulingsBy m d)).contains c.key)])) (if dayOk d=false then(s,[-9]) else(s,0::(Vbnlal.rulingsBy s d).flatMap λc=>[c.key,truth ((kernel (Vbnlal.rulingsBy s d)).contains c.key)]))
  rw[r.rulingsBy]
  exact .ite (λ_=>r.stay _) λ_=>r.stay _
 |.inForce d k,_=>by
  show Both (askRuling m d k [truth ((kernel (Vbnlal.rulingsBy m d)).contains k)]) (askRuling s d k [truth ((kernel (Vbnlal.rulingsBy s d)).contains k)])
  rw[r.rulingsBy]
  exact r.asks d k _
 |.because d k,_=>by
  show Both (askRuling m d k (0::(Vbnlal.because m d k).flatMap λp=>[p.1,p.2])) (askRuling s d k (0::(Vbnlal.because s d k).flatMap λp=>[p.1,p.2]))
  rw[r.because]
  exact r.asks d k _
 |.check d k v l,_=>by
  show Both (askRuling m d k [truth (l.length % 2==0&&Vbnlal.check m d k v (ballotsOf l))]) (askRuling s d k [truth (l.length % 2==0&&Vbnlal.check s d k v (ballotsOf l))])
  rw[r.check]
  exact r.asks d k _
 |.status d a,_=>by
  show Both (if dayOk d=false then(m,[-9]) else(m,[0,(Vbnlal.statusOf m d a).1,(Vbnlal.statusOf m d a).2])) (if dayOk d=false then(s,[-9]) else(s,[0,(Vbnlal.statusOf s d a).1,(Vbnlal.statusOf s d a).2]))
  rw[r.statusOf]
  exact .ite (λ_=>r.stay _) λ_=>r.stay _
 |.over d a b,_=>by
  show Both (if dayOk d=false then(m,[-9]) else if a=b then(m,[-10]) else(m,[0,(Vbnlal.overOf m d a b).1,(Vbnlal.overOf m d a b).2])) (if dayOk d=false then(s,[-9]) else if a=b then(s,[-10]) else(s,[0,(Vbnlal.overOf s d a b).1,(Vbnlal.overOf s d a b).2]))
  rw[r.overOf]
  exact .ite (λ_=>r.stay _) λ_=>.ite (λ_=>r.stay _) λ_=>r.stay _
 |.typeAt d a,_=>by
  show Both (if dayOk d=false then(m,[-9]) else(m,[0,(Vbnlal.typeOf m d a).1,(Vbnlal.typeOf m d a).2])) (if dayOk d=false then(s,[-9]) else(s,[0,(Vbnlal.typeOf s d a).1,(Vbnlal.typeOf s d a).2]))
  rw[r.typeOf]
  exact .ite (λ_=>r.stay _) λ_=>r.stay _
 |.rejected d a,_=>by
  show Both (if dayOk d=false then(m,[-9]) else(m,[0,Vbnlal.rejectedBy m d a])) (if dayOk d=false then(s,[-9]) else(s,[0,Vbnlal.rejectedBy s d a]))
  rw[r.rejectedBy]
  exact .ite (λ_=>r.stay _) λ_=>r.stay _
 |.index d,_=>by
  show Both (if dayOk d=false then(m,[-9]) else(m,0::(Vbnlal.indexAt m d).flatMap λa=>[a,(Vbnlal.statusOf m d a).1,(Vbnlal.statusOf m d a).2])) (if dayOk d=false then(s,[-9]) else(s,0::(Vbnlal.indexAt s d).flatMap λa=>[a,(Vbnlal.statusOf s d a).1,(Vbnlal.statusOf s d a).2]))
  rw[r.indexAt]
  have e:(λa=>[a,(Vbnlal.statusOf m d a).1,(Vbnlal.statusOf m d a).2])=λa=>[a,(Vbnlal.statusOf s d a).1,(Vbnlal.statusOf s d a).2]:=by
   funext a
   rw[r.statusOf]
  rw[e]
  exact .ite (λ_=>r.stay _) λ_=>r.stay _
 |.conserved d,_=>by
  show Both (if dayOk d=false then(m,[-9]) else(m,0::(Vbnlal.edgesAt m d).flatMap λx=>[x.1.a,x.1.b,x.2])) (if dayOk d=false then(s,[-9]) else(s,0::(Vbnlal.edgesAt s d).flatMap λx=>[x.1.a,x.1.b,x.2]))
  rw[r.edgesAt]
  exact .ite (λ_=>r.stay _) λ_=>r.stay _
theorem R.officeA(r:R m s){l:List Member}(p:l.Perm m.members)(h:l.Pairwise λa b=>a.key<b.key):(0::m.president::l.flatMap λx=>[x.key,x.until_])=(step s .office).2:=by
 have e:l=serving s:=OY h (r.msort.sublist List.filter_sublist) (p.trans r.mem)
 show _=0::(if inOffice s s.president=true then s.president else 0)::(serving s).flatMap λm=>[m.key,m.until_]
 rw[e,r.pres]
theorem R.staysA(r:R m s){l:List Int}(n:Int)(p:l.Perm ((m.cases.filter λc=>decide (c.phase<=5)&&speaks c n).map (·.key)))(h:l.Pairwise (· < ·)):(0::l)=(step s (.stays n)).2:=by
 show _=0::Vbnlal.stays s n
 unfold Vbnlal.stays
 congr 1
 refine OY (f:=id) h ?_ (p.trans ((r.cas.filter _).map _))
 exact List.pairwise_map.mpr (r.csort.sublist List.filter_sublist)
end
theorem R_start:R start start:=⟨rfl,.refl _,.nil,(λx h=>by cases h),rfl,.refl _,.nil,.nil,rfl⟩
def enc:Call->List Int
 |.day d=>[0,d]
 |.seat a b=>[1,a,b]
 |.leave d=>[2,d]
 |.preside d=>[3,d]
 |.petition d t=>4::d::(t.length:Int)::t
 |.withdraw d=>[5,d]
 |.comment d=>[6,d]
 |.openVote d=>[7,d]
 |.ballot a b c=>[8,a,b,c]
 |.close d=>[9,d]
 |.publish d=>[10,d]
 |.read t=>11::(t.length:Int)::t
 |.show_ d=>[12,d]
 |.phase d=>[13,d]
 |.tally d=>[14,d]
 |.office=>[15]
 |.rulings d=>[16,d]
 |.inForce a b=>[17,a,b]
 |.because a b=>[18,a,b]
 |.check a b c t=>19::a::b::c::(t.length:Int)::t
 |.status a b=>[20,a,b]
 |.over a b c=>[21,a,b,c]
 |.typeAt a b=>[22,a,b]
 |.rejected a b=>[23,a,b]
 |.index d=>[24,d]
 |.conserved d=>[25,d]
 |.stays d=>[26,d]
def rowsOf:Call->List (List Int)
 |.day d=>[[0,d]]
 |.seat a b=>[[1,a,b]]
 |.leave d=>[[2,d]]
 |.preside d=>[[3,d]]
 |.petition d t=>[[4,d],t]
 |.withdraw d=>[[5,d]]
 |.comment d=>[[6,d]]
 |.openVote d=>[[7,d]]
 |.ballot a b c=>[[8,a,b,c]]
 |.close d=>[[9,d]]
 |.publish d=>[[10,d]]
 |.read t=>[[11],t]
 |.show_ d=>[[12,d]]
 |.phase d=>[[13,d]]
 |.tally d=>[[14,d]]
 |.office=>[[15]]
 |.rulings d=>[[16,d]]
 |.inForce a b=>[[17,a,b]]
 |.because a b=>[[18,a,b]]
 |.check a b c t=>[[19,a,b,c],t]
 |.status a b=>[[20,a,b]]
 |.over a b c=>[[21,a,b,c]]
 |.typeAt a b=>[[22,a,b]]
 |.rejected a b=>[[23,a,b]]
 |.index d=>[[24,d]]
 |.conserved d=>[[25,d]]
 |.stays d=>[[26,d]]
theorem aAQ:∀x:Call,VbnlalNeutral.callOf (rowsOf x)=some x:=by
 intro x
 cases x <;> rfl
theorem aHX:∀x:Call,VbnlalNeutral.asked1 (rowsOf x)=askedOne x:=by
 intro x
 cases x <;> rfl
theorem aHY:∀x:Call,PyVbnlal.whole (rowsOf x)=rowsOf x:=by
 intro x
 cases x <;> rfl
section
variable{p:Int}{r t:List Int}{c:List (List Int)}
abbrev CallIs(p:Int)(r:List Int)(c:List (List Int))(t:List Int):Prop:=PyFlat.call PyVbnlal.shape (p::r)=some (c,t)
theorem beV{r x s:List Int}(h:PyFlat.row r=some (x,s)):r=(x.length:Int)::(x++s):=by
 cases r with
 |nil=>cases h
 |cons n r=>
  unfold PyFlat.row at h
  dsimp only at h
  by_cases hn:0<=n/\n.toNat<=r.length
  ·rw[if_pos hn] at h
   cases h
   rw[List.take_append_drop,List.length_take,Nat.min_eq_left hn.2,Int.toNat_of_nonneg hn.1]
  ·rw[if_neg hn] at h;cases h
theorem JX{r s:List Int}{xs:List (List Int)}(h:PyFlat.rows 0 r=some (xs,s)):xs=[]/\s=r:=by
 cases h;exact⟨rfl,rfl⟩
theorem YV{r s:List Int}{xs:List (List Int)}(h:PyFlat.rows 1 r=some (xs,s)):∃x,xs=[x]/\r=(x.length:Int)::(x++s):=by
 unfold PyFlat.rows at h
 cases e:PyFlat.row r with
 |none=>rw[e] at h;cases h
 |some q=>
  obtain⟨x,s'⟩:=q
  rw[e] at h
  cases h
  exact⟨x,rfl,beV e⟩
theorem tZ{n k:Nat}(h:CallIs p r c t)(hs:PyVbnlal.shape p=some (n,k)):n<=r.length/\∃xs,PyFlat.rows k (r.drop n)=some (xs,t)/\c=(p::r.take n)::xs:=by
 unfold CallIs PyFlat.call at h
 dsimp only at h
 rw[hs] at h
 dsimp only at h
 by_cases hl:r.length<n
 ·rw[if_pos hl] at h;cases h
 ·rw[if_neg hl] at h
  cases e:PyFlat.rows k (r.drop n) with
  |none=>rw[e] at h;cases h
  |some q=>
   obtain⟨xs,s⟩:=q
   rw[e] at h
   cases h
   exact⟨by omega,xs,rfl,rfl⟩
theorem aZX(h:CallIs p r c t)(hs:PyVbnlal.shape p=some (0,0)):c=[[p]]/\r=t:=by
 obtain⟨h1,xs,h2,rfl⟩:=tZ h hs
 obtain⟨rfl,rfl⟩:=JX h2
 exact⟨rfl,rfl⟩
theorem iJ(h:CallIs p r c t)(hs:PyVbnlal.shape p=some (1,0)):∃a,c=[[p,a]]/\r=a::t:=by
 obtain⟨h1,xs,h2,rfl⟩:=tZ h hs
 obtain⟨rfl,rfl⟩:=JX h2
 match r,h1 with
 |a::r,_=>exact⟨a,rfl,rfl⟩
theorem AQ(h:CallIs p r c t)(hs:PyVbnlal.shape p=some (2,0)):∃a b,c=[[p,a,b]]/\r=a::b::t:=by
 obtain⟨h1,xs,h2,rfl⟩:=tZ h hs
 obtain⟨rfl,rfl⟩:=JX h2
 match r,h1 with
 |a::b::r,_=>exact⟨a,b,rfl,rfl⟩
theorem aFU(h:CallIs p r c t)(hs:PyVbnlal.shape p=some (3,0)):∃a b d,c=[[p,a,b,d]]/\r=a::b::d::t:=by
 obtain⟨h1,xs,h2,rfl⟩:=tZ h hs
 obtain⟨rfl,rfl⟩:=JX h2
 match r,h1 with
 |a::b::d::r,_=>exact⟨a,b,d,rfl,rfl⟩
theorem aZY(h:CallIs p r c t)(hs:PyVbnlal.shape p=some (0,1)):∃x:List Int,c=[[p],x]/\r=(x.length:Int)::(x++t):=by
 obtain⟨h1,xs,h2,rfl⟩:=tZ h hs
 obtain⟨x,rfl,e⟩:=YV h2
 exact⟨x,rfl,e⟩
theorem aZZ(h:CallIs p r c t)(hs:PyVbnlal.shape p=some (1,1)):∃(a:Int)(x:List Int),c=[[p,a],x]/\r=a::(x.length:Int)::(x++t):=by
 obtain⟨h1,xs,h2,rfl⟩:=tZ h hs
 obtain⟨x,rfl,e⟩:=YV h2
 match r,h1,e with
 |a::r,_,e=>exact⟨a,x,rfl,congrArg (a :: ·) e⟩
theorem baJ(h:CallIs p r c t)(hs:PyVbnlal.shape p=some (3,1)):∃(a b d:Int)(x:List Int),c=[[p,a,b,d],x]/\r=a::b::d::(x.length:Int)::(x++t):=by
 obtain⟨h1,xs,h2,rfl⟩:=tZ h hs
 obtain⟨x,rfl,e⟩:=YV h2
 match r,h1,e with
 |a::b::d::r,_,e=>exact⟨a,b,d,x,rfl,congrArg (λz=>a::b::d::z) e⟩
theorem aHZ{p:Int}(h:p<0\/26<p):PyVbnlal.shape p=none:=by
 unfold PyVbnlal.shape
 rw[if_neg (show ¬p=0 by omega),if_neg (show ¬p=1 by omega),if_neg (show ¬p=2 by omega),if_neg (show ¬p=3 by omega),if_neg (show ¬p=4 by omega),if_neg (show ¬p=5 by omega),if_neg (show ¬p=6 by omega),if_neg (show ¬p=7 by omega),if_neg (show ¬p=8 by omega),if_neg (show ¬p=9 by omega),if_neg (show ¬p=10 by omega),if_neg (show ¬p=11 by omega),if_neg (show ¬p=12 by omega),if_neg (show ¬p=13 by omega),if_neg (show ¬p=14 by omega),if_neg (show ¬p=15 by omega),if_neg (show ¬p=16 by omega),if_neg (show ¬p=17 by omega),if_neg (show ¬p=18 by omega),if_neg (show ¬p=19 by omega),if_neg (show ¬p=20 by omega),if_neg (show ¬p=21 by omega),if_neg (show ¬p=22 by omega),if_neg (show ¬p=23 by omega),if_neg (show ¬p=24 by omega),if_neg (show ¬p=25 by omega),if_neg (show ¬p=26 by omega)]
theorem aTY(h:CallIs p r c t):∃x:Call,p::r=enc x++t/\c=rowsOf x:=by
 by_cases hp:p<0\/26<p
 ·have:PyFlat.call PyVbnlal.shape (p::r)=none:=by
   unfold PyFlat.call
   dsimp only
   rw[aHZ hp]
  rw[CallIs,this] at h
  cases h
 by_cases h0:p=0
 ·subst h0
  obtain⟨d,rfl,rfl⟩:=iJ h rfl
  exact⟨.day d,rfl,rfl⟩
 by_cases h1:p=1
 ·subst h1
  obtain⟨a,b,rfl,rfl⟩:=AQ h rfl
  exact⟨.seat a b,rfl,rfl⟩
 by_cases h2:p=2
 ·subst h2
  obtain⟨d,rfl,rfl⟩:=iJ h rfl
  exact⟨.leave d,rfl,rfl⟩
 by_cases h3:p=3
 ·subst h3
  obtain⟨d,rfl,rfl⟩:=iJ h rfl
  exact⟨.preside d,rfl,rfl⟩
 by_cases h4:p=4
 ·subst h4
  obtain⟨d,x,rfl,rfl⟩:=aZZ h rfl
  exact⟨.petition d x,rfl,rfl⟩
 by_cases h5:p=5
 ·subst h5
  obtain⟨d,rfl,rfl⟩:=iJ h rfl
  exact⟨.withdraw d,rfl,rfl⟩
 by_cases h6:p=6
 ·subst h6
  obtain⟨d,rfl,rfl⟩:=iJ h rfl
  exact⟨.comment d,rfl,rfl⟩
 by_cases h7:p=7
 ·subst h7
  obtain⟨d,rfl,rfl⟩:=iJ h rfl
  exact⟨.openVote d,rfl,rfl⟩
 by_cases h8:p=8
 ·subst h8
  obtain⟨a,b,c,rfl,rfl⟩:=aFU h rfl
  exact⟨.ballot a b c,rfl,rfl⟩
 by_cases h9:p=9
 ·subst h9
  obtain⟨d,rfl,rfl⟩:=iJ h rfl
  exact⟨.close d,rfl,rfl⟩
 by_cases h10:p=10
 ·subst h10
  obtain⟨d,rfl,rfl⟩:=iJ h rfl
  exact⟨.publish d,rfl,rfl⟩
 by_cases h11:p=11
 ·subst h11
  obtain⟨x,rfl,rfl⟩:=aZY h rfl
  exact⟨.read x,rfl,rfl⟩
 by_cases h12:p=12
 ·subst h12
  obtain⟨d,rfl,rfl⟩:=iJ h rfl
  exact⟨.show_ d,rfl,rfl⟩
 by_cases h13:p=13
 ·subst h13
  obtain⟨d,rfl,rfl⟩:=iJ h rfl
  exact⟨.phase d,rfl,rfl⟩
 by_cases h14:p=14
 ·subst h14
  obtain⟨d,rfl,rfl⟩:=iJ h rfl
  exact⟨.tally d,rfl,rfl⟩
 by_cases h15:p=15
 ·subst h15
  obtain⟨rfl,rfl⟩:=aZX h rfl
  exact⟨.office,rfl,rfl⟩
 by_cases h16:p=16
 ·subst h16
  obtain⟨d,rfl,rfl⟩:=iJ h rfl
  exact⟨.rulings d,rfl,rfl⟩
 by_cases h17:p=17
 ·subst h17
  obtain⟨a,b,rfl,rfl⟩:=AQ h rfl
  exact⟨.inForce a b,rfl,rfl⟩
 by_cases h18:p=18
 ·subst h18
  obtain⟨a,b,rfl,rfl⟩:=AQ h rfl
  exact⟨.because a b,rfl,rfl⟩
 by_cases h19:p=19
 ·subst h19
  obtain⟨a,b,c,x,rfl,rfl⟩:=baJ h rfl
  exact⟨.check a b c x,rfl,rfl⟩
 by_cases h20:p=20
 ·subst h20
  obtain⟨a,b,rfl,rfl⟩:=AQ h rfl
  exact⟨.status a b,rfl,rfl⟩
 by_cases h21:p=21
 ·subst h21
  obtain⟨a,b,c,rfl,rfl⟩:=aFU h rfl
  exact⟨.over a b c,rfl,rfl⟩
 by_cases h22:p=22
 ·subst h22
  obtain⟨a,b,rfl,rfl⟩:=AQ h rfl
  exact⟨.typeAt a b,rfl,rfl⟩
 by_cases h23:p=23
 ·subst h23
  obtain⟨a,b,rfl,rfl⟩:=AQ h rfl
  exact⟨.rejected a b,rfl,rfl⟩
 by_cases h24:p=24
 ·subst h24
  obtain⟨d,rfl,rfl⟩:=iJ h rfl
  exact⟨.index d,rfl,rfl⟩
 by_cases h25:p=25
 ·subst h25
  obtain⟨d,rfl,rfl⟩:=iJ h rfl
  exact⟨.conserved d,rfl,rfl⟩
 by_cases h26:p=26
 ·subst h26
  obtain⟨d,rfl,rfl⟩:=iJ h rfl
  exact⟨.stays d,rfl,rfl⟩
 omega
end
def plays:State->List Call->List (List Int)
 |_,[]=>[]
 |s,x::r=>(step s x).2::plays (step s x).1 r
theorem alU:∀(xs:List Call)(s:State),PyFlat.played VbnlalNeutral.step s (xs.map rowsOf)=plays s xs
 |[],_=>rfl
 |x::r,s=>by
  show(VbnlalNeutral.step s (rowsOf x)).2::PyFlat.played VbnlalNeutral.step (VbnlalNeutral.step s (rowsOf x)).1 (r.map rowsOf)=_
  have e:VbnlalNeutral.step s (rowsOf x)=step s x:=by
   unfold VbnlalNeutral.step
   rw[aAQ]
  rw[e,alU r]
  rfl
theorem alV:∀(f:Nat)(l:List Int)(cs:List (List (List Int))),PyFlat.calls PyVbnlal.shape f l=some cs->∃xs:List Call,l=xs.flatMap enc/\cs=xs.map rowsOf
 |_,[],cs,h=>by
  have e:cs=[]:=by cases ‹Nat› <;> (cases h;rfl)
  subst e
  exact⟨[],rfl,rfl⟩
 |0,p::r,cs,h=>by cases h
 |f+1,p::r,cs,h=>by
  unfold PyFlat.calls at h
  cases e:PyFlat.call PyVbnlal.shape (p::r) with
  |none=>rw[e] at h;cases h
  |some q=>
   obtain⟨c,t⟩:=q
   rw[e] at h
   dsimp only at h
   cases e2:PyFlat.calls PyVbnlal.shape f t with
   |none=>rw[e2] at h;cases h
   |some ds=>
    rw[e2] at h
    cases h
    obtain⟨xs,h1,h2⟩:=alV f t ds e2
    obtain⟨x,h3,h4⟩:=aTY e
    exact⟨x::xs,by rw[h3,h1];rfl,by rw[h2,h4];rfl⟩
theorem parse{l:List Int}(h:PyVbnlal.answers_asked l=true):∃xs:List Call,l=xs.flatMap enc/\xs.length<=400/\(∀x∈xs,askedOne x=true)/\PyVbnlal.answers l=PyFlat.told (plays Vbnlal.start xs):=by
 unfold PyVbnlal.answers_asked PyVbnlal.calls at h
 unfold PyVbnlal.answers PyVbnlal.calls
 cases e:PyFlat.calls PyVbnlal.shape l.length l with
 |none=>rw[e] at h;cases h
 |some cs=>
  rw[e] at h
  obtain⟨xs,h1,rfl⟩:=alV _ _ _ e
  have ew:(xs.map rowsOf).map PyVbnlal.whole=xs.map rowsOf:=by
   rw[List.map_map]
   exact List.map_congr_left λx _=>aHY x
  dsimp only at h ⊢
  rw[ew] at h ⊢
  rw[Bool.and_eq_true] at h
  obtain⟨ha,hb⟩:=h
  have hl:xs.length<=400:=by
   have:=of_decide_eq_true ha
   rwa[List.length_map] at this
  unfold VbnlalNeutral.asked at hb
  rw[Bool.and_eq_true,List.all_eq_true] at hb
  refine⟨xs,h1,hl,λx hx=>?_,?_⟩
  ·rw[<-aHX]
   exact hb.1 _ (List.mem_map.mpr ⟨x,hx,rfl⟩)
  ·rw[show VbnlalNeutral.start=Vbnlal.start from rfl,alU]
end Nc
end
section
namespace Nc
open Vbnlal
def sortMem(l:List Member):List Member:=l.foldr putMember []
def sortInt(l:List Int):List Int:=l.foldr putNum []
def staysKeys(s:State)(n:Int):List Int:=(s.cases.filter λc=>decide (c.phase<=5)&&speaks c n).map (·.key)
def stepM(s:State):Call->State×Ans
 |.day d=>dayM s d
 |.seat m u=>seatM s m u
 |.petition k t=>petitionM s k t
 |.office=>(s,0::s.president::(sortMem s.members).flatMap λm=>[m.key,m.until_])
 |.stays n=>(s,0::sortInt (staysKeys s n))
 |c=>step s c
theorem lV:∀l:List Member,(sortMem l).Perm l
 |[]=>.refl _
 |x::l=>(hZ x (sortMem l)).trans ((lV l).cons x)
theorem AY:∀{l:List Member},(l.map (·.key)).Nodup->(sortMem l).Pairwise λa b=>a.key<b.key
 |[],_=>.nil
 |x::l,h=>by
  have h2:=List.nodup_cons.mp (show(x.key::l.map (·.key)).Nodup from h)
  refine tY (AY h2.2) λy hy e=>h2.1 (List.mem_map.mpr ⟨y,(lV l).mem_iff.mp hy,e⟩)
theorem VZ{x:Int}:∀{l:List Int},x∉l->(putNum x l).Perm (x::l)
 |[],_=>.refl _
 |y::r,h=>by
  unfold putNum
  have hne:x≠y:=λe=>h (e▸List.mem_cons_self)
  split
  ·exact .refl _
  ·first | rw[if_neg hne] | skip
   exact((VZ λq=>h (List.mem_cons_of_mem _ q)).cons y).trans (.swap x y r)
theorem JY{x z:Int}:∀{l:List Int},z∈putNum x l->z=x\/z∈l
 |[],h=>.inl (by simpa[putNum] using h)
 |y::r,h=>by
  unfold putNum at h
  split at h
  ·rcases List.mem_cons.mp h with e | h
   ·exact .inl e
   ·exact .inr h
  ·split at h
   ·exact .inr h
   ·rcases List.mem_cons.mp h with e | h
    ·exact .inr (e▸List.mem_cons_self)
    ·rcases JY h with e | h
     ·exact .inl e
     ·exact .inr (List.mem_cons_of_mem _ h)
theorem FK{x:Int}:∀{l:List Int},l.Pairwise (· < ·)->(putNum x l).Pairwise (· < ·)
 |[],_=>by simp[putNum]
 |y::r,h=>by
  have h1:=List.pairwise_cons.mp h
  unfold putNum
  split
  ·rename_i q
   refine List.pairwise_cons.mpr ⟨λz hz=>?_,h⟩
   rcases List.mem_cons.mp hz with rfl | hz
   ·exact q
   ·exact Int.lt_trans q (h1.1 z hz)
  ·split
   ·exact h
   ·rename_i q1 q2
    refine List.pairwise_cons.mpr ⟨λz hz=>?_,FK h1.2⟩
    rcases JY hz with rfl | hz
    ·omega
    ·exact h1.1 z hz
theorem WJ{z:Int}:∀{l:List Int},z∈sortInt l->z∈l
 |[],h=>h
 |x::l,h=>by
  rcases JY (show z∈putNum x (sortInt l) from h) with e | h
  ·exact e▸List.mem_cons_self
  ·exact List.mem_cons_of_mem _ (WJ h)
theorem AZ:∀{l:List Int},l.Nodup->(sortInt l).Perm l
 |[],_=>.refl _
 |x::l,h=>by
  have h2:=List.nodup_cons.mp h
  exact(VZ λq=>h2.1 (WJ q)).trans ((AZ h2.2).cons x)
theorem BJ:∀l:List Int,(sortInt l).Pairwise (· < ·)
 |[]=>.nil
 |x::l=>FK (BJ l)
theorem R.stepM{m s:State}(r:R m s)(c:Call):Both (Nc.stepM m c) (step s c):=by
 have same:=r.same c
 cases c with
 |day d=>exact r.day d
 |seat a b=>exact r.seat a b
 |petition k t=>exact r.petition k t
 |office=>exact⟨r.officeA (lV _) (AY r.mem_nd),r⟩
 |stays n=>
  refine⟨r.staysA n (AZ ?_) (BJ _),r⟩
  exact List.Nodup.sublist (List.Sublist.map _ List.filter_sublist) r.cnd
 |_=>exact same trivial
structure EffOk(e:Effect):Prop where
 k0:0<=e.kind
 k6:e.kind<=6
 a:1<=e.a/\e.a<=1000000000
 b:(e.kind=3\/e.kind=4)->1<=e.b/\e.b<=1000000000
 z:¬(e.kind=3\/e.kind=4)->e.b=0
structure CaseOk(n:Nat)(c:Case):Prop where
 ne:c.effects≠[]
 six:c.effects.length<=6
 eff:∀e∈c.effects,EffOk e
 bal:c.ballots.length<=n
 ph:1<=c.phase/\c.phase<=8
structure Good(n:Nat)(s:State):Prop where
 mem:s.members.length<=30
 key:∀m∈s.members,1<=m.key
 mnd:(s.members.map (·.key)).Nodup
 srv:∀m∈s.members,s.today<=m.until_
 cas:s.cases.length<=32
 cnd:(s.cases.map (·.key)).Nodup
 ok:∀c∈s.cases,CaseOk n c
 rul:s.rulings.length<=n
 prs:s.president=0\/(s.members.any λm=>m.key==s.president)=true
theorem aAU{l:List Token}{e:Effect}(h:clause l=some e):0<=e.kind/\e.kind<=6/\(¬(e.kind=3\/e.kind=4)->e.b=0):=by
 unfold clause at h
 split at h
 ·split at h
  ·cases h;exact⟨by dsimp only;omega,by dsimp only;omega,λ_=>rfl⟩
  ·split at h
   ·cases h;exact⟨by dsimp only;omega,by dsimp only;omega,λ_=>rfl⟩
   ·split at h
    ·cases h;exact⟨by dsimp only;omega,by dsimp only;omega,λ_=>rfl⟩
    ·cases h
 ·split at h
  ·cases h;exact⟨by dsimp only;omega,by dsimp only;omega,λ_=>rfl⟩
  ·cases h
 ·split at h
  ·cases h;exact⟨by dsimp only;omega,by dsimp only;omega,λ_=>rfl⟩
  ·cases h
 ·split at h
  ·cases h;exact⟨by dsimp only;omega,by dsimp only;omega,λq=>absurd (.inl rfl) q⟩
  ·split at h
   ·cases h;exact⟨by dsimp only;omega,by dsimp only;omega,λq=>absurd (.inr rfl) q⟩
   ·cases h
 ·cases h
theorem PJ{α β:Type}{f:α->Option β}:∀{l:List α}{r:List β},l.mapM f=some r->l.length=r.length/\∀y∈r,∃x∈l,f x=some y
 |[],r,h=>by
  have:r=[]:=by simpa using h.symm
  subst this
  exact⟨rfl,λy hy=>by cases hy⟩
 |a::l,r,h=>by
  rw[List.mapM_cons] at h
  cases e:f a with
  |none=>rw[e] at h;cases h
  |some b=>
   rw[e] at h
   cases e2:l.mapM f with
   |none=>rw[e2] at h;cases h
   |some q=>
    rw[e2] at h
    have hr:r=b::q:=(Option.some.inj h).symm
    subst hr
    obtain⟨h1,h2⟩:=PJ e2
    refine⟨by simp[h1],λy hy=>?_⟩
    rcases List.mem_cons.mp hy with rfl | hy
    ·exact⟨a,List.mem_cons_self,e⟩
    ·obtain⟨x,hx,ex⟩:=h2 y hy
     exact⟨x,List.mem_cons_of_mem _ hx,ex⟩
def props(t:Text):Option (List Effect):=(tok t).bind λl=>(clauses l).mapM clause
theorem aFV(t:Text):Vbnlal.read t=match props t with
 |none=>.error (-1)
 |some es=>if CLAUSES<es.length then .error (-3) else if es.all numbersOk=false then .error (-2)
  else if es.any (λe=>e.kind==3&&e.a==e.b)=true then .error (-10) else .ok es:=rfl
theorem aFW{t:Text}{es:List Effect}(h:Vbnlal.read t = .ok es):props t=some es/\es≠[]/\es.length<=6/\∀e∈es,EffOk e:=by
 rw[aFV] at h
 cases e:props t with
 |none=>rw[e] at h;cases h
 |some fs=>
  rw[e] at h
  dsimp only at h
  by_cases h1:CLAUSES<fs.length
  ·rw[if_pos h1] at h;cases h
  rw[if_neg h1] at h
  by_cases h2:fs.all numbersOk=false
  ·rw[if_pos h2] at h;cases h
  rw[if_neg h2] at h
  by_cases h3:fs.any (λe=>e.kind==3&&e.a==e.b)=true
  ·rw[if_pos h3] at h;cases h
  rw[if_neg h3] at h
  cases h
  have ep:=e
  unfold props at e
  cases et:tok t with
  |none=>rw[et] at e;cases e
  |some ts=>
   rw[et] at e
   have e':(clauses ts).mapM clause=some es:=e
   obtain⟨q1,q2⟩:=PJ e'
   have hc:=iZ ts
   refine⟨rfl,?_,by unfold CLAUSES at h1;omega,λx hx=>?_⟩
   ·rintro rfl
    exact hc (List.length_eq_zero_iff.mp q1)
   ·obtain⟨l,_,hl⟩:=q2 x hx
    obtain⟨k1,k2,k3⟩:=aAU hl
    have hn:numbersOk x=true:=List.all_eq_true.mp (by simpa using h2) x hx
    unfold numbersOk at hn
    rw[Bool.and_eq_true] at hn
    refine⟨k1,k2,DZ.mp hn.1,λq=>?_,k3⟩
    have:=hn.2
    rw[if_pos q] at this
    exact DZ.mp this
theorem FQ{s:State}{c x:Case}(h:x∈(Vbnlal.setCase s c).cases):x=c\/x∈s.cases:=by
 obtain⟨y,hy,e⟩:=List.mem_map.mp h
 by_cases q:y.key=c.key
 ·rw[if_pos q] at e;exact .inl e.symm
 ·rw[if_neg q] at e;exact .inr (e▸hy)
theorem fW{s:State}{k:Int}{c:Case}(h:Vbnlal.caseOf s k=some c):c∈s.cases/\c.key=k:=
 ⟨List.mem_of_find?_eq_some h,beq_iff_eq.mp (List.find?_some (p:=λc:Case=>c.key==k) h)⟩
theorem CaseOk.more{n:Nat}{c:Case}(h:CaseOk n c):CaseOk (n+1) c:=⟨h.ne,h.six,h.eff,Nat.le_succ_of_le h.bal,h.ph⟩
section
variable{n:Nat}{s:State}
theorem Good.more(g:Good n s):Good (n+1) s:=⟨g.mem,g.key,g.mnd,g.srv,g.cas,g.cnd,λc hc=>(g.ok c hc).more,Nat.le_succ_of_le g.rul,g.prs⟩
theorem Good.setCase(g:Good n s){c:Case}(h:CaseOk (n+1) c):Good (n+1) (Vbnlal.setCase s c):=by
 refine⟨g.mem,g.key,g.mnd,g.srv,?_,?_,λx hx=>?_,Nat.le_succ_of_le g.rul,g.prs⟩
 ·show(s.cases.map _).length<=32
  rw[List.length_map];exact g.cas
 ·have e:(Vbnlal.setCase s c).cases.map (·.key)=s.cases.map (·.key):=by
   unfold Vbnlal.setCase
   rw[List.map_map]
   refine List.map_congr_left λx _=>?_
   show(if x.key=c.key then c else x).key=x.key
   by_cases q:x.key=c.key
   ·rw[if_pos q,q]
   ·rw[if_neg q]
  rw[e];exact g.cnd
 ·rcases FQ hx with rfl | hx
  ·exact h
  ·exact(g.ok x hx).more
theorem aoW(s:State)(c:Case):1<=Vbnlal.outcome s c/\Vbnlal.outcome s c<=8:=by
 unfold Vbnlal.outcome
 dsimp only
 repeat' split
 all_goals omega
theorem Good.byCase(g:Good n s)(k:Int){f:Case->State×Ans}(h:∀c,c∈s.cases->CaseOk n c->Good (n+1) (f c).1):Good (n+1) (match Vbnlal.caseOf s k with | none=>(s,[-6]) | some c=>f c).1:=by
 cases e:Vbnlal.caseOf s k with
 |none=>exact g.more
 |some c=>exact h c (fW e).1 (g.ok c (fW e).1)
theorem Good.ite{c:Prop}[Decidable c]{a b:State×Ans}(h1:c->Good (n+1) a.1)(h2:¬c->Good (n+1) b.1):Good (n+1) (if c then a else b).1:=by
 by_cases h:c
 ·rw[if_pos h];exact h1 h
 ·rw[if_neg h];exact h2 h
theorem Good.asks(g:Good n s)(d k:Int)(a:Ans):Good (n+1) (askRuling s d k a).1:=by
 unfold askRuling
 exact Good.ite (λ_=>g.more) λ_=>Good.ite (λ_=>g.more) λ_=>g.more
theorem Good.step(g:Good n s):∀c:Call,Good (n+1) (Nc.stepM s c).1
 |.day d=>by
  show Good (n+1) (dayM s d).1
  unfold dayM
  refine Good.ite (λ_=>g.more) λ_=>Good.ite (λ_=>g.more) λ_=>?_
  refine⟨Nat.le_trans (List.length_filter_le _ _) g.mem,λm hm=>g.key m (List.mem_filter.mp hm).1,List.Nodup.sublist (List.Sublist.map _ List.filter_sublist) g.mnd,λm hm=>of_decide_eq_true (List.mem_filter.mp hm).2,g.cas,g.cnd,λc hc=>(g.ok c hc).more,Nat.le_succ_of_le g.rul,?_⟩
  show(if((s.members.filter (serves d)).any λm=>m.key==s.president)=true then s.president else 0)=0\/((s.members.filter (serves d)).any λm=>m.key==(if((s.members.filter (serves d)).any λm=>m.key==s.president)=true then s.president else 0))=true
  by_cases h:((s.members.filter (serves d)).any λm=>m.key==s.president)=true
  ·rw[if_pos h];exact .inr h
  ·rw[if_neg h];exact .inl rfl
 |.seat k u=>by
  show Good (n+1) (seatM s k u).1
  unfold seatM
  refine Good.ite (λ_=>g.more) λh1=>Good.ite (λ_=>g.more) λ_=>Good.ite (λ_=>g.more) λh3=>Good.ite (λ_=>g.more) λh4=>Good.ite (λ_=>g.more) λh5=>?_
  refine⟨?_,λm hm=>?_,?_,λm hm=>?_,g.cas,g.cnd,λc hc=>(g.ok c hc).more,Nat.le_succ_of_le g.rul,?_⟩
  ·show(s.members++[_]).length<=30
   rw[List.length_append,List.length_singleton]
   unfold MEMBERS at h5
   omega
  ·rcases List.mem_append.mp hm with hm | hm
   ·exact g.key m hm
   ·have:m=⟨k,u⟩:=by simpa using hm
    subst this
    exact(DZ.mp (by simpa using h1)).1
  ·show((s.members++[_]).map _).Nodup
   rw[List.map_append]
   refine List.nodup_append.mpr ⟨g.mnd,by simp,?_⟩
   intro a ha b hb e
   obtain⟨x,hx,rfl⟩:=List.mem_map.mp ha
   have hb:b=k:=by simpa using hb
   exact h4 (List.any_eq_true.mpr ⟨x,hx,beq_iff_eq.mpr (e.trans hb)⟩)
  ·rcases List.mem_append.mp hm with hm | hm
   ·exact g.srv m hm
   ·have:m=⟨k,u⟩:=by simpa using hm
    subst this
    show s.today<=u
    omega
  ·rcases g.prs with h | h
   ·exact .inl h
   ·refine .inr ?_
    show((s.members++[_]).any _)=true
    rw[List.any_append,h,Bool.true_or]
 |.leave k=>by
  show Good (n+1) (Vbnlal.step s (.leave k)).1
  rw[step_leave]
  refine Good.ite (λ_=>g.more) λ_=>?_
  exact⟨Nat.le_trans (List.length_filter_le _ _) g.mem,λm hm=>g.key m (List.mem_filter.mp hm).1,List.Nodup.sublist (List.Sublist.map _ List.filter_sublist) g.mnd,λm hm=>g.srv m (List.mem_filter.mp hm).1,g.cas,g.cnd,λc hc=>(g.ok c hc).more,Nat.le_succ_of_le g.rul,by
   show(if s.president=k then 0 else s.president)=0\/((s.members.filter λx=>x.key != k).any λm=>m.key==(if s.president=k then 0 else s.president))=true
   by_cases h:s.president=k
   ·rw[if_pos h];exact .inl rfl
   ·rw[if_neg h]
    rcases g.prs with q | q
    ·exact .inl q
    ·refine .inr ?_
     obtain⟨x,hx,e⟩:=List.any_eq_true.mp q
     refine List.any_eq_true.mpr ⟨x,List.mem_filter.mpr ⟨hx,?_⟩,e⟩
     rw[bne_iff_ne,beq_iff_eq.mp e]
     exact h⟩
 |.preside k=>by
  show Good (n+1) (Vbnlal.step s (.preside k)).1
  rw[step_preside]
  refine Good.ite (λ_=>g.more) λh=>?_
  refine⟨g.mem,g.key,g.mnd,g.srv,g.cas,g.cnd,λc hc=>(g.ok c hc).more,Nat.le_succ_of_le g.rul,.inr ?_⟩
  have h:inOffice s k=true:=by simpa using h
  rw[eU g.mnd] at h
  obtain⟨x,hx,e⟩:=List.any_eq_true.mp h
  exact List.any_eq_true.mpr ⟨x,(List.mem_filter.mp hx).1,e⟩
 |.petition k t=>by
  show Good (n+1) (petitionM s k t).1
  unfold petitionM
  refine Good.ite (λ_=>g.more) λ_=>?_
  cases e:Vbnlal.read t with
  |error r=>exact g.more
  |ok es=>
   obtain⟨_,h1,h2,h3⟩:=aFW e
   refine Good.ite (λ_=>g.more) λq1=>Good.ite (λ_=>g.more) λ_=>Good.ite (λ_=>g.more) λq3=>?_
   have hn:∀c∈s.cases,c.key≠k:=vZ (by simpa using q1)
   refine⟨g.mem,g.key,g.mnd,g.srv,?_,?_,λc hc=>?_,Nat.le_succ_of_le g.rul,g.prs⟩
   ·show(s.cases++[_]).length<=32
    rw[List.length_append,List.length_singleton]
    unfold CASES at q3
    omega
   ·show((s.cases++[_]).map _).Nodup
    rw[List.map_append]
    refine List.nodup_append.mpr ⟨g.cnd,by simp,?_⟩
    intro a ha b hb e
    obtain⟨x,hx,rfl⟩:=List.mem_map.mp ha
    have hb:b=k:=by simpa using hb
    exact hn x hx (e.trans hb)
   ·rcases List.mem_append.mp hc with hc | hc
    ·exact(g.ok c hc).more
    ·have:c={ key:=k,effects:=es,opened:=s.today,last:=s.today }:=by simpa using hc
     subst this
     exact⟨h1,h2,h3,Nat.zero_le _,by dsimp only;omega,by dsimp only;omega⟩
 |.withdraw k=>by
  show Good (n+1) (Vbnlal.step s (.withdraw k)).1
  rw[iW]
  refine g.byCase k λc hc ok=>Good.ite (λ_=>g.setCase ?_) λ_=>g.more
  exact⟨ok.ne,ok.six,ok.eff,Nat.le_succ_of_le ok.bal,by dsimp only;omega,by dsimp only;omega⟩
 |.comment k=>by
  show Good (n+1) (Vbnlal.step s (.comment k)).1
  rw[jX]
  refine g.byCase k λc hc ok=>Good.ite (λ_=>g.more) λ_=>Good.ite (λ_=>g.more) λ_=>g.setCase ?_
  exact⟨ok.ne,ok.six,ok.eff,Nat.le_succ_of_le ok.bal,ok.ph⟩
 |.openVote k=>by
  show Good (n+1) (Vbnlal.step s (.openVote k)).1
  rw[iX]
  refine g.byCase k λc hc ok=>Good.ite (λ_=>g.more) λh=>Good.ite (λ_=>g.more) λ_=>g.setCase ?_
  refine⟨ok.ne,ok.six,ok.eff,Nat.zero_le _,?_⟩
  have:=ok.ph
  show 1<=c.phase+1/\c.phase+1<=8
  omega
 |.ballot k m v=>by
  show Good (n+1) (Vbnlal.step s (.ballot k m v)).1
  rw[lK]
  refine g.byCase k λc hc ok=>Good.ite (λ_=>g.more) λ_=>Good.ite (λ_=>g.more) λ_=>Good.ite (λ_=>g.more) λ_=>Good.ite (λ_=>g.more) λ_=>Good.ite (λ_=>g.more) λ_=>g.setCase ?_
  refine⟨ok.ne,ok.six,ok.eff,?_,ok.ph⟩
  show(c.ballots++[_]).length<=n+1
  rw[List.length_append,List.length_singleton]
  exact Nat.succ_le_succ ok.bal
 |.close k=>by
  show Good (n+1) (Vbnlal.step s (.close k)).1
  rw[mU]
  refine g.byCase k λc hc ok=>Good.ite (λ_=>g.more) λ_=>Good.ite (λ_=>g.more) λ_=>g.setCase ?_
  exact⟨ok.ne,ok.six,ok.eff,Nat.le_succ_of_le ok.bal,aoW s c⟩
 |.publish k=>by
  show Good (n+1) (Vbnlal.step s (.publish k)).1
  rw[jY]
  refine g.byCase k λc hc ok=>Good.ite (λ_=>g.more) λ_=>?_
  have q:=g.setCase (c:={ c with phase:=8,published:=s.today }) ⟨ok.ne,ok.six,ok.eff,Nat.le_succ_of_le ok.bal,by dsimp only;omega,by dsimp only;omega⟩
  refine⟨q.mem,q.key,q.mnd,q.srv,q.cas,q.cnd,q.ok,?_,q.prs⟩
  show(s.rulings++[k]).length<=n+1
  rw[List.length_append,List.length_singleton]
  exact Nat.succ_le_succ g.rul
 |.read t=>by
  show Good (n+1) (match Vbnlal.read t with | .error r=>(s,[r]) | .ok es=>(s,(es.length:Int)::es.flatMap λ(e:Effect)=>[e.kind,e.a,e.b])).1
  cases Vbnlal.read t <;> exact g.more
 |.show_ k=>g.byCase k (f:=λc=>(s,0::written c.effects)) λ_ _ _=>g.more
 |.phase k=>g.byCase k (f:=λc=>(s,[c.phase,c.opened,c.comments,c.last,c.closing,c.published])) λ_ _ _=>g.more
 |.tally k=>g.byCase k (f:=λc=>(s,[0,votes c 1,votes c 2,votes c 3])) λ_ _ _=>g.more
 |.office=>g.more
 |.stays _=>g.more
 |.rulings d=>Good.ite (λ_=>g.more) λ_=>g.more
 |.inForce d k=>g.asks d k _
 |.because d k=>g.asks d k _
 |.check d k v m=>g.asks d k _
 |.status d a=>Good.ite (λ_=>g.more) λ_=>g.more
 |.over d a b=>Good.ite (λ_=>g.more) λ_=>Good.ite (λ_=>g.more) λ_=>g.more
 |.typeAt d a=>Good.ite (λ_=>g.more) λ_=>g.more
 |.rejected d w=>Good.ite (λ_=>g.more) λ_=>g.more
 |.index d=>Good.ite (λ_=>g.more) λ_=>g.more
 |.conserved d=>Good.ite (λ_=>g.more) λ_=>g.more
theorem Good_start:Good 0 Vbnlal.start:=⟨Nat.zero_le _,(λm h=>by cases h),.nil,(λm h=>by cases h),Nat.zero_le _,.nil,(λm h=>by cases h),Nat.zero_le _,.inl rfl⟩
end
theorem eJ{α β:Type}{f:α->List β}{k:Nat}:∀{l:List α},(∀x∈l,(f x).length<=k)->(l.flatMap f).length<=k*l.length
 |[],_=>by simp
 |a::l,h=>by
  rw[List.flatMap_cons,List.length_append,List.length_cons,Nat.mul_succ]
  have h1:=h a List.mem_cons_self
  have h2:=eJ (l:=l) λx hx=>h x (List.mem_cons_of_mem _ hx)
  omega
section
variable{n:Nat}{s:State}
theorem qX(s:State)(d:Int):(rulingsBy s d).length<=s.rulings.length:=by
 unfold Vbnlal.rulingsBy
 exact Nat.le_trans (List.length_filter_le _ _) (List.length_filterMap_le _ _)
theorem xY{s:State}{d:Int}{c:Case}(h:c∈rulingsBy s d):c∈s.cases:=by
 unfold Vbnlal.rulingsBy at h
 obtain⟨k,_,hk⟩:=List.mem_filterMap.mp (List.mem_filter.mp h).1
 exact(fW hk).1
theorem xZ(g:Good n s)(d:Int):(effectsAt s d).length<=6*n:=by
 unfold Vbnlal.effectsAt Vbnlal.forceAt
 have h1:∀c∈(rulingsBy s d).filter (λc=>(kernel (rulingsBy s d)).contains c.key),(c.effects.map λe=>(e,c.key)).length<=6:=λc hc=>by
  rw[List.length_map]
  exact(g.ok c (xY (List.mem_filter.mp hc).1)).six
 have h2:=eJ h1
 have h3:((rulingsBy s d).filter (λc=>(kernel (rulingsBy s d)).contains c.key)).length<=n:=Nat.le_trans (List.length_filter_le _ _) (Nat.le_trans (qX s d) g.rul)
 exact Nat.le_trans h2 (Nat.mul_le_mul_left 6 h3)
theorem JZ(x:Int):∀l:List Int,(putNum x l).length<=l.length+1
 |[]=>Nat.le_refl _
 |y::r=>by
  unfold putNum
  split
  ·exact Nat.le_refl _
  ·split
   ·exact Nat.le_succ _
   ·exact Nat.succ_le_succ (JZ x r)
theorem WK:∀(l acc:List Int),(l.foldl (λl a=>putNum a l) acc).length<=acc.length+l.length
 |[],acc=>Nat.le_refl _
 |x::l,acc=>by
  have h1:=WK l (putNum x acc)
  have h2:=JZ x acc
  show(l.foldl _ (putNum x acc)).length<=_
  rw[List.length_cons]
  omega
theorem aAV(g:Good n s)(d:Int):(indexAt s d).length<=6*n:=by
 unfold Vbnlal.indexAt
 refine Nat.le_trans (List.length_filter_le _ _) (Nat.le_trans (WK _ _) ?_)
 rw[List.length_map,List.length_nil,Nat.zero_add]
 exact Nat.le_trans (List.length_filter_le _ _) (xZ g d)
theorem YW:∀l:List (Effect×Int),(edgesAt.keep l).length<=l.length
 |[]=>Nat.le_refl _
 |x::r=>by
  unfold edgesAt.keep
  split
  ·exact Nat.le_succ_of_le (YW r)
  ·exact Nat.succ_le_succ (YW r)
theorem aAW(g:Good n s)(d:Int):(edgesAt s d).length<=6*n:=by
 unfold Vbnlal.edgesAt
 exact Nat.le_trans (YW _) (Nat.le_trans (List.length_filter_le _ _) (xZ g d))
theorem YX(k:List Int):∀(r:List Case)(l:List (Case×Option Int)),(need k l r).length<=l.length+r.length
 |[],l=>Nat.le_refl _
 |q::r,l=>by
  unfold need
  split
  ·have:=YX k r (l++[(q,if k.contains q.key=true then none else((r.filter λx=>annuls x q.key&&k.contains x.key).getLast?).map λx=>x.key)])
   rw[List.length_append,List.length_singleton] at this
   rw[List.length_cons]
   omega
  ·have:=YX k r l
   rw[List.length_cons]
   omega
theorem aoX{α:Type}(p:α->Bool)(l:List α):(l.dropWhile p).length<=l.length:=AW p l
theorem aAX(g:Good n s)(d k:Int):(because s d k).length<=n+1:=by
 unfold Vbnlal.because
 dsimp only
 have h0:=aoX (λc:Case=>c.key != k) (rulingsBy s d)
 have h1:=Nat.le_trans (qX s d) g.rul
 split
 ·exact Nat.zero_le _
 ·rename_i c r e
  rw[List.length_map]
  refine Nat.le_trans (YX _ _ _) ?_
  rw[e] at h0
  rw[List.length_cons] at h0
  rw[List.length_singleton]
  omega
theorem cU{c:Prop}[Decidable c]{a b:State×Ans}{k:Nat}(h1:a.2.length<=k)(h2:b.2.length<=k):(if c then a else b).2.length<=k:=by
 by_cases h:c
 ·rw[if_pos h];exact h1
 ·rw[if_neg h];exact h2
theorem mV{k:Int}{f:Case->State×Ans}{z:Nat}(hz:1<=z)(h:∀c,c∈s.cases->(f c).2.length<=z):(match Vbnlal.caseOf s k with | none=>(s,[-6]) | some c=>f c).2.length<=z:=by
 cases e:Vbnlal.caseOf s k with
 |none=>exact hz
 |some c=>exact h c (fW e).1
theorem YY{d k:Int}{a:Ans}{z:Nat}(hz:1<=z)(h:a.length<=z):(askRuling s d k a).2.length<=z:=by
 unfold askRuling
 exact cU hz (cU h hz)
theorem one1{s:State}{x:Int}:((s,[x]):State×Ans).2.length<=20000:=by
 show 1<=20000
 decide
theorem baK(g:Good n s)(hn:n<=400)(hw:∀c∈s.cases,(written c.effects).length<=1000):∀c:Call,(Nc.stepM s c).2.length<=20000
 |.day d=>by
  show(dayM s d).2.length<=20000
  unfold dayM
  exact cU one1 (cU one1 one1)
 |.seat k u=>by
  show(seatM s k u).2.length<=20000
  unfold seatM
  exact cU one1 (cU one1 (cU one1 (cU one1 (cU one1 one1))))
 |.leave k=>by
  show(Vbnlal.step s (.leave k)).2.length<=20000
  rw[step_leave]
  exact cU one1 one1
 |.preside k=>by
  show(Vbnlal.step s (.preside k)).2.length<=20000
  rw[step_preside]
  exact cU one1 one1
 |.petition k t=>by
  show(petitionM s k t).2.length<=20000
  unfold petitionM
  refine cU one1 ?_
  cases Vbnlal.read t with
  |error r=>exact one1
  |ok es=>exact cU one1 (cU one1 (cU one1 (show([(es.length:Int)]:List Int).length<=20000 from by rw[List.length_singleton];decide)))
 |.withdraw k=>by
  show(Vbnlal.step s (.withdraw k)).2.length<=20000
  rw[iW]
  exact mV (by decide) λc _=>cU one1 one1
 |.comment k=>by
  show(Vbnlal.step s (.comment k)).2.length<=20000
  rw[jX]
  exact mV (by decide) λc _=>cU one1 (cU one1 (Nat.le_trans (Nat.le_of_eq List.length_singleton) (by decide)))
 |.openVote k=>by
  show(Vbnlal.step s (.openVote k)).2.length<=20000
  rw[iX]
  exact mV (by decide) λc _=>cU one1 (cU one1 (Nat.le_trans (Nat.le_of_eq List.length_singleton) (by decide)))
 |.ballot k m v=>by
  show(Vbnlal.step s (.ballot k m v)).2.length<=20000
  rw[lK]
  exact mV (by decide) λc _=>cU one1 (cU one1 (cU one1 (cU one1 (cU one1 one1))))
 |.close k=>by
  show(Vbnlal.step s (.close k)).2.length<=20000
  rw[mU]
  exact mV (by decide) λc _=>cU one1 (cU one1 (Nat.le_trans (Nat.le_of_eq List.length_singleton) (by decide)))
 |.publish k=>by
  show(Vbnlal.step s (.publish k)).2.length<=20000
  rw[jY]
  exact mV (by decide) λc _=>cU one1 (Nat.le_trans (Nat.le_of_eq List.length_singleton) (by decide))
 |.read t=>by
  show(match Vbnlal.read t with | .error r=>(s,[r]) | .ok es=>(s,(es.length:Int)::es.flatMap λ(e:Effect)=>[e.kind,e.a,e.b])).2.length<=20000
  cases e:Vbnlal.read t with
  |error r=>exact one1
  |ok es=>
   obtain⟨_,_,h,_⟩:=aFW e
   have:=eJ (l:=es) (f:=λ(e:Effect)=>[e.kind,e.a,e.b]) (k:=3) λx _=>Nat.le_refl _
   show((es.length:Int)::es.flatMap λ(e:Effect)=>[e.kind,e.a,e.b]).length<=20000
   rw[List.length_cons]
   omega
 |.show_ k=>mV (f:=λc=>(s,0::written c.effects)) (by decide) λc hc=>by
  have:=hw c hc
  show(0::written c.effects).length<=20000
  rw[List.length_cons]
  omega
 |.phase k=>mV (f:=λc=>(s,[c.phase,c.opened,c.comments,c.last,c.closing,c.published])) (by decide) λc _=>(by show 6<=20000;decide)
 |.tally k=>mV (f:=λc=>(s,[0,votes c 1,votes c 2,votes c 3])) (by decide) λc _=>(by show 4<=20000;decide)
 |.office=>by
  have h1:=eJ (l:=sortMem s.members) (f:=λm=>[m.key,m.until_]) (k:=2) λx _=>Nat.le_refl _
  have h2:=(lV s.members).length_eq
  have h3:=g.mem
  show(0::s.president::(sortMem s.members).flatMap λm=>[m.key,m.until_]).length<=20000
  rw[List.length_cons,List.length_cons]
  omega
 |.stays a=>by
  have h:∀l:List Int,(sortInt l).length<=l.length:=λl=>by
   induction l with
   |nil=>exact Nat.le_refl _
   |cons x l ih=>
    have:=JZ x (sortInt l)
    show(putNum x (sortInt l)).length<=_
    rw[List.length_cons]
    omega
  have h1:=h (staysKeys s a)
  have h2:(staysKeys s a).length<=s.cases.length:=by
   unfold staysKeys
   rw[List.length_map]
   exact List.length_filter_le _ _
  have h3:=g.cas
  show(0::sortInt (staysKeys s a)).length<=20000
  rw[List.length_cons]
  omega
 |.rulings d=>cU one1 (by
  have h1:=eJ (l:=rulingsBy s d) (f:=λc=>[c.key,truth ((kernel (rulingsBy s d)).contains c.key)]) (k:=2) λx _=>Nat.le_refl _
  have h2:=Nat.le_trans (qX s d) g.rul
  show(0::(rulingsBy s d).flatMap λc=>[c.key,truth ((kernel (rulingsBy s d)).contains c.key)]).length<=20000
  rw[List.length_cons]
  omega)
 |.inForce d k=>YY (by decide) (by rw[List.length_singleton];decide)
 |.because d k=>YY (by decide) (by
  have h1:=eJ (l:=because s d k) (f:=λp=>[p.1,p.2]) (k:=2) λx _=>Nat.le_refl _
  have h2:=aAX g d k
  rw[List.length_cons]
  omega)
 |.check d k v m=>YY (by decide) (by rw[List.length_singleton];decide)
 |.status d a=>cU one1 (by show 3<=20000;decide)
 |.over d a b=>cU one1 (cU one1 (by show 3<=20000;decide))
 |.typeAt d a=>cU one1 (by show 3<=20000;decide)
 |.rejected d w=>cU one1 (by show 2<=20000;decide)
 |.index d=>cU one1 (by
  have h1:=eJ (l:=indexAt s d) (f:=λa=>[a,(statusOf s d a).1,(statusOf s d a).2]) (k:=3) λx _=>Nat.le_refl _
  have h2:=aAV g d
  show(0::(indexAt s d).flatMap λa=>[a,(statusOf s d a).1,(statusOf s d a).2]).length<=20000
  rw[List.length_cons]
  omega)
 |.conserved d=>cU one1 (by
  have h1:=eJ (l:=edgesAt s d) (f:=λx=>[x.1.a,x.1.b,x.2]) (k:=3) λx _=>Nat.le_refl _
  have h2:=aAW g d
  show(0::(edgesAt s d).flatMap λx=>[x.1.a,x.1.b,x.2]).length<=20000
  rw[List.length_cons]
  omega)
end
def marks:List Case->Int->Bool
 |[],_=>false
 |c::r,x=>if marks r c.key=true then marks r x else(marks r x || annuls c x)
theorem marks_cons(c:Case)(r:List Case)(x:Int):marks (c::r) x=if marks r c.key=true then marks r x else(marks r x || annuls c x):=rfl
abbrev keysOf(l:List Case):List Int:=l.map (·.key)
theorem kernel_cons(c:Case)(r:List Case):kernel (c::r)=if r.any (λq=>(kernel r).contains q.key&&annuls q c.key)=true then kernel r else c.key::kernel r:=rfl
theorem zU:∀{l:List Case}{x:Int},x∈kernel l->x∈keysOf l
 |[],x,h=>h
 |c::r,x,h=>by
  rw[kernel_cons] at h
  split at h
  ·exact List.mem_cons_of_mem _ (zU h)
  ·rcases List.mem_cons.mp h with e | h
   ·exact e▸List.mem_cons_self
   ·exact List.mem_cons_of_mem _ (zU h)
theorem HY{c:Case}{r:List Case}(h:(keysOf (c::r)).Nodup):c.key∉keysOf r/\(keysOf r).Nodup:=List.nodup_cons.mp h
theorem HZ{l:List Int}{x:Int}(h:x∉l):l.contains x=false:=by
 rw[Bool.eq_false_iff]
 intro q
 exact h (List.contains_iff_mem.mp q)
theorem YZ:∀{l:List Case},(keysOf l).Nodup->∀x,marks l x=l.any (λq=>(kernel l).contains q.key&&annuls q x)
 |[],_,x=>rfl
 |c::r,h,x=>by
  obtain⟨h1,h2⟩:=HY h
  have ih:=YZ h2
  have hk:(kernel r).contains c.key=false:=HZ λq=>h1 (zU q)
  rw[marks_cons,kernel_cons,<-ih c.key,List.any_cons]
  by_cases q:marks r c.key=true
  ·rw[if_pos q,if_pos q,hk,Bool.false_and,Bool.false_or]
   exact ih x
  ·rw[if_neg q,if_neg q,List.contains_cons,beq_self_eq_true,Bool.true_or,Bool.true_and,ih x,Bool.or_comm]
   congr 1
   rw[Bool.eq_iff_iff,List.any_eq_true,List.any_eq_true]
   have e:∀y∈r,(c.key::kernel r).contains y.key=(kernel r).contains y.key:=λy hy=>by
    rw[List.contains_cons,show(y.key==c.key)=false from beq_eq_false_iff_ne.mpr λe=>h1 (e▸List.mem_map_of_mem hy),Bool.false_or]
   exact⟨λ⟨y,hy,z⟩=>⟨y,hy,by rw[e y hy];exact z⟩,λ⟨y,hy,z⟩=>⟨y,hy,by rw[e y hy] at z;exact z⟩⟩
structure Later(l:List Case):Prop where
 nd:(keysOf l).Nodup
 pw:l.Pairwise λa b=>annuls a b.key=false
 self:∀c∈l,annuls c c.key=false
theorem Later.tail{c:Case}{r:List Case}(h:Later (c::r)):Later r:=⟨(HY h.nd).2,(List.pairwise_cons.mp h.pw).2,λx hx=>h.self x (List.mem_cons_of_mem _ hx)⟩
theorem KJ:∀{l:List Case},Later l->∀c∈l,(kernel l).contains c.key = !marks l c.key
 |[],_,c,hc=>by cases hc
 |a::r,h,c,hc=>by
  obtain⟨h1,h2⟩:=HY h.nd
  rw[kernel_cons,<-YZ h2,marks_cons]
  rcases List.mem_cons.mp hc with rfl | hc
  ·by_cases q:marks r c.key=true
   ·rw[if_pos q,if_pos q,q]
    exact HZ λz=>h1 (zU z)
   ·rw[if_neg q,if_neg q,List.contains_cons,beq_self_eq_true,Bool.true_or,h.self c List.mem_cons_self,Bool.or_false,show marks r c.key=false by simpa using q]
    rfl
  ·have hne:(c.key==a.key)=false:=beq_eq_false_iff_ne.mpr λe=>h1 (e▸List.mem_map_of_mem hc)
   have ih:=KJ h.tail c hc
   by_cases q:marks r a.key=true
   ·rw[if_pos q,if_pos q];exact ih
   ·rw[if_neg q,if_neg q,List.contains_cons,hne,Bool.false_or,(List.pairwise_cons.mp h.pw).1 c hc,Bool.or_false];exact ih
def fo(l:List Case)(c:Case):Int:=truth ((kernel l).contains c.key)
theorem biY{l:List Case}(h:Later l){c:Case}(hc:c∈l):fo l c=if marks l c.key=true then 0 else 1:=by
 unfold fo truth
 rw[KJ h c hc]
 cases marks l c.key <;> rfl
theorem acQ{l:List Case}{c:Case}:(fo l c=1)↔(kernel l).contains c.key=true:=by
 unfold fo truth
 by_cases q:(kernel l).contains c.key=true
 ·rw[if_pos q];exact⟨λ_=>q,λ_=>rfl⟩
 ·rw[if_neg q];exact⟨λz=>by omega,λz=>absurd z q⟩
def anns(l:List Case)(k:Int):List Case:=l.filter λc=>annuls c k
def lastL{α:Type}(l:List α):List α:=l.drop (l.length - 1)
theorem lastL_eq{α:Type}(l:List α):lastL l=l.getLast?.toList:=by
 unfold lastL
 rcases List.eq_nil_or_concat l with rfl | ⟨l',a,rfl⟩
 ·rfl
 ·simp
def reasons(l:List Case)(c:Case):List Case:=if fo l c=1 then anns l c.key else lastL ((anns l c.key).filter λq=>decide (fo l q=1))
def reach(l:List Case):List Case->(Int->Bool)->Int->Bool
 |[],R=>R
 |c::r,R=>reach l r (if R c.key=true then(λx=>R x || (keysOf (reasons l c)).contains x) else R)
def told2(l:List Case)(R:Int->Bool):List Int:=(l.filter λc=>R c.key).flatMap λc=>[c.key,fo l c]
def wOf(l:List Case)(c:Case)(r:List Case):Option Int:=if(kernel l).contains c.key=true then none else((r.filter λx=>annuls x c.key&&(kernel l).contains x.key).getLast?).map λx=>x.key
theorem IJ{l:List Case}(h:(keysOf l).Nodup){a b:Case}(ha:a∈l)(hb:b∈l)(e:a.key=b.key):a=b:=by
 induction l with
 |nil=>cases ha
 |cons c r ih=>
  obtain⟨h1,h2⟩:=HY h
  rcases List.mem_cons.mp ha with rfl | ha
  ·rcases List.mem_cons.mp hb with rfl | hb
   ·rfl
   ·exact absurd (e▸List.mem_map_of_mem hb) h1
  ·rcases List.mem_cons.mp hb with eb | hb
   ·exact absurd (eb▸e▸List.mem_map_of_mem ha) h1
   ·exact ih h2 ha hb
theorem asW{l k:List Case}(h:(keysOf l).Nodup)(hs:∀x∈k,x∈l){c:Case}(hc:c∈l):(keysOf k).contains c.key=true↔c∈k:=by
 rw[List.contains_iff_mem]
 constructor
 ·intro q
  obtain⟨x,hx,e⟩:=List.mem_map.mp q
  rw[<-IJ h (hs x hx) hc e]
  exact hx
 ·exact λq=>List.mem_map_of_mem q
theorem ZJ{l:List Case}{k:Int}:∀x∈anns l k,x∈l:=λx hx=>(List.mem_filter.mp hx).1
theorem FU{l:List Case}{c:Case}:∀x∈reasons l c,x∈anns l c.key:=by
 intro x hx
 unfold reasons at hx
 split at hx
 ·exact hx
 ·exact(List.mem_filter.mp (List.drop_subset _ _ hx)).1
section
variable{l pre r:List Case}{q:Case}
theorem PK(h:Later l)(e:l=pre++q::r):∀c∈pre++[q],annuls c q.key=false:=by
 subst e
 intro c hc
 rcases List.mem_append.mp hc with hc | hc
 ·exact(List.pairwise_append.mp h.pw).2.2 c hc q List.mem_cons_self
 ·have:c=q:=by simpa using hc
  subst this
  exact h.self c (by simp)
theorem acU(h:Later l)(e:l=pre++q::r):anns l q.key=r.filter λc=>annuls c q.key:=by
 have hp:=PK h e
 unfold anns
 rw[e,show pre++q::r=(pre++[q])++r by simp,List.filter_append,List.filter_eq_nil_iff.mpr (λc hc=>by rw[hp c hc];exact Bool.false_ne_true),List.nil_append]
theorem WQ(h:Later l)(e:l=pre++q::r):∀c∈pre++[q],(keysOf (reasons l q)).contains c.key=false:=by
 intro c hc
 have hcl:c∈l:=by
  rw[e]
  rcases List.mem_append.mp hc with hc | hc
  ·exact List.mem_append_left _ hc
  ·have:c=q:=by simpa using hc
   subst this;simp
 rw[Bool.eq_false_iff]
 intro z
 have z:=(asW h.nd (λx hx=>ZJ x (FU x hx)) hcl).mp z
 have:=(List.mem_filter.mp (FU c z)).2
 rw[PK h e c hc] at this
 cases this
theorem PQ(h:Later l)(e:l=pre++q::r):∀c∈r,(keysOf (reasons l q)).contains c.key=(annuls c q.key&&match wOf l q r with | none=>true | some w=>w==c.key):=by
 intro c hc
 have hcl:c∈l:=by rw[e];simp[hc]
 have hql:q∈l:=by rw[e];simp
 rw[Bool.eq_iff_iff,asW h.nd (λx hx=>ZJ x (FU x hx)) hcl]
 unfold reasons wOf
 by_cases z:(kernel l).contains q.key=true
 ·rw[if_pos (acQ.mpr z),if_pos z,acU h e,List.mem_filter]
  dsimp only
  rw[Bool.and_true]
  exact⟨λy=>y.2,λy=>⟨hc,y⟩⟩
 ·rw[if_neg (λy=>z (acQ.mp y)),if_neg z,acU h e,lastL_eq,List.filter_filter]
  have ef:(r.filter λa=>decide (fo l a=1)&&annuls a q.key)=r.filter λx=>annuls x q.key&&(kernel l).contains x.key:=by
   apply List.filter_congr
   intro x _
   rw[Bool.and_comm]
   congr 1
   rw[Bool.eq_iff_iff,decide_eq_true_eq,acQ]
  rw[ef]
  have hm:marks l q.key=true:=by
   have:=KJ h q hql
   rw[show(kernel l).contains q.key=false by simpa using z] at this
   simpa using this.symm
  rw[YZ h.nd] at hm
  obtain⟨y,hy,hy2⟩:=List.any_eq_true.mp hm
  rw[Bool.and_eq_true] at hy2
  have hyr:y∈r:=by
   rw[e,show pre++q::r=(pre++[q])++r by simp] at hy
   rcases List.mem_append.mp hy with hy | hy
   ·have:=PK h e y hy
    rw[this] at hy2
    cases hy2.2
   ·exact hy
  have hne:(r.filter λx=>annuls x q.key&&(kernel l).contains x.key)≠[]:=List.ne_nil_of_mem (List.mem_filter.mpr ⟨hyr,by rw[Bool.and_eq_true];exact⟨hy2.2,hy2.1⟩⟩)
  rw[List.getLast?_eq_some_getLast hne]
  have hl:=List.mem_filter.mp (List.getLast_mem hne)
  have hlr:(r.filter λx=>annuls x q.key&&(kernel l).contains x.key).getLast hne∈l:=(λw hw=>by rw[e];exact List.mem_append_right _ (List.mem_cons_of_mem _ hw):∀w,w∈r->w∈l) _ hl.1
  dsimp only[Option.toList_some,Option.map_some]
  rw[List.mem_singleton,Bool.and_eq_true,beq_iff_eq]
  rw[Bool.and_eq_true] at hl
  constructor
  ·intro y;rw[y];exact⟨hl.2.1,rfl⟩
  ·intro y;exact(IJ h.nd hlr hcl y.2).symm
end
theorem aNZ(k:List Int)(acc:List (Case×Option Int))(q:Case)(r:List Case):need k acc (q::r)=if acc.any (λp=>annuls q p.1.key&&(match p.2 with
   |none=>true
   |some w=>w==q.key))=true then need k (acc++[(q,if k.contains q.key=true then none else((r.filter λx=>annuls x q.key&&k.contains x.key).getLast?).map λx=>x.key)]) r else need k acc r:=rfl
theorem KK{l:List Case}(h:Later l):∀(r pre:List Case)(acc:List (Case×Option Int))(R:Int->Bool),l=pre++r->pre.filter (λc=>R c.key)=acc.map (·.1)->
  (∀q∈r,R q.key=acc.any (λp=>annuls q p.1.key&&(match p.2 with
   |none=>true
   |some w=>w==q.key)))->(l.filter λc=>reach l r R c.key)=(need (kernel l) acc r).map (·.1)
 |[],pre,acc,R,e,i1,_=>by
  rw[e,List.append_nil]
  exact i1
 |q::r,pre,acc,R,e,i1,i2=>by
  have e2:l=(pre++[q])++r:=by rw[e];simp
  have hq:=i2 q List.mem_cons_self
  rw[aNZ]
  unfold reach
  by_cases z:R q.key=true
  ·rw[if_pos z,if_pos (hq▸z)]
   refine KK h r (pre++[q]) _ _ e2 ?_ ?_
   ·rw[List.map_append]
    rw[List.filter_append,<-i1]
    congr 1
    ·apply List.filter_congr
     intro c hc
     rw[WQ h e c (List.mem_append_left _ hc),Bool.or_false]
    ·rw[List.filter_cons,if_pos (by rw[z];rfl),List.filter_nil]
     rfl
   ·intro q2 h2
    rw[List.any_append,<-i2 q2 (List.mem_cons_of_mem _ h2),PQ h e q2 h2,List.any_cons,List.any_nil,Bool.or_false]
    rfl
  ·rw[if_neg z,if_neg (hq▸z)]
   refine KK h r (pre++[q]) acc R e2 ?_ λq2 h2=>i2 q2 (List.mem_cons_of_mem _ h2)
   rw[List.filter_append,i1,List.filter_cons,if_neg z,List.filter_nil,List.append_nil]
theorem acV{l:List Case}:∀(p r:List Case)(R:Int->Bool),(∀c∈p,R c.key=false)->reach l (p++r) R=reach l r R
 |[],r,R,_=>rfl
 |c::p,r,R,h=>by
  show reach l (p++r) (if R c.key=true then _ else R)=_
  rw[h c List.mem_cons_self,if_neg Bool.false_ne_true]
  exact acV p r R λx hx=>h x (List.mem_cons_of_mem _ hx)
def becauseL(l:List Case)(x:Int):List Int:=told2 l (reach l l λy=>y==x)
theorem aIJ{s:State}{d x:Int}(h:Later (rulingsBy s d))(hx:x∈keysOf (rulingsBy s d)):becauseL (rulingsBy s d) x=(Vbnlal.because s d x).flatMap λp=>[p.1,p.2]:=by
 unfold becauseL told2 Vbnlal.because
 generalize rulingsBy s d=l at h hx
 dsimp only
 have hd:l.dropWhile (λc=>c.key != x)≠[]:=by
  intro q
  have:∀y∈l,(y.key != x)=true:=λy hy=>by
   have q2:=List.takeWhile_append_dropWhile (p:=λc:Case=>c.key != x) (l:=l)
   rw[q,List.append_nil] at q2
   rw[<-q2] at hy
   exact kQ (p:=λc:Case=>c.key != x) hy
  obtain⟨c,hc,e⟩:=List.mem_map.mp hx
  have:=this c hc
  rw[e] at this
  simp at this
 cases ed:l.dropWhile (λc=>c.key != x) with
 |nil=>exact absurd ed hd
 |cons c r=>
  have e:l=l.takeWhile (λc=>c.key != x)++c::r:=by rw[<-ed,List.takeWhile_append_dropWhile]
  have hc:c.key=x:=by
   have:=List.head?_dropWhile_not (λc:Case=>c.key != x) l
   rw[ed] at this
   simpa using this
  have hp:∀y∈l.takeWhile (λc=>c.key != x),y.key≠x:=λy hy=>by
   have:=kQ hy
   simpa using this
  generalize l.takeWhile (λc=>c.key != x)=pre at e hp
  dsimp only
  have e0:reach l l (λy=>y==x)=reach l (c::r) (λy=>y==x):=by
   conv=>lhs;rw[show reach l l=reach l (pre++c::r) from congrArg (reach l) e]
   exact acV pre _ _ λy hy=>beq_eq_false_iff_ne.mpr (hp y hy)
  rw[e0]
  have e1:reach l (c::r) (λy=>y==x)=reach l r (λy=>(y==x) || (keysOf (reasons l c)).contains y):=by
   show reach l r (if(c.key==x)=true then _ else _)=_
   rw[if_pos (beq_iff_eq.mpr hc)]
  rw[e1,KK h r (pre++[c]) [(c,wOf l c r)] _ (by rw[e];simp)]
  ·rw[List.flatMap_map,List.flatMap_map]
   rfl
  ·rw[List.filter_append,List.filter_eq_nil_iff.mpr,List.nil_append,List.filter_cons,if_pos,List.filter_nil]
   ·rfl
   ·rw[show(c.key==x)=true from beq_iff_eq.mpr hc];rfl
   ·intro y hy
    rw[WQ h e y (List.mem_append_left _ hy),Bool.or_false,beq_iff_eq]
    exact hp y hy
  ·intro q hq
   have hne:q.key≠x:=by
    rw[<-hc]
    intro z
    have:=h.nd
    rw[e] at this
    rw[keysOf,List.map_append,List.map_cons] at this
    exact(List.nodup_cons.mp (List.nodup_append.mp this).2.1).1 (z▸List.mem_map_of_mem hq)
   rw[PQ h e q hq,show(q.key==x)=false from beq_eq_false_iff_ne.mpr hne,Bool.false_or,List.any_cons,List.any_nil,Bool.or_false]
structure Ord(s:State):Prop where
 tgt:∀c∈s.cases,∀k,annuls c k=true->k∈s.rulings
 rul:∀k∈s.rulings,∃c∈s.cases,c.key=k/\c.phase=8
 nd:s.rulings.Nodup
 pw:s.rulings.Pairwise λk k'=>∀c∈s.cases,c.key=k->annuls c k'=false
 self:∀k∈s.rulings,∀c∈s.cases,c.key=k->annuls c k=false
theorem KQ{c c':Case}(e:c.effects=c'.effects)(k:Int):annuls c k=annuls c' k:=by
 unfold annuls
 rw[e]
theorem Ord.same{s s':State}(o:Ord s)(hr:s'.rulings=s.rulings)(h1:∀c'∈s'.cases,∃c∈s.cases,c.key=c'.key/\c.effects=c'.effects)(h2:∀c∈s.cases,c.phase=8->∃c'∈s'.cases,c'.key=c.key/\c'.phase=8):Ord s':=by
 have f:∀{P:Int->Int->Prop} ,(∀c∈s.cases,∀k,annuls c k=false->P c.key k)->True:=λ_=>trivial
 refine⟨λc' hc' k hk=>?_,λk hk=>?_,by rw[hr];exact o.nd,?_,λk hk c' hc' e=>?_⟩
 ·obtain⟨c,hc,_,e⟩:=h1 c' hc'
  rw[hr]
  exact o.tgt c hc k (by rw[KQ e];exact hk)
 ·rw[hr] at hk
  obtain⟨c,hc,e,p⟩:=o.rul k hk
  obtain⟨c',hc',e',p'⟩:=h2 c hc p
  exact⟨c',hc',e'.trans e,p'⟩
 ·rw[hr]
  refine o.pw.imp λ{a b} q c' hc' e=>?_
  obtain⟨c,hc,e1,e2⟩:=h1 c' hc'
  rw[<-KQ e2]
  exact q c hc (e1.trans e)
 ·rw[hr] at hk
  obtain⟨c,hc,e1,e2⟩:=h1 c' hc'
  rw[<-KQ e2]
  exact o.self k hk c hc (e1.trans e)
theorem Ord.eq{s s':State}(o:Ord s)(hr:s'.rulings=s.rulings)(hc:s'.cases=s.cases):Ord s':=o.same hr (λc h=>⟨c,hc▸h,rfl,rfl⟩) λc h p=>⟨c,hc.symm▸h,rfl,p⟩
theorem WU{s:State}{c x:Case}(nd:(s.cases.map (·.key)).Nodup)(hx:x∈s.cases)(hk:c.key=x.key){y:Case}(hy:y∈s.cases):(if y=x then c else y)∈(Vbnlal.setCase s c).cases:=by
 refine List.mem_map.mpr ⟨y,hy,?_⟩
 by_cases q:y=x
 ·subst q
  rw[if_pos hk.symm,if_pos rfl]
 ·rw[if_neg q,if_neg λe=>q (IJ nd hy hx (e.trans hk))]
theorem Ord.setCase{s:State}(o:Ord s)(nd:(s.cases.map (·.key)).Nodup){x c:Case}(hx:x∈s.cases)(hk:c.key=x.key)(he:c.effects=x.effects)(hp:x.phase≠8):Ord (Vbnlal.setCase s c):=by
 refine o.same rfl (λc' hc'=>?_) λy hy py=>?_
 ·rcases FQ hc' with rfl | h
  ·exact⟨x,hx,hk.symm,he.symm⟩
  ·exact⟨c',h,rfl,rfl⟩
 ·have q:=WU nd hx hk hy
  rw[if_neg (λe:y=x=>hp (by rw[<-e];exact py))] at q
  exact⟨y,q,rfl,py⟩
theorem annuls_iff{c:Case}{k:Int}:annuls c k=true↔∃e∈c.effects,e.kind=6/\e.a=k:=by
 unfold annuls
 rw[List.any_eq_true]
 exact⟨λ⟨e,h,q⟩=>⟨e,h,by simpa using q⟩,λ⟨e,h,q⟩=>⟨e,h,by simpa using q⟩⟩
theorem Ord.byCase{s:State}(o:Ord s)(k:Int){f:Case->State×Ans}(h:∀c,c∈s.cases->c.key=k->Ord (f c).1):Ord (match Vbnlal.caseOf s k with | none=>(s,[-6]) | some c=>f c).1:=by
 cases e:Vbnlal.caseOf s k with
 |none=>exact o
 |some c=>exact h c (fW e).1 (fW e).2
theorem Ord.ite{c:Prop}[Decidable c]{a b:State×Ans}(h1:c->Ord a.1)(h2:¬c->Ord b.1):Ord (if c then a else b).1:=by
 by_cases h:c
 ·rw[if_pos h];exact h1 h
 ·rw[if_neg h];exact h2 h
theorem Ord.asks{s:State}(g:Ord s)(d k:Int)(a:Ans):Ord (askRuling s d k a).1:=by
 unfold askRuling
 exact Ord.ite (λ_=>g) λ_=>Ord.ite (λ_=>g) λ_=>g
theorem Ord.step{n:Nat}{s:State}(g:Good n s)(o:Ord s):∀c:Call,Ord (Nc.stepM s c).1
 |.day d=>by
  show Ord (dayM s d).1
  unfold dayM
  exact Ord.ite (λ_=>o) λ_=>Ord.ite (λ_=>o) λ_=>o.eq rfl rfl
 |.seat k u=>by
  show Ord (seatM s k u).1
  unfold seatM
  exact Ord.ite (λ_=>o) λ_=>Ord.ite (λ_=>o) λ_=>Ord.ite (λ_=>o) λ_=>Ord.ite (λ_=>o) λ_=>Ord.ite (λ_=>o) λ_=>o.eq rfl rfl
 |.leave k=>by
  show Ord (Vbnlal.step s (.leave k)).1
  rw[step_leave]
  exact Ord.ite (λ_=>o) λ_=>o.eq rfl rfl
 |.preside k=>by
  show Ord (Vbnlal.step s (.preside k)).1
  rw[step_preside]
  exact Ord.ite (λ_=>o) λ_=>o.eq rfl rfl
 |.petition k t=>by
  show Ord (petitionM s k t).1
  unfold petitionM
  refine Ord.ite (λ_=>o) λ_=>?_
  cases e:Vbnlal.read t with
  |error r=>exact o
  |ok es=>
   refine Ord.ite (λ_=>o) λq1=>Ord.ite (λ_=>o) λq2=>Ord.ite (λ_=>o) λq3=>?_
   have hn:∀c∈s.cases,c.key≠k:=vZ (by simpa using q1)
   have hm:∀c,c∈s.cases++[({ key:=k,effects:=es,opened:=s.today,last:=s.today }:Case)]->c∈s.cases\/c={ key:=k,effects:=es,opened:=s.today,last:=s.today }:=λc hc=>by simpa using hc
   have hx:∀k'∈s.rulings,k'≠k:=λk' hk e=>by
    obtain⟨c,hc,e1,_⟩:=o.rul k' hk
    exact hn c hc (e1.trans e)
   refine⟨λc hc k' hk=>?_,λk' hk=>?_,o.nd,?_,λk' hk c hc e=>?_⟩
   ·rcases hm c hc with hc | rfl
    ·exact o.tgt c hc k' hk
    ·obtain⟨e,he,h6,ha⟩:=annuls_iff.mp hk
     have q2:targetsOk s es=true:=by simpa using q2
     have:=List.all_eq_true.mp q2 e he
     rw[h6,ha] at this
     simpa using this
   ·obtain⟨c,hc,e⟩:=o.rul k' hk
    exact⟨c,List.mem_append_left _ hc,e⟩
   ·have:∀l:List Int,(∀x∈l,x∈s.rulings)->(l.Pairwise λk k'=>∀c∈s.cases,c.key=k->annuls c k'=false)->l.Pairwise λa b=>∀c∈s.cases++[({ key:=k,effects:=es,opened:=s.today,last:=s.today }:Case)],c.key=a->annuls c b=false:=by
     intro l hl h
     induction h with
     |nil=>exact .nil
     |cons h1 h2 ih=>
      refine .cons (λb hb c hc e=>?_) (ih λx hx=>hl x (List.mem_cons_of_mem _ hx))
      rcases hm c hc with hc | rfl
      ·exact h1 b hb c hc e
      ·exact absurd e.symm (hx _ (hl _ List.mem_cons_self))
    exact this _ (λ_ h=>h) o.pw
   ·rcases hm c hc with hc | rfl
    ·exact o.self k' hk c hc e
    ·exact absurd e.symm (hx k' hk)
 |.withdraw k=>by
  show Ord (Vbnlal.step s (.withdraw k)).1
  rw[iW]
  exact o.byCase k λc hc _=>Ord.ite (λq=>o.setCase g.cnd hc rfl rfl (by omega)) λ_=>o
 |.comment k=>by
  show Ord (Vbnlal.step s (.comment k)).1
  rw[jX]
  exact o.byCase k λc hc _=>Ord.ite (λ_=>o) λq=>Ord.ite (λ_=>o) λ_=>o.setCase g.cnd hc rfl rfl (by omega)
 |.openVote k=>by
  show Ord (Vbnlal.step s (.openVote k)).1
  rw[iX]
  exact o.byCase k λc hc _=>Ord.ite (λ_=>o) λq=>Ord.ite (λ_=>o) λ_=>o.setCase g.cnd hc rfl rfl (by omega)
 |.ballot k m v=>by
  show Ord (Vbnlal.step s (.ballot k m v)).1
  rw[lK]
  exact o.byCase k λc hc _=>Ord.ite (λ_=>o) λq=>Ord.ite (λ_=>o) λ_=>Ord.ite (λ_=>o) λ_=>Ord.ite (λ_=>o) λ_=>Ord.ite (λ_=>o) λ_=>o.setCase g.cnd hc rfl rfl (λe=>q (by unfold voting;rw[e];rfl))
 |.close k=>by
  show Ord (Vbnlal.step s (.close k)).1
  rw[mU]
  exact o.byCase k λc hc _=>Ord.ite (λ_=>o) λq=>Ord.ite (λ_=>o) λ_=>o.setCase g.cnd hc rfl rfl (λe=>q (by unfold voting;rw[e];rfl))
 |.publish k=>by
  show Ord (Vbnlal.step s (.publish k)).1
  rw[jY]
  refine o.byCase k λc hc hk=>Ord.ite (λ_=>o) λq=>?_
  have q5:c.phase=5:=by simpa using q
  have p:=o.setCase g.cnd (c:={ c with phase:=8,published:=s.today }) hc rfl rfl (by omega)
  have hx:k∉s.rulings:=λh=>by
   obtain⟨x,hx,e,h8⟩:=o.rul k h
   have:=IJ g.cnd hx hc (e.trans hk.symm)
   subst this
   omega
  have hx2:∀c'∈(Vbnlal.setCase s { c with phase:=8,published:=s.today }).cases,annuls c' k=false:=λc' hc'=>by
   rw[Bool.eq_false_iff]
   exact λz=>hx (p.tgt c' hc' k z)
  refine⟨λc' hc' k' hk'=>List.mem_append_left _ (p.tgt c' hc' k' hk'),λk' hk'=>?_,?_,?_,λk' hk' c' hc' e=>?_⟩
  ·rcases List.mem_append.mp hk' with h | h
   ·exact p.rul k' h
   ·have:k'=k:=by simpa using h
    subst this
    have z:=WU (c:={ c with phase:=8,published:=s.today }) g.cnd hc rfl hc
    rw[if_pos rfl] at z
    exact⟨_,z,hk,rfl⟩
  ·exact List.nodup_append.mpr ⟨o.nd,by simp,λa ha b hb e=>hx (by have:b=k:=(by simpa using hb);exact this▸e▸ha)⟩
  ·refine List.pairwise_append.mpr ⟨p.pw,List.pairwise_singleton _ _,λa ha b hb c' hc' e=>?_⟩
   have:b=k:=by simpa using hb
   subst this
   exact hx2 c' hc'
  ·rcases List.mem_append.mp hk' with h | h
   ·exact p.self k' h c' hc' e
   ·have:k'=k:=by simpa using h
    subst this
    exact hx2 c' hc'
 |.read t=>by
  show Ord (match Vbnlal.read t with | .error r=>(s,[r]) | .ok es=>(s,(es.length:Int)::es.flatMap λ(e:Effect)=>[e.kind,e.a,e.b])).1
  cases Vbnlal.read t <;> exact o
 |.show_ k=>o.byCase k (f:=λc=>(s,0::written c.effects)) λ_ _ _=>o
 |.phase k=>o.byCase k (f:=λc=>(s,[c.phase,c.opened,c.comments,c.last,c.closing,c.published])) λ_ _ _=>o
 |.tally k=>o.byCase k (f:=λc=>(s,[0,votes c 1,votes c 2,votes c 3])) λ_ _ _=>o
 |.office=>o
 |.stays _=>o
 |.rulings d=>Ord.ite (λ_=>o) λ_=>o
 |.inForce d k=>o.asks d k _
 |.because d k=>o.asks d k _
 |.check d k v m=>o.asks d k _
 |.status d a=>Ord.ite (λ_=>o) λ_=>o
 |.over d a b=>Ord.ite (λ_=>o) λ_=>Ord.ite (λ_=>o) λ_=>o
 |.typeAt d a=>Ord.ite (λ_=>o) λ_=>o
 |.rejected d w=>Ord.ite (λ_=>o) λ_=>o
 |.index d=>Ord.ite (λ_=>o) λ_=>o
 |.conserved d=>Ord.ite (λ_=>o) λ_=>o
theorem Ord_start:Ord Vbnlal.start:=⟨λc h=>(by cases h),λc h=>(by cases h),.nil,.nil,λc h=>(by cases h)⟩
def ruled(s:State):List Case:=s.rulings.filterMap λk=>Vbnlal.caseOf s k
theorem oX{s:State}(nd:(s.cases.map (·.key)).Nodup){c:Case}(hc:c∈s.cases):Vbnlal.caseOf s c.key=some c:=by
 cases e:Vbnlal.caseOf s c.key with
 |none=>exact absurd rfl (vZ e c hc)
 |some x=>rw[IJ nd (fW e).1 hc (fW e).2]
theorem Ord.case{s:State}(o:Ord s)(nd:(s.cases.map (·.key)).Nodup){k:Int}(h:k∈s.rulings):∃c,Vbnlal.caseOf s k=some c/\c∈s.cases/\c.key=k:=by
 obtain⟨c,hc,e,_⟩:=o.rul k h
 exact⟨c,by rw[<-e];exact oX nd hc,hc,e⟩
theorem KU{s:State}(nd:(s.cases.map (·.key)).Nodup):∀{l:List Int},(∀k∈l,k∈s.rulings)->Ord s->keysOf (l.filterMap λk=>Vbnlal.caseOf s k)=l
 |[],_,_=>rfl
 |k::l,h,o=>by
  obtain⟨c,e,hc,hk⟩:=o.case nd (h k List.mem_cons_self)
  rw[List.filterMap_cons,e]
  show c.key::keysOf _=k::l
  rw[hk,KU nd (λx hx=>h x (List.mem_cons_of_mem _ hx)) o]
theorem Later.filter{l:List Case}(h:Later l)(p:Case->Bool):Later (l.filter p):=
 ⟨List.Nodup.sublist (List.Sublist.map _ List.filter_sublist) h.nd,h.pw.sublist List.filter_sublist,λc hc=>h.self c (List.mem_filter.mp hc).1⟩
theorem PU{s:State}{c:Case}(h:c∈ruled s):c∈s.cases/\c.key∈s.rulings:=by
 obtain⟨k,hk,e⟩:=List.mem_filterMap.mp h
 exact⟨(fW e).1,(fW e).2▸hk⟩
theorem Ord.later{s:State}(o:Ord s)(nd:(s.cases.map (·.key)).Nodup)(d:Int):Later (Vbnlal.rulingsBy s d):=by
 refine Later.filter (l:=ruled s) ⟨?_,?_,λc hc=>?_⟩ _
 ·rw[ruled,KU nd (λ_ h=>h) o];exact o.nd
 ·have:((keysOf (ruled s)).Pairwise λk k'=>∀c∈s.cases,c.key=k->annuls c k'=false):=by
   rw[ruled,KU nd (λ_ h=>h) o];exact o.pw
  rw[List.pairwise_map] at this
  have aux:∀l:List Case,(∀c∈l,c∈s.cases)->(l.Pairwise λa b=>∀c∈s.cases,c.key=a.key->annuls c b.key=false)->l.Pairwise λa b=>annuls a b.key=false:=by
   intro l hl h
   induction h with
   |nil=>exact .nil
   |cons h1 h2 ih=>exact .cons (λb hb=>h1 b hb _ (hl _ List.mem_cons_self) rfl) (ih λc hc=>hl c (List.mem_cons_of_mem _ hc))
  exact aux _ (λc hc=>(PU hc).1) this
 ·exact o.self c.key (PU hc).2 c (PU hc).1 rfl
def pubBy(s:State)(d k:Int):Bool:=match Vbnlal.caseOf s k with
 |some c=>decide (c.published<=d)
 |none=>false
theorem KW{s:State}(d:Int):∀l:List Int,keysOf ((l.filterMap λk=>Vbnlal.caseOf s k).filter λc=>decide (c.published<=d))=l.filter (pubBy s d)
 |[]=>rfl
 |k::l=>by
  rw[List.filterMap_cons,List.filter_cons]
  unfold pubBy
  cases e:Vbnlal.caseOf s k with
  |none=>
   dsimp only
   rw[if_neg Bool.false_ne_true]
   exact KW d l
  |some c=>
   dsimp only
   rw[List.filter_cons]
   by_cases q:decide (c.published<=d)=true
   ·rw[if_pos q,if_pos q]
    show c.key::keysOf _=k::_
    rw[(fW e).2]
    congr 1
    exact KW d l
   ·rw[if_neg q,if_neg q]
    exact KW d l
theorem ahX(s:State)(d:Int):keysOf (Vbnlal.rulingsBy s d)=s.rulings.filter (pubBy s d):=KW d s.rulings
theorem ZK{s:State}(nd:(s.cases.map (·.key)).Nodup){d:Int}{c:Case}(h:c∈Vbnlal.rulingsBy s d):Vbnlal.caseOf s c.key=some c:=oX nd (xY h)
theorem alW:∀{l k:List Int},l.Nodup->(∀x∈l,x∈k)->l.length<=k.length
 |[],_,_,_=>Nat.zero_le _
 |a::l,k,h,hs=>by
  have h2:=List.nodup_cons.mp h
  have ha:a∈k:=hs a List.mem_cons_self
  have q:=alW (l:=l) (k:=k.erase a) h2.2 λx hx=>(List.mem_erase_of_ne (λe:x=a=>h2.1 (by rw[<-e];exact hx))).mpr (hs x (List.mem_cons_of_mem _ hx))
  rw[List.length_erase_of_mem ha] at q
  have:=List.length_pos_of_mem ha
  rw[List.length_cons]
  omega
theorem Ord.len{n:Nat}{s:State}(o:Ord s)(g:Good n s):s.rulings.length<=32:=by
 have:s.rulings.length<=(s.cases.map (·.key)).length:=by
  refine alW o.nd λk hk=>?_
  obtain⟨c,hc,e,_⟩:=o.rul k hk
  exact e▸List.mem_map_of_mem hc
 rw[List.length_map] at this
 exact Nat.le_trans this g.cas
def valI(m:List (Int×Int))(k:Int):Option Int:=(m.find? λp=>p.1==k).map (·.2)
theorem wW{m:List (Int×Int)}(nd:(m.map (·.1)).Nodup){k v:Int}:valI m k=some v↔(k,v)∈m:=by
 induction m with
 |nil=>simp[valI]
 |cons p m ih=>
  have h2:=List.nodup_cons.mp (show(p.1::m.map (·.1)).Nodup from nd)
  have ih:=ih h2.2
  unfold valI at ih ⊢
  rw[List.find?_cons]
  by_cases e:p.1=k
  ·rw[show(p.1==k)=true from beq_iff_eq.mpr e]
   dsimp only[Option.map_some]
   rw[List.mem_cons]
   constructor
   ·intro h
    have:p.2=v:=Option.some.inj h
    exact .inl (by rw[<-e,<-this])
   ·rintro(h | h)
    ·rw[<-h]
    ·exact absurd (List.mem_map.mpr ⟨(k,v),h,e.symm⟩) h2.1
  ·rw[show(p.1==k)=false from beq_eq_false_iff_ne.mpr e]
   dsimp only
   rw[ih,List.mem_cons]
   constructor
   ·exact .inr
   ·rintro(h | h)
    ·exact absurd (by rw[<-h]) e
    ·exact h
theorem ZQ:∀l:List Int,once l=true↔l.Nodup
 |[]=>by simp[once]
 |x::r=>by
  unfold once
  rw[Bool.and_eq_true,ZQ r,List.nodup_cons,Bool.not_eq_true',<-Bool.not_eq_true,List.contains_iff_mem]
def borne(l:List Case)(m:List (Int×Int))(p:Int×Int):Bool:=
 l.any (λc=>c.key==p.1)&&(if p.2=1 then(anns l p.1).all (λc=>decide (valI m c.key=some 0)) else p.2==0&&(anns l p.1).any λc=>decide (valI m c.key=some 1))
theorem aTZ{l:List Case}{m:List (Int×Int)}(nd:(m.map (·.1)).Nodup)(p:Int×Int):borne l m p=hangs l m p:=by
 unfold borne hangs anns
 dsimp only
 rw[List.all_map,List.any_map]
 have e:∀(x v:Int),decide (valI m x=some v)=m.contains (x,v):=λx v=>by
  rw[Bool.eq_iff_iff,decide_eq_true_eq,wW nd,List.contains_iff_mem]
 simp only[Function.comp_def,e]
def checkL(l:List Case)(x v:Int)(row:List Int):Bool:=
 row.length % 2==0&&(decide ((ballotsOf row).map (·.1)).Nodup&&(decide (valI (ballotsOf row) x=some v)&&(ballotsOf row).all (borne l (ballotsOf row))))
theorem aOJ(s:State)(d x v:Int)(row:List Int):checkL (Vbnlal.rulingsBy s d) x v row=(row.length % 2==0&&Vbnlal.check s d x v (ballotsOf row)):=by
 unfold checkL Vbnlal.check
 congr 1
 by_cases h:((ballotsOf row).map (·.1)).Nodup
 ·rw[decide_eq_true h,Bool.true_and,(ZQ _).mpr h,Bool.true_and]
  congr 1
  ·rw[Bool.eq_iff_iff,decide_eq_true_eq,wW h,List.contains_iff_mem]
  ·congr 1
   funext p
   exact aTZ h p
 ·rw[decide_eq_false h,Bool.false_and,show once ((ballotsOf row).map λp=>p.1)=false from by rw[Bool.eq_false_iff];exact λz=>h ((ZQ _).mp z),Bool.false_and,Bool.and_false]
theorem WV:∀(row:List Int)(i:Nat)(a b:Int),row[2*i]? = some a->row[2*i+1]? = some b->(ballotsOf row)[i]? = some (a,b)
 |[],i,a,b,h,_=>by simp at h
 |[x],0,a,b,_,h=>by simp at h
 |[x],i+1,a,b,h,_=>by
  rw[show 2*(i+1)=2*i+1+1 by omega] at h
  simp at h
 |x::y::r,0,a,b,h,h'=>by
  have e1:x=a:=Option.some.inj h
  have e2:y=b:=Option.some.inj h'
  subst e1 e2
  rfl
 |x::y::r,i+1,a,b,h,h'=>by
  rw[show 2*(i+1)=2*i+1+1 by omega] at h h'
  exact WV r i a b h h'
theorem FV:∀(row:List Int),(ballotsOf row).length=row.length / 2
 |[]=>by simp[ballotsOf]
 |[x]=>by simp[ballotsOf]
 |x::y::r=>by
  show(ballotsOf r).length+1=_
  rw[FV r,List.length_cons,List.length_cons]
  omega
theorem aOK{α:Type}(p:α->Bool)(l:List α):(l.filter p).getLast? = l.reverse.find? p:=by
 rw[List.getLast?_eq_head?_reverse,<-List.filter_reverse,List.head?_filter]
def rng(l:List Case):List Case:=l.filter λc=>decide (fo l c=1)
theorem aIK(s:State)(d:Int):Vbnlal.forceAt s d=rng (Vbnlal.rulingsBy s d):=by
 unfold Vbnlal.forceAt rng
 dsimp only
 apply List.filter_congr
 intro c _
 rw[Bool.eq_iff_iff,decide_eq_true_eq,acQ]
def effsOf(c:Case):List (Effect×Int):=c.effects.map λe=>(e,c.key)
theorem asX(s:State)(d:Int):Vbnlal.effectsAt s d=(rng (Vbnlal.rulingsBy s d)).flatMap effsOf:=by
 unfold Vbnlal.effectsAt
 rw[aIK]
 rfl
theorem zV:∀{l k:List Int},l.Pairwise (· < ·)->k.Pairwise (· < ·)->(∀x,x∈l↔x∈k)->l=k
 |[],[],_,_,_=>rfl
 |[],b::k,_,_,h=>absurd ((h b).mpr List.mem_cons_self) (by simp)
 |a::l,[],_,_,h=>absurd ((h a).mp List.mem_cons_self) (by simp)
 |a::l,b::k,h1,h2,h=>by
  have p1:=List.pairwise_cons.mp h1
  have p2:=List.pairwise_cons.mp h2
  have e:a=b:=by
   rcases List.mem_cons.mp ((h a).mp List.mem_cons_self) with e | e
   ·exact e
   ·rcases List.mem_cons.mp ((h b).mpr List.mem_cons_self) with e' | e'
    ·exact e'.symm
    ·have:=p1.1 b e'
     have:=p2.1 a e
     omega
  subst e
  congr 1
  refine zV p1.2 p2.2 λx=>⟨λhx=>?_,λhx=>?_⟩
  ·rcases List.mem_cons.mp ((h x).mp (List.mem_cons_of_mem _ hx)) with e | e
   ·have:=p1.1 x hx;omega
   ·exact e
  ·rcases List.mem_cons.mp ((h x).mpr (List.mem_cons_of_mem _ hx)) with e | e
   ·have:=p2.1 x hx;omega
   ·exact e
theorem putNum_mem_iff{x z:Int}:∀{l:List Int},z∈putNum x l↔z=x\/z∈l
 |[]=>by simp[putNum]
 |y::r=>by
  unfold putNum
  split
  ·simp
  ·split
   ·rename_i h1 h2
    subst h2
    simp
   ·rw[List.mem_cons,putNum_mem_iff,List.mem_cons]
    constructor
    ·rintro(h | h | h)
     ·exact .inr (.inl h)
     ·exact .inl h
     ·exact .inr (.inr h)
    ·rintro(h | h | h)
     ·exact .inr (.inl h)
     ·exact .inl h
     ·exact .inr (.inr h)
theorem WW{z:Int}:∀(l acc:List Int),z∈l.foldl (λl a=>putNum a l) acc↔z∈acc\/z∈l
 |[],acc=>by simp
 |a::l,acc=>by
  rw[List.foldl_cons,WW l,putNum_mem_iff,List.mem_cons]
  constructor
  ·rintro((h | h) | h)
   ·exact .inr (.inl h)
   ·exact .inl h
   ·exact .inr (.inr h)
  ·rintro(h | h | h)
   ·exact .inl (.inr h)
   ·exact .inl (.inl h)
   ·exact .inr h
theorem PV:∀(l acc:List Int),acc.Pairwise (· < ·)->(l.foldl (λl a=>putNum a l) acc).Pairwise (· < ·)
 |[],acc,h=>h
 |a::l,acc,h=>PV l _ (FK h)
def lastSt(l:List (Effect×Int))(a:Int):Option (Effect×Int):=(l.filter λx=>decide (x.1.kind<=2)&&x.1.a==a).getLast?
theorem FW(l:List (Effect×Int))(x:Effect×Int)(a:Int):lastSt (l++[x]) a=if x.1.kind<=2/\x.1.a=a then some x else lastSt l a:=by
 unfold lastSt
 rw[List.filter_append]
 by_cases h:x.1.kind<=2/\x.1.a=a
 ·rw[if_pos h,List.filter_cons,if_pos (by simpa using h),List.filter_nil,List.getLast?_concat]
 ·rw[if_neg h,List.filter_cons,if_neg (by simpa using h),List.filter_nil,List.append_nil]
theorem aUJ{s:State}{d:Int}{ks:List Int}(h:ks.Pairwise (· < ·))(hm:∀x,x∈ks↔∃e∈Vbnlal.effectsAt s d,e.1.kind<=2/\e.1.a=x) :
  ks.filter (λa=>(Vbnlal.statusOf s d a).1 != 0)=Vbnlal.indexAt s d:=by
 unfold Vbnlal.indexAt
 congr 1
 refine zV h (PV _ _ .nil) λx=>?_
 rw[hm x,WW]
 simp only[List.mem_map,List.mem_filter,decide_eq_true_eq,List.not_mem_nil,false_or]
 exact⟨λ⟨e,he,h1,h2⟩=>⟨e,⟨he,h1⟩,h2⟩,λ⟨e,⟨he,h1⟩,h2⟩=>⟨e,he,h1,h2⟩⟩
theorem aAY(s:State)(d a:Int):Vbnlal.statusOf s d a=match lastSt (Vbnlal.effectsAt s d) a with
 |some x=>(x.1.kind,x.2)
 |none=>(0,0):=rfl
def pairOf(x:Effect×Int):Int×Int:=(if x.1.b<x.1.a then x.1.b else x.1.a,if x.1.b > x.1.a then x.1.b else x.1.a)
theorem asY(x y:Effect×Int):((y.1.a==x.1.a&&y.1.b==x.1.b) || (y.1.a==x.1.b&&y.1.b==x.1.a))=decide (pairOf y=pairOf x):=by
 rw[Bool.eq_iff_iff,decide_eq_true_eq]
 unfold pairOf
 simp only[Bool.or_eq_true,Bool.and_eq_true,beq_iff_eq,Prod.mk.injEq]
 constructor
 ·rintro(⟨h1,h2⟩ | ⟨h1,h2⟩)
  ·rw[h1,h2];exact⟨rfl,rfl⟩
  ·rw[h1,h2];constructor <;> split <;> split <;> omega
 ·rintro⟨h1,h2⟩
  split at h1 <;> split at h1 <;> split at h2 <;> split at h2 <;> omega
def keepL:List (Effect×Int)->List (Effect×Int)
 |[]=>[]
 |x::r=>if x.1.kind=3/\¬(∃y∈r,y.1.kind=3/\pairOf y=pairOf x) then x::keepL r else keepL r
theorem keep_cons(x:Effect×Int)(r:List (Effect×Int)):edgesAt.keep (x::r)=if r.any (λy=>(y.1.a==x.1.a&&y.1.b==x.1.b) || (y.1.a==x.1.b&&y.1.b==x.1.a))=true then edgesAt.keep r else x::edgesAt.keep r:=by
 rw[edgesAt.keep]
theorem ZU:∀l:List (Effect×Int),keepL l=edgesAt.keep (l.filter λx=>x.1.kind==3)
 |[]=>rfl
 |x::r=>by
  unfold keepL
  rw[List.filter_cons]
  by_cases h3:x.1.kind=3
  ·rw[if_pos (show(x.1.kind==3)=true from beq_iff_eq.mpr h3),keep_cons,ZU r]
   have e:((r.filter λx=>x.1.kind==3).any λy=>(y.1.a==x.1.a&&y.1.b==x.1.b) || (y.1.a==x.1.b&&y.1.b==x.1.a))=true↔∃y∈r,y.1.kind=3/\pairOf y=pairOf x:=by
    rw[List.any_eq_true]
    constructor
    ·rintro⟨y,hy,q⟩
     rw[asY] at q
     have:=List.mem_filter.mp hy
     exact⟨y,this.1,beq_iff_eq.mp this.2,of_decide_eq_true q⟩
    ·rintro⟨y,hy,h,q⟩
     exact⟨y,List.mem_filter.mpr ⟨hy,beq_iff_eq.mpr h⟩,by rw[asY];exact decide_eq_true q⟩
   by_cases q:∃y∈r,y.1.kind=3/\pairOf y=pairOf x
   ·rw[if_pos (e.mpr q),if_neg λz=>z.2 q]
   ·rw[if_neg (λz=>q (e.mp z)),if_pos ⟨h3,q⟩]
  ·rw[if_neg (show ¬(x.1.kind==3)=true from λz=>h3 (beq_iff_eq.mp z)),if_neg λz=>h3 z.1,ZU r]
theorem aUK(s:State)(d:Int):Vbnlal.edgesAt s d=keepL (Vbnlal.effectsAt s d):=by
 rw[ZU]
 rfl
theorem ZV{l:List Int}(h:l.Pairwise (·<=·))(nd:l.Nodup):l.Pairwise (· < ·):=by
 refine(List.pairwise_and_iff.mpr ⟨h,nd⟩).imp λ{a b} q=>?_
 have:=q.1
 have:=q.2
 omega
def pend(s:State)(n k:Int):Bool:=match Vbnlal.caseOf s k with
 |some c=>decide (c.phase<=5)&&speaks c n
 |none=>false
theorem asZ{s:State}(nd:(s.cases.map (·.key)).Nodup){ks:List Int}(p:ks.Perm (s.cases.map (·.key)))(h:ks.Pairwise (·<=·))(n:Int):ks.filter (pend s n)=sortInt (staysKeys s n):=by
 have hl:=ZV h (p.nodup_iff.mpr nd)
 have nd2:(staysKeys s n).Nodup:=List.Nodup.sublist (List.Sublist.map _ List.filter_sublist) nd
 refine zV (hl.sublist List.filter_sublist) (BJ _) λx=>?_
 rw[(AZ nd2).mem_iff,List.mem_filter,p.mem_iff]
 unfold staysKeys
 constructor
 ·rintro⟨h1,h2⟩
  obtain⟨c,hc,e⟩:=List.mem_map.mp h1
  unfold pend at h2
  rw[<-e,oX nd hc] at h2
  exact List.mem_map.mpr ⟨c,List.mem_filter.mpr ⟨hc,h2⟩,e⟩
 ·intro h1
  obtain⟨c,hc,e⟩:=List.mem_map.mp h1
  have hc:=List.mem_filter.mp hc
  refine⟨List.mem_map.mpr ⟨c,hc.1,e⟩,?_⟩
  unfold pend
  rw[<-e,oX nd hc.1]
  exact hc.2
def untilOf(l:List Member)(k:Int):Int:=match l.find? λm=>m.key==k with
 |some m=>m.until_
 |none=>0
theorem rV{l:List Member}(nd:(l.map (·.key)).Nodup){m:Member}(h:m∈l):(l.find? λx=>x.key==m.key)=some m:=by
 induction l with
 |nil=>cases h
 |cons a l ih=>
  have h2:=List.nodup_cons.mp (show(a.key::l.map (·.key)).Nodup from nd)
  rw[List.find?_cons]
  rcases List.mem_cons.mp h with e | h
  ·rw[e,show(a.key==a.key)=true from beq_self_eq_true _]
  ·rw[show(a.key==m.key)=false from beq_eq_false_iff_ne.mpr λe=>h2.1 (e▸List.mem_map_of_mem h)]
   exact ih h2.2 h
theorem aOQ{s:State}(nd:(s.members.map (·.key)).Nodup){ks:List Int}(p:ks.Perm (s.members.map (·.key)))(h:ks.Pairwise (·<=·)):(ks.flatMap λk=>[k,untilOf s.members k])=(sortMem s.members).flatMap λm=>[m.key,m.until_]:=by
 have hl:=ZV h (p.nodup_iff.mpr nd)
 have e:ks=(sortMem s.members).map (·.key):=by
  refine zV hl (List.pairwise_map.mpr (AY nd)) λx=>?_
  rw[p.mem_iff,((lV s.members).map (·.key)).mem_iff]
 rw[e,List.flatMap_map]
 have:∀l:List Member,(∀m∈l,m∈s.members)->(l.flatMap λm=>[m.key,untilOf s.members m.key])=l.flatMap λm=>[m.key,m.until_]:=by
  intro l
  induction l with
  |nil=>intro _;rfl
  |cons m l ih=>
   intro hm
   rw[List.flatMap_cons,List.flatMap_cons,ih λx hx=>hm x (List.mem_cons_of_mem _ hx)]
   unfold untilOf
   rw[rV nd (hm m List.mem_cons_self)]
 exact this _ λm hm=>(lV s.members).mem_iff.mp hm
structure BalC(c:Case):Prop where
 nd:(c.ballots.map (·.1)).Nodup
 key:∀b∈c.ballots,1<=b.1
def Bal(s:State):Prop:=∀c∈s.cases,BalC c
theorem Bal.setCase{s:State}(b:Bal s){c:Case}(h:BalC c):Bal (Vbnlal.setCase s c):=λx hx=>by
 rcases FQ hx with rfl | hx
 ·exact h
 ·exact b x hx
theorem Bal.byCase{s:State}(o:Bal s)(k:Int){f:Case->State×Ans}(h:∀c,c∈s.cases->BalC c->Bal (f c).1):Bal (match Vbnlal.caseOf s k with | none=>(s,[-6]) | some c=>f c).1:=by
 cases e:Vbnlal.caseOf s k with
 |none=>exact o
 |some c=>exact h c (fW e).1 (o c (fW e).1)
theorem Bal.ite{c:Prop}[Decidable c]{a b:State×Ans}(h1:c->Bal a.1)(h2:¬c->Bal b.1):Bal (if c then a else b).1:=by
 by_cases h:c
 ·rw[if_pos h];exact h1 h
 ·rw[if_neg h];exact h2 h
theorem Bal.asks{s:State}(g:Bal s)(d k:Int)(a:Ans):Bal (askRuling s d k a).1:=by
 unfold askRuling
 exact Bal.ite (λ_=>g) λ_=>Bal.ite (λ_=>g) λ_=>g
theorem BalC.eq{c c':Case}(h:BalC c)(e:c'.ballots=c.ballots):BalC c':=⟨by rw[e];exact h.nd,by rw[e];exact h.key⟩
theorem BalC.none{c:Case}(e:c.ballots=[]):BalC c:=⟨by rw[e];exact .nil,by rw[e];exact λb h=>by cases h⟩
theorem Good.officeA{n:Nat}{s:State}(g:Good n s)(k:Int):Vbnlal.inOffice s k=s.members.any λx=>x.key==k:=by
 rw[eU g.mnd]
 congr 1
 exact List.filter_eq_self.mpr λm hm=>decide_eq_true (g.srv m hm)
theorem Bal.step{n:Nat}{s:State}(g:Good n s)(o:Bal s):∀c:Call,Bal (Nc.stepM s c).1
 |.day d=>by
  show Bal (dayM s d).1
  unfold dayM
  exact Bal.ite (λ_=>o) λ_=>Bal.ite (λ_=>o) λ_=>o
 |.seat k u=>by
  show Bal (seatM s k u).1
  unfold seatM
  exact Bal.ite (λ_=>o) λ_=>Bal.ite (λ_=>o) λ_=>Bal.ite (λ_=>o) λ_=>Bal.ite (λ_=>o) λ_=>Bal.ite (λ_=>o) λ_=>o
 |.leave k=>by
  show Bal (Vbnlal.step s (.leave k)).1
  rw[step_leave]
  exact Bal.ite (λ_=>o) λ_=>o
 |.preside k=>by
  show Bal (Vbnlal.step s (.preside k)).1
  rw[step_preside]
  exact Bal.ite (λ_=>o) λ_=>o
 |.petition k t=>by
  show Bal (petitionM s k t).1
  unfold petitionM
  refine Bal.ite (λ_=>o) λ_=>?_
  cases e:Vbnlal.read t with
  |error r=>exact o
  |ok es=>
   refine Bal.ite (λ_=>o) λq1=>Bal.ite (λ_=>o) λq2=>Bal.ite (λ_=>o) λq3=>λc hc=>?_
   rcases List.mem_append.mp hc with hc | hc
   ·exact o c hc
   ·have:c={ key:=k,effects:=es,opened:=s.today,last:=s.today }:=by simpa using hc
    subst this
    exact .none rfl
 |.withdraw k=>by
  show Bal (Vbnlal.step s (.withdraw k)).1
  rw[iW]
  exact o.byCase k λc hc b=>Bal.ite (λq=>o.setCase (b.eq rfl)) λ_=>o
 |.comment k=>by
  show Bal (Vbnlal.step s (.comment k)).1
  rw[jX]
  exact o.byCase k λc hc b=>Bal.ite (λ_=>o) λq=>Bal.ite (λ_=>o) λ_=>o.setCase (b.eq rfl)
 |.openVote k=>by
  show Bal (Vbnlal.step s (.openVote k)).1
  rw[iX]
  exact o.byCase k λc hc b=>Bal.ite (λ_=>o) λq=>Bal.ite (λ_=>o) λ_=>o.setCase (.none rfl)
 |.ballot k m v=>by
  show Bal (Vbnlal.step s (.ballot k m v)).1
  rw[lK]
  refine o.byCase k λc hc b=>Bal.ite (λ_=>o) λq=>Bal.ite (λ_=>o) λ_=>Bal.ite (λ_=>o) λh1=>Bal.ite (λ_=>o) λ_=>Bal.ite (λ_=>o) λh2=>o.setCase ⟨?_,λp hp=>?_⟩
  ·show((c.ballots++[(m,v)]).map (·.1)).Nodup
   rw[List.map_append]
   refine List.nodup_append.mpr ⟨b.nd,by simp,λx hx y hy e=>h2 ?_⟩
   obtain⟨p,hp,ep⟩:=List.mem_map.mp hx
   have:y=m:=by simpa using hy
   exact List.any_eq_true.mpr ⟨p,hp,beq_iff_eq.mpr (ep.trans (e.trans this))⟩
  ·rcases List.mem_append.mp hp with hp | hp
   ·exact b.key p hp
   ·have:p=(m,v):=by simpa using hp
    subst this
    have h1:inOffice s m=true:=by simpa using h1
    rw[g.officeA] at h1
    obtain⟨x,hx,e⟩:=List.any_eq_true.mp h1
    have:=g.key x hx
    rw[beq_iff_eq.mp e] at this
    exact this
 |.close k=>by
  show Bal (Vbnlal.step s (.close k)).1
  rw[mU]
  exact o.byCase k λc hc b=>Bal.ite (λ_=>o) λq=>Bal.ite (λ_=>o) λ_=>o.setCase (b.eq rfl)
 |.publish k=>by
  show Bal (Vbnlal.step s (.publish k)).1
  rw[jY]
  exact o.byCase k λc hc b=>Bal.ite (λ_=>o) λq=>o.setCase (c:={ c with phase:=8,published:=s.today }) (b.eq rfl)
 |.read t=>by
  show Bal (match Vbnlal.read t with | .error r=>(s,[r]) | .ok es=>(s,(es.length:Int)::es.flatMap λ(e:Effect)=>[e.kind,e.a,e.b])).1
  cases Vbnlal.read t <;> exact o
 |.show_ k=>o.byCase k (f:=λc=>(s,0::written c.effects)) λ_ _ _=>o
 |.phase k=>o.byCase k (f:=λc=>(s,[c.phase,c.opened,c.comments,c.last,c.closing,c.published])) λ_ _ _=>o
 |.tally k=>o.byCase k (f:=λc=>(s,[0,votes c 1,votes c 2,votes c 3])) λ_ _ _=>o
 |.office=>o
 |.stays _=>o
 |.rulings d=>Bal.ite (λ_=>o) λ_=>o
 |.inForce d k=>o.asks d k _
 |.because d k=>o.asks d k _
 |.check d k v m=>o.asks d k _
 |.status d a=>Bal.ite (λ_=>o) λ_=>o
 |.over d a b=>Bal.ite (λ_=>o) λ_=>Bal.ite (λ_=>o) λ_=>o
 |.typeAt d a=>Bal.ite (λ_=>o) λ_=>o
 |.rejected d w=>Bal.ite (λ_=>o) λ_=>o
 |.index d=>Bal.ite (λ_=>o) λ_=>o
 |.conserved d=>Bal.ite (λ_=>o) λ_=>o
theorem Bal_start:Bal Vbnlal.start:=λc h=>by cases h
theorem aAZ{n:Nat}{s:State}(g:Good n s){c:Case}(b:BalC c):(inOffice s s.president=true/\c.ballots.contains (s.president,1)=true)↔valI c.ballots s.president=some 1:=by
 rw[wW b.nd,List.contains_iff_mem,g.officeA]
 constructor
 ·exact λh=>h.2
 ·intro h
  refine⟨?_,h⟩
  rcases g.prs with e | e
  ·have:=b.key _ h
   rw[e] at this
   omega
  ·exact e
def dayAt(s:State)(d:Int)(i:Nat):State:={ s with today:=d,members:=(s.members.take i).filter (serves d)++s.members.drop i,president:=if(s.members.take i).any (λm=>m.key==s.president && !serves d m)=true then 0 else s.president }
def endOff(s:State)(k:Int):State:={ s with members:=s.members.filter (λx=>x.key != k),president:=if s.president=k then 0 else s.president }
theorem aIQ(s:State)(d:Int):dayAt s d 0={ s with today:=d }:=by
 unfold dayAt
 simp
theorem zW{α:Type}:∀{l:List α}{i:Nat}{x:α},l[i]? = some x->l.take (i+1)=l.take i++[x]
 |[],i,x,h=>by simp at h
 |a::l,0,x,h=>by
  have e:a=x:=Option.some.inj h
  subst e
  rfl
 |a::l,i+1,x,h=>by
  have ih:=zW (l:=l) (i:=i) (x:=x) h
  show a::l.take (i+1)=a::l.take i++[x]
  rw[ih]
  rfl
theorem nU{α:Type}{l:List α}{i:Nat}{x:α}(h:l[i]? = some x):l.drop i=x::l.drop (i+1):=by
 obtain⟨hl,e⟩:=List.getElem?_eq_some_iff.mp h
 rw[List.drop_eq_getElem_cons hl,e]
section
variable{n:Nat}{s:State}{d:Int}{i:Nat}{m:Member}
theorem aIU(h:s.members[i]? = some m)(hs:serves d m=true):dayAt s d (i+1)=dayAt s d i:=by
 unfold dayAt
 rw[zW h,List.filter_append,List.any_append,nU h,List.filter_cons,if_pos hs]
 simp[hs]
theorem others{l:List Member}(nd:(l.map (·.key)).Nodup)(h:l[i]? = some m):(∀x∈l.take i,x.key≠m.key)/\∀x∈l.drop (i+1),x.key≠m.key:=by
 have e:l=l.take i++m::l.drop (i+1):=by rw[<-nU h,List.take_append_drop]
 rw[e,List.map_append,List.map_cons] at nd
 have n1:=List.nodup_append.mp nd
 have n2:=List.nodup_cons.mp n1.2.1
 exact⟨λx hx e=>n1.2.2 x.key (List.mem_map_of_mem hx) m.key List.mem_cons_self e,λx hx e=>n2.1 (e▸List.mem_map_of_mem hx)⟩
theorem aOU(g:Good n s)(h:s.members[i]? = some m)(hs:¬serves d m=true):dayAt s d (i+1)=endOff (dayAt s d i) m.key:=by
 obtain⟨o1,o2⟩:=others g.mnd h
 have hs':serves d m=false:=by simpa using hs
 unfold dayAt endOff
 dsimp only
 congr 1
 ·rw[zW h,List.filter_append,List.filter_cons,if_neg hs,List.filter_nil,List.append_nil,List.filter_append,nU h,List.filter_cons,if_neg (by simp)]
  congr 1
  ·exact(List.filter_eq_self.mpr λx hx=>by simpa using o1 x (List.mem_filter.mp hx).1).symm
  ·exact(List.filter_eq_self.mpr λx hx=>by simpa using o2 x hx).symm
 ·rw[zW h,List.any_append,List.any_cons,List.any_nil,Bool.or_false,hs',Bool.not_false,Bool.and_true]
  have hk:=g.key m (List.mem_of_getElem? h)
  by_cases q:(s.members.take i).any (λm=>m.key==s.president && !serves d m)=true
  ·rw[if_pos q,q,Bool.true_or,if_pos rfl,if_neg (by omega)]
  ·rw[if_neg q]
   have q':(s.members.take i).any (λm=>m.key==s.president && !serves d m)=false:=by simpa using q
   rw[q',Bool.false_or]
   by_cases z:s.president=m.key
   ·rw[if_pos (by simp[z]),if_pos z]
   ·rw[if_neg (by simpa using λe=>z e.symm),if_neg z]
theorem aIV(g:Good n s):dayAt s d s.members.length={ s with today:=d,members:=s.members.filter (serves d),president:=if(s.members.filter (serves d)).any (λm=>m.key==s.president)=true then s.president else 0 }:=by
 unfold dayAt
 rw[List.take_length,List.drop_length,List.append_nil]
 congr 1
 rw[List.any_filter]
 rcases g.prs with e | e
 ·rw[e]
  split <;> split <;> rfl
 ·obtain⟨m,hm,ek⟩:=List.any_eq_true.mp e
  have ek:=beq_iff_eq.mp ek
  by_cases hs:serves d m=true
  ·have h1:(s.members.any λm=>m.key==s.president && !serves d m)=false:=by
    rw[List.any_eq_false]
    intro x hx
    rw[Bool.and_eq_true,beq_iff_eq]
    rintro⟨h1,h2⟩
    have:x=m:=by
     have nd:=g.mnd
     have f1:=rV nd hx
     have f2:=rV nd hm
     rw[h1,<-ek,f2] at f1
     exact(Option.some.inj f1).symm
    subst this
    rw[hs] at h2
    cases h2
   rw[if_neg (by rw[h1];exact Bool.false_ne_true),if_pos (List.any_eq_true.mpr ⟨m,hm,by rw[hs,ek];simp⟩)]
  ·have hs':serves d m=false:=by simpa using hs
   rw[if_pos (List.any_eq_true.mpr ⟨m,hm,by rw[hs',ek];simp⟩),if_neg]
   intro z
   obtain⟨x,hx,h⟩:=List.any_eq_true.mp z
   rw[Bool.and_eq_true,beq_iff_eq] at h
   have:x=m:=by
    have f1:=rV g.mnd hx
    have f2:=rV g.mnd hm
    rw[h.2,<-ek,f2] at f1
    exact(Option.some.inj f1).symm
   subst this
   exact hs h.1
end
end Nc
end
section
namespace L2
open PySem PySem.Spec PyProof.Rows
abbrev Key:=Sum Int Str
def keyIs:Key->Value->Bool
 |.inl k,v=>Value.isInt k v
 |.inr x,v=>Value.isStrOf x v
def keyH(w:World):Key->Int
 |.inl k=>hashInt k
 |.inr x=>hashStr w x
theorem gX:∀{k:Key}{v:Value},keyIs k v=true->(∃i t,k=Sum.inl i/\v=Value.int i t)\/(∃x t,k=Sum.inr x/\v=Value.str x t)
 |.inl i,v,h=>by
  obtain⟨t,e⟩:=Value.isInt_shape (k:=i) (v:=v) h
  exact .inl ⟨i,t,rfl,e⟩
 |.inr x,v,h=>by
  obtain⟨t,e⟩:=Value.isStrOf_shape (x:=x) (v:=v) h
  exact .inr ⟨x,t,rfl,e⟩
theorem aOV(i:Int)(t:Tok):keyIs (.inl i) (.int i t)=true:=by simp[keyIs,Value.isInt]
theorem aOW(x:Str)(t:Tok):keyIs (.inr x) (.str x t)=true:=by simp[keyIs,Value.isStrOf]
theorem beW(a b:Int):decide ((Sum.inl a:Key)=Sum.inl b)=(a==b):=by
 by_cases e:a=b
 ·subst e;simp
 ·have h:¬(Sum.inl a:Key)=Sum.inl b:=λq=>e (Sum.inl.inj q)
  rw[decide_eq_false h]
  exact(beq_eq_false_iff_ne.mpr e).symm
theorem beX(a b:Str):decide ((Sum.inr a:Key)=Sum.inr b)=decide (a=b):=by
 by_cases e:a=b
 ·subst e;simp
 ·have h:¬(Sum.inr a:Key)=Sum.inr b:=λq=>e (Sum.inr.inj q)
  rw[decide_eq_false h,decide_eq_false e]
theorem beY(a:Int)(b:Str):decide ((Sum.inl a:Key)=Sum.inr b)=false:=decide_eq_false (λq=>nomatch q)
theorem beZ(a:Str)(b:Int):decide ((Sum.inr a:Key)=Sum.inl b)=false:=decide_eq_false (λq=>nomatch q)
def mixKind(prog:Program)(w:World):PySem.KeyKind prog w Key where
 is:=keyIs
 hash:=keyH w
 inj:=λv a b ha hb=>by
  rcases gX ha with ⟨i,t,rfl,rfl⟩ | ⟨x,t,rfl,rfl⟩
  ·rcases gX hb with ⟨j,u,rfl,e⟩ | ⟨y,u,rfl,e⟩
   ·injection e with e1 _;rw[e1]
   ·exact nomatch e
  ·rcases gX hb with ⟨j,u,rfl,e⟩ | ⟨y,u,rfl,e⟩
   ·exact nomatch e
   ·injection e with e1 _;rw[e1]
 byValue:=λk v h=>by
  rcases gX h with ⟨i,t,rfl,rfl⟩ | ⟨x,t,rfl,rfl⟩ <;> rfl
 pyHash:=λhv h=>by
  rcases gX hv with ⟨i,t,rfl,rfl⟩ | ⟨x,t,rfl,rfl⟩
  ·exact wpAny_pyHash_int h
  ·exact wpAny_pyHash_str h
 eqBool:=λhu hv h=>by
  rcases gX hu with ⟨i,t,rfl,rfl⟩ | ⟨x,t,rfl,rfl⟩
  ·rcases gX hv with ⟨j,u,rfl,rfl⟩ | ⟨y,u,rfl,rfl⟩
   ·rw[beW] at h;exact wpAny_eqBool_int h
   ·rw[beY] at h;exact SeqAt.EqAt.int_str i t y u _ _ _ _ h
  ·rcases gX hv with ⟨j,u,rfl,rfl⟩ | ⟨y,u,rfl,rfl⟩
   ·rw[beZ] at h;exact SeqAt.EqAt.str_int x t j u _ _ _ _ h
   ·rw[beX] at h;exact wpAny_eqBool_str h
 «strs»:=λk x t v h=>by
  rcases gX h with ⟨i,u,rfl,e⟩ | ⟨y,u,rfl,e⟩
  ·exact nomatch e
  ·injection e with e1 _
   subst e1
   cases v <;> rfl
theorem aBJ(prog:Program)(w:World)(i:Int)(t:Tok):(mixKind prog w).is (.inl i) (.int i t)=true:=aOV i t
theorem aBK(prog:Program)(w:World)(x:Str)(t:Tok):(mixKind prog w).is (.inr x) (.str x t)=true:=aOW x t
end L2
namespace L2
open PySem PySem.Spec PyProof.Rows
inductive V where
 |non | bl (b:Bool) | int (i:Int) | str (x:Str) | byt (b:Array UInt8) | flt (b:UInt64) | ref (a:Addr) | ty (n:String)
 deriving DecidableEq
def RelV:V->Value->Prop
 |.non,u=>u=Value.none
 |.bl b,u=>u=Value.bool b
 |.int i,u=>∃t,u=Value.int i t
 |.str x,u=>∃t,u=Value.str x t
 |.byt b,u=>∃t,u=Value.bytes b t
 |.flt b,u=>∃t,u=Value.float b t
 |.ref a,u=>u=Value.ref a
 |.ty n,u=>u=Value.type n
abbrev Vals:List V->List Value->Prop:=Paired RelV
theorem Vals.length{xs:List V}{us:List Value}(r:Vals xs us):xs.length=us.length:=Paired.length r
theorem Vals.get:∀{xs:List V}{us:List Value}{i:Nat}{x:V},Vals xs us->xs[i]? = some x->∃u,us[i]? = some u/\RelV x u
 |_,_,_,_,.nil,e=>by simp at e
 |_,_,0,_,.cons r _,e=>by simp at e;subst e;exact⟨_,rfl,r⟩
 |_,_,i+1,x,.cons _ t,e=>by
  obtain⟨u,h1,h2⟩:=Vals.get (i:=i) (x:=x) t (by simpa using e)
  exact⟨u,by simpa using h1,h2⟩
theorem Vals.append:∀{xs ys:List V}{us ws:List Value},Vals xs us->Vals ys ws->Vals (xs++ys) (us++ws)
 |_,_,_,_,.nil,s=>s
 |_,_,_,_,.cons r t,s=>.cons r (Vals.append t s)
theorem Vals.take:∀{xs:List V}{us:List Value}(n:Nat),Vals xs us->Vals (xs.take n) (us.take n)
 |_,_,0,_=>.nil
 |_,_,_+1,.nil=>.nil
 |_,_,n+1,.cons r t=>.cons r (Vals.take n t)
theorem Vals.drop:∀{xs:List V}{us:List Value}(n:Nat),Vals xs us->Vals (xs.drop n) (us.drop n)
 |_,_,0,r=>r
 |_,_,_+1,.nil=>.nil
 |_,_,n+1,.cons _ t=>Vals.drop n t
def RelO:Option V->Option Value->Prop
 |some v,some u=>RelV v u
 |none,none=>True
 |_,_=>False
def KV{κ:Type}:List (κ×V)->List (κ×Value)->Prop:=Paired λ(p:κ×V) (q:κ×Value)=>p.1=q.1/\RelV p.2 q.2
def kV:Key->V
 |.inl i=>.int i
 |.inr x=>.str x
inductive HO where
 |lst (xs:List V)
 |tup (xs:List V)
 |dK (kvs:List (Key×V)) | dT (kvs:List (List Key×V))
 |set (S:Int->Bool) (n:Nat)
 |ins (C dx:Addr) (fs:List (Str×V))
 |own (x:Addr)
 |xd (fs:List (Str×V))
 |met (f x:Addr)
 |rng (lo hi:Int)
 |frz (o:Obj) (u:HO)
 |tbl (ps:Array Value)
 |ext (φ:Heap->Prop)
abbrev Hp:=Addr->Option HO
def upd(H:Hp)(a:Addr)(o:HO):Hp:=λb=>if b=a then some o else H b
theorem upd_same{H:Hp}{a:Addr}{o:HO}:upd H a o a=some o:=by unfold upd;rw[if_pos rfl]
theorem aV{H:Hp}{a b:Addr}{o:HO}(h:b≠a):upd H a o b=H b:=by unfold upd;rw[if_neg h]
theorem eW{H:Hp}{a b:Addr}{o u:HO}(h:H a=some o)(h':H b=some u)(d:o≠u):a≠b:=by
 intro e;subst e;rw[h] at h';exact d (Option.some.inj h')
theorem aX{H:Hp}{a b:Addr}{o:HO}(h:H a=some o)(h':H b=none):a≠b:=by
 intro e;subst e;rw[h] at h';cases h'
section
variable(P:Program)(w:World)
def ObjOk(H:Hp)(h:Heap)(a:Addr):HO->Prop
 |.lst xs=>xs.length<=sizeLine/\∃(its:List Value)(n:Nat),Vals xs its/\h.get? a=some { cls:=.type "list",data:=.seq its.toArray n }
 |.tup xs=>xs.length<=sizeLine/\∃its:List Value,Vals xs its/\IsTup h a its.toArray
 |.dK kvs=>kvs.length<=sizeLine/\(a==sysModules)=false/\∃vs,KV kvs vs/\h.DictOf (mixKind P w) a vs
 |.dT kvs=>kvs.length<=sizeLine/\(a==sysModules)=false/\∃xs:List (List Key×Addr×Value),
   Paired (λ(p:List Key×V) (q:List Key×Addr×Value)=>p.1=q.1/\H q.2.1=some (.tup (p.1.map kV))/\RelV p.2 q.2.2) kvs xs/\
   ∃o es ep,h.get? a=some o/\o.ExactDict/\o.data = .dict es ep/\es.toList=xs.map (entryOfKey (tupleKind (mixKind P w)))/\(xs.map (·.1)).Nodup
 |.set S n=>h.SetOf (intKind P w) a S n
 |.ins C dx fs=>H dx=some (.own a)/\fs.length<=1000/\dx≠a/\h.get? a=some (PySem.W.instObj C dx)/\
   ∃mA,h.Ns1 dx mA/\(∀f,RelO (fs.lookup f) (mA f))/\PySem.Within mA (fs.map (·.1))
 |.own _=>∃o,h.get? a=some o
 |.xd fs=>∃mA,h.Ns1 a mA/\∀f,RelO (fs.lookup f) (mA f)
 |.rng lo hi=>∃t u v,h.get? a=some { cls:=.type "range",data:=.fields #[.int lo t,.int hi u,.int 1 v] }
 |.frz o u=>h.get? a=some o/\ObjOk H h a u
 |.tbl ps=>h.get? a=some { cls:=.none,data:=.fields ps }
 |.met f x=>h.get? a=some (PySem.W.methodObj (.ref f) (.ref x))
 |.ext φ=>φ h/\(∃o,h.get? a=some o)/\∀h1 h2:Heap,φ h1->(∀o,h1.get? a=some o->h2.get? a=some o)->φ h2
def HOk(H:Hp)(h:Heap):Prop:=∀a o,H a=some o->ObjOk P w H h a o
end
section
variable{P:Program}{w:World}{H H':Hp}{h h':Heap}{a:Addr}{o:HO}
theorem ObjOk.lt(x:ObjOk P w H h a o):a<h.objs.size:=by
 cases o with
 |lst xs=>obtain⟨_,_,_,_,e⟩:=x;exact Heap.lt_size e
 |tup xs=>obtain⟨_,_,_,p⟩:=x;exact p.lt
 |dK kvs=>obtain⟨_,_,_,_,o,_,_,e,_⟩:=x;exact Heap.lt_size e
 |dT kvs=>obtain⟨_,_,_,_,o,_,_,e,_⟩:=x;exact Heap.lt_size e
 |set S n=>obtain⟨o,_,_,_,e,_⟩:=x;exact Heap.lt_size e
 |ins C dx fs=>obtain⟨_,_,_,e,_⟩:=x;exact Heap.lt_size e
 |own y=>obtain⟨_,e⟩:=x;exact Heap.lt_size e
 |xd fs=>obtain⟨_,⟨_,_,_,e,_⟩,_⟩:=x;exact Heap.lt_size e
 |rng lo hi=>obtain⟨_,_,_,e⟩:=x;exact Heap.lt_size e
 |frz ob u=>obtain⟨e,_⟩:=x;exact Heap.lt_size e
 |tbl ps=>exact Heap.lt_size (show h.get? a=some _ from x)
 |met f y=>exact Heap.lt_size (show h.get? a=some _ from x)
 |ext φ=>obtain⟨_,⟨_,e⟩,_⟩:=x;exact Heap.lt_size e
theorem Paired.mapP{α β:Type}{F G:α->β->Prop}:∀{l₁:List α}{l₂:List β},Paired F l₁ l₂->(∀a b,F a b->G a b)->Paired G l₁ l₂
 |_,_,.nil,_=>.nil
 |_,_,.cons r t,f=>.cons (f _ _ r) (Paired.mapP t f)
theorem ObjOk.stay(x:ObjOk P w H h a o)(k:∀b u,(b=a\/H b=some (.own a))->h.get? b=some u->h'.get? b=some u)
  (ho:∀b,H b=some (.own a)->H' b=some (.own a)) (ht:∀b xs,H b=some (.tup xs)->H' b=some (.tup xs)):ObjOk P w H' h' a o:=by
 induction o with
 |lst xs=>obtain⟨z,its,n,r,e⟩:=x;exact⟨z,its,n,r,k _ _ (.inl rfl) e⟩
 |tup xs=>obtain⟨z,its,r,ob,e,c⟩:=x;exact⟨z,its,r,ob,k _ _ (.inl rfl) e,c⟩
 |dK kvs=>obtain⟨z,y,vs,r,ob,es,ep,e,c⟩:=x;exact⟨z,y,vs,r,ob,es,ep,k _ _ (.inl rfl) e,c⟩
 |dT kvs=>
  obtain⟨z,y,xs,r,ob,es,ep,e,c⟩:=x
  exact⟨z,y,xs,Paired.mapP r λp q z=>⟨z.1,ht _ _ z.2.1,z.2.2⟩,ob,es,ep,k _ _ (.inl rfl) e,c⟩
 |set S n=>obtain⟨ob,es,ep,t,e,c⟩:=x;exact⟨ob,es,ep,t,k _ _ (.inl rfl) e,c⟩
 |ins C dx fs=>
  obtain⟨d,z,ne,e,mA,⟨od,es,ep,e2,c⟩,r⟩:=x
  exact⟨ho _ d,z,ne,k _ _ (.inl rfl) e,mA,⟨od,es,ep,k _ _ (.inr d) e2,c⟩,r⟩
 |own y=>obtain⟨ob,e⟩:=x;exact⟨ob,k _ _ (.inl rfl) e⟩
 |xd fs=>obtain⟨mA,⟨od,es,ep,e,c⟩,r⟩:=x;exact⟨mA,⟨od,es,ep,k _ _ (.inl rfl) e,c⟩,r⟩
 |rng lo hi=>obtain⟨t,u,v,e⟩:=x;exact⟨t,u,v,k _ _ (.inl rfl) e⟩
 |frz ob u ih=>obtain⟨e,q⟩:=x;exact⟨k _ _ (.inl rfl) e,ih q⟩
 |tbl ps=>
  have e:h.get? a=some { cls:=.none,data:=.fields ps }:=x
  show h'.get? a=some { cls:=.none,data:=.fields ps }
  exact k a _ (.inl rfl) e
 |met f y=>
  have e:h.get? a=some (PySem.W.methodObj (.ref f) (.ref y)):=x
  show h'.get? a=some (PySem.W.methodObj (.ref f) (.ref y))
  exact k a _ (.inl rfl) e
 |ext φ=>obtain⟨p,⟨o,e⟩,st⟩:=x;exact⟨st _ _ p λo q=>k _ _ (.inl rfl) q,⟨o,k _ _ (.inl rfl) e⟩,st⟩
theorem HOk.lt(x:HOk P w H h)(e:H a=some o):a<h.objs.size:=(x a o e).lt
theorem HOk.fresh(x:HOk P w H h)(e:h.objs.size<=a):H a=none:=by
 cases q:H a with
 |none=>rfl
 |some u=>exact absurd (Nat.lt_of_lt_of_le (x.lt q) e) (Nat.lt_irrefl _)
theorem HOk.kept(x:HOk P w H h)(k:∀b u,h.get? b=some u->h'.get? b=some u):HOk P w H h':=λa o e=>
 (x a o e).stay (λb u _ q=>k b u q) (λ_ q=>q) λ_ _ q=>q
theorem HOk.laid(x:HOk P w H h)(k:∀b u,h.get? b=some u->h'.get? b=some u)(hp:h.objs.size<=a)(new:ObjOk P w (upd H a o) h' a o):HOk P w (upd H a o) h':=λb u e=>by
 have hn:=x.fresh hp
 by_cases hb:b=a
 ·subst hb;rw[upd_same] at e;cases e;exact new
 ·rw[aV hb] at e
  exact(x b u e).stay (λc v _ q=>k c v q) (λc q=>by rw[aV (aX q hn)];exact q) λc xs q=>by rw[aV (aX q hn)];exact q
end
def Rd(H:Hp)(a:Addr)(u:HO):Prop:=H a=some u\/∃o,H a=some (.frz o u)
theorem Rd.ok{P:Program}{w:World}{H:Hp}{h:Heap}{a:Addr}{u:HO}(r:Rd H a u)(x:HOk P w H h):ObjOk P w H h a u:=by
 rcases r with r | ⟨o,r⟩
 ·exact x a u r
 ·obtain⟨_,q⟩:=x a _ r
  exact q
def Mut:Option HO->Prop
 |some (.lst _)=>True
 |some (.dK _)=>True
 |some (.dT _)=>True
 |some (.set _ _)=>True
 |some (.ins _ _ _)=>True
 |some (.ext _)=>True
 |_=>False
section
variable{P:Program}{w:World}{H:Hp}{h h':Heap}{x e:Addr}{o':HO}
theorem HOk.write(ok:HOk P w H h)(mu:Mut (H x))(he:e=x\/H e=some (.own x))(k:∀b u,b≠e->h.get? b=some u->h'.get? b=some u)(heo:∃u,h'.get? e=some u)
  (new:ObjOk P w (upd H x o') h' x o'):HOk P w (upd H x o') h':=λb u q=>by
 have nown:∀c y,H c=some (.own y)->c≠x:=λc y r z=>by subst z;rw[r] at mu;exact mu
 have ntup:∀c xs,H c=some (.tup xs)->c≠x:=λc xs r z=>by subst z;rw[r] at mu;exact mu
 by_cases hb:b=x
 ·subst hb;rw[upd_same] at q;cases q;exact new
 ·rw[aV hb] at q
  by_cases hbe:b=e
  ·have q':H b=some (.own x):=by
    rcases he with z | z
    ·exact absurd (hbe.trans z) hb
    ·rw[hbe];exact z
   rw[q] at q';cases q'
   obtain⟨v,hv⟩:=heo
   exact⟨v,by rw[hbe];exact hv⟩
  ·refine(ok b u q).stay (λc v hc r=>k c v ?_ r) (λc r=>by rw[aV (nown c b r)];exact r) λc xs r=>by rw[aV (ntup c xs r)];exact r
   rcases hc with rfl | hc
   ·exact hbe
   ·rintro rfl
    rcases he with z | z
    ·exact nown c b hc z
    ·rw[hc] at z;cases z;exact hb rfl
end
structure Un(fs ex:List Addr)(H H':Hp)(h h':Heap):Prop where
 keep:∀b o,h.get? b=some o->H b=none->b∉fs->b∉ex->h'.get? b=some o
 slot:∀b o,h.get? b=some o->H b=none->b∈fs->b∉ex->∃sl,h'.get? b=some { o with slots:=sl }
 free:∀b o,h.get? b=some o->H b=none->b∉ex->H' b=none
 there:∀b o,h.get? b=some o->b∉ex->∃o',h'.get? b=some o'
 tups:∀b xs,H b=some (.tup xs)->H' b=some (.tup xs)
 frzs:∀b o u,H b=some (.frz o u)->H' b=some (.frz o u)
 tbls:∀b ps,H b=some (.tbl ps)->∃more,H' b=some (.tbl (ps++more))
section
variable{fs fs' ex ex':List Addr}{H H1 H2:Hp}{h h1 h2 h':Heap}{a x e:Addr}{o:HO}
theorem Un.any(u:Un fs ex H H1 h h1){b:Addr}{ob:Obj}(q:h.get? b=some ob)(n:H b=none)(hx:b∉ex):∃sl,h1.get? b=some { ob with slots:=sl }:=by
 by_cases hb:b∈fs
 ·exact u.slot b ob q n hb hx
 ·exact⟨ob.slots,u.keep b ob q n hb hx⟩
theorem Un.kept(k:∀b u,h.get? b=some u->h'.get? b=some u):Un fs ex H H h h':=
 ⟨λb ob q _ _ _=>k b ob q,λb ob q _ _ _=>⟨ob.slots,k b ob q⟩,λ_ _ _ n _=>n,λb ob q _=>⟨ob,k b ob q⟩,λ_ _ q=>q,λ_ _ _ q=>q,λ_ ps q=>⟨#[],by rw[q];simp⟩⟩
theorem Un.refl:Un fs ex H H h h:=Un.kept λ_ _ q=>q
theorem Un.laid(k:∀b u,h.get? b=some u->h'.get? b=some u)(hp:h.objs.size<=a)(hn:H a=none):Un fs ex H (upd H a o) h h' where
 keep:=λb u q _ _ _=>k b u q
 slot:=λb u q _ _ _=>⟨u.slots,k b u q⟩
 free:=λb u q n _=>by rw[aV (Nat.ne_of_lt (Nat.lt_of_lt_of_le (Heap.lt_size q) hp))];exact n
 there:=λb u q _=>⟨u,k b u q⟩
 tups:=λb xs q=>by rw[aV (aX q hn)];exact q
 frzs:=λb u xs q=>by rw[aV (aX q hn)];exact q
 tbls:=λb ps q=>⟨#[],by rw[aV (aX q hn),q];simp⟩
theorem Un.write(mu:Mut (H x))(he:e=x\/H e=some (.own x))(k:∀b u,b≠e->h.get? b=some u->h'.get? b=some u)(heo:∃u,h'.get? e=some u):Un fs ex H (upd H x o) h h':=by
 have hx:∀b,H b=none->b≠x:=λb n z=>by subst z;rw[n] at mu;exact mu
 have hb:∀b,H b=none->b≠e:=λb n z=>by
  subst z
  rcases he with r | r
  ·exact hx b n r
  ·rw[n] at r;cases r
 have hm:∀b u,H b=some u->¬Mut (some u)->b≠x:=λb u q nm z=>by subst z;rw[q] at mu;exact nm mu
 refine⟨λb u q n _ _=>k b u (hb b n) q,λb u q n _ _=>⟨u.slots,k b u (hb b n) q⟩,λb u q n _=>by rw[aV (hx b n)];exact n,λb u q _=>?_,
  λb xs q=>by rw[aV (hm b _ q λz=>z)];exact q,λb u xs q=>by rw[aV (hm b _ q λz=>z)];exact q,λb ps q=>⟨#[],by rw[aV (hm b _ q λz=>z),q];simp⟩⟩
 by_cases hbe:b=e
 ·subst hbe;exact heo
 ·exact⟨u,k b u hbe q⟩
end
def trk(h:Heap)(H:Hp):List Addr:=(List.range h.objs.size).filter λa=>(H a).isSome
def hidT(h:Heap)(H:Hp):Heap:=PySem.W.hideAll h (trk h H)
theorem aOX(h:Heap)(H:Hp):(hidT h H).objs.size=h.objs.size:=PySem.W.hideAll_size _ _
theorem aUQ{h:Heap}{H:Hp}{b:Addr}{o:Obj}(e:h.get? b=some o)(n:H b=none):(hidT h H).get? b=some o:=
 PySem.W.hideAll_get _ e λhm=>by
  have q:(H b).isSome=true:=(List.mem_filter.mp hm).2
  rw[n] at q;simp at q
theorem baQ{h:Heap}{H:Hp}{b:Addr}{o:Obj}(e:(hidT h H).get? b=some o):h.get? b=some o/\H b=none:=by
 have e':h.get? b=some o:=PySem.W.of_hideAll (trk h H) e
 refine⟨e',?_⟩
 cases q:H b with
 |none=>rfl
 |some x=>
  have hm:b∈trk h H:=List.mem_filter.mpr ⟨List.mem_range.mpr (Heap.lt_size e'),by simp[q]⟩
  have z:(hidT h H).get? b=none:=PySem.W.hideAll_none (trk h H) hm
  rw[z] at e;cases e
end L2
namespace L2
open PySem PySem.Spec PyProof.Rows
structure Mod(K:PySem.W.Frag)(mg:Str->Option Value)(base:Heap):Prop where
 kin:K.In base
 glob:base.Ns mainGlobals mg
 blt:∃mb,base.Ns builtinsNs mb/\∀x:Str,x≠"__name__"->mb x=bootBuiltins x
 nolimit:base.NoLimit
structure Cx where
 prog:Program
 w:World
 K:PySem.W.Frag
 mg:Str->Option Value
 base:Heap
 A:Around
 N:List Str
 s_0:Shared
 H_0:Hp
 env:Env
 outer:List Env
 stack:List Env
 ex:List Addr
 fn:Str->Bool
 calm:Bool
 pn:List (Addr×Obj)
 xe:Value->Shared->Prop
def frs(l:List Env):List Addr:=l.filterMap (·.frame)
abbrev Cx.fs(X:Cx):List Addr:=frs X.outer
def Vis(sc:Scope)(x:Str):Prop:=sc.names.lookup x=some .local\/sc.names.lookup x=some .cell\/sc.names.lookup x=some .free
def Loc(sc:Scope)(x:Str):Prop:=sc.names.lookup x=some .local\/sc.names.lookup x=some .cell
def Look(env:Env)(h:Heap)(m:Str->Option Value)(x:Str)(u:Value):Prop:=
 (env.kindOf x=some .local/\m x=some u)\/((env.kindOf x=some .cell\/env.kindOf x=some .free)/\∃c,env.cells.lookup x=some c/\h.IsCell c (some u))
structure Cx.Ok(X:Cx):Prop where
 mod:Mod X.K X.mg X.base
 kind:X.env.scope.kind = .function
 glob:X.env.globals=mainGlobals
 blt:X.env.builtins=builtinsNs
 above:X.s_0.heap.objs.size<=X.env.locals
 inj:∀x y c,X.env.cells.lookup x=some c->X.env.cells.lookup y=some c->x=y
 has:∀x,(X.env.kindOf x=some .cell\/X.env.kindOf x=some .free)->∃c,X.env.cells.lookup x=some c
 cab:∀x c,X.fn x=true->X.env.cells.lookup x=some c->X.s_0.heap.objs.size<=c
 hd:X.calm=true->X.A.handled=none
 frames:X.A.frames=some X.stack
 stk:X.stack=X.outer\/(X.stack=X.env::X.outer/\X.env.frame=some X.env.locals)
 exf:∀b∈X.ex,b≠X.env.locals/\∀x c,X.env.cells.lookup x=some c->c≠b
 bs:∀b o,X.base.get? b=some o->X.s_0.heap.get? b=some o/\X.H_0 b=none
 bsz:X.base.objs.size<=X.s_0.heap.objs.size
 noex:∀b o,X.base.get? b=some o->b∉X.ex
 exfs:∀b∈X.ex,b∉X.fs
 funs:X.s_0.heap.FunFrames X.base X.outer
 frf:∀b∈X.fs,X.H_0 b=none
structure Inv(X:Cx)(pins:List (Addr×Obj))(σ:List (Option V))(H:Hp)(s:Shared):Prop where
 ok:X.Ok
 os:s.os=X.s_0.os
 bare:AllBare s.gens
 base:Un X.fs X.ex X.H_0 H X.s_0.heap s.heap
 loc:∃m,s.heap.Ns X.env.locals m/\∀(i:Nat)(x:Str)(v:V),X.N[i]? = some x->σ[i]? = some (some v)->Vis X.env.scope x->∃u,RelV v u/\Look X.env s.heap m x u
 cell:∀x c,X.env.cells.lookup x=some c->∃v,s.heap.IsCell c v
 free:H X.env.locals=none
 freeC:∀x c,X.env.cells.lookup x=some c->H c=none
 pin:∀p∈X.pn++pins,s.heap.get? p.1=some p.2/\H p.1=none/\p.1≠X.env.locals/\p.1∉X.fs/\∀v,p.2.data≠.cell v
 hok:HOk X.prog X.w H s.heap
 len:σ.length=X.N.length
section
variable{X:Cx}{pins:List (Addr×Obj)}{σ:List (Option V)}{H H':Hp}{s:Shared}{h':Heap}
theorem Cx.Ok.nofr(ok:X.Ok){b:Addr}{o:Obj}(e:X.base.get? b=some o):b∉X.fs:=λhb=>by
 have:=(ok.funs.mem hb).1
 rw[e] at this;cases this
theorem Inv.bs(I:Inv X pins σ H s):∀b o,X.base.get? b=some o->s.heap.get? b=some o/\H b=none:=λb o e=>
 ⟨I.base.keep b o (I.ok.bs b o e).1 (I.ok.bs b o e).2 (I.ok.nofr e) (I.ok.noex b o e),I.base.free b o (I.ok.bs b o e).1 (I.ok.bs b o e).2 (I.ok.noex b o e)⟩
theorem Inv.bk(I:Inv X pins σ H s):∀b o,X.base.get? b=some o->s.heap.get? b=some o:=λb o e=>(I.bs b o e).1
theorem Inv.mod(I:Inv X pins σ H s):Mod X.K X.mg X.base:=I.ok.mod
theorem Inv.kIn(I:Inv X pins σ H s):X.K.In s.heap:=I.ok.mod.kin.keeps I.bk
theorem Inv.fr(I:Inv X pins σ H s):∃m,Fr X.base X.env.locals s.heap m:=
 let ⟨m,hn,_⟩:=I.loc
 ⟨m,hn,I.bk,Nat.le_trans I.ok.bsz I.ok.above⟩
theorem Inv.lt(I:Inv X pins σ H s):X.env.locals<s.heap.objs.size:=let ⟨_,hn,_⟩:=I.loc;hn.lt
theorem Inv.sz(I:Inv X pins σ H s):X.s_0.heap.objs.size<=s.heap.objs.size:=Nat.le_trans I.ok.above (Nat.le_of_lt I.lt)
theorem Inv.nofs(I:Inv X pins σ H s){a:Addr}(h:s.heap.objs.size<=a):a∉X.fs:=λhb=>by
 obtain⟨_,o,ho,_⟩:=I.ok.funs.mem hb
 exact absurd (Nat.lt_of_lt_of_le (Heap.lt_size ho) (Nat.le_trans I.sz h)) (Nat.lt_irrefl _)
theorem Inv.cne(I:Inv X pins σ H s):∀x c,X.env.cells.lookup x=some c->c≠X.env.locals:=λx c e z=>by
 obtain⟨v,o,ho,hd⟩:=I.cell x c e
 obtain⟨m,⟨o',es,ep,ho',hd',_⟩,_⟩:=I.loc
 rw[z,ho'] at ho;cases ho;rw[hd'] at hd;cases hd
theorem Inv.funs(I:Inv X pins σ H s):s.heap.FunFrames X.base X.outer:=by
 have all:∀(l:List Env),(∀b∈frs l,b∈X.fs)->X.s_0.heap.FunFrames X.base l->s.heap.FunFrames X.base l:=by
  intro l
  induction l with
  |nil=>intro _ _;trivial
  |cons env r ih=>
   intro hs hl
   obtain⟨hk,⟨L,o,hf,hn,ho,hd⟩,hr⟩:=hl
   have hL:L∈X.fs:=hs L (by unfold frs;rw[List.filterMap_cons,hf];exact List.mem_cons_self)
   obtain⟨sl,e⟩:=I.base.slot L o ho (I.ok.frf L hL) hL λz=>I.ok.exfs L z hL
   exact⟨hk,⟨L,_,hf,hn,e,hd⟩,ih (λb hb=>hs b (by unfold frs;rw[List.filterMap_cons,hf];exact List.mem_cons_of_mem _ hb)) hr⟩
 exact all X.outer (λ_ hb=>hb) I.ok.funs
theorem Inv.stack(I:Inv X pins σ H s):s.heap.FunFrames X.base X.stack:=by
 rcases I.ok.stk with e | ⟨e,hf⟩
 ·rw[e];exact I.funs
 ·rw[e]
  obtain⟨m,hn,_⟩:=I.loc
  refine .cons (by rw[I.ok.kind];decide) hf hn ?_ I.funs
  exact Heap.get?_none_of_le (Nat.le_trans I.ok.bsz I.ok.above)
theorem Inv.stkSub(I:Inv X pins σ H s):∀b∈frs X.stack,b∈X.env.locals::X.fs:=λb hb=>by
 rcases I.ok.stk with e | ⟨e,hf⟩
 ·rw[e] at hb;exact List.mem_cons_of_mem _ hb
 ·rw[e] at hb
  unfold frs at hb
  rw[List.filterMap_cons,hf] at hb
  exact hb
theorem Inv.stkFree(I:Inv X pins σ H s):∀b∈frs X.stack,H b=none:=λb hb=>by
 rcases List.mem_cons.mp (I.stkSub b hb) with e | hb
 ·rw[e];exact I.free
 ·obtain⟨_,o,ho,_⟩:=I.ok.funs.mem hb
  exact I.base.free b o ho (I.ok.frf b hb) λz=>I.ok.exfs b z hb
theorem Inv.step{g':Array GenState}{t':Nat}{d':Drawn}{ch:List Addr}(I:Inv X pins σ H s)
  (hch:∀b∈ch,(b∈X.ex\/X.s_0.heap.objs.size<=b)/\b≠X.env.locals/\(∀x c,X.env.cells.lookup x=some c->c≠b)/\∀p∈X.pn++pins,p.1≠b)
  (keep:∀b o,b≠X.env.locals->b∉X.fs->b∉ch->s.heap.get? b=some o->H b=none->h'.get? b=some o)
  (slot:∀b o,b≠X.env.locals->b∈X.fs->b∉ch->s.heap.get? b=some o->H b=none->∃sl,h'.get? b=some { o with slots:=sl }) (free:∀b o,b∉ch->s.heap.get? b=some o->H b=none->H' b=none)
  (there:∀b o,b∉ch->s.heap.get? b=some o->∃o',h'.get? b=some o')
  (tups:∀b xs,H b=some (.tup xs)->H' b=some (.tup xs)) (frzs:∀b o u,H b=some (.frz o u)->H' b=some (.frz o u)) (tbls:∀b ps,H b=some (.tbl ps)->∃more,H' b=some (.tbl (ps++more)))
  (ns:∀m,s.heap.Ns X.env.locals m->h'.Ns X.env.locals m) (hok:HOk X.prog X.w H' h') (hg:AllBare g') :
  Inv X pins σ H' { s with heap:=h',gens:=g',drawn:=d',toks:=t' }:=by
 have neL:∀b o,X.s_0.heap.get? b=some o->b≠X.env.locals:=λb o e=>Nat.ne_of_lt (Nat.lt_of_lt_of_le (Heap.lt_size e) I.ok.above)
 have neC:∀b o,X.s_0.heap.get? b=some o->b∉X.ex->b∉ch:=λb o e hx hb=>by
  rcases(hch b hb).1 with z | z
  ·exact hx z
  ·exact absurd (Nat.lt_of_lt_of_le (Heap.lt_size e) z) (Nat.lt_irrefl _)
 have cellK:∀x c,X.env.cells.lookup x=some c->∀v,s.heap.IsCell c v->h'.IsCell c v:=λx c e v ⟨o,ho,hd⟩=>by
  have nch:c∉ch:=λz=>(hch c z).2.2.1 x c e rfl
  by_cases hc:c∈X.fs
  ·obtain⟨sl,q⟩:=slot c o (I.cne x c e) hc nch ho (I.freeC x c e)
   exact⟨_,q,hd⟩
  ·exact⟨o,keep c o (I.cne x c e) hc nch ho (I.freeC x c e),hd⟩
 refine⟨I.ok,I.os,hg,⟨λb o e n hb hx=>?_,λb o e n hb hx=>?_,λb o e n hx=>?_,λb o e hx=>?_,λb xs e=>tups b xs (I.base.tups b xs e),λb o xs e=>frzs b o xs (I.base.frzs b o xs e),λb ps e=>?_⟩,?_,λx c e=>?_,?_,λx c e=>?_,λp hp=>?_,hok,I.len⟩
 ·exact keep b o (neL b o e) hb (neC b o e hx) (I.base.keep b o e n hb hx) (I.base.free b o e n hx)
 ·obtain⟨sl,e1⟩:=I.base.slot b o e n hb hx
  obtain⟨sl',e2⟩:=slot b _ (neL b o e) hb (neC b o e hx) e1 (I.base.free b o e n hx)
  exact⟨sl',e2⟩
 ·obtain⟨o',e1⟩:=I.base.there b o e hx
  exact free b o' (neC b o e hx) e1 (I.base.free b o e n hx)
 ·obtain⟨o',e1⟩:=I.base.there b o e hx
  exact there b o' (neC b o e hx) e1
 ·obtain⟨m1,e1⟩:=I.base.tbls b ps e
  obtain⟨m2,e2⟩:=tbls b _ e1
  exact⟨m1++m2,by rw[e2,Array.append_assoc]⟩
 ·obtain⟨m,hn,hl⟩:=I.loc
  refine⟨m,ns m hn,λi x v e1 e2 e3=>?_⟩
  obtain⟨u,r,l⟩:=hl i x v e1 e2 e3
  refine⟨u,r,?_⟩
  rcases l with l | ⟨k,c,e,z⟩
  ·exact .inl l
  ·exact .inr ⟨k,c,e,cellK x c e _ z⟩
 ·obtain⟨v,z⟩:=I.cell x c e
  exact⟨v,cellK x c e v z⟩
 ·obtain⟨m,⟨o,_,_,ho,_⟩,_⟩:=I.loc
  exact free _ o (λz=>(hch _ z).2.1 rfl) ho I.free
 ·obtain⟨v,o,ho,hd⟩:=I.cell x c e
  exact free c o (λz=>(hch c z).2.2.1 x c e rfl) ho (I.freeC x c e)
 ·obtain⟨e,n,ne,nf,d⟩:=I.pin p hp
  have nch:p.1∉ch:=λz=>(hch p.1 z).2.2.2 p hp rfl
  exact⟨keep p.1 p.2 ne nf nch e n,free p.1 p.2 nch e n,ne,nf,d⟩
theorem Inv.un{t':Nat}(I:Inv X pins σ H s)(u:Un X.fs [] H H' s.heap h')(hok:HOk X.prog X.w H' h'):Inv X pins σ H' { s with heap:=h',toks:=t' }:=by
 obtain⟨m,⟨o,es,ep,ho,r⟩,_⟩:=id I.loc
 obtain⟨sl,hL⟩:=u.any ho I.free (by simp)
 exact I.step (g':=s.gens) (d':=s.drawn) (ch:=[]) (λ_ z=>nomatch z) (λb o _ hb _ e n=>u.keep b o e n hb (by simp)) (λb o _ hb _ e n=>u.slot b o e n hb (by simp)) (λb o _ e n=>u.free b o e n (by simp)) (λb o _ e=>u.there b o e (by simp)) u.tups u.frzs u.tbls (λm' hm=>by
  obtain⟨o',es',ep',ho',r'⟩:=hm
  rw[ho] at ho';cases ho'
  exact⟨_,es',ep',hL,r'⟩) hok I.bare
theorem Inv.call{g':Array GenState}{t':Nat}{d':Drawn}{ch:List Addr}(I:Inv X pins σ H s)(u:Un (frs X.stack) ch H H' s.heap h')(hok:HOk X.prog X.w H' h')(hg:AllBare g')
  (hch:∀b∈ch,(b∈X.ex\/X.s_0.heap.objs.size<=b)/\b≠X.env.locals/\(∀x c,X.env.cells.lookup x=some c->c≠b)/\∀p∈X.pn++pins,p.1≠b) :
  Inv X pins σ H' { s with heap:=h',gens:=g',drawn:=d',toks:=t' }:=by
 obtain⟨m,⟨o,es,ep,ho,r⟩,_⟩:=id I.loc
 obtain⟨sl,hL⟩:=u.any ho I.free λz=>(hch _ z).2.1 rfl
 exact I.step (ch:=ch) hch (λb o hL hb hc e n=>u.keep b o e n (λz=>(List.mem_cons.mp (I.stkSub b z)).elim hL hb) hc) (λb o _ _ hc e n=>u.any e n hc) (λb o hc e n=>u.free b o e n hc) (λb o hc e=>u.there b o e hc) u.tups u.frzs u.tbls (λm' hm=>by
  obtain⟨o',es',ep',ho',r'⟩:=hm
  rw[ho] at ho';cases ho'
  exact⟨_,es',ep',hL,r'⟩) hok hg
theorem Inv.turned{t':Nat}{it:Addr}(I:Inv X pins σ H s)(k:∀b o,b≠it->s.heap.get? b=some o->h'.get? b=some o)(hn:H it=none)(hL:it≠X.env.locals)
  (h1:it∈X.ex\/X.s_0.heap.objs.size<=it) (h2:∀x c,X.env.cells.lookup x=some c->c≠it) (h3:∀p∈X.pn++pins,p.1≠it):Inv X pins σ H { s with heap:=h',toks:=t' }:=by
 have nit:∀b u,H b=some u->b≠it:=λb u e z=>by rw[z,hn] at e;cases e
 refine I.step (g':=s.gens) (d':=s.drawn) (ch:=[it]) (λb hb=>?_) (λb o _ _ hc e _=>k b o (λz=>hc (by simp[z])) e) (λb o _ _ hc e _=>⟨o.slots,k b o (λz=>hc (by simp[z])) e⟩) (λ_ _ _ _ n=>n)
  (λb o hc e=>⟨o,k b o (λz=>hc (by simp[z])) e⟩) (λ_ _ e=>e) (λ_ _ _ e=>e) (λb ps e=>⟨#[],by rw[e];simp⟩) (λm hm=>?_) (λb u e=>?_) I.bare
 ·have e:b=it:=by simpa using hb
  subst e
  exact⟨h1,hL,h2,h3⟩
 ·obtain⟨o,es,ep,ho,r⟩:=hm
  exact⟨o,es,ep,k _ o (Ne.symm hL) ho,r⟩
 ·refine(I.hok b u e).stay (λc v hc q=>k c v ?_ q) (λ_ q=>q) λ_ _ q=>q
  rcases hc with z | z
  ·rw[z];exact nit b u e
  ·exact nit c _ z
theorem Inv.tok(I:Inv X pins σ H s)(t:Nat):Inv X pins σ H { s with toks:=t }:=I.un (h':=s.heap) (t':=t) Un.refl I.hok
theorem Inv.kept{t':Nat}(I:Inv X pins σ H s)(k:∀b u,s.heap.get? b=some u->h'.get? b=some u):Inv X pins σ H { s with heap:=h',toks:=t' }:=I.un (Un.kept k) (I.hok.kept k)
theorem Inv.laid{a:Addr}{o:HO}{t':Nat}(I:Inv X pins σ H s)(k:∀b u,s.heap.get? b=some u->h'.get? b=some u)(hp:s.heap.objs.size<=a)(new:ObjOk X.prog X.w (upd H a o) h' a o) :
  Inv X pins σ (upd H a o) { s with heap:=h',toks:=t' }:=I.un (Un.laid k hp (I.hok.fresh hp)) (I.hok.laid k hp new)
theorem Inv.write{x e:Addr}{o:HO}{t':Nat}(I:Inv X pins σ H s)(mu:Mut (H x))(he:e=x\/H e=some (.own x))(k:∀b u,b≠e->s.heap.get? b=some u->h'.get? b=some u)(heo:∃u,h'.get? e=some u)
  (new:ObjOk X.prog X.w (upd H x o) h' x o):Inv X pins σ (upd H x o) { s with heap:=h',toks:=t' }:=I.un (Un.write mu he k heo) (I.hok.write mu he k heo new)
theorem Inv.weak{σ':List (Option V)}(I:Inv X pins σ H s)(hl:σ'.length=σ.length)(w:∀(i:Nat) v,σ'[i]? = some (some v)->σ[i]? = some (some v)):Inv X pins σ' H s:=
 ⟨I.ok,I.os,I.bare,I.base,let ⟨m,hn,hl'⟩:=I.loc;⟨m,hn,λi x v e1 e2 e3=>hl' i x v e1 (w i v e2) e3⟩,I.cell,I.free,I.freeC,I.pin,I.hok,hl.trans I.len⟩
theorem Inv.pins_of{pins':List (Addr×Obj)}(I:Inv X pins σ H s)(h:∀p∈pins',s.heap.get? p.1=some p.2/\H p.1=none/\p.1≠X.env.locals/\p.1∉X.fs/\∀v,p.2.data≠.cell v):Inv X pins' σ H s:=
 ⟨I.ok,I.os,I.bare,I.base,I.loc,I.cell,I.free,I.freeC,λp hp=>(List.mem_append.mp hp).elim (λz=>I.pin p (List.mem_append_left _ z)) (h p),I.hok,I.len⟩
theorem ZW{N:List Str}(hN:N.Nodup){i j:Nat}{x:Str}(a:N[i]? = some x)(b:N[j]? = some x):i=j:=by
 obtain⟨h1,e1⟩:=List.getElem?_eq_some_iff.mp a
 obtain⟨h2,e2⟩:=List.getElem?_eq_some_iff.mp b
 exact(List.getElem_inj hN).mp (e1.trans e2.symm)
theorem alX{M:Model}{A:Around}{E:Value->Shared->Prop}{i:Nat}{x:Str}{v:V}{u:Value}{Q:Unit->Shared->Prop}(I:Inv X pins σ H s)(hN:X.N.Nodup)(hi:X.N[i]? = some x)(hx:Loc X.env.scope x)(r:RelV v u)
  (h:∀s',Inv X pins (σ.set i (some v)) H s'->(∃a,Heap.SameBut a s.heap s'.heap/\(a=X.env.locals\/X.env.cells.lookup x=some a))->Q () s') (hf:X.fn x=true\/X.env.scope.names.lookup x=some .local:=by first | exact .inl rfl | exact .inr rfl | assumption):wpAny M A (storeName X.env x u) Q E s:=by
 obtain⟨m,hn,hl⟩:=id I.loc
 have hcls:(X.env.scope.kind == .class || (X.env.scope.kind == .module&&X.env.locals != X.env.globals))=false:=by rw[I.ok.kind];rfl
 have hiσ:i<σ.length:=by rw[I.len];exact(List.getElem?_eq_some_iff.mp hi).1
 have cne:=I.cne
 have tracked:∀{a:Addr}{h':Heap},(∃o,s.heap.get? a=some o/\H a=none)->Heap.SameBut a s.heap h'->HOk X.prog X.w H h':=λ{a h'} ha hs b ob e=>by
  obtain⟨_,_,hfree⟩:=ha
  refine(I.hok b ob e).stay (λc w' hc q=>(hs.2 c ?_).trans q) (λ_ q=>q) λ_ _ q=>q
  rintro rfl
  rcases hc with rfl | hc
  ·rw[hfree] at e;cases e
  ·rw[hfree] at hc;cases hc
 rcases hx with hk | hk
 ·refine wpAny_storeName_local hk hn (λh' hn' hs=>?_) hcls
  obtain⟨oL,_,_,hoL,_⟩:=id hn
  refine h _ ⟨I.ok,I.os,I.bare,⟨λb o e n hb hx=>?_,λb o e n hb hx=>?_,I.base.free,λb o e hx=>?_,I.base.tups,I.base.frzs,I.base.tbls⟩,⟨_,hn',λj y v' e1 e2 e3=>?_⟩,λy c e=>?_,I.free,I.freeC,λp hp=>?_,tracked ⟨oL,hoL,I.free⟩ hs,by simpa using I.len⟩ ⟨_,hs,.inl rfl⟩
  ·exact(hs.2 b (Nat.ne_of_lt (Nat.lt_of_lt_of_le (Heap.lt_size e) I.ok.above))).trans (I.base.keep b o e n hb hx)
  ·obtain⟨sl,e1⟩:=I.base.slot b o e n hb hx
   exact⟨sl,(hs.2 b (Nat.ne_of_lt (Nat.lt_of_lt_of_le (Heap.lt_size e) I.ok.above))).trans e1⟩
  ·obtain⟨o',e1⟩:=I.base.there b o e hx
   exact⟨o',(hs.2 b (Nat.ne_of_lt (Nat.lt_of_lt_of_le (Heap.lt_size e) I.ok.above))).trans e1⟩
  ·by_cases hj:j=i
   ·subst hj
    rw[hi] at e1;cases e1
    rw[List.getElem?_set_self hiσ] at e2
    cases e2
    exact⟨u,r,.inl ⟨hk,by simp⟩⟩
   ·rw[List.getElem?_set_ne (Ne.symm hj)] at e2
    obtain⟨u',r',q⟩:=hl j y v' e1 e2 e3
    refine⟨u',r',?_⟩
    rcases q with ⟨k,e⟩ | ⟨k,c,e,z⟩
    ·refine .inl ⟨k,?_⟩
     have:y≠x:=λe=>hj (ZW hN e1 (e▸hi))
     simp[this,e]
    ·exact .inr ⟨k,c,e,z.sameBut hs (cne y c e)⟩
  ·obtain⟨w',z⟩:=I.cell y c e
   exact⟨w',z.sameBut hs (cne y c e)⟩
  ·obtain⟨e,n,ne,nf,d⟩:=I.pin p hp
   exact⟨(hs.2 p.1 ne).trans e,n,ne,nf,d⟩
 ·have hfn:X.fn x=true:=by
   rcases hf with z | z
   ·exact z
   ·rw[z] at hk;cases hk
  obtain⟨c,hc⟩:=I.ok.has x (.inl hk)
  obtain⟨w',z⟩:=I.cell x c hc
  refine wpAny_storeName_cell I.ok.kind hk hc z (λh' hc' hs=>?_)
  obtain⟨oc,hoc,hocd⟩:=id z
  refine h { s with heap:=h' } ⟨I.ok,I.os,I.bare,⟨λb o e n hb hx=>?_,λb o e n hb hx=>?_,I.base.free,λb o e hx=>?_,I.base.tups,I.base.frzs,I.base.tbls⟩,⟨m,hn.sameBut hs (Ne.symm (cne x c hc)),λj y v' e1 e2 e3=>?_⟩,λy c' e=>?_,I.free,I.freeC,λp hp=>?_,tracked ⟨oc,hoc,I.freeC x c hc⟩ hs,by simpa using I.len⟩ ⟨c,hs,.inr hc⟩
  ·exact(hs.2 b (Nat.ne_of_lt (Nat.lt_of_lt_of_le (Heap.lt_size e) (I.ok.cab x c hfn hc)))).trans (I.base.keep b o e n hb hx)
  ·obtain⟨sl,e1⟩:=I.base.slot b o e n hb hx
   exact⟨sl,(hs.2 b (Nat.ne_of_lt (Nat.lt_of_lt_of_le (Heap.lt_size e) (I.ok.cab x c hfn hc)))).trans e1⟩
  ·obtain⟨o',e1⟩:=I.base.there b o e hx
   exact⟨o',(hs.2 b (Nat.ne_of_lt (Nat.lt_of_lt_of_le (Heap.lt_size e) (I.ok.cab x c hfn hc)))).trans e1⟩
  ·by_cases hj:j=i
   ·subst hj
    rw[hi] at e1;cases e1
    rw[List.getElem?_set_self hiσ] at e2
    cases e2
    exact⟨u,r,.inr ⟨.inl hk,c,hc,hc'⟩⟩
   ·rw[List.getElem?_set_ne (Ne.symm hj)] at e2
    obtain⟨u',r',q⟩:=hl j y v' e1 e2 e3
    refine⟨u',r',?_⟩
    rcases q with q | ⟨k,c',e,z'⟩
    ·exact .inl q
    ·refine .inr ⟨k,c',e,z'.sameBut hs ?_⟩
     rintro rfl
     exact hj (ZW hN e1 (I.ok.inj _ _ _ e hc▸hi))
  ·by_cases hcc:c'=c
   ·subst hcc;exact⟨_,hc'⟩
   ·obtain⟨w2,z2⟩:=I.cell y c' e
    exact⟨w2,z2.sameBut hs hcc⟩
  ·obtain⟨e,n,ne,nf,d⟩:=I.pin p hp
   refine⟨(hs.2 p.1 ?_).trans e,n,ne,nf,d⟩
   intro q
   rw[q,hoc] at e
   have q':oc=p.2:=Option.some.inj e
   exact d w' (by rw[<-q'];exact hocd)
theorem ZX{M:Model}{A:Around}{E:Value->Shared->Prop}{i:Nat}{x:Str}{v:V}{u:Value}{Q:Unit->Shared->Prop}(I:Inv X pins σ H s)(hN:X.N.Nodup)(hi:X.N[i]? = some x)(hx:Loc X.env.scope x)(r:RelV v u)
  (h:∀s',Inv X pins (σ.set i (some v)) H s'->Q () s') (hf:X.fn x=true\/X.env.scope.names.lookup x=some .local:=by first | exact .inl rfl | exact .inr rfl | assumption):wpAny M A (storeName X.env x u) Q E s:=
 alX I hN hi hx r (λs' I' _=>h s' I') hf
theorem Inv.call'{s':Shared}{ch:List Addr}(I:Inv X pins σ H s)(ho:s'.os=s.os)(u:Un (frs X.stack) ch H H' s.heap s'.heap)(hok:HOk X.prog X.w H' s'.heap)(hg:AllBare s'.gens)
  (hch:∀b∈ch,(b∈X.ex\/X.s_0.heap.objs.size<=b)/\b≠X.env.locals/\(∀x c,X.env.cells.lookup x=some c->c≠b)/\∀p∈X.pn++pins,p.1≠b):Inv X pins σ H' s':=by
 obtain⟨h',g',d',t',o'⟩:=s'
 have e:o'=s.os:=ho
 subst e
 exact I.call (g':=g') (t':=t') (d':=d') u hok hg hch
end
abbrev XK:=Value->Option Addr->Hp->Prop
abbrev St:=List (Option V)
abbrev VK:=V->Hp->Prop
abbrev TE:=St->Hp->VK->Prop
abbrev TT:=St->Hp->(Bool->Hp->Prop)->Prop
abbrev TA:=St->Hp->(List V->Hp->Prop)->Prop
structure Ends where
 nx:St->Hp->Prop
 rt:VK
 bk:St->Hp->Prop:=λ_ _=>False
 ct:St->Hp->Prop:=λ_ _=>False
abbrev TS:=Ends->St->Hp->Prop
def EP(X:Cx)(pins:List (Addr×Obj))(σ:St)(Q:VK)(u:Value)(s':Shared):Prop:=∃v H',Inv X pins σ H' s'/\RelV v u/\Q v H'
def TP(X:Cx)(pins:List (Addr×Obj))(σ:St)(Q:Bool->Hp->Prop)(b:Bool)(s':Shared):Prop:=∃H',Inv X pins σ H' s'/\Q b H'
def AP(X:Cx)(pins:List (Addr×Obj))(σ:St)(Q:List V->Hp->Prop)(us:List Value)(s':Shared):Prop:=∃vs H',Inv X pins σ H' s'/\Vals vs us/\Q vs H'
def SP(X:Cx)(pins:List (Addr×Obj))(D:Ends)(f:Flow)(s':Shared):Prop:=
 match f with
 |.next=>∃σ' H',Inv X pins σ' H' s'/\D.nx σ' H'
 |.brk=>∃σ' H',Inv X pins σ' H' s'/\D.bk σ' H'
 |.cont=>∃σ' H',Inv X pins σ' H' s'/\D.ct σ' H'
 |.ret u=>∃v σ' H',Inv X pins σ' H' s'/\RelV v u/\D.rt v H'
def PE(X:Cx)(e:Expr)(t:TE):Prop:=
 ∀(pins:List (Addr×Obj))(s:Shared)(σ:St)(H:Hp)(Q:VK),Inv X pins σ H s->t σ H Q->wpAny (model X.prog X.w) X.A (eval e X.env) (EP X pins σ Q) X.xe s
def PT(X:Cx)(e:Expr)(t:TT):Prop:=
 ∀(pins:List (Addr×Obj))(s:Shared)(σ:St)(H:Hp)(Q:Bool->Hp->Prop),Inv X pins σ H s->t σ H Q->wpAny (model X.prog X.w) X.A (isTrue e X.env (eval e X.env)) (TP X pins σ Q) X.xe s
def PW(X:Cx)(e:Expr)(t:TT):Prop:=
 ∀(whole:Sem Value)(pins:List (Addr×Obj))(s:Shared)(σ:St)(H:Hp)(Q:Bool->Hp->Prop),Inv X pins σ H s->t σ H Q->wpAny (model X.prog X.w) X.A (isTrue e X.env whole) (TP X pins σ Q) X.xe s
theorem PW.pt{X:Cx}{e:Expr}{t:TT}(h:PW X e t):PT X e t:=h _
def PA(X:Cx)(es:List Expr)(t:TA):Prop:=
 ∀(pos:Pos)(pins:List (Addr×Obj))(s:Shared)(σ:St)(H:Hp)(Q:List V->Hp->Prop),Inv X pins σ H s->t σ H Q->wpAny (model X.prog X.w) X.A (spliced (backTo pos (starEach es X.env))) (AP X pins σ Q) X.xe s
def PS(X:Cx)(st:Stmt)(t:TS):Prop:=
 ∀(pins:List (Addr×Obj))(s:Shared)(σ:St)(H:Hp)(D:Ends),Inv X pins σ H s->t D σ H->wpAny (model X.prog X.w) X.A (exec st X.env) (SP X pins D) X.xe s
def PSs(X:Cx)(st:List Stmt)(t:TS):Prop:=
 ∀(pins:List (Addr×Obj))(s:Shared)(σ:St)(H:Hp)(D:Ends),Inv X pins σ H s->t D σ H->wpAny (model X.prog X.w) X.A (execs st X.env) (SP X pins D) X.xe s
theorem thn{α:Type}{t:Sem α}{Q Q':α->Shared->Prop}{M:Model}{A:Around}{E:Value->Shared->Prop}{s:Shared}(h:wpAny M A t Q E s)(hQ:∀a s,Q a s->Q' a s):wpAny M A t Q' E s:=wpAny_mono h hQ λ_ _ x=>x
end L2
namespace L2
open PySem PySem.Spec PyProof.Rows
section
variable{X:Cx}
theorem bin{a b:Expr}{ta tb:TE}(ha:PE X a ta)(hb:PE X b tb){pins:List (Addr×Obj)}{s:Shared}{σ:St}{H:Hp}{R:V->V->Hp->Prop}(I:Inv X pins σ H s)(h:ta σ H λx H1=>tb σ H1 λy H2=>R x y H2)
  {α:Type} {Q:α->Shared->Prop} {f:Value->Value->Sem α}
  (hf:∀v u s2 x y H2,Inv X pins σ H2 s2->RelV x v->RelV y u->R x y H2->wpAny (model X.prog X.w) X.A (f v u) Q X.xe s2) :
  wpAny (model X.prog X.w) X.A (eval a X.env) (λv s₁=>wpAny (model X.prog X.w) X.A (eval b X.env) (λu s₂=>wpAny (model X.prog X.w) X.A (f v u) Q X.xe s₂) X.xe s₁) X.xe s:=by
 refine thn (ha pins s σ H _ I h) λv s1 ⟨x,H1,I1,r1,q1⟩=>?_
 refine thn (hb pins s1 σ H1 _ I1 q1) λu s2 ⟨y,H2,I2,r2,q2⟩=>?_
 exact hf v u s2 x y H2 I2 r1 r2 q2
def tVar(i:Nat):TE:=λσ H Q=>∃v,σ[i]? = some (some v)/\Q v H
def tC(v:V):TE:=λ_ H Q=>Q v H
theorem bfJ{i:Nat}{x:Str}{pos:Pos}(hN:X.N[i]? = some x)(hv:Vis X.env.scope x)(hd:(x==("__debug__" : Str))=false:=by decide)(hcd:(x==("__classdict__" : Str))=false:=by decide):PE X (.Name x pos) (tVar i):=by
 intro pins s σ H Q I h
 obtain⟨v,e,h⟩:=h
 obtain⟨m,hn,hl⟩:=I.loc
 obtain⟨u,r,l⟩:=hl i x v hN e hv
 have fin:EP X pins σ Q u s:=⟨v,H,I,r,h⟩
 rcases l with ⟨hk,hm⟩ | ⟨hk,c,hc,hcell⟩
 ·exact wpAny_Name (wpAny_loadName_local I.ok.kind hk hn hm fin) hd
 ·rcases hk with hk | hk
  ·exact wpAny_Name (wpAny_loadName_cell I.ok.kind hk hc hcell fin) hd
  ·exact wpAny_Name (wpAny_loadName_free I.ok.kind hk hc hcell fin hcd) hd
theorem aY{i j pos}:PE X (.Constant (.int i) j pos) (tC (.int i)):=λ_ _ _ H _ I h=>wpAny_Constant_int ⟨.int i,H,I.tok _,⟨_,rfl⟩,h⟩
theorem zX{b j pos}:PE X (.Constant (.bool b) j pos) (tC (.bl b)):=λ_ _ _ H _ I h=>Constant_bool ⟨.bl b,H,I,rfl,h⟩
theorem wX{j pos}:PE X (.Constant .none j pos) (tC .non):=λ_ _ _ H _ I h=>Constant_none ⟨.non,H,I,rfl,h⟩
theorem pe_str{x j pos}:PE X (.Constant (.str x) j pos) (tC (.str x)):=λ_ _ _ H _ I h=>Calls.Constant_str ⟨.str x,H,I.tok _,⟨_,rfl⟩,h⟩
def Gl(X:Cx)(x:Str):Prop:=X.env.kindOf x=some .globalImplicit
theorem IK{E:Value->Shared->Prop}{pins:List (Addr×Obj)}{s:Shared}{σ:St}{H:Hp}{x:Str}{u:Value}{pos:Pos}{Q:Value->Shared->Prop}(I:Inv X pins σ H s)(hg:Gl X x)(hm:X.mg x=some u)(h:Q u s)
  (hd:(x==("__debug__" : Str))=false:=by decide):wpAny (model X.prog X.w) X.A (eval (.Name x pos) X.env) Q E s:=
 Calls.Name_function_global I.ok.kind hg (Calls.loadGlobal_global (by rw[I.ok.glob];exact I.mod.glob.keeps I.bk) hm h) hd
theorem IQ{E:Value->Shared->Prop}{pins:List (Addr×Obj)}{s:Shared}{σ:St}{H:Hp}{x:Str}{u:Value}{pos:Pos}{Q:Value->Shared->Prop}(I:Inv X pins σ H s)(hg:Gl X x)(hm:X.mg x=none)(hv:bootBuiltins x=some u)(h:Q u s)
  (hn:x≠"__name__":=by decide) (hd:(x==("__debug__" : Str))=false:=by decide):wpAny (model X.prog X.w) X.A (eval (.Name x pos) X.env) Q E s:=by
 obtain⟨mb,h1,h2⟩:=I.mod.blt
 exact Calls.Name_function_global I.ok.kind hg (Calls.loadGlobal_builtin (by rw[I.ok.glob];exact I.mod.glob.keeps I.bk) hm (by rw[I.ok.blt];exact h1.keeps I.bk) ((h2 x hn).trans hv) h) hd
theorem ahY{x:Str}{v:V}{u:Value}{pos:Pos}(hg:Gl X x)(hm:X.mg x=some u)(r:RelV v u)(hd:(x==("__debug__" : Str))=false:=by decide):PE X (.Name x pos) (tC v):=
 λ_ _ _ H _ I h=>IK I hg hm ⟨v,H,I,r,h⟩ hd
theorem aFX{x:Str}{v:V}{u:Value}{pos:Pos}(hg:Gl X x)(hm:X.mg x=none)(hv:bootBuiltins x=some u)(r:RelV v u)(hn:x≠"__name__":=by decide)(hd:(x==("__debug__" : Str))=false:=by decide):PE X (.Name x pos) (tC v):=
 λ_ _ _ H _ I h=>IQ I hg hm hv ⟨v,H,I,r,h⟩ hn hd
variable{a b:Expr}{ta tb:TE}{pos:Pos}
def PC(X:Cx)(op:CmpOp)(a b:Expr)(t:TE):Prop:=
 ∀(pins:List (Addr×Obj))(s:Shared)(σ:St)(H:Hp)(Q:VK),Inv X pins σ H s->t σ H Q->
  wpAny (model X.prog X.w) X.A (eval a X.env) (λv s₁=>wpAny (model X.prog X.w) X.A (eval b X.env) (λu s₂=>wpAny (model X.prog X.w) X.A (compareOp op v u) (EP X pins σ Q) X.xe s₂) X.xe s₁) X.xe s
theorem nobehind(b:Expr){op:CmpOp}(h:op≠.In)(h2:op≠.NotIn):behindInMarks op b=false:=by
 have e1:(op==CmpOp.In)=false:=by cases op <;> first | rfl | exact absurd rfl h
 have e2:(op==CmpOp.NotIn)=false:=by cases op <;> first | rfl | exact absurd rfl h2
 cases b <;> simp[behindInMarks,e1,e2]
def tIsN(ta:TE):TE:=λσ H Q=>ta σ H λx H1=>Q (.bl (decide (x = .non))) H1
theorem RelV.none_iff{x:V}{v:Value}(r:RelV x v):(v==Value.none)=decide (x = .non):=by
 cases x with
 |non=>cases r;rfl
 |bl _=>cases r;rfl
 |int _=>obtain⟨t,rfl⟩:=r;rfl
 |str _=>obtain⟨t,rfl⟩:=r;rfl
 |byt _=>obtain⟨t,rfl⟩:=r;rfl
 |flt _=>obtain⟨t,rfl⟩:=r;rfl
 |ref _=>cases r;rfl
 |ty _=>cases r;rfl
theorem jZ{j pos'}(ha:PE X a ta):PC X .Is a (.Constant .none j pos') (tIsN ta):=by
 intro pins s σ H Q I h
 refine thn (ha pins s σ H _ I h) λv s1 ⟨x,H1,I1,r1,q1⟩=>?_
 exact Constant_none (is_none_gen ⟨.bl _,H1,I1,by rw[r1.none_iff];rfl,q1⟩)
def tB(t:TE):TT:=λσ H Q=>t σ H λx H1=>∃c,x = .bl c/\Q c H1
theorem bfK{op:CmpOp}{t:TE}(h:PC X op a b t)(h1:behindInMarks op b=false:=by first | exact nobehind _ (by decide) (by decide) | rfl):PE X (.Compare a [op] [b] pos) t:=λpins s σ H Q I hw=>wpAny_Compare1 (h pins s σ H Q I hw) h1
theorem dW{op:CmpOp}{t:TE}(h:PC X op a b t)(h1:behindInMarks op b=false:=by first | exact nobehind _ (by decide) (by decide) | rfl):PT X (.Compare a [op] [b] pos) (tB t):=by
 intro pins s σ H Q I hw
 refine wpAny_isTrue_Compare1 (thn (h pins s σ H _ I hw) λv s1 h1=>thn h1 λu s2 h2=>thn h2 λc s3 ⟨x,H1,I1,r1,q1⟩=>?_) h1
 obtain⟨d,rfl,q⟩:=q1
 cases r1
 exact wpAny_truthy_bool ⟨H1,I1,q⟩
theorem fQ{e:Expr}{t:TE}(h:PE X e t)(he:∀whole,isTrue e X.env whole=(do let v <-whole;standAt e.pos;holding [v] (truthy v)):=by intro _;rfl):PT X e (tB t):=by
 intro pins s σ H Q I hw
 refine isTrue_plain (thn (h pins s σ H _ I hw) λv s1 ⟨x,H1,I1,r1,q1⟩=>?_) (he _)
 obtain⟨d,rfl,q⟩:=q1
 cases r1
 exact wpAny_truthy_bool ⟨H1,I1,q⟩
variable{tA tB':TT}{rest:List Expr}
def tAnd(t u:TT):TT:=λσ H Q=>t σ H λc H1=>if c=true then u σ H1 Q else Q false H1
def tOr(t u:TT):TT:=λσ H Q=>t σ H λc H1=>if c=true then Q true H1 else u σ H1 Q
def tNot(t:TT):TT:=λσ H Q=>t σ H λc H1=>Q (!c) H1
theorem nV(ha:PT X a tA):PW X (.BoolOp .And [a] pos) tA:=by
 intro wh pins s σ H Q I h
 refine isTrue_and (thn (ha pins s σ H Q I h) λc s1 e=>?_)
 cases c with
 |true=>exact isTrue_and_nil e
 |false=>exact e
theorem aOY(ha:PT X a tA):PW X (.BoolOp .Or [a] pos) tA:=by
 intro wh pins s σ H Q I h
 refine isTrue_or (thn (ha pins s σ H Q I h) λc s1 e=>?_)
 cases c with
 |false=>exact isTrue_or_nil e
 |true=>exact e
theorem qJ(ha:PT X a tA)(hb:PW X (.BoolOp .And (b::rest) pos) tB'):PW X (.BoolOp .And (a::b::rest) pos) (tAnd tA tB'):=by
 intro wh pins s σ H Q I h
 refine isTrue_and (thn (ha pins s σ H _ I h) λc s1 ⟨H1,I1,q1⟩=>?_)
 cases c with
 |true=>exact hb wh pins s1 σ H1 Q I1 q1
 |false=>exact⟨H1,I1,q1⟩
theorem aYJ(ha:PT X a tA)(hb:PW X (.BoolOp .Or (b::rest) pos) tB'):PW X (.BoolOp .Or (a::b::rest) pos) (tOr tA tB'):=by
 intro wh pins s σ H Q I h
 refine isTrue_or (thn (ha pins s σ H _ I h) λc s1 ⟨H1,I1,q1⟩=>?_)
 cases c with
 |true=>exact⟨H1,I1,q1⟩
 |false=>exact hb wh pins s1 σ H1 Q I1 q1
theorem iU(ha:PT X a tA):PT X (.UnaryOp .Not a pos) (tNot tA):=by
 intro pins s σ H Q I h
 exact isTrue_not (ha pins s σ H (λc H1=>Q (!c) H1) I h)
def tAndV(ta tb:TE):TE:=λσ H Q=>ta σ H λx H1=>∃c,x = .bl c/\if c=true then tb σ H1 Q else Q (.bl false) H1
def tOrV(ta tb:TE):TE:=λσ H Q=>ta σ H λx H1=>∃c,x = .bl c/\if c=true then Q (.bl true) H1 else tb σ H1 Q
theorem PX{op}{t:TE}(h:PE X a t):PE X (.BoolOp op [a] pos) t:=λpins s σ H Q I hw=>BoolOp_one (h pins s σ H Q I hw)
theorem acW(ha:PE X a ta)(hb:PE X (.BoolOp .And (b::rest) pos) tb):PE X (.BoolOp .And (a::b::rest) pos) (tAndV ta tb):=by
 intro pins s σ H Q I h
 refine BoolOp_and (thn (ha pins s σ H _ I h) λv s1 ⟨x,H1,I1,r1,q1⟩=>?_)
 obtain⟨c,rfl,q1⟩:=q1
 cases r1
 refine wpAny_truthy_bool ?_
 cases c with
 |true=>exact hb pins s1 σ H1 Q I1 q1
 |false=>exact⟨.bl false,H1,I1,rfl,q1⟩
theorem biZ(ha:PE X a ta)(hb:PE X (.BoolOp .Or (b::rest) pos) tb):PE X (.BoolOp .Or (a::b::rest) pos) (tOrV ta tb):=by
 intro pins s σ H Q I h
 refine BoolOp_or (thn (ha pins s σ H _ I h) λv s1 ⟨x,H1,I1,r1,q1⟩=>?_)
 obtain⟨c,rfl,q1⟩:=q1
 cases r1
 refine wpAny_truthy_bool ?_
 cases c with
 |false=>exact hb pins s1 σ H1 Q I1 q1
 |true=>exact⟨.bl true,H1,I1,rfl,q1⟩
def tIf(t:TT)(ta tb:TE):TE:=λσ H Q=>t σ H λc H1=>if c=true then ta σ H1 Q else tb σ H1 Q
theorem BK{c:Expr}(hc:PT X c tA)(ha:PE X a ta)(hb:PE X b tb):PE X (.IfExp c a b pos) (tIf tA ta tb):=by
 intro pins s σ H Q I h
 refine wpAny_IfExp (thn (hc pins s σ H _ I h) λd s1 ⟨H1,I1,q1⟩=>?_)
 cases d with
 |true=>exact ha pins s1 σ H1 Q I1 q1
 |false=>exact hb pins s1 σ H1 Q I1 q1
end
end L2
namespace L2
open PySem PySem.Spec PyProof.Rows
def SqL(K:PySem.W.Frag)(H:Hp)(a:Addr)(xs:List V):Prop:=
 Rd H a (.lst xs)\/
  ∃(o:Obj)(its:Array Value)(n:Nat),K.lookup a=some o/\o.cls = .type "list"/\o.dict=none/\o.data = .seq its n/\its.size<=sizeLine/\Vals xs its.toList
def SqT(K:PySem.W.Frag)(H:Hp)(a:Addr)(xs:List V):Prop:=
 Rd H a (.tup xs)\/
  ∃(o:Obj)(its:Array Value)(n:Nat),K.lookup a=some o/\o.cls = .type "tuple"/\o.data = .seq its n/\its.size<=sizeLine/\Vals xs its.toList
def absV:Value->Option V
 |.none=>some .non
 |.bool b=>some (.bl b)
 |.int i _=>some (.int i)
 |.str x _=>some (.str x)
 |.bytes b _=>some (.byt b)
 |.float b _=>some (.flt b)
 |.ref a=>some (.ref a)
 |.type n=>some (.ty n)
 |_=>none
theorem RelV.abs{x:V}{u:Value}(r:RelV x u):absV u=some x:=by
 cases x with
 |non=>cases r;rfl
 |bl _=>cases r;rfl
 |int _=>obtain⟨t,rfl⟩:=r;rfl
 |str _=>obtain⟨t,rfl⟩:=r;rfl
 |byt _=>obtain⟨t,rfl⟩:=r;rfl
 |flt _=>obtain⟨t,rfl⟩:=r;rfl
 |ref _=>cases r;rfl
 |ty _=>cases r;rfl
theorem RelV.inj{x y:V}{u:Value}(r:RelV x u)(q:RelV y u):x=y:=Option.some.inj (r.abs.symm.trans q.abs)
theorem Vals.inj:∀{xs ys:List V}{us:List Value},Vals xs us->Vals ys us->xs=ys
 |_,_,_,.nil,.nil=>rfl
 |_,_,_,.cons r t,.cons r' t'=>by rw[r.inj r',Vals.inj t t']
section
variable{X:Cx}{pins:List (Addr×Obj)}{σ:St}{H:Hp}{s:Shared}{a:Addr}{xs ys:List V}
theorem SqL.of{K:PySem.W.Frag}(h:H a=some (.lst xs)):SqL K H a xs:=.inl (.inl h)
theorem SqT.of{K:PySem.W.Frag}(h:H a=some (.tup xs)):SqT K H a xs:=.inl (.inl h)
theorem Inv.list(I:Inv X pins σ H s)(h:SqL X.K H a xs):∃its:List Value,Vals xs its/\PlainL s.heap a its.toArray/\xs.length<=sizeLine:=by
 rcases h with h | ⟨o,its,n,hk,hc,hd,hs,hz,r⟩
 ·obtain⟨z,its,n,r,e⟩:=h.ok I.hok
  exact⟨its,r,⟨_,n,e,rfl,rfl,rfl⟩,z⟩
 ·refine⟨its.toList,r,⟨o,n,I.kIn a o hk,hc,hd,by simpa using hs⟩,?_⟩
  have e:=r.length
  simp only[Array.length_toList] at e
  omega
theorem Inv.tuple(I:Inv X pins σ H s)(h:SqT X.K H a xs):∃its:List Value,Vals xs its/\IsTup s.heap a its.toArray/\xs.length<=sizeLine:=by
 rcases h with h | ⟨o,its,n,hk,hc,hs,hz,r⟩
 ·obtain⟨z,its,r,p⟩:=h.ok I.hok
  exact⟨its,r,p,z⟩
 ·refine⟨its.toList,r,⟨o,I.kIn a o hk,hc,n,by simpa using hs⟩,?_⟩
  have e:=r.length
  simp only[Array.length_toList] at e
  omega
theorem Inv.list_inj(I:Inv X pins σ H s)(h:SqL X.K H a xs)(h':SqL X.K H a ys):xs=ys:=by
 obtain⟨its,r,⟨o,n,e,_,_,d⟩,_⟩:=I.list h
 obtain⟨its',r',⟨o',n',e',_,_,d'⟩,_⟩:=I.list h'
 rw[e] at e';cases e'
 rw[d] at d'
 injection d' with d1 _
 have:its=its':=by simpa using congrArg Array.toList d1
 subst this
 exact r.inj r'
theorem Inv.tuple_inj(I:Inv X pins σ H s)(h:SqT X.K H a xs)(h':SqT X.K H a ys):xs=ys:=by
 obtain⟨its,r,⟨o,e,_,n,d⟩,_⟩:=I.tuple h
 obtain⟨its',r',⟨o',e',_,n',d'⟩,_⟩:=I.tuple h'
 rw[e] at e';cases e'
 rw[d] at d'
 injection d' with d1 _
 have:its=its':=by simpa using congrArg Array.toList d1
 subst this
 exact r.inj r'
end
abbrev Cx.wish(X:Cx)(E:Value->Shared->Prop):Cx:={ X with xe:=E }
abbrev Cx.nox(X:Cx):Cx:=X.wish λ_ _=>False
theorem Cx.Ok.wish{X:Cx}(ok:X.Ok)(E:Value->Shared->Prop):(X.wish E).Ok:=
 ⟨ok.mod,ok.kind,ok.glob,ok.blt,ok.above,ok.inj,ok.has,ok.cab,ok.hd,ok.frames,ok.stk,ok.exf,ok.bs,ok.bsz,ok.noex,ok.exfs,ok.funs,ok.frf⟩
theorem Cx.Ok.unwish{X:Cx}{E:Value->Shared->Prop}(ok:(X.wish E).Ok):X.Ok:=
 ⟨ok.mod,ok.kind,ok.glob,ok.blt,ok.above,ok.inj,ok.has,ok.cab,ok.hd,ok.frames,ok.stk,ok.exf,ok.bs,ok.bsz,ok.noex,ok.exfs,ok.funs,ok.frf⟩
section
variable{X:Cx}{pins:List (Addr×Obj)}{σ:St}{H:Hp}{s:Shared}{E:Value->Shared->Prop}
theorem Inv.wish(I:Inv X pins σ H s)(E:Value->Shared->Prop):Inv (X.wish E) pins σ H s:=⟨I.ok.wish E,I.os,I.bare,I.base,I.loc,I.cell,I.free,I.freeC,I.pin,I.hok,I.len⟩
theorem Inv.unwish(I:Inv (X.wish E) pins σ H s):Inv X pins σ H s:=⟨I.ok.unwish,I.os,I.bare,I.base,I.loc,I.cell,I.free,I.freeC,I.pin,I.hok,I.len⟩
theorem SP.unwish{D:Ends}{f:Flow}{s':Shared}(h:SP (X.wish E) pins D f s'):SP X pins D f s':=by
 cases f with
 |next=>obtain⟨σ',H',I,q⟩:=h;exact⟨σ',H',I.unwish,q⟩
 |brk=>obtain⟨σ',H',I,q⟩:=h;exact⟨σ',H',I.unwish,q⟩
 |cont=>obtain⟨σ',H',I,q⟩:=h;exact⟨σ',H',I.unwish,q⟩
 |ret u=>obtain⟨v,σ',H',I,r,q⟩:=h;exact⟨v,σ',H',I.unwish,r,q⟩
theorem PSs.nox{st:List Stmt}{t:TS}(h:PSs X.nox st t):PSs X st t:=λpins s σ H D I hw=>
 wpAny_mono (h pins s σ H D (I.wish _) hw) (λ_ _ q=>q.unwish) λ_ _ z=>False.elim z
end
section
variable{X:Cx}{st:Stmt}{rest:List Stmt}{t u:TS}{e:Expr}{te:TE}{pos:Pos}
def tNext:TS:=λD σ H=>D.nx σ H
def tSeq(t u:TS):TS:=λD σ H=>t { D with nx:=u D } σ H
theorem aZ:PSs X [] tNext:=λ_ _ σ H _ I h=>wpAny_execs_nil ⟨σ,H,I,h⟩
theorem aK(h1:PS X st t)(h2:PSs X rest u):PSs X (st::rest) (tSeq t u):=by
 intro pins s σ H D I h
 refine wpAny_execs_cons (thn (h1 pins s σ H { D with nx:=u D } I h) λf s1 q=>?_)
 cases f with
 |next=>
  obtain⟨σ',H',I',q⟩:=q
  exact h2 pins s1 σ' H' D I' q
 |ret v=>exact q
 |brk=>exact q
 |cont=>exact q
theorem aQ(h1:PS X st t):PSs X [st] t:=by
 intro pins s σ H D I h
 refine wpAny_execs_cons (thn (h1 pins s σ H D I h) λf s1 q=>?_)
 cases f with
 |next=>exact wpAny_execs_nil q
 |ret v=>exact q
 |brk=>exact q
 |cont=>exact q
theorem Inv.quiet{pins:List (Addr×Obj)}{σ:St}{H:Hp}{s:Shared}(I:Inv X pins σ H s):interactive X.env=false:=by simp[interactive,I.ok.kind]
def tDrop(te:TE):TS:=λD σ H=>te σ H λ_ H1=>D.nx σ H1
theorem gJ(he:PE X e te)(hs:swapsWith e none pos.line X.env=pure false:=by rfl):PS X (.Expr e pos) (tDrop te):=by
 intro pins s σ H D I h
 exact wpAny_Expr_any (thn (he pins s σ H _ I h) λv s1 ⟨x,H1,I1,r1,q1⟩=>⟨σ,H1,I1,q1⟩) I.quiet hs
def tRet(te:TE):TS:=λD σ H=>te σ H D.rt
theorem aU(he:PE X e te):PS X (.Return (some e) pos) (tRet te):=by
 intro pins s σ H D I h
 exact wpAny_Return_some (thn (he pins s σ H _ I h) λv s1 ⟨x,H1,I1,r1,q1⟩=>⟨x,σ,H1,I1,r1,q1⟩)
def tIfS(c:TT)(t u:TS):TS:=λD σ H=>c σ H λb H1=>if b=true then t D σ H1 else u D σ H1
theorem bY{c:Expr}{a b:List Stmt}{tc:TT}(hc:PT X c tc)(ha:PSs X a t)(hb:PSs X b u):PS X (.If c a b pos) (tIfS tc t u):=by
 intro pins s σ H D I h
 refine wpAny_If (thn (hc pins s σ H _ I h) λd s1 ⟨H1,I1,q1⟩=>?_)
 cases d with
 |true=>exact ha pins s1 σ H1 D I1 q1
 |false=>exact hb pins s1 σ H1 D I1 q1
end
abbrev TG:=V->St->Hp->(St->Hp->Prop)->Prop
abbrev TGs:=List V->St->Hp->(St->Hp->Prop)->Prop
def PG(X:Cx)(target:Expr)(t:TG):Prop:=
 ∀(pins:List (Addr×Obj))(s:Shared)(σ:St)(H:Hp)(v:V)(u:Value)(Q:St->Hp->Prop),Inv X pins σ H s->RelV v u->t v σ H Q->
  wpAny (model X.prog X.w) X.A (assign target X.env u) (λ_ s'=>∃σ' H',Inv X pins σ' H' s'/\Q σ' H') X.xe s
def PGs(X:Cx)(ts:List Expr)(t:TGs):Prop:=
 ∀(pins:List (Addr×Obj))(s:Shared)(σ:St)(H:Hp)(vs:List V)(us:List Value)(Q:St->Hp->Prop),Inv X pins σ H s->Vals vs us->t vs σ H Q->
  wpAny (model X.prog X.w) X.A (assignInOrder ((assignEach ts X.env).map (·.2)) us) (λ_ s'=>∃σ' H',Inv X pins σ' H' s'/\Q σ' H') X.xe s
abbrev TIp:=V->V->Hp->VK->Prop
def PIp(X:Cx)(op:Operator)(t:TIp):Prop:=
 ∀(pins:List (Addr×Obj))(s:Shared)(σ:St)(H:Hp)(x y:V)(v u:Value)(Q:VK),Inv X pins σ H s->RelV x v->RelV y u->t x y H Q->
  wpAny (model X.prog X.w) X.A (inplaceOp op v u) (EP X pins σ Q) X.xe s
section
variable{X:Cx}{pos:Pos}
def gName(i:Nat):TG:=λv σ H Q=>Q (σ.set i (some v)) H
theorem cK{i:Nat}{x:Str}(hN:X.N.Nodup)(hi:X.N[i]? = some x)(hx:Loc X.env.scope x)(hf:X.fn x=true\/X.env.scope.names.lookup x=some .local:=by first | exact .inl rfl | exact .inr rfl | assumption):PG X (.Name x pos) (gName i):=by
 intro pins s σ H v u Q I r h
 exact wpAny_assign_Name (ZX I hN hi hx r (λs' I'=>⟨_,H,I',h⟩) hf)
def gNil:TGs:=λvs σ H Q=>vs=[]/\Q σ H
def gCons(t:TG)(u:TGs):TGs:=λvs σ H Q=>∃v r,vs=v::r/\t v σ H λσ' H'=>u r σ' H' Q
theorem IU:PGs X [] gNil:=by
 intro pins s σ H vs us Q I r h
 obtain⟨e,h⟩:=h
 subst e
 cases r
 exact assignInOrder_nil ⟨σ,H,I,h⟩
theorem fU{e:Expr}{es:List Expr}{t:TG}{u:TGs}(h1:PG X e t)(h2:PGs X es u)
  (hs:(assignEach (e::es) X.env).map (·.2)=assign e X.env::(assignEach es X.env).map (·.2):=by rfl):PGs X (e::es) (gCons t u):=by
 intro pins s σ H vs us Q I r h
 obtain⟨v,vr,e1,h⟩:=h
 subst e1
 cases r with
 |cons r rr=>
  rw[hs]
  refine assignInOrder_cons (thn (h1 pins s σ H _ _ _ I r h) λ_ s1 ⟨σ1,H1,I1,q1⟩=>?_)
  exact h2 pins s1 σ1 H1 _ _ Q I1 rr q1
def gTup(K:PySem.W.Frag)(n:Nat)(t:TGs):TG:=λv σ H Q=>∃a xs,v = .ref a/\SqT K H a xs/\xs.length=n/\t xs σ H Q
theorem PY{es:List Expr}{k:Nat}{t:TGs}{n:Nat}(hc:X.calm=true)(h:PGs X es t)
  (hn:(assignEach es X.env).length=n:=by rfl) (hst:(assignEach es X.env).findIdx? (·.1)=none:=by rfl):PG X (.Tuple es k pos) (gTup X.K n t):=by
 intro pins s σ H v u Q I r hw
 obtain⟨a,xs,e1,hq,hl,hw⟩:=hw
 subst e1
 cases r
 obtain⟨its,rv,ht,hz⟩:=I.tuple hq
 refine assign_Tuple_tuple (I.ok.hd hc) ht (by simp[hn,<-hl,rv.length]) hst λh' hx=>?_
 have I1:Inv X pins σ H { s with heap:=h' }:=I.kept (t':=s.toks) λb o e=>hx b o (Nat.ne_of_lt (Heap.lt_size e)) e
 exact h pins _ σ H xs _ Q I1 (by simpa using rv) hw
def tAsg(te:TE)(g:TG):TS:=λD σ H=>te σ H λx H1=>g x σ H1 D.nx
theorem bQ{i:Nat}{x:Str}{e:Expr}{te:TE}{pos':Pos}(hN:X.N.Nodup)(hi:X.N[i]? = some x)(hx:Loc X.env.scope x)(he:PE X e te)(hs:swapsWith e (some (.Name x pos')) pos.line X.env=pure false:=by rfl)(hf:X.fn x=true\/X.env.scope.names.lookup x=some .local:=by first | exact .inl rfl | exact .inr rfl | assumption) :
  PS X (.Assign [.Name x pos'] e pos) (tAsg te (gName i)):=by
 intro pins s σ H D I h
 refine wpAny_Assign_Name (thn (he pins s σ H _ I h) λv s1 ⟨y,H1,I1,r1,q1⟩=>?_) hs
 exact ZX I1 hN hi hx r1 (λs2 I2=>⟨_,H1,I2,q1⟩) hf
def tAug(i:Nat)(te:TE)(ti:TIp):TS:=λD σ H=>∃x,σ[i]? = some (some x)/\te σ H λy H1=>ti x y H1 λz H2=>D.nx (σ.set i (some z)) H2
theorem aOZ{i:Nat}{x:Str}{e:Expr}{te:TE}{op:Operator}{ti:TIp}{pos':Pos}(hN:X.N.Nodup)(hi:X.N[i]? = some x)(hx:Loc X.env.scope x)(he:PE X e te)(ho:PIp X op ti)(hf:X.fn x=true\/X.env.scope.names.lookup x=some .local:=by first | exact .inl rfl | exact .inr rfl | assumption) :
  PS X (.AugAssign (.Name x pos') op e pos) (tAug i te ti):=by
 intro pins s σ H D I h
 obtain⟨v,e1,h⟩:=h
 obtain⟨m,hn,hl⟩:=I.loc
 have vis:Vis X.env.scope x:=by rcases hx with k | k;exact .inl k;exact .inr (.inl k)
 obtain⟨u,r,l⟩:=hl i x v hi e1 vis
 refine wpAny_AugAssign_Name ?_
 have go:wpAny (model X.prog X.w) X.A (eval e X.env) (λw s₂=>wpAny (model X.prog X.w) X.A (inplaceOp op u w) (λr s₃=>wpAny (model X.prog X.w) X.A (storeName X.env x r) (λ_=>SP X pins D .next) X.xe s₃) X.xe s₂) X.xe s:=by
  refine thn (he pins s σ H _ I h) λw s1 ⟨y,H1,I1,r1,q1⟩=>?_
  refine thn (ho pins s1 σ H1 v y u w _ I1 r r1 q1) λz s2 ⟨zv,H2,I2,r2,q2⟩=>?_
  exact ZX I2 hN hi hx r2 (λs3 I3=>⟨_,H2,I3,q2⟩) hf
 rcases l with ⟨hk,hm⟩ | ⟨hk,c,hc,hcell⟩
 ·exact wpAny_loadName_local I.ok.kind hk hn hm go
 ·rcases hk with hk | hk
  ·exact wpAny_loadName_cell I.ok.kind hk hc hcell go
  ·rcases hx with k | k
   ·have:X.env.scope.names.lookup x=some .free:=hk
    rw[k] at this;cases this
   ·have:X.env.scope.names.lookup x=some .free:=hk
    rw[k] at this;cases this
def ipI(f:Int->Int->Int):TIp:=λx y H Q=>∃i j,x = .int i/\y = .int j/\Q (.int (f i j)) H
theorem aPJ:PIp X .Add (ipI λi j=>i+j):=by
 intro pins s σ H x y v u Q I r1 r2 h
 obtain⟨i,j,e1,e2,q⟩:=h
 subst e1;subst e2
 obtain⟨t,rfl⟩:=r1
 obtain⟨t',rfl⟩:=r2
 exact iadd_int ⟨.int _,H,I.tok _,⟨_,rfl⟩,q⟩
end
section
variable{X:Cx}{pos:Pos}
def tWhile(c:TT)(tb:TS):TS:=λD σ H=>∃W:Nat->St->Hp->Prop,(∃m,W m σ H)/\∀m σ H,W m σ H->
 c σ H λb H1=>if b=true then ∃N:St->Hp->Prop,(∀σ' H',N σ' H'->∃m',m'<m/\W m' σ' H')/\tb { D with nx:=N,ct:=N,bk:=D.nx } σ H1 else D.nx σ H1
theorem ZY{c:Expr}{body:List Stmt}{tc:TT}{tb:TS}(hp:PassesOwn (model X.prog X.w) X.A X.env X.xe)(hc:PT X c tc)(hb:PSs X body tb):PS X (.While c body [] pos) (tWhile tc tb):=by
 intro pins s σ H D I h
 obtain⟨W,⟨m0,w0⟩,turn⟩:=h
 refine wpAny_While (codeAny_whileLoop (λn s'=>∃σ' H',Inv X pins σ' H' s'/\W n σ' H') ?_ m0 ⟨σ,H,I,w0⟩)
 rintro n s1 ⟨σ1,H1,I1,w1⟩
 refine wpAny_passesOwn hp (thn (hc pins s1 σ1 H1 _ I1 (turn n σ1 H1 w1)) λb s2 ⟨H2,I2,q2⟩=>?_)
 cases b with
 |true=>
  obtain⟨N,hN,q2⟩:=q2
  rw[if_pos rfl]
  refine wpAny_passesOwn hp (thn (hb pins s2 σ1 H2 _ I2 q2) λf s3 q3=>?_)
  cases f with
  |next=>
   obtain⟨σ3,H3,I3,n3⟩:=q3
   obtain⟨m',hm,w3⟩:=hN σ3 H3 n3
   exact⟨m',hm,σ3,H3,I3,w3⟩
  |cont=>
   obtain⟨σ3,H3,I3,n3⟩:=q3
   obtain⟨m',hm,w3⟩:=hN σ3 H3 n3
   exact⟨m',hm,σ3,H3,I3,w3⟩
  |brk=>exact q3
  |ret v=>exact q3
 |false=>
  rw[if_neg Bool.false_ne_true]
  exact wpAny_execs_nil ⟨σ1,H2,I2,q2⟩
end
structure It where
 go:Nat->Hp->Prop
 yld:Nat->Hp->V->Hp->Prop
 stop:Nat->Hp->Prop
def FpOk(X:Cx)(pins:List (Addr×Obj))(H:Hp)(b:Addr):Prop:=
 H b=none/\b≠X.env.locals/\b∉X.fs/\(b∈X.ex\/X.s_0.heap.objs.size<=b)/\(∀x c,X.env.cells.lookup x=some c->c≠b)/\∀p∈X.pn++pins,p.1≠b
theorem Inv.fpOk{X:Cx}{pins:List (Addr×Obj)}{σ:St}{H H':Hp}{s:Shared}{b:Addr}(I:Inv X pins σ H s)(hb:s.heap.objs.size<=b)(hn:H' b=none):FpOk X pins H' b:=by
 refine⟨hn,Nat.ne_of_gt (Nat.lt_of_lt_of_le I.lt hb),I.nofs hb,.inr (Nat.le_trans I.sz hb),λx c e z=>?_,λp hp z=>?_⟩
 ·obtain⟨v,q⟩:=I.cell x c e
  exact absurd (Nat.lt_of_lt_of_le q.lt (by rw[z];exact hb)) (Nat.lt_irrefl _)
 ·exact absurd (Nat.lt_of_lt_of_le (Heap.lt_size (I.pin p hp).1) (by rw[z];exact hb)) (Nat.lt_irrefl _)
structure Turn(P:Program)(w:World)(K:PySem.W.Frag)(tg:Expr)(J:It)(fp:List Addr)(it:Addr)(tn:Nat->Heap->Prop):Prop where
 mem:it∈fp
 obj:∀i h,tn i h->∀b∈fp,∃o,h.get? b=some o/\∀v,o.data≠.cell v
 keep:∀i h h',tn i h->(∀b∈fp,∀o,h.get? b=some o->h'.get? b=some o)->tn i h'
 item:∀(X:Cx),X.prog=P->X.w=w->X.K=K->X.calm=true->∀(i:Nat)(pins:List (Addr×Obj))(s:Shared)(σ:St)(H:Hp)(E:Value->Shared->Prop),Inv X pins σ H s->(∀b∈fp,FpOk X pins H b)->tn i s.heap->J.go i H->
  wpAny (model P w) X.A (pyNext (.ref it)) (λr s1=>∃u,r=some u/\
   wpAny (model P w) X.A (letOwnedTupleGo tg (.ref it) u) (λ_ s2=>∃x H',Inv X pins σ H' s2/\RelV x u/\J.yld i H x H'/\tn (i+1) s2.heap/\∀b∈fp,H' b=none) E s1) E s
 done:∀(X:Cx),X.prog=P->X.w=w->X.K=K->X.calm=true->∀(i:Nat)(pins:List (Addr×Obj))(s:Shared)(σ:St)(H:Hp)(E:Value->Shared->Prop),Inv X pins σ H s->(∀b∈fp,FpOk X pins H b)->tn i s.heap->J.stop i H->
  wpAny (model P w) X.A (pyNext (.ref it)) (λr s1=>r=none/\Inv X pins σ H s1) E s
 self:∀(A:Around)(i:Nat)(s:Shared)(Q:Value->Shared->Prop)(E:Value->Shared->Prop),tn i s.heap->Q (.ref it) s->wpAny (model P w) A (pyIter (.ref it)) Q E s
abbrev TI:=St->Hp->(It->Hp->Prop)->Prop
def PIE(X:Cx)(pins:List (Addr×Obj))(σ:St)(tg:Expr)(R:It->Hp->Prop)(itv:Value)(s2:Shared):Prop:=
 ∃(it:Addr)(fp:List Addr)(tn:Nat->Heap->Prop)(J:It)(H':Hp),itv = .ref it/\Inv X pins σ H' s2/\Turn X.prog X.w X.K tg J fp it tn/\tn 0 s2.heap/\(∀b∈fp,FpOk X pins H' b)/\R J H'
def PI(X:Cx)(tg iter:Expr)(wi:TI):Prop:=
 ∀(pins:List (Addr×Obj))(s:Shared)(σ:St)(H:Hp)(R:It->Hp->Prop),Inv X pins σ H s->wi σ H R->
  wpAny (model X.prog X.w) X.A (eval iter X.env) (λv s1=>wpAny (model X.prog X.w) X.A (pyIter v) (PIE X pins σ tg R) X.xe s1) X.xe s
theorem EJ{M:Model}{A:Around}{E:Value->Shared->Prop}{s:Shared}{tg:Expr}{it:Addr}{u:Value}{o:Obj}{n:String}{vs:Array Value}{Q:Unit->Shared->Prop}(ho:s.heap.get? it=some o)(hc:o.cls = .type n)(hd:o.data = .fields vs)
  (hn:["enumerate", "zip", "dict_itemiterator", "dict_reverseitemiterator", "odict_iterator", "itertools.zip_longest", "itertools.pairwise"].contains n=false) (hQ:Q () s):wpAny M A (letOwnedTupleGo tg (.ref it) u) Q E s:=by
 unfold letOwnedTupleGo
 cases tg <;> first
  |exact wpAny_pure hQ
  |(cases u <;> first
    |exact wpAny_pure hQ
    |(refine wpAny_bind (wpAny_load ho ?_)
      rw[hc,hd]
      show wpAny M A (if(["enumerate", "zip", "dict_itemiterator", "dict_reverseitemiterator", "odict_iterator", "itertools.zip_longest", "itertools.pairwise"].contains n&&vs[0]? == some (rawInt _))=true then _ else _) Q E s
      rw[if_neg (by intro h;rw[hn,Bool.false_and] at h;cases h)]
      exact wpAny_pure hQ))
def Itl(K:PySem.W.Frag)(a:Addr):It:=
 ⟨λi H=>∃xs x,SqL K H a xs/\xs[i]? = some x,λi H x H'=>H'=H/\∀xs,SqL K H a xs->xs[i]? = some x,λi H=>∃xs,SqL K H a xs/\xs.length<=i⟩
def Itt(K:PySem.W.Frag)(a:Addr):It:=
 ⟨λi H=>∃xs x,SqT K H a xs/\xs[i]? = some x,λi H x H'=>H'=H/\∀xs,SqT K H a xs->xs[i]? = some x,λi H=>∃xs,SqT K H a xs/\xs.length<=i⟩
def Itr(lo:Int)(n:Nat):It:=⟨λi _=>i<n,λi H x H'=>H'=H/\x = .int (lo+i),λi _=>n<=i⟩
theorem aPK{P:Program}{w:World}{K:PySem.W.Frag}{tg:Expr}(a it:Addr):Turn P w K tg (Itl K a) [it] it (λi h=>h.IsListIter it a i) where
 mem:=by simp
 obj:=λi h st b hb=>by
  have e:b=it:=by simpa using hb
  subst e
  obtain⟨o,e,c,d⟩:=st
  exact⟨o,e,λv z=>by rw[d] at z;cases z⟩
 keep:=λi h h' st k=>st.at λo e=>k it (by simp) o e
 item:=by
  intro X hP hw hK hc i pins s σ H E I hf st hg
  subst hP hw hK
  obtain⟨xs,x,hq,hx⟩:=hg
  obtain⟨its,rv,p,hz⟩:=I.list hq
  obtain⟨u,hu,ru⟩:=rv.get hx
  obtain⟨f0,f1,f2,f3,f4,f5⟩:=hf it (by simp)
  refine wpAny_pyNext_list_item st p.isList (x:=u) (by simpa using hu) λh' st' sb=>?_
  have I1:Inv X pins σ H { s with heap:=h' }:=I.turned (t':=s.toks) (λb o hb e=>(sb.2 b hb).trans e) f0 f1 f3 f4 f5
  obtain⟨o,e,c,d⟩:=id st'
  exact⟨u,rfl,EJ (s:={ s with heap:=h' }) e c d (by decide) ⟨x,H,I1,ru,⟨rfl,λys hy=>by rw[I.list_inj hy hq];exact hx⟩,st',λb hb=>(hf b hb).1⟩⟩
 done:=by
  intro X hP hw hK hc i pins s σ H E I hf st hg
  subst hP hw hK
  obtain⟨xs,hq,hx⟩:=hg
  obtain⟨its,rv,p,hz⟩:=I.list hq
  obtain⟨f0,f1,f2,f3,f4,f5⟩:=hf it (by simp)
  have hl:=rv.length
  exact wpAny_pyNext_list_end (I.ok.hd hc) st p.isList (by simp;omega) λh' eb=>⟨rfl,I.turned (t':=s.toks) (λb o hb e=>eb b o hb e) f0 f1 f3 f4 f5⟩
 self:=λ_ _ _ _ _ st h=>wpAny_pyIter_listiter st h
theorem aIW{P:Program}{w:World}{K:PySem.W.Frag}{tg:Expr}(a it:Addr):Turn P w K tg (Itt K a) [it] it (λi h=>h.IsTupleIter it a i) where
 mem:=by simp
 obj:=λi h st b hb=>by
  have e:b=it:=by simpa using hb
  subst e
  obtain⟨o,e,c,d⟩:=st
  exact⟨o,e,λv z=>by rw[d] at z;cases z⟩
 keep:=λi h h' st k=>st.at λo e=>k it (by simp) o e
 item:=by
  intro X hP hw hK hc i pins s σ H E I hf st hg
  subst hP hw hK
  obtain⟨xs,x,hq,hx⟩:=hg
  obtain⟨its,rv,p,hz⟩:=I.tuple hq
  obtain⟨u,hu,ru⟩:=rv.get hx
  obtain⟨f0,f1,f2,f3,f4,f5⟩:=hf it (by simp)
  refine wpAny_pyNext_tuple_item st (show s.heap.IsTuple a its.toArray from p) (x:=u) (by simpa using hu) λh' st' sb=>?_
  have I1:Inv X pins σ H { s with heap:=h' }:=I.turned (t':=s.toks) (λb o hb e=>(sb.2 b hb).trans e) f0 f1 f3 f4 f5
  obtain⟨o,e,c,d⟩:=id st'
  exact⟨u,rfl,EJ (s:={ s with heap:=h' }) e c d (by decide) ⟨x,H,I1,ru,⟨rfl,λys hy=>by rw[I.tuple_inj hy hq];exact hx⟩,st',λb hb=>(hf b hb).1⟩⟩
 done:=by
  intro X hP hw hK hc i pins s σ H E I hf st hg
  subst hP hw hK
  obtain⟨xs,hq,hx⟩:=hg
  obtain⟨its,rv,p,hz⟩:=I.tuple hq
  obtain⟨f0,f1,f2,f3,f4,f5⟩:=hf it (by simp)
  have hl:=rv.length
  exact wpAny_pyNext_tuple_end (I.ok.hd hc) st (show s.heap.IsTuple a its.toArray from p) (by simp;omega) λh' eb=>⟨rfl,I.turned (t':=s.toks) (λb o hb e=>eb b o hb e) f0 f1 f3 f4 f5⟩
 self:=λ_ _ _ _ _ st h=>wpAny_pyIter_tupleiter st h
theorem bjJ{P:Program}{w:World}{K:PySem.W.Frag}{tg:Expr}(it:Addr)(lo:Int)(n:Nat):Turn P w K tg (Itr lo n) [it] it (λi h=>IsRangeIter h it (lo+(i:Nat)*1) ((n:Int) - (i:Nat)) 1) where
 mem:=by simp
 obj:=λi h st b hb=>by
  have e:b=it:=by simpa using hb
  subst e
  exact⟨_,st,λv z=>by
   have z':Data.fields _=Data.cell v:=z
   cases z'⟩
 keep:=λi h h' st k=>k it (by simp) _ st
 item:=by
  intro X hP hw hK hc i pins s σ H E I hf st hg
  subst hP hw hK
  obtain⟨f0,f1,f2,f3,f4,f5⟩:=hf it (by simp)
  have W:=Walks.range (prog:=X.prog) (w:=X.w) (I.ok.hd hc) it lo 1 n
  refine W.item i s _ _ hg st λv h' tk hv st' kk=>?_
  obtain⟨t,rfl⟩:=hv
  have I1:Inv X pins σ H { s with heap:=h',toks:=tk }:=I.turned (λb o hb e=>kk b o (by simpa using hb) e) f0 f1 f3 f4 f5
  refine⟨_,rfl,EJ (s:={ s with heap:=h',toks:=tk }) (n := "range_iterator") st' rfl rfl (by decide) ⟨.int (lo+i),H,I1,⟨t,?_⟩,⟨rfl,rfl⟩,st',λb hb=>(hf b hb).1⟩⟩
  rw[Int.mul_one]
 done:=by
  intro X hP hw hK hc i pins s σ H E I hf st hg
  subst hP hw hK
  obtain⟨f0,f1,f2,f3,f4,f5⟩:=hf it (by simp)
  exact wpAny_pyNext_range_end (I.ok.hd hc) st (by have:n<=i:=hg;omega) λh' eb=>⟨rfl,I.turned (t':=s.toks) (λb o hb e=>eb b o hb e) f0 f1 f3 f4 f5⟩
 self:=λ_ _ _ _ _ st h=>wpAny_pyIter_rangeiter st h
end L2
namespace L2
open PySem PySem.Spec PyProof.Rows
section
variable{X:Cx}{tg:Expr}
def iList(K:PySem.W.Frag)(tl:TE):TI:=λσ H R=>tl σ H λx H1=>∃a,x = .ref a/\(∃xs,SqL K H1 a xs)/\R (Itl K a) H1
def iTup(K:PySem.W.Frag)(tl:TE):TI:=λσ H R=>tl σ H λx H1=>∃a,x = .ref a/\(∃xs,SqT K H1 a xs)/\R (Itt K a) H1
theorem dQ{l:Expr}{tl:TE}(hl:PE X l tl):PI X tg l (iList X.K tl):=by
 intro pins s σ H R I h
 refine thn (hl pins s σ H _ I h) λv s1 ⟨x,H1,I1,r1,q1⟩=>?_
 obtain⟨a,e,⟨xs,hq⟩,q⟩:=q1
 subst e
 cases r1
 obtain⟨its,rv,p,hz⟩:=I1.list hq
 refine wpAny_pyIter_list p.isList ?_
 refine⟨s1.heap.objs.size,[s1.heap.objs.size],_,_,H1,rfl,I1.kept (t':=s1.toks) λb o e=>Heap.get?_push_of_some _ e,aPK a _,⟨_,Heap.get?_push_size _ rfl,rfl,rfl⟩,λb hb=>?_,q⟩
 have e:b=s1.heap.objs.size:=by simpa using hb
 subst e
 exact I1.fpOk (Nat.le_refl _) (I1.hok.fresh (Nat.le_refl _))
theorem bfQ{l:Expr}{tl:TE}(hl:PE X l tl):PI X tg l (iTup X.K tl):=by
 intro pins s σ H R I h
 refine thn (hl pins s σ H _ I h) λv s1 ⟨x,H1,I1,r1,q1⟩=>?_
 obtain⟨a,e,⟨xs,hq⟩,q⟩:=q1
 subst e
 cases r1
 obtain⟨its,rv,p,hz⟩:=I1.tuple hq
 refine wpAny_pyIter_tuple (show s1.heap.IsTuple a its.toArray from p) ?_
 refine⟨s1.heap.objs.size,[s1.heap.objs.size],_,_,H1,rfl,I1.kept (t':=s1.toks) λb o e=>Heap.get?_push_of_some _ e,aIW a _,⟨_,Heap.get?_push_size _ rfl,rfl,rfl⟩,λb hb=>?_,q⟩
 have e:b=s1.heap.objs.size:=by simpa using hb
 subst e
 exact I1.fpOk (Nat.le_refl _) (I1.hok.fresh (Nat.le_refl _))
def tFor(wi:TI)(g:TG)(tb:TS):TS:=λD σ H=>wi σ H λJ H1=>∃W:Nat->Nat->St->Hp->Prop,(∃m,W 0 m σ H1)/\∀i m σ H,W i m σ H->
 (J.stop i H/\D.nx σ H)\/(J.go i H/\∃N:St->Hp->Prop,(∀σ' H',N σ' H'->∃m',m'<m/\W (i+1) m' σ' H')/\∀x H',J.yld i H x H'->g x σ H' λσ2 H2=>tb { D with nx:=N,ct:=N,bk:=D.nx } σ2 H2)
def pinsAt(fp:List Addr)(h:Heap):List (Addr×Obj):=fp.filterMap λb=>(h.get? b).map λo=>(b,o)
theorem KY{fp:List Addr}{h:Heap}{b:Addr}{o:Obj}(hb:b∈fp)(e:h.get? b=some o):(b,o)∈pinsAt fp h:=List.mem_filterMap.mpr ⟨b,hb,by rw[e];rfl⟩
theorem aPQ{fp:List Addr}{h:Heap}{p:Addr×Obj}(hp:p∈pinsAt fp h):p.1∈fp/\h.get? p.1=some p.2:=by
 obtain⟨b,hb,e⟩:=List.mem_filterMap.mp hp
 cases q:h.get? b with
 |none=>rw[q] at e;cases e
 |some o=>
  rw[q] at e
  have e':(b,o)=p:=Option.some.inj e
  subst e'
  exact⟨hb,q⟩
theorem Inv.pinned{pins:List (Addr×Obj)}{σ:St}{H:Hp}{s:Shared}{fp:List Addr}(I:Inv X pins σ H s)(hf:∀b∈fp,FpOk X pins H b)(ho:∀b∈fp,∃o,s.heap.get? b=some o/\∀v,o.data≠.cell v):Inv X (pins++pinsAt fp s.heap) σ H s:=
 I.pins_of λp hp=>(List.mem_append.mp hp).elim (λz=>I.pin p (List.mem_append_right _ z)) λz=>by
  obtain⟨hb,e⟩:=aPQ z
  obtain⟨f0,f1,f2,_⟩:=hf p.1 hb
  obtain⟨o,e',d⟩:=ho p.1 hb
  rw[e] at e';cases e'
  exact⟨e,f0,f1,f2,d⟩
theorem Inv.unpinned{pins pl:List (Addr×Obj)}{σ:St}{H:Hp}{s:Shared}(I:Inv X (pins++pl) σ H s):Inv X pins σ H s:=I.pins_of λp hp=>I.pin p (List.mem_append_right _ (List.mem_append_left _ hp))
theorem fV{iter:Expr}{body:List Stmt}{wi:TI}{g:TG}{tb:TS}{pos:Pos}(hp:PassesOwn (model X.prog X.w) X.A X.env X.xe)(hc:X.calm=true)(hi:PI X tg iter wi)(hg:PG X tg g)(hb:PSs X body tb)
  (hs:∀x,foldedSetIterable iter X.env x=pure x:=by intro _;rfl):PS X (.For tg iter body [] pos) (tFor wi g tb):=by
 intro pins s σ H D I h
 refine wpAny_For (thn (hi pins s σ H _ I h) λv s1 h1=>thn h1 λitv s2 h2=>?_) hs
 obtain⟨it,fp,tn,J,H2,e,I2,T,st2,f2,W,⟨m0,w0⟩,turn⟩:=h2
 subst e
 have stat:∀{H':Hp},(∀b∈fp,H' b=none)->∀b∈fp,FpOk X pins H' b:=λhn b hb=>⟨hn b hb,(f2 b hb).2⟩
 refine codeAny_forLoop_any (λn s'=>∃i σ' H',Inv X pins σ' H' s'/\tn i s'.heap/\(∀b∈fp,H' b=none)/\W i n σ' H') ?_ m0 ⟨0,σ,H2,I2,st2,λb hb=>(f2 b hb).1,w0⟩
 rintro n s3 ⟨i,σ3,H3,I3,st3,fr3,w3⟩
 rcases turn i n σ3 H3 w3 with ⟨stop,qn⟩ | ⟨go,N,hN,step⟩
 ·refine wpAny_passesOwn hp (thn (T.done X rfl rfl rfl hc i pins s3 σ3 H3 X.xe I3 (stat fr3) st3 stop) λr s4 ⟨hr,I4⟩=>?_)
  subst hr
  exact wpAny_execs_nil ⟨σ3,H3,I4,qn⟩
 ·refine wpAny_passesOwn hp (thn (T.item X rfl rfl rfl hc i pins s3 σ3 H3 X.xe I3 (stat fr3) st3 go) λr s4 ⟨u,hr,h4⟩=>?_)
  subst hr
  refine wpAny_passesOwn hp (thn h4 λ_ s5 ⟨x,H5,I5,r5,y5,st5,fr5⟩=>?_)
  have I5':=I5.pinned (stat fr5) (T.obj _ _ st5)
  refine wpAny_passesOwn hp (thn (hg _ s5 σ3 H5 x u _ I5' r5 (step x H5 y5)) λ_ s6 ⟨σ6,H6,I6,q6⟩=>?_)
  refine wpAny_passesOwn hp (thn (hb _ s6 σ6 H6 _ I6 q6) λf s7 q7=>?_)
  have again:∀{σ7:St}{H7:Hp},Inv X (pins++pinsAt fp s5.heap) σ7 H7 s7->N σ7 H7->∃m,m<n/\∃i σ' H',Inv X pins σ' H' s7/\tn i s7.heap/\(∀b∈fp,H' b=none)/\W i m σ' H':=λ{σ7 H7} I7 n7=>by
   obtain⟨m',hm,w7⟩:=hN σ7 H7 n7
   refine⟨m',hm,i+1,σ7,H7,I7.unpinned,T.keep _ _ _ st5 λb hb o e=>(I7.pin (b,o) (List.mem_append_right _ (List.mem_append_right _ (KY hb e)))).1,λb hb=>?_,w7⟩
   obtain⟨o,e,d⟩:=T.obj _ _ st5 b hb
   exact(I7.pin (b,o) (List.mem_append_right _ (List.mem_append_right _ (KY hb e)))).2.1
  cases f with
  |next=>obtain⟨σ7,H7,I7,n7⟩:=q7;exact again I7 n7
  |cont=>obtain⟨σ7,H7,I7,n7⟩:=q7;exact again I7 n7
  |brk=>obtain⟨σ7,H7,I7,q7⟩:=q7;exact⟨σ7,H7,I7.unpinned,q7⟩
  |ret v=>obtain⟨x7,σ7,H7,I7,r7,q7⟩:=q7;exact⟨x7,σ7,H7,I7.unpinned,r7,q7⟩
end
theorem iK{K:PySem.W.Frag}{a:Addr}{xs:List V}{g:TG}{tb:TS}{D:Ends}{σ:St}{H:Hp}(Pv:Nat->St->Hp->Prop)(h0:Pv 0 σ H)(hl:∀i σ H,i<=xs.length->Pv i σ H->SqL K H a xs)
  (hs:∀i x σ H,xs[i]? = some x->Pv i σ H->g x σ H λσ2 H2=>tb { D with nx:=Pv (i+1),ct:=Pv (i+1),bk:=D.nx } σ2 H2) (hd:∀σ H,Pv xs.length σ H->D.nx σ H) :
  ∃W:Nat->Nat->St->Hp->Prop,(∃m,W 0 m σ H)/\∀i m σ H,W i m σ H->
   ((Itl K a).stop i H/\D.nx σ H)\/((Itl K a).go i H/\∃N:St->Hp->Prop,(∀σ' H',N σ' H'->∃m',m'<m/\W (i+1) m' σ' H')/\∀x H',(Itl K a).yld i H x H'->g x σ H' λσ2 H2=>tb { D with nx:=N,ct:=N,bk:=D.nx } σ2 H2):=by
 refine⟨λi m σ H=>m=xs.length - i/\i<=xs.length/\Pv i σ H,⟨xs.length,by simp,Nat.zero_le _,h0⟩,?_⟩
 rintro i m σ H ⟨rfl,hi,p⟩
 have q:=hl i σ H hi p
 by_cases hlt:i<xs.length
 ·refine .inr ⟨⟨xs,xs[i],q,by simp[hlt]⟩,Pv (i+1),λσ' H' p'=>⟨xs.length - (i+1),by omega,rfl,hlt,p'⟩,λx H' y=>?_⟩
  obtain⟨e,y⟩:=y
  subst e
  exact hs i x σ _ (y xs q) p
 ·have e:i=xs.length:=by omega
  subst e
  exact .inl ⟨⟨xs,q,Nat.le_refl _⟩,hd σ H p⟩
theorem blQ{lo:Int}{n:Nat}{g:TG}{tb:TS}{D:Ends}{σ:St}{H:Hp}(Pv:Nat->St->Hp->Prop)(h0:Pv 0 σ H)
  (hs:∀i σ H,i<n->Pv i σ H->g (.int (lo+i)) σ H λσ2 H2=>tb { D with nx:=Pv (i+1),ct:=Pv (i+1),bk:=D.nx } σ2 H2) (hd:∀σ H,Pv n σ H->D.nx σ H) :
  ∃W:Nat->Nat->St->Hp->Prop,(∃m,W 0 m σ H)/\∀i m σ H,W i m σ H->
   ((Itr lo n).stop i H/\D.nx σ H)\/((Itr lo n).go i H/\∃N:St->Hp->Prop,(∀σ' H',N σ' H'->∃m',m'<m/\W (i+1) m' σ' H')/\∀x H',(Itr lo n).yld i H x H'->g x σ H' λσ2 H2=>tb { D with nx:=N,ct:=N,bk:=D.nx } σ2 H2):=by
 refine⟨λi m σ H=>m=n - i/\i<=n/\Pv i σ H,⟨n,by simp,Nat.zero_le _,h0⟩,?_⟩
 rintro i m σ H ⟨rfl,hi,p⟩
 by_cases hlt:i<n
 ·refine .inr ⟨hlt,Pv (i+1),λσ' H' p'=>⟨n - (i+1),by omega,rfl,hlt,p'⟩,λx H' y=>?_⟩
  obtain⟨e,y⟩:=y
  subst e y
  exact hs i σ _ hlt p
 ·have e:i=n:=by omega
  subst e
  exact .inl ⟨Nat.le_refl _,hd σ H p⟩
theorem atJ{c:TT}{tb:TS}{D:Ends}{σ:St}{H:Hp}(Pv:St->Hp->Prop)(μ:St->Hp->Nat)(h0:Pv σ H)
  (hs:∀σ H,Pv σ H->c σ H λb H1=>if b=true then tb { D with nx:=λσ' H'=>Pv σ' H'/\μ σ' H'<μ σ H,ct:=λσ' H'=>Pv σ' H'/\μ σ' H'<μ σ H,bk:=D.nx } σ H1 else D.nx σ H1)
  (mono:∀σ H Q Q',(∀b H1,Q b H1->Q' b H1)->c σ H Q->c σ H Q'):tWhile c tb D σ H:=by
 refine⟨λm σ H=>m=μ σ H/\Pv σ H,⟨_,rfl,h0⟩,?_⟩
 rintro m σ H ⟨rfl,p⟩
 refine mono σ H _ _ (λb H1 q=>?_) (hs σ H p)
 cases b with
 |true=>exact⟨_,λσ' H' ⟨p',l⟩=>⟨_,l,rfl,p'⟩,q⟩
 |false=>exact q
end L2
namespace L2
open PySem PySem.Spec PyProof.Rows
abbrev R2:=V->V->Hp->VK->Prop
def OpR(X:Cx)(f:Value->Value->Sem Value)(r:R2):Prop:=
 ∀(pins:List (Addr×Obj))(s:Shared)(σ:St)(H:Hp)(x y:V)(v u:Value)(Q:VK),Inv X pins σ H s->RelV x v->RelV y u->r x y H Q->
  wpAny (model X.prog X.w) X.A (f v u) (EP X pins σ Q) X.xe s
def UnR(X:Cx)(f:Value->Sem Value)(r:V->Hp->VK->Prop):Prop:=
 ∀(pins:List (Addr×Obj))(s:Shared)(σ:St)(H:Hp)(x:V)(v:Value)(Q:VK),Inv X pins σ H s->RelV x v->r x H Q->
  wpAny (model X.prog X.w) X.A (f v) (EP X pins σ Q) X.xe s
def CallR(X:Cx)(f:Value)(r:List V->Hp->VK->Prop):Prop:=
 ∀(pins:List (Addr×Obj))(s:Shared)(σ:St)(H:Hp)(xs:List V)(us:List Value)(Q:VK),Inv X pins σ H s->Vals xs us->r xs H Q->
  wpAny (model X.prog X.w) X.A (call f us) (EP X pins σ Q) X.xe s
def tOp(r:R2)(ta tb:TE):TE:=λσ H Q=>ta σ H λx H1=>tb σ H1 λy H2=>r x y H2 Q
def tUn(r:V->Hp->VK->Prop)(ta:TE):TE:=λσ H Q=>ta σ H λx H1=>r x H1 Q
def rI(C:Int->Int->Prop)(g:Int->Int->V):R2:=λx y H Q=>∃i j,x = .int i/\y = .int j/\C i j/\Q (g i j) H
def rI0(g:Int->Int->V):R2:=λx y H Q=>∃i j,x = .int i/\y = .int j/\Q (g i j) H
def rU(g:Int->V):V->Hp->VK->Prop:=λx H Q=>∃i,x = .int i/\Q (g i) H
section
variable{X:Cx}{a b c:Expr}{ta tb tc:TE}{pos:Pos}
theorem binT(ha:PE X a ta)(hb:PE X b tb){pins:List (Addr×Obj)}{s:Shared}{σ:St}{H:Hp}{R:V->V->Hp->Prop}(I:Inv X pins σ H s)
  (h:ta σ H λx H1=>tb σ H1 λy H2=>R x y H2) {Q:Value->Shared->Prop} {f:Value->Value->Sem Value}
  (hf:∀v u s2 x y H2,Inv X pins σ H2 s2->RelV x v->RelV y u->R x y H2->wpAny (model X.prog X.w) X.A (f v u) Q X.xe s2) :
  wpAny (model X.prog X.w) X.A (eval a X.env) (λv s₁=>wpAny (model X.prog X.w) X.A (eval b X.env) (λu s₂=>wpAny (model X.prog X.w) X.A (f v u) Q X.xe s₂) X.xe s₁) X.xe s:=by
 refine thn (ha pins s σ H _ I h) λv s1 ⟨x,H1,I1,r1,q1⟩=>?_
 refine thn (hb pins s1 σ H1 _ I1 q1) λu s2 ⟨y,H2,I2,r2,q2⟩=>?_
 exact hf v u s2 x y H2 I2 r1 r2 q2
theorem gY{op:Operator}{r:R2}(ho:OpR X (binaryOp op) r)(ha:PE X a ta)(hb:PE X b tb):PE X (.BinOp a op b pos) (tOp r ta tb):=by
 intro pins s σ H Q I h
 exact wpAny_BinOp (binT ha hb I h λv u s2 x y H2 I2 rx ry q=>ho pins s2 σ H2 x y v u Q I2 rx ry q)
theorem aIX{op:UnaryOp}{r:V->Hp->VK->Prop}(ho:UnR X (unaryOp op) r)(ha:PE X a ta):PE X (.UnaryOp op a pos) (tUn r ta):=by
 intro pins s σ H Q I h
 exact UnaryOp_ (thn (ha pins s σ H _ I h) λv s1 ⟨x,H1,I1,r1,q1⟩=>ho pins s1 σ H1 x v Q I1 r1 q1)
theorem opI{f:Value->Value->Sem Value}{C:Int->Int->Prop}{g:Int->Int->Int}
  (rule:∀(i j:Int)(t u:Tok)(s:Shared)(Q:Value->Shared->Prop)(E:Value->Shared->Prop),C i j->Q (.int (g i j) s.toks) { s with toks:=s.toks+1 }->wpAny (model X.prog X.w) X.A (f (.int i t) (.int j u)) Q E s) :
  OpR X f (rI C λi j=>.int (g i j)):=by
 intro pins s σ H x y v u Q I rx ry h
 obtain⟨i,j,rfl,rfl,hc,q⟩:=h
 obtain⟨t,rfl⟩:=rx
 obtain⟨t',rfl⟩:=ry
 exact rule i j t t' s _ _ hc ⟨.int (g i j),H,I.tok _,⟨_,rfl⟩,q⟩
theorem opI0{f:Value->Value->Sem Value}{g:Int->Int->Int}
  (rule:∀(i j:Int)(t u:Tok)(s:Shared)(Q:Value->Shared->Prop)(E:Value->Shared->Prop),Q (.int (g i j) s.toks) { s with toks:=s.toks+1 }->wpAny (model X.prog X.w) X.A (f (.int i t) (.int j u)) Q E s) :
  OpR X f (rI0 λi j=>.int (g i j)):=by
 intro pins s σ H x y v u Q I rx ry h
 obtain⟨i,j,rfl,rfl,q⟩:=h
 obtain⟨t,rfl⟩:=rx
 obtain⟨t',rfl⟩:=ry
 exact rule i j t t' s _ _ ⟨.int (g i j),H,I.tok _,⟨_,rfl⟩,q⟩
theorem opB0{f:Value->Value->Sem Value}{g:Int->Int->Bool}
  (rule:∀(i j:Int)(t u:Tok)(s:Shared)(Q:Value->Shared->Prop)(E:Value->Shared->Prop),Q (.bool (g i j)) s->wpAny (model X.prog X.w) X.A (f (.int i t) (.int j u)) Q E s) :
  OpR X f (rI0 λi j=>.bl (g i j)):=by
 intro pins s σ H x y v u Q I rx ry h
 obtain⟨i,j,rfl,rfl,q⟩:=h
 obtain⟨t,rfl⟩:=rx
 obtain⟨t',rfl⟩:=ry
 exact rule i j t t' s _ _ ⟨.bl (g i j),H,I,rfl,q⟩
def CMul(i j:Int):Prop:=(-(2 ^ 64)<i/\i<2 ^ 64)\/(-(2 ^ 64)<j/\j<2 ^ 64)
theorem CMul.ok{i j:Int}(h:CMul i j):IntMulOk i j:=by
 rcases h with ⟨h1,h2⟩ | ⟨h1,h2⟩
 ·exact .of_left (intBits_le_64 h1 h2)
 ·exact .of_right (intBits_le_64 h1 h2)
theorem wY:OpR X (binaryOp .Add) (rI0 λi j=>.int (i+j)):=opI0 λ_ _ _ _ _ _ _ q=>add_int q
theorem acX:OpR X (binaryOp .Sub) (rI0 λi j=>.int (i - j)):=opI0 λ_ _ _ _ _ _ _ q=>sub_int q
theorem atK:OpR X (binaryOp .Mult) (rI CMul λi j=>.int (i*j)):=opI λ_ _ _ _ _ _ _ hc q=>mul_int q hc.ok
theorem bfU:OpR X (binaryOp .Mod) (rI (λ_ j=>0<j) λi j=>.int (i % j)):=opI λi j _ _ _ _ _ hc q=>by
 have h1:(0:Int)<j:=hc
 exact mod_int' (by omega) (by rw[Int.fmod_eq_emod_of_nonneg i (by omega)];exact q)
theorem bjK:OpR X (binaryOp .BitOr) (rI0 λi j=>.int (Builtin.bitOr i j)):=opI0 λ_ _ _ _ _ _ _ q=>or_int q
theorem unI{f:Value->Sem Value}{g:Int->Int}
  (rule:∀(i:Int)(t:Tok)(s:Shared)(Q:Value->Shared->Prop)(E:Value->Shared->Prop),Q (.int (g i) s.toks) { s with toks:=s.toks+1 }->wpAny (model X.prog X.w) X.A (f (.int i t)) Q E s) :
  UnR X f (rU λi=>.int (g i)):=by
 intro pins s σ H x v Q I rx h
 obtain⟨i,rfl,q⟩:=h
 obtain⟨t,rfl⟩:=rx
 exact rule i t s _ _ ⟨.int (g i),H,I.tok _,⟨_,rfl⟩,q⟩
theorem atQ:UnR X (unaryOp .USub) (rU λi=>.int (-i)):=unI λ_ _ _ _ _ q=>neg_int q
end
def scal:V->V->Bool
 |.non,.non=>true | .non,.int _=>true | .int _,.non=>true | .non,.bl _=>true | .bl _,.non=>true | .non,.str _=>true | .str _,.non=>true
 |.int _,.int _=>true | .bl _,.bl _=>true | .str _,.str _=>true | .byt _,.byt _=>true
 |.int _,.str _=>true | .str _,.int _=>true | .bl _,.str _=>true | .str _,.bl _=>true
 |_,_=>false
def rEq:R2:=λx y H Q=>scal x y=true/\Q (.bl (decide (x=y))) H
def rNe:R2:=λx y H Q=>scal x y=true/\Q (.bl (!decide (x=y))) H
theorem aFY{i j:Int}:decide (V.int i=V.int j)=(i==j):=by
 rw[Bool.eq_iff_iff]
 simp
theorem aPU{i j:Bool}:decide (V.bl i=V.bl j)=(i==j):=by
 rw[Bool.eq_iff_iff]
 simp
theorem aFZ{i j:Str}:decide (V.str i=V.str j)=(i==j):=by
 rw[Bool.eq_iff_iff]
 simp
theorem aGJ{i j:Array UInt8}:decide (V.byt i=V.byt j)=(i.toList==j.toList):=by
 rw[Bool.eq_iff_iff]
 cases i
 cases j
 simp
section
variable{X:Cx}{a b c:Expr}{ta tb tc:TE}{pos:Pos}
theorem dX{pins:List (Addr×Obj)}{σ:St}{H:Hp}{s:Shared}{Q:VK}{k k':Bool}(I:Inv X pins σ H s)(q:Q (.bl k) H)(e:k=k'):EP X pins σ Q (.bool k') s:=by
 subst e
 exact⟨.bl k,H,I,rfl,q⟩
theorem eQ:OpR X (compareOp .Eq) rEq:=by
 intro pins s σ H x y v u Q I rx ry h
 obtain⟨hs,q⟩:=h
 cases x with
 |non=>
  cases rx
  cases y with
  |non=>cases ry;exact PySem.EqNone.eq_none_none (dX I q (by simp))
  |bl j=>cases ry;exact PySem.EqNone.eq_none_bool (dX I q (by simp))
  |int j=>obtain⟨t',rfl⟩:=ry;exact PySem.EqNone.eq_none_int (dX I q (by simp))
  |str j=>obtain⟨t',rfl⟩:=ry;exact PySem.EqNone.eq_none_str (dX I q (by simp))
  |_=>exact absurd (show false=true from hs) Bool.false_ne_true
 |bl i=>
  cases rx
  cases y with
  |non=>cases ry;exact PySem.EqNone.eq_bool_none (dX I q (by simp))
  |bl j=>cases ry;exact eq_bool (dX I q aPU)
  |str j=>obtain⟨t',rfl⟩:=ry;exact PySem.EqMixed.eq_bool_str (dX I q (by simp))
  |_=>exact absurd (show false=true from hs) Bool.false_ne_true
 |int i=>
  obtain⟨t,rfl⟩:=rx
  cases y with
  |non=>cases ry;exact PySem.EqNone.eq_int_none (dX I q (by simp))
  |int j=>obtain⟨t',rfl⟩:=ry;exact eq_int (dX I q aFY)
  |str j=>obtain⟨t',rfl⟩:=ry;exact PySem.EqMixed.eq_int_str (dX I q (by simp))
  |_=>exact absurd (show false=true from hs) Bool.false_ne_true
 |str i=>
  obtain⟨t,rfl⟩:=rx
  cases y with
  |non=>cases ry;exact PySem.EqNone.eq_str_none (dX I q (by simp))
  |bl j=>cases ry;exact PySem.EqMixed.eq_str_bool (dX I q (by simp))
  |int j=>obtain⟨t',rfl⟩:=ry;exact PySem.EqMixed.eq_str_int (dX I q (by simp))
  |str j=>obtain⟨t',rfl⟩:=ry;exact eq_str (dX I q aFZ)
  |_=>exact absurd (show false=true from hs) Bool.false_ne_true
 |byt i=>
  obtain⟨t,rfl⟩:=rx
  cases y with
  |byt j=>obtain⟨t',rfl⟩:=ry;exact PySem.W.eq_bytes (dX I q aGJ)
  |_=>exact absurd (show false=true from hs) Bool.false_ne_true
 |_=>cases y <;> exact absurd (show false=true from hs) Bool.false_ne_true
theorem acY:OpR X (compareOp .NotEq) rNe:=by
 intro pins s σ H x y v u Q I rx ry h
 obtain⟨hs,q⟩:=h
 cases x with
 |non=>
  cases rx
  cases y with
  |non=>cases ry;exact PySem.EqNone.ne_none_none (dX I q (by simp))
  |bl j=>cases ry;exact PySem.EqNone.ne_none_bool (dX I q (by simp))
  |int j=>obtain⟨t',rfl⟩:=ry;exact PySem.EqNone.ne_none_int (dX I q (by simp))
  |str j=>obtain⟨t',rfl⟩:=ry;exact PySem.EqNone.ne_none_str (dX I q (by simp))
  |_=>exact absurd (show false=true from hs) Bool.false_ne_true
 |bl i=>
  cases rx
  cases y with
  |non=>cases ry;exact PySem.EqNone.ne_bool_none (dX I q (by simp))
  |bl j=>cases ry;exact ne_bool (dX I q (congrArg not aPU))
  |str j=>obtain⟨t',rfl⟩:=ry;exact PySem.EqMixed.ne_bool_str (dX I q (by simp))
  |_=>exact absurd (show false=true from hs) Bool.false_ne_true
 |int i=>
  obtain⟨t,rfl⟩:=rx
  cases y with
  |non=>cases ry;exact PySem.EqNone.ne_int_none (dX I q (by simp))
  |int j=>obtain⟨t',rfl⟩:=ry;exact ne_int (dX I q (congrArg not aFY))
  |str j=>obtain⟨t',rfl⟩:=ry;exact PySem.EqMixed.ne_int_str (dX I q (by simp))
  |_=>exact absurd (show false=true from hs) Bool.false_ne_true
 |str i=>
  obtain⟨t,rfl⟩:=rx
  cases y with
  |non=>cases ry;exact PySem.EqNone.ne_str_none (dX I q (by simp))
  |bl j=>cases ry;exact PySem.EqMixed.ne_str_bool (dX I q (by simp))
  |int j=>obtain⟨t',rfl⟩:=ry;exact PySem.EqMixed.ne_str_int (dX I q (by simp))
  |str j=>obtain⟨t',rfl⟩:=ry;exact ne_str (dX I q (congrArg not aFZ))
  |_=>exact absurd (show false=true from hs) Bool.false_ne_true
 |byt i=>
  obtain⟨t,rfl⟩:=rx
  cases y with
  |byt j=>obtain⟨t',rfl⟩:=ry;exact PySem.W.ne_bytes (dX I q (congrArg not aGJ))
  |_=>exact absurd (show false=true from hs) Bool.false_ne_true
 |_=>cases y <;> exact absurd (show false=true from hs) Bool.false_ne_true
theorem wJ:OpR X (compareOp .Lt) (rI0 λi j=>.bl (decide (i<j))):=opB0 λ_ _ _ _ _ _ _ q=>lt_int q
theorem oY:OpR X (compareOp .LtE) (rI0 λi j=>.bl (decide (i<=j))):=opB0 λ_ _ _ _ _ _ _ q=>le_int q
theorem TV:OpR X (compareOp .Gt) (rI0 λi j=>.bl (decide (j<i))):=opB0 λ_ _ _ _ _ _ _ q=>gt_int q
theorem acZ:OpR X (compareOp .GtE) (rI0 λi j=>.bl (decide (j<=i))):=opB0 λ_ _ _ _ _ _ _ q=>ge_int q
theorem nomark(b:Expr){op:CmpOp}(h:op≠.In:=by decide)(h2:op≠.NotIn:=by decide):behindInMarks op b=false:=by
 have e1:(op==CmpOp.In)=false:=by cases op <;> first | rfl | exact absurd rfl h
 have e2:(op==CmpOp.NotIn)=false:=by cases op <;> first | rfl | exact absurd rfl h2
 cases b <;> simp[behindInMarks,e1,e2]
theorem nW{op:CmpOp}{r:R2}(ho:OpR X (compareOp op) r)(ha:PE X a ta)(hb:PE X b tb)(hm:behindInMarks op b=false):PE X (.Compare a [op] [b] pos) (tOp r ta tb):=by
 intro pins s σ H Q I h
 exact wpAny_Compare1 (binT ha hb I h λv u s2 x y H2 I2 rx ry q=>ho pins s2 σ H2 x y v u Q I2 rx ry q) hm
def tTest(t:TE):TT:=λσ H Q=>t σ H λx H'=>∃k,x = .bl k/\Q k H'
theorem bZ{op:CmpOp}{r:R2}(ho:OpR X (compareOp op) r)(ha:PE X a ta)(hb:PE X b tb)(hm:behindInMarks op b=false):PT X (.Compare a [op] [b] pos) (tTest (tOp r ta tb)):=by
 intro pins s σ H Q I h
 refine wpAny_isTrue_Compare1 (thn (ha pins s σ H _ I h) λv s1 ⟨x,H1,I1,r1,q1⟩=>thn (hb pins s1 σ H1 _ I1 q1) λu s2 ⟨y,H2,I2,r2,q2⟩=>
  thn (ho pins s2 σ H2 x y v u _ I2 r1 r2 q2) λc s3 ⟨z,H3,I3,r3,k,e,q3⟩=>?_) hm
 subst e
 cases r3
 exact wpAny_truthy_bool ⟨H3,I3,q3⟩
def tChain(r r':R2)(ta tb tc:TE):TE:=λσ H Q=>ta σ H λx H1=>tb σ H1 λy H2=>r x y H2 λz H3=>∃k,z = .bl k/\
 (if k=true then tc σ H3 λw' H4=>r' y w' H4 Q else Q (.bl false) H3)
theorem atU{op op':CmpOp}{r r':R2}(ho:OpR X (compareOp op) r)(ho':OpR X (compareOp op') r')(ha:PE X a ta)(hb:PE X b tb)(hc:PE X c tc)
  (hm:lastMarks [op,op'] [b,c]=false:=by with_unfolding_all rfl):PE X (.Compare a [op,op'] [b,c] pos) (tChain r r' ta tb tc):=by
 intro pins s σ H Q I h
 refine Compare_chain (thn (ha pins s σ H _ I h) λv s1 ⟨x,H1,I1,r1,q1⟩=>chain_link (thn (hb pins s1 σ H1 _ I1 q1) λu s2 ⟨y,H2,I2,r2,q2⟩=>
  thn (ho pins s2 σ H2 x y v u _ I2 r1 r2 q2) λd s3 ⟨z,H3,I3,r3,k,e,q3⟩=>?_)) hm
 subst e
 cases r3
 refine wpAny_truthy_bool ?_
 cases k with
 |false=>exact ite_ff ⟨.bl false,H3,I3,rfl,q3⟩
 |true=>exact ite_tt (chain_last (thn (hc pins s3 σ H3 _ I3 q3) λw' s4 ⟨z',H4,I4,r4,q4⟩=>ho' pins s4 σ H4 y z' u w' Q I4 r2 r4 q4))
theorem ZZ{op op':CmpOp}{r r':R2}(ho:OpR X (compareOp op) r)(ho':OpR X (compareOp op') r')(ha:PE X a ta)(hb:PE X b tb)(hc:PE X c tc)
  (hm:lastMarks [op,op'] [b,c]=false:=by with_unfolding_all rfl):PT X (.Compare a [op,op'] [b,c] pos) (tTest (tChain r r' ta tb tc)):=by
 intro pins s σ H Q I h
 refine isTrue_chain (thn (ha pins s σ H _ I h) λv s1 ⟨x,H1,I1,r1,q1⟩=>test_link (thn (hb pins s1 σ H1 _ I1 q1) λu s2 ⟨y,H2,I2,r2,q2⟩=>
  thn (ho pins s2 σ H2 x y v u _ I2 r1 r2 q2) λd s3 ⟨z,H3,I3,r3,k,e,q3⟩=>?_)) hm
 subst e
 cases r3
 refine wpAny_truthy_bool ?_
 cases k with
 |false=>
  obtain⟨k',e',q'⟩:=q3
  cases e'
  exact ite_ff ⟨H3,I3,q'⟩
 |true=>
  refine ite_tt (test_last (thn (hc pins s3 σ H3 _ I3 q3) λw' s4 ⟨z',H4,I4,r4,q4⟩=>thn (ho' pins s4 σ H4 y z' u w' _ I4 r2 r4 q4) λd' s5 ⟨z2,H5,I5,r5,k2,e2,q5⟩=>?_))
  subst e2
  cases r5
  exact wpAny_truthy_bool ⟨H5,I5,q5⟩
theorem line63:(sizeLine:Nat)<2 ^ 63:=by rw[sizeLine_eq];decide
theorem aIY:OpR X (binaryOp .Add) (λx y H Q=>∃i j,x = .str i/\y = .str j/\i.length+j.length<=sizeLine/\Q (.str (i++j)) H):=by
 intro pins s σ H x y v u Q I rx ry h
 obtain⟨i,j,rfl,rfl,hz,q⟩:=h
 obtain⟨t,rfl⟩:=rx
 obtain⟨t',rfl⟩:=ry
 exact add_str (λt' tk=>⟨.str (i++j),H,I.tok _,⟨_,rfl⟩,q⟩) hz
theorem vals1{x:V}{us:List Value}(r:Vals [x] us):∃u,us=[u]/\RelV x u:=by
 cases r with
 |cons r1 r2=>cases r2;exact⟨_,rfl,r1⟩
theorem vals2{x y:V}{us:List Value}(r:Vals [x,y] us):∃u w',us=[u,w']/\RelV x u/\RelV y w':=by
 cases r with
 |cons r1 r2=>
  cases r2 with
  |cons r3 r4=>cases r4;exact⟨_,_,rfl,r1,r3⟩
theorem aPV(hc:X.calm=true):CallR X (.builtin "max") (λxs H Q=>∃i j,xs=[.int i,.int j]/\Q (.int (if j > i then j else i)) H):=by
 intro pins s σ H xs us Q I r h
 obtain⟨i,j,rfl,q⟩:=h
 obtain⟨u,w',rfl,⟨t,rfl⟩,⟨t',rfl⟩⟩:=vals2 r
 refine max_two_ints (I.ok.hd hc) λh' tk k=>⟨_,H,I.kept k,?_,q⟩
 by_cases hj:j > i
 ·rw[if_pos hj,if_pos hj];exact⟨_,rfl⟩
 ·rw[if_neg hj,if_neg hj];exact⟨_,rfl⟩
theorem aPW(hc:X.calm=true):CallR X (.builtin "min") (λxs H Q=>∃i j,xs=[.int i,.int j]/\Q (.int (if j<i then j else i)) H):=by
 intro pins s σ H xs us Q I r h
 obtain⟨i,j,rfl,q⟩:=h
 obtain⟨u,w',rfl,⟨t,rfl⟩,⟨t',rfl⟩⟩:=vals2 r
 refine min_two_ints (I.ok.hd hc) λh' tk k=>⟨_,H,I.kept k,?_,q⟩
 by_cases hj:j<i
 ·rw[if_pos hj,if_pos hj];exact⟨_,rfl⟩
 ·rw[if_neg hj,if_neg hj];exact⟨_,rfl⟩
theorem atV:CallR X (.type "str") (λxs H Q=>∃i,xs=[.int i]/\i.natAbs.log2<1920/\Q (.str (toString i)) H):=by
 intro pins s σ H xs us Q I r h
 obtain⟨i,rfl,hz,q⟩:=h
 obtain⟨u,rfl,t,rfl⟩:=vals1 r
 exact PySem.P.str_of_int hz ⟨.str _,H,I.tok _,⟨_,rfl⟩,q⟩
theorem aUU:CallR X (.builtin "ord") (λxs H Q=>∃x,xs=[.str x]/\x.length=1/\Q (.int (x.cps.getD 0 0:Nat)) H):=by
 intro pins s σ H xs us Q I r h
 obtain⟨x,rfl,hz,q⟩:=h
 obtain⟨u,rfl,t,rfl⟩:=vals1 r
 exact ord_of_one hz ⟨.int _,H,I.tok _,⟨_,rfl⟩,q⟩
end
end L2
namespace L2
open PySem PySem.Spec PyProof.Rows
structure ObjM(h:Heap)(x dx C:Addr)(mA:Str->Option Value):Prop where
 obj:h.get? x=some (PySem.W.instObj C dx)
 ns:h.Ns1 dx mA
 ne:dx≠x
theorem aPX{h:Heap}{dx:Addr}{mA:Str->Option Value}(n:h.Ns1 dx mA):∃od,h.get? dx=some od/\∀name,PySem.W.lookIn name od=some (mA name):=by
 obtain⟨o,es,ep,ho,hd,hk,_,hm⟩:=n
 refine⟨o,ho,λname=>?_⟩
 have e:=hm name
 unfold nsFind findBy at e
 rw[<-Array.find?_toList] at e
 unfold PySem.W.lookIn
 rw[hd]
 dsimp only
 split
 ·rename_i y q
  rw[q] at e
  exact congrArg some e
 ·rename_i q
  rw[q] at e
  have a:es.toList.any (·.refKey)=false:=by
   rw[List.any_eq_false]
   intro y hy
   obtain⟨z,t,hkey⟩:=hk y (Array.mem_toList_iff.mp hy)
   simp[DictEntry.refKey,hkey]
  have a':¬es.toList.any (·.refKey)=true:=by rw[a];exact Bool.false_ne_true
  rw[if_neg a']
  exact congrArg some e
theorem ObjM.look{h:Heap}{x dx C:Addr}{mA:Str->Option Value}(I:ObjM h x dx C mA):∃od,PySem.W.InstAt h x (PySem.W.instObj C dx) C (some od)/\∀name,PySem.W.lookIn name od=some (mA name):=
 let ⟨od,ho,hl⟩:=aPX I.ns
 ⟨od,⟨I.obj,rfl,rfl,ho⟩,hl⟩
section
variable{prog:Program}{w:World}{A:Around}{E:Value->Shared->Prop}{s:Shared}{K:PySem.W.Frag}{x dx C f:Addr}{mA:Str->Option Value}{name:Str}{v:Value}
theorem baU{expr:Bool}{Q:Value->Shared->Prop}(X:K.In s.heap)(I:ObjM s.heap x dx C mA)(hg:PySem.W.plainGet K C name=true)(hh:PySem.W.hasDictIn K C=true)
  (ha:PySem.W.findIn K (.ref C) name=some none) (hv:mA name=some v) (hv':PySem.W.handedIn v=true) (h:Q v { s with toks:=s.toks+1 }) :
  wpAny (model prog w) A (getAttr (.ref x) name expr) Q E s:=by
 obtain⟨od,J,hl⟩:=I.look
 exact PySem.W.get_value X J (PySem.W.plainGet_of hg).1 (PySem.W.findObj_own hh ha rfl (by rw[hl,hv])) hv' h
theorem aUV{pl:Sem Bool}{Q:Value×List Value->Shared->Prop}(X:K.In s.heap)(I:ObjM s.heap x dx C mA)(hg:PySem.W.plainGet K C name=true)
  (hf:PySem.W.findIn K (.ref C) name=some (some (.ref f))) (ht:PySem.W.isFn K (.ref f)=true) (hv:mA name=none) (h:Q (.ref f,[.ref x]) s) :
  wpAny (model prog w) A (getMethod (.ref x) name pl) Q E s:=by
 obtain⟨od,J,hl⟩:=I.look
 exact PySem.W.method_fn X J (PySem.W.plainGet_of hg).1 (PySem.W.plainGet_of hg).2 hf (beq_iff_eq.mp ht) (by show(PySem.W.lookIn name od).map (·.isSome)=some false;rw[hl,hv];rfl) h
theorem baV{ns:List Str}{Q:Unit->Shared->Prop}(X:K.In s.heap)(I:ObjM s.heap x dx C mA)
  (hs:PySem.W.findIn K (.ref C) "__setattr__"=some (some (.builtin "object.__setattr__"))) (hp:PySem.W.plainOver K C=true) (ht:PySem.W.takerIn K C name=some none) (hh:PySem.W.hasDictIn K C=true)
  (hw:PySem.Within mA ns) (hsz:ns.length<=sizeLine)
  (h:∀h',ObjM h' x dx C (λy=>if y=name then some v else mA y)->Heap.SameBut dx s.heap h'->Q () { s with heap:=h',toks:=s.toks+2 }) :
  wpAny (model prog w) A (setAttr (.ref x) name v) Q E s:=by
 obtain⟨od,J,hl⟩:=I.look
 refine PySem.W.set_plain X J hs (PySem.W.osa_open (s:={ s with toks:=s.toks+1 }) (r:=none) X J hp ht λb=>?_)
 obtain⟨cd,hc,hd'⟩:=PySem.W.any_some hh
 have hx:s.heap.get? x=some ⟨.ref C,some dx,.plain,#[]⟩:=I.obj
 refine wpAny_bind (wpAny_pure (wpAny_bind (wpAny_bind (wpAny_loadPart hx (wpAny_bind (PySem.W.Looks.here (s:={ s with toks:=s.toks+1 }) (PySem.W.looks_clsIn X hc) ?_))))))
 rw[hd']
 refine wpAny_pure (a:=some dx) (wpAny_bind (wpAny_pure (wpAny_bind ?_)))
 refine wpAny_nsSet1 (s:={ s with toks:=s.toks+1 }) I.ns λh' hn2 hs2=>?_
 obtain⟨oD,esD,epD,hoD,hdD,hcD⟩:=hn2.count (PySem.Within.cons name v hw)
 refine wpAny_bind (wpAny_lookBehind hoD (by rw[hdD];exact pastItsLine_dict (Nat.le_trans hcD (by rw[List.length_cons];omega))) ?_)
 exact wpAny_pure (h _ ⟨(hs2.2 _ (Ne.symm I.ne)).trans I.obj,hn2,I.ne⟩ hs2)
theorem aUW{R:Result->Shared->Prop}{vs:List Value}{kw:List (Str×Value)}(X:K.In s.heap)(hm:PySem.W.makesIn K C=true)
  (hi:PySem.W.findIn K (.ref C) "__init__"=some (some (.ref f))) (hf:PySem.W.typeIn K (.ref f)=some (.type "function"))
  (h:codeAny (model prog w) (A.under (.builtin "type.__call__" ⟨.ref C::vs,kw⟩)) (.call (.ref f) ⟨.ref (s.heap.objs.size+1)::vs,kw⟩) (PySem.W.InitBack (s.heap.objs.size+1) R)
   { s with heap:=(s.heap.push PySem.W.emptyDict).push (PySem.W.instObj C s.heap.objs.size) }) :
  codeAny (model prog w) A (.call (.ref C) ⟨vs,kw⟩) R s:=by
 obtain⟨hh,g,d,t,os⟩:=s
 exact PySem.W.make_core (PySem.W.makes_of X hm) (PySem.W.looks_findIn X hi) (λself=>PySem.W.bind_fn X self hf) (.inl rfl) h
end
def putF(f:Str)(v:V):List (Str×V)->List (Str×V)
 |[]=>[(f,v)]
 |(g,x)::r=>if g=f then(g,v)::r else(g,x)::putF f v r
theorem WX(f g:Str)(v:V):∀fs:List (Str×V),(putF f v fs).lookup g=if g=f then some v else fs.lookup g
 |[]=>by
  show List.lookup g [(f,v)]=_
  by_cases h:g=f
  ·have hb:(g==f)=true:=beq_iff_eq.mpr h
   simp only[List.lookup,hb,if_pos h]
  ·have hb:(g==f)=false:=beq_eq_false_iff_ne.mpr h
   simp only[List.lookup,hb,if_neg h]
 |(k,x)::r=>by
  have ih:=WX f g v r
  rw[show putF f v ((k,x)::r)=(if k=f then(k,v)::r else(k,x)::putF f v r) from rfl]
  by_cases hk:k=f
  ·rw[if_pos hk]
   by_cases h:g=k
   ·have hb:(g==k)=true:=beq_iff_eq.mpr h
    simp only[List.lookup,hb,if_pos (h.trans hk)]
   ·have hb:(g==k)=false:=beq_eq_false_iff_ne.mpr h
    simp only[List.lookup,hb,if_neg (λe:g=f=>h (e.trans hk.symm))]
  ·rw[if_neg hk]
   by_cases h:g=k
   ·have hb:(g==k)=true:=beq_iff_eq.mpr h
    simp only[List.lookup,hb,if_neg (λe:g=f=>hk (h.symm.trans e))]
   ·have hb:(g==k)=false:=beq_eq_false_iff_ne.mpr h
    simp only[List.lookup,hb]
    exact ih
theorem PZ(f:Str)(v:V):∀fs:List (Str×V),f∈(putF f v fs).map (·.1)/\∀g,g∈fs.map (·.1)->g∈(putF f v fs).map (·.1)
 |[]=>⟨by simp[putF],λg h=>by simp at h⟩
 |(k,x)::r=>by
  obtain⟨i1,i2⟩:=PZ f v r
  rw[show putF f v ((k,x)::r)=(if k=f then(k,v)::r else(k,x)::putF f v r) from rfl]
  by_cases hk:k=f
  ·rw[if_pos hk]
   subst hk
   exact⟨by simp,λg h=>by simpa using h⟩
  ·rw[if_neg hk]
   refine⟨?_,λg h=>?_⟩
   ·rw[List.map_cons]
    exact List.mem_cons_of_mem _ i1
   ·rw[List.map_cons] at h ⊢
    rcases List.mem_cons.mp h with e | e
    ·exact List.mem_cons.mpr (.inl e)
    ·exact List.mem_cons_of_mem _ (i2 g e)
theorem WY(f:Str)(v:V):∀fs:List (Str×V),(putF f v fs).length<=fs.length+1
 |[]=>by simp[putF]
 |(k,x)::r=>by
  have ih:=WY f v r
  rw[show putF f v ((k,x)::r)=(if k=f then(k,v)::r else(k,x)::putF f v r) from rfl]
  by_cases hk:k=f
  ·rw[if_pos hk,List.length_cons,List.length_cons];omega
  ·rw[if_neg hk,List.length_cons,List.length_cons];omega
theorem RelO.some_of{v:V}{o:Option Value}(r:RelO (some v) o):∃u,o=some u/\RelV v u:=by
 cases o with
 |none=>exact(show False from r).elim
 |some u=>exact⟨u,rfl,r⟩
theorem RelO.none_of{o:Option Value}(r:RelO none o):o=none:=by
 cases o with
 |none=>rfl
 |some u=>exact(show False from r).elim
theorem aPY{v:V}{u:Value}(r:RelV v u):PySem.W.handedIn u=true:=by
 cases v with
 |non=>cases(show u=Value.none from r);rfl
 |bl b=>cases(show u=Value.bool b from r);rfl
 |int i=>obtain⟨t,e⟩:=(show ∃t,u=Value.int i t from r);cases e;rfl
 |str x=>obtain⟨t,e⟩:=(show ∃t,u=Value.str x t from r);cases e;rfl
 |byt b=>obtain⟨t,e⟩:=(show ∃t,u=Value.bytes b t from r);cases e;rfl
 |flt b=>obtain⟨t,e⟩:=(show ∃t,u=Value.float b t from r);cases e;rfl
 |ref a=>cases(show u=Value.ref a from r);rfl
 |ty n=>cases(show u=Value.type n from r);rfl
section
variable{P:Program}{w:World}{H H':Hp}{h h':Heap}{a C dx:Addr}{fs fs':List (Str×V)}
theorem ahZ(hok:HOk P w H h)(e:H a=some (.ins C dx fs)):∃mA,ObjM h a dx C mA/\(∀f,RelO (fs.lookup f) (mA f))/\PySem.Within mA (fs.map (·.1))/\fs.length<=1000/\H dx=some (.own a):=by
 obtain⟨d,z,ne,ob,mA,n,r,q⟩:=(show ObjOk P w H h a (.ins C dx fs) from hok a _ e)
 exact⟨mA,⟨ob,n,ne⟩,r,q,z,d⟩
end
structure Cls(K:PySem.W.Frag)(C:Addr):Prop where
 pg:PySem.W.plainGet K C Str.empty=true
 hd:PySem.W.hasDictIn K C=true
 po:PySem.W.plainOver K C=true
 sa:PySem.W.findIn K (.ref C) "__setattr__"=some (some (.builtin "object.__setattr__"))
theorem Cls.get{K:PySem.W.Frag}{C:Addr}(c:Cls K C)(f:Str):PySem.W.plainGet K C f=true:=c.pg
def NoAttr(K:PySem.W.Frag)(C:Addr)(f:Str):Prop:=PySem.W.findIn K (.ref C) f=some none
theorem NoAttr.taker{K:PySem.W.Frag}{C:Addr}{f:Str}(n:NoAttr K C f):PySem.W.takerIn K C f=some none:=by
 unfold PySem.W.takerIn
 rw[show PySem.W.findIn K (.ref C) f=some none from n]
 rfl
structure Meth(K:PySem.W.Frag)(C:Addr)(m:Str)(f:Addr):Prop where
 at_:PySem.W.findIn K (.ref C) m=some (some (.ref f))
 fn:PySem.W.isFn K (.ref f)=true
 kp:PySem.W.keepIn K (.ref f)=true
section
variable{X:Cx}{pins:List (Addr×Obj)}{σ:St}{H:Hp}{s:Shared}{a C dx:Addr}{fs:List (Str×V)}{f:Str}{v:V}{A:Around}{E:Value->Shared->Prop}
theorem adJ{b:Bool}{Q:Value->Shared->Prop}(I:Inv X pins σ H s)(e:H a=some (.ins C dx fs))(c:Cls X.K C)(n:NoAttr X.K C f)(l:fs.lookup f=some v)
  (h:∀u s',Inv X pins σ H s'->RelV v u->Q u s'):wpAny (model X.prog X.w) A (getAttr (.ref a) f b) Q E s:=by
 obtain⟨mA,O,r,_,_,_⟩:=ahZ I.hok e
 obtain⟨u,hu,ru⟩:=RelO.some_of (v:=v) (o:=mA f) (by rw[<-l];exact r f)
 exact baU I.kIn O (c.get f) c.hd n hu (aPY ru) (h u _ (I.tok _) ru)
theorem adK{m:Str}{g:Addr}{pl:Sem Bool}{Q:Value×List Value->Shared->Prop}(I:Inv X pins σ H s)(e:H a=some (.ins C dx fs))(c:Cls X.K C)(k:Meth X.K C m g)(l:fs.lookup m=none)
  (h:Q (.ref g,[.ref a]) s):wpAny (model X.prog X.w) A (getMethod (.ref a) m pl) Q E s:=by
 obtain⟨mA,O,r,_,_,_⟩:=ahZ I.hok e
 have hn:mA m=none:=RelO.none_of (by rw[<-l];exact r m)
 exact aUV I.kIn O (c.get m) k.at_ k.fn hn h
theorem adQ{y:V}{u:Value}{Q:Unit->Shared->Prop}(I:Inv X pins σ H s)(e:H a=some (.ins C dx fs))(c:Cls X.K C)(n:NoAttr X.K C f)(hl:fs.length<1000)(ry:RelV y u)
  (h:∀s',Inv X pins σ (upd H a (.ins C dx (putF f y fs))) s'->Q () s'):wpAny (model X.prog X.w) A (setAttr (.ref a) f u) Q E s:=by
 obtain⟨mA,O,r,wi,_,ho⟩:=ahZ I.hok e
 have hz:(fs.map (·.1)).length<=sizeLine:=by rw[List.length_map,sizeLine_eq];omega
 refine baV I.kIn O c.sa c.po n.taker c.hd wi hz λh' O' sb=>h _ ?_
 have hd:∃o,h'.get? dx=some o:=let ⟨o,_,_,e',_⟩:=O'.ns;⟨o,e'⟩
 refine I.write (x:=a) (e:=dx) (by rw[e];exact True.intro) (.inr ho) (λb q hb z=>(sb.2 b hb).trans z) hd ?_
 refine⟨by rw[aV O.ne];exact ho,?_,O.ne,O'.obj,_,O'.ns,λg=>?_,λg hg=>?_⟩
 ·have:=WY f y fs;omega
 ·show RelO ((putF f y fs).lookup g) (if g=f then some u else mA g)
  rw[WX]
  by_cases q:g=f
  ·rw[if_pos q,if_pos q];exact ry
  ·rw[if_neg q,if_neg q];exact r g
 ·by_cases q:g=f
  ·rw[q];exact(PZ f y fs).1
  ·refine(PZ f y fs).2 g (wi g λz=>hg ?_)
   show(if g=f then some u else mA g)=none
   rw[if_neg q];exact z
theorem Inv.made(I:Inv X pins σ H s):Inv X pins σ (upd (upd H s.heap.objs.size (.own (s.heap.objs.size+1))) (s.heap.objs.size+1) (.ins C s.heap.objs.size []))
  { s with heap:=(s.heap.push PySem.W.emptyDict).push (PySem.W.instObj C s.heap.objs.size) }:=by
 have e1:(s.heap.push PySem.W.emptyDict).get? s.heap.objs.size=some PySem.W.emptyDict:=Heap.get?_push_size s.heap rfl
 have e2:((s.heap.push PySem.W.emptyDict).push (PySem.W.instObj C s.heap.objs.size)).get? (s.heap.objs.size+1)=some (PySem.W.instObj C s.heap.objs.size):=by
  have:=Heap.get?_push_size (s.heap.push PySem.W.emptyDict) (o:=PySem.W.instObj C s.heap.objs.size) rfl
  rwa[Heap.size_push] at this
 have e3:(s.heap.push PySem.W.emptyDict).Ns s.heap.objs.size (λ_=>none):=⟨PySem.W.emptyDict,#[],_,e1,rfl,(λe he=>absurd he (by simp)),λ_=>rfl⟩
 have I1:=I.laid (a:=s.heap.objs.size) (o:=.own (s.heap.objs.size+1)) (h':=s.heap.push PySem.W.emptyDict) (t':=s.toks) (λb u q=>Heap.get?_push_of_some _ q) (Nat.le_refl _) ⟨_,e1⟩
 refine I1.laid (a:=s.heap.objs.size+1) (o:=.ins C s.heap.objs.size []) (t':=s.toks) (λb u q=>Heap.get?_push_of_some _ q) (Nat.le_of_eq (Heap.size_push _ _)) ?_
 have ne:s.heap.objs.size≠s.heap.objs.size+1:=Nat.ne_of_lt (Nat.lt_succ_self _)
 refine⟨by rw[aV ne,upd_same],Nat.zero_le _,ne,e2,λ_=>none,(Heap.Ns1.of_empty e3).at λo q=>Heap.get?_push_of_some _ q,λ_=>True.intro,λy hy=>absurd rfl hy⟩
theorem baW{prog:Program}{w:World}{env:Env}{e:Expr}{f:Str}{pos:Pos}{s:Shared}{Q:Value->Shared->Prop}(hb:attributeBase e f env (eval e env)=eval e env)
  (h:wpAny (model prog w) A (eval e env) (λo s₁=>wpAny (model prog w) A (getAttr o f true) Q E s₁) E s):wpAny (model prog w) A (eval (.Attribute e f pos) env) Q E s:=
 Attribute_any_ h (by rw[arm_eval_Attribute,hb])
end
def tFld(K:PySem.W.Frag)(ta:TE)(f:Str):TE:=λσ H Q=>ta σ H λx H1=>∃a C dx fs v,x = .ref a/\H1 a=some (.ins C dx fs)/\Cls K C/\NoAttr K C f/\fs.lookup f=some v/\Q v H1
def sFld(K:PySem.W.Frag)(ta tv:TE)(f:Str):TS:=λD σ H=>tv σ H λy H1=>ta σ H1 λx H2=>∃a C dx fs,x = .ref a/\H2 a=some (.ins C dx fs)/\Cls K C/\NoAttr K C f/\fs.length<1000/\
 D.nx σ (upd H2 a (.ins C dx (putF f y fs)))
def InOp(X:Cx)(op:Operator)(rd:V->V->Hp->VK->Prop):Prop:=
 ∀(pins:List (Addr×Obj))(s:Shared)(σ:St)(H:Hp)(x y:V)(u v:Value)(Q:VK),Inv X pins σ H s->RelV x u->RelV y v->rd x y H Q->wpAny (model X.prog X.w) X.A (inplaceOp op u v) (EP X pins σ Q) X.xe s
def sFldAug(K:PySem.W.Frag)(ta tv:TE)(rd:V->V->Hp->VK->Prop)(f:Str):TS:=λD σ H=>ta σ H λx H1=>∃a C dx fs v,x = .ref a/\H1 a=some (.ins C dx fs)/\Cls K C/\NoAttr K C f/\fs.lookup f=some v/\
 tv σ H1 λy H2=>rd v y H2 λz H3=>∃dx' fs',H3 a=some (.ins C dx' fs')/\fs'.length<1000/\D.nx σ (upd H3 a (.ins C dx' (putF f z fs')))
section
variable{X:Cx}{o e value:Expr}{f:Str}{pos pos' tpos:Pos}{ta tv:TE}
theorem bX(he:PE X e ta)(hb:attributeBase e f X.env (eval e X.env)=eval e X.env):PE X (.Attribute e f pos) (tFld X.K ta f):=by
 intro pins s σ H Q I h
 refine baW hb (thn (he pins s σ H _ I h) λu s1 ⟨x,H1,I1,rx,a,C,dx,fs,v,ex,ea,c,n,l,q⟩=>?_)
 subst ex
 obtain rfl:u=Value.ref a:=rx
 exact adJ I1 ea c n l λu' s2 I2 ru=>⟨v,H1,I2,ru,q⟩
theorem eX(ha:PE X o ta)(hv:PE X value tv)(hs:swapsWith value (some (.Attribute o f pos')) pos.line X.env=pure false):PS X (.Assign [.Attribute o f pos'] value pos) (sFld X.K ta tv f):=by
 intro pins s σ H D I h
 refine plainObj_wpAny_Assign_Attribute (thn (hv pins s σ H _ I h) λu s1 ⟨y,H1,I1,ry,q⟩=>thn (ha pins s1 σ H1 _ I1 q) λov s2 ⟨x,H2,I2,rx,a,C,dx,fs,ex,ea,c,n,l,q2⟩=>?_) hs
 subst ex
 obtain rfl:ov=Value.ref a:=rx
 exact adQ I2 ea c n l ry λs3 I3=>⟨σ,_,I3,q2⟩
theorem QJ{op:Operator}{rd:V->V->Hp->VK->Prop}(ha:PE X o ta)(hv:PE X value tv)(hop:InOp X op rd):PS X (.AugAssign (.Attribute o f tpos) op value pos) (sFldAug X.K ta tv rd f):=by
 intro pins s σ H D I h
 refine wpAny_AugAssign_AttributeAny (thn (ha pins s σ H _ I h) λov s1 ⟨x,H1,I1,rx,a,C,dx,fs,v,ex,ea,c,n,l,q⟩=>?_)
 subst ex
 obtain rfl:ov=Value.ref a:=rx
 refine adJ I1 ea c n l λu s2 I2 ru=>thn (hv pins s2 σ H1 _ I2 q) λw3 s3 ⟨y,H2,I3,ry,q3⟩=>thn (hop pins s3 σ H2 v y u w3 _ I3 ru ry q3) λw4 s4 ⟨z,H3,I4,rz,dx',fs',ea',l',q4⟩=>?_
 exact adQ I4 ea' c n l' rz λs5 I5=>⟨σ,_,I5,q4⟩
def rAdd:V->V->Hp->VK->Prop:=λx y H Q=>∃i j,x = .int i/\y = .int j/\Q (.int (i+j)) H
theorem atW:InOp X .Add rAdd:=by
 rintro pins s σ H x y u v Q I rx ry ⟨i,j,rfl,rfl,q⟩
 obtain⟨t,rfl⟩:=(show ∃t,u=Value.int i t from rx)
 obtain⟨t',rfl⟩:=(show ∃t',v=Value.int j t' from ry)
 exact PyProof.Rows.iadd_int ⟨.int (i+j),H,I.tok _,⟨_,rfl⟩,q⟩
theorem biX{pl:Sem Bool}{m:Str}{apos:Pos}{args:List Expr}{pins:List (Addr×Obj)}{s:Shared}{σ:St}{H:Hp}{Q:Value->Shared->Prop}{te:TE}(he:PE X e te)(I:Inv X pins σ H s)
  (h:te σ H λx H1=>∃a C dx fs g,x = .ref a/\H1 a=some (.ins C dx fs)/\Cls X.K C/\Meth X.K C m g/\fs.lookup m=none/\
   ∀s1,Inv X pins σ H1 s1->wpAny (model X.prog X.w) X.A (callWith pos (.ref g) [.ref a] (backTo pos (starEach args X.env)) (backToKw pos (keywordEach [] X.env))) Q X.xe s1)
  (ht:eval (.Call (.Attribute e m apos) args [] pos) X.env=(do
   let ov <-eval e X.env
   standAt apos.atName
   let (f,first) <-holding [ov] (getMethod ov m pl)
   callWith pos f first (backTo pos (starEach args X.env)) (backToKw pos (keywordEach [] X.env)))) :
  wpAny (model X.prog X.w) X.A (eval (.Call (.Attribute e m apos) args [] pos) X.env) Q X.xe s:=by
 refine PySem.W.methodCall_KW (pl:=pl) (thn (he pins s σ H _ I h) λu s1 ⟨x,H1,I1,rx,a,C,dx,fs,g,ex,ea,c,k,l,q⟩=>?_) ht
 subst ex
 obtain rfl:u=Value.ref a:=rx
 exact adK I1 ea c k l (q s1 I1)
end
section
variable{X:Cx}{pins:List (Addr×Obj)}{σ:St}{H:Hp}{s:Shared}{A:Around}{E:Value->Shared->Prop}{Q:Value->Shared->Prop}{c:Value}{b:Bool}
end
end L2
namespace L2
open PySem PySem.Spec PyProof.Rows
structure Room(k:Nat)(A:Around):Prop where
 hd:A.handled=none
 dp:A.depth+3*k+5<recursionLimit
 un:A.units+16*k+200<cLine
theorem Room.mono{j k:Nat}{A:Around}(r:Room k A)(h:j<=k):Room j A:=⟨r.hd,by have:=r.dp;omega,by have:=r.un;omega⟩
theorem Room.deeper{k:Nat}{A:Around}(r:Room (k+1) A)(env:Env):Room k (A.deeper env):=
 ⟨r.hd,by have:=r.dp;show A.depth+1+3*k+5<_;omega,by have:=r.un;show A.units+3+16*k+200<_;omega⟩
theorem aIZ{A:Around}{C:Addr}{us:List Value}{kw:List (Str×Value)}:(A.under (.builtin "type.__call__" ⟨.ref C::us,kw⟩)).depth=A.depth+1:=by
 first | rfl | simp[Around.under,Code.weight,Code.isCreation,Code.isGuard,Code.isCaller,Code.frames,Code.isFrame,guardIds]
theorem aJJ{A:Around}{C:Addr}{us:List Value}{kw:List (Str×Value)}:(A.under (.builtin "type.__call__" ⟨.ref C::us,kw⟩)).units=A.units+1:=by
 first | rfl | simp[Around.under,Code.cUnits,Code.frames,Code.isFrame]
theorem Room.make{k:Nat}{A:Around}(r:Room (k+1) A)(C:Addr)(us:List Value)(kw:List (Str×Value)):Room k (A.under (.builtin "type.__call__" ⟨.ref C::us,kw⟩)):=
 ⟨r.hd,by have:=r.dp;rw[aIZ];omega,by have:=r.un;rw[aJJ];omega⟩
theorem Room.depth{k:Nat}{A:Around}(r:Room k A):A.depth<recursionLimit:=by have:=r.dp;omega
theorem Room.units{k:Nat}{A:Around}(r:Room k A):A.units+64<cLine:=by have:=r.un;omega
def tNil:TA:=λ_ H Q=>Q [] H
def tCons(ta:TE)(tr:TA):TA:=λσ H Q=>ta σ H λx H1=>tr σ H1 λxs H2=>Q (x::xs) H2
section
variable{X:Cx}{e:Expr}{es:List Expr}{te:TE}{t:TA}{pos:Pos}
theorem pa_nil:PA X [] tNil:=λ_ _ _ _ H Q I h=>Calls.spliced_nil ⟨[],H,I,.nil,h⟩
theorem aJ(ha:PE X e te)(hr:PA X es t)(hs:starEach (e::es) X.env=(false,eval e X.env)::starEach es X.env:=by rfl):PA X (e::es) (tCons te t):=by
 intro pos pins s σ H Q I h
 rw[hs]
 show wpAny _ _ (spliced ((false,eval e X.env)::backTo pos (starEach es X.env))) _ _ s
 refine Calls.spliced_cons (thn (ha pins s σ H _ I h) λu s1 ⟨x,H1,I1,r1,q1⟩=>?_)
 exact thn (hr pos pins s1 σ H1 _ I1 q1) λus s2 ⟨xs,H2,I2,r2,q2⟩=>⟨x::xs,H2,I2,.cons r1 r2,q2⟩
def tTup(t:TA):TE:=λσ H Q=>t σ H λxs H1=>xs.length<=sizeLine/\∀p,H1 p=none->Q (.ref p) (upd H1 p (.tup xs))
def tLst(t:TA):TE:=λσ H Q=>t σ H λxs H1=>xs.length<=sizeLine/\∀p,H1 p=none->Q (.ref p) (upd H1 p (.lst xs))
theorem gQ{x1}(h:PA X es t):PE X (.Tuple es x1 pos) (tTup t):=by
 intro pins s σ H Q I hq
 refine wpAny_Tuple_spliced (thn (h pos pins s σ H _ I hq) λus s1 ⟨xs,H1,I1,r,z,q⟩=>⟨by rw[<-r.length];exact z,?_⟩)
 have hf:H1 s1.heap.objs.size=none:=I1.hok.fresh (Nat.le_refl _)
 refine⟨.ref s1.heap.objs.size,upd H1 s1.heap.objs.size (.tup xs),I1.laid (t':=s1.toks) (λb u e=>Heap.get?_push_of_some _ e) (Nat.le_refl _) ?_,rfl,q _ hf⟩
 exact⟨z,us,r,⟨_,Heap.get?_push_size _ rfl,rfl,_,rfl⟩⟩
theorem bJ(h:PA X es t):PE X (.List es pos) (tLst t):=by
 intro pins s σ H Q I hq
 refine wpAny_List_spliced (thn (h pos pins s σ H _ I hq) λus s1 ⟨xs,H1,I1,r,z,q⟩=>⟨by rw[<-r.length];exact z,?_⟩)
 have hf:H1 s1.heap.objs.size=none:=I1.hok.fresh (Nat.le_refl _)
 refine⟨.ref s1.heap.objs.size,upd H1 s1.heap.objs.size (.lst xs),I1.laid (t':=s1.toks) (λb u e=>Heap.get?_push_of_some _ e) (Nat.le_refl _) ?_,rfl,q _ hf⟩
 exact⟨z,us,0,r,Heap.get?_push_size _ rfl⟩
end
abbrev Sp:=List V->Hp->VK->XK->Prop
abbrev CXT:=List Env->Hp->Shared->XK->Value->Shared->Prop
structure Env0(P:Program)(w:World)(K:PySem.W.Frag)(mg:Str->Option Value)(base:Heap)(A:Around)(outer:List Env)(s:Shared)(H:Hp):Prop where
 frames:A.frames=some outer
 mod:Mod K mg base
 bs:∀b o,base.get? b=some o->s.heap.get? b=some o/\H b=none
 bsz:base.objs.size<=s.heap.objs.size
 funs:s.heap.FunFrames base outer
 frf:∀b∈frs outer,H b=none
 hok:HOk P w H s.heap
 bare:AllBare s.gens
def CE(outer:List Env)(P:Program)(w:World)(H:Hp)(s:Shared)(Q:VK)(u:Value)(s':Shared):Prop:=
 ∃v H',s'.os=s.os/\AllBare s'.gens/\Un (frs outer) [] H H' s.heap s'.heap/\HOk P w H' s'.heap/\RelV v u/\Q v H'
def CR(CX:CXT)(outer:List Env)(P:Program)(w:World)(H:Hp)(s:Shared)(Q:VK)(E:XK)(r:Result)(s':Shared):Prop:=
 match r with
 |.ok (.ret u)=>CE outer P w H s Q u s'
 |.ok _=>False
 |.error e=>CX outer H s E e s'
structure FnOk(P:Program)(w:World)(K:PySem.W.Frag)(mg:Str->Option Value)(base:Heap)(CX:CXT)(k:Nat)(f:Addr)(fd:FuncData)(ps:List Str)(sp:Sp):Prop where
 len:∀vs H Q E,sp vs H Q E->vs.length=ps.length
 run:∀(A:Around)(outer:List Env)(s:Shared)(H:Hp)(args:Args)(us:List Value)(vs:List V)(Q:VK)(E:XK),Room k A->Env0 P w K mg base A outer s H->BindsTo s fd args (ps.zip us)->Vals vs us->sp vs H Q E->
  codeAny (model P w) A (.call (.ref f) args) (CR CX outer P w H s Q E) s
theorem FnOk.mono{P:Program}{w:World}{K:PySem.W.Frag}{mg:Str->Option Value}{base:Heap}{CX:CXT}{j k:Nat}{f:Addr}{fd:FuncData}{ps:List Str}{sp:Sp}(F:FnOk P w K mg base CX j f fd ps sp)(h:j<=k) :
  FnOk P w K mg base CX k f fd ps sp:=⟨F.len,λA outer s H args us vs Q E hr=>F.run A outer s H args us vs Q E (hr.mono h)⟩
theorem FnOk.imp{P:Program}{w:World}{K:PySem.W.Frag}{mg:Str->Option Value}{base:Heap}{CX:CXT}{k:Nat}{f:Addr}{fd:FuncData}{ps:List Str}{sp sp':Sp}(F:FnOk P w K mg base CX k f fd ps sp)
  (h:∀vs H Q E,sp' vs H Q E->sp vs H Q E):FnOk P w K mg base CX k f fd ps sp':=
 ⟨λvs H Q E q=>F.len vs H Q E (h _ _ _ _ q),λA outer s H args us vs Q E hr he hb hv hs=>F.run A outer s H args us vs Q E hr he hb hv (h _ _ _ _ hs)⟩
theorem Env0.make{P:Program}{w:World}{K:PySem.W.Frag}{mg:Str->Option Value}{base:Heap}{A:Around}{outer:List Env}{s:Shared}{H:Hp}(e:Env0 P w K mg base A outer s H)(C:Addr)(us:List Value)(kw:List (Str×Value)) :
  Env0 P w K mg base (A.under (.builtin "type.__call__" ⟨.ref C::us,kw⟩)) outer s H:=⟨by first | exact e.frames | (simpa[Around.under,Code.envs,Code.isFrame,pushEnvs] using e.frames),e.mod,e.bs,e.bsz,e.funs,e.frf,e.hok,e.bare⟩
section
variable{X:Cx}{pins:List (Addr×Obj)}{σ:St}{H:Hp}{s s':Shared}
theorem Inv.env0(I:Inv X pins σ H s):Env0 X.prog X.w X.K X.mg X.base X.A X.stack s H:=
 ⟨I.ok.frames,I.ok.mod,I.bs,Nat.le_trans I.ok.bsz I.sz,I.stack,I.stkFree,I.hok,I.bare⟩
theorem Inv.after{Q:VK}{u:Value}(I:Inv X pins σ H s)(h:CE X.stack X.prog X.w H s Q u s'):EP X pins σ Q u s':=by
 obtain⟨v,H',os,bare,un,hok,r,q⟩:=h
 obtain⟨hh,g,d,t,os'⟩:=s'
 obtain rfl:os'=s.os:=os
 exact⟨v,H',I.call (h':=hh) (g':=g) (d':=d) (t':=t) (ch:=[]) un hok bare (λb z=>absurd z (by simp)),r,q⟩
end
def tCall(sp:Sp)(dvs:List V)(E:XK)(t:TA):TE:=λσ H Q=>t σ H λvs H1=>sp (vs++dvs) H1 Q E
def tMeth(C:Addr)(m:Str)(sp:Sp)(dvs:List V)(E:XK)(ta:TE)(t:TA):TE:=λσ H Q=>ta σ H λx H1=>∃a dx fs,x = .ref a/\H1 a=some (.ins C dx fs)/\fs.lookup m=none/\
 t σ H1 λvs H2=>sp (x::(vs++dvs)) H2 Q E
def tMake(C:Addr)(sp:Sp)(dvs:List V)(E:XK)(t:TA):TE:=λσ H Q=>t σ H λvs H1=>∀x dx,H1 x=none->H1 dx=none->dx≠x->
 sp (.ref x::(vs++dvs)) (upd (upd H1 dx (.own x)) x (.ins C dx [])) (λv H2=>v = .non/\Q (.ref x) H2) E
def Binds(K:PySem.W.Frag)(fd:FuncData)(ps:List Str)(ds:List Value):Prop:=
 ∀(s:Shared)(us:List Value),K.In s.heap->(us++ds).length=ps.length->BindsTo s fd ⟨us,[]⟩ (ps.zip (us++ds))
theorem Binds.all{K:PySem.W.Frag}{fd:FuncData}{ps:List Str}(h:∀us:List Value,us.length=ps.length->bindArgs fd ⟨us,[]⟩=pure (ps.zip us)):Binds K fd ps []:=λs us _ hl=>by
 rw[List.append_nil] at hl ⊢
 exact .of_eq (h us hl)
def Passes(CX:CXT)(X:Cx)(E:XK):Prop:=∀(pins:List (Addr×Obj))(σ:St)(H:Hp)(s:Shared)(e:Value)(s':Shared),Inv X pins σ H s->CX X.stack H s E e s'->X.xe e s'
section
variable{X:Cx}{CX:CXT}{k:Nat}{f C:Addr}{fd:FuncData}{ps:List Str}{sp:Sp}{dvs:List V}{ds:List Value}{E:XK}{x m:Str}{p pos apos:Pos}{e o:Expr}{es:List Expr}{ta:TE}{t:TA}
theorem adU{pins:List (Addr×Obj)}{σ:St}{H:Hp}{s:Shared}{Q:VK}{us:List Value}{vs:List V}(F:FnOk X.prog X.w X.K X.mg X.base CX k f fd ps sp)(hr:Room k X.A)(hb:Binds X.K fd ps ds)(hd:Vals dvs ds)(hx:Passes CX X E)
  (I:Inv X pins σ H s) (r:Vals vs us) (h:sp (vs++dvs) H Q E):wpAny (model X.prog X.w) X.A (call (.ref f) us) (EP X pins σ Q) X.xe s:=by
 have r2:Vals (vs++dvs) (us++ds):=r.append hd
 have hl:(us++ds).length=ps.length:=by rw[<-r2.length];exact F.len _ _ _ _ h
 refine wpAny_call (codeAny_mono (F.run X.A X.stack s H ⟨us,[]⟩ (us++ds) (vs++dvs) Q E hr I.env0 (hb s us I.kIn hl) r2 h) λr s' hq=>?_)
 cases r with
 |error e=>exact hx pins σ H s e s' I hq
 |ok fl=>
  cases fl with
  |ret u=>exact I.after hq
  |next=>exact False.elim hq
  |brk=>exact False.elim hq
  |cont=>exact False.elim hq
theorem baX(F:FnOk X.prog X.w X.K X.mg X.base CX k f fd ps sp)(hr:Room k X.A)(hg:Gl X x)(hm:X.mg x=some (.ref f))(hk:PySem.W.keepIn X.K (.ref f)=true)(hb:Binds X.K fd ps ds)(hd:Vals dvs ds)(hx:Passes CX X E)
  (ha:PA X (e::es) t) (hdb:(x==("__debug__" : Str))=false:=by decide) (he:starEach (e::es) X.env=(false,eval e X.env)::starEach es X.env:=by rfl) (hpl:(backTo pos (starEach es X.env)).any (·.1)=false:=by rfl) :
  PE X (.Call (.Name x p) (e::es) [] pos) (tCall sp dvs E t):=by
 intro pins s σ H Q I h
 refine wpAny_Call_Name_kw (IK I hg hm ?_ hdb)
 refine PySem.W.callWith_K (h₀:=X.base) I.ok.mod.kin hk (thn (ha pos pins s σ H _ I h) λus s1 ⟨vs,H1,I1,r,q⟩=>⟨I1.kIn,?_⟩) he hpl
 exact adU F hr hb hd hx I1 r q
theorem aUX(F:FnOk X.prog X.w X.K X.mg X.base CX k f fd ps sp)(hr:Room k X.A)(hg:Gl X x)(hm:X.mg x=some (.ref f))(hk:PySem.W.keepIn X.K (.ref f)=true)(hb:Binds X.K fd ps ds)(hd:Vals dvs ds)(hx:Passes CX X E)
  (hdb:(x==("__debug__" : Str))=false:=by decide):PE X (.Call (.Name x p) [] [] pos) (tCall sp dvs E tNil):=by
 intro pins s σ H Q I h
 refine wpAny_Call_Name_kw (IK I hg hm ?_ hdb)
 exact PySem.W.callWith_K0 I.kIn hk (adU (us:=[]) F hr hb hd hx I .nil h)
theorem aUY{pl:Sem Bool}(he:PE X o ta)(c:Cls X.K C)(hm:Meth X.K C m f)(F:FnOk X.prog X.w X.K X.mg X.base CX k f fd ps sp)(hr:Room k X.A)(hb:Binds X.K fd ps ds)(hd:Vals dvs ds)(hx:Passes CX X E)
  (ht:eval (.Call (.Attribute o m apos) [] [] pos) X.env=(do
   let ov <-eval o X.env
   standAt apos.atName
   let (f,first) <-holding [ov] (getMethod ov m pl)
   callWith pos f first (backTo pos (starEach [] X.env)) (backToKw pos (keywordEach [] X.env))):=by rfl) :
  PE X (.Call (.Attribute o m apos) [] [] pos) (tMeth C m sp dvs E ta tNil):=by
 intro pins s σ H Q I h
 refine PySem.W.methodCall_KW (pl:=pl) (thn (he pins s σ H _ I h) λu s1 ⟨x,H1,I1,rx,a,dx,fs,ex,ea,l,q⟩=>?_) ht
 subst ex
 obtain rfl:u=Value.ref a:=rx
 refine adK I1 ea c hm l ?_
 exact PySem.W.callWith_K0 (first:=[.ref a]) I1.kIn hm.kp (adU (us:=[.ref a]) (vs:=[.ref a]) F hr hb hd hx I1 (.cons rfl .nil) q)
structure Mk(K:PySem.W.Frag)(C f:Addr):Prop where
 makes:PySem.W.makesIn K C=true
 init:PySem.W.findIn K (.ref C) "__init__"=some (some (.ref f))
 fn:PySem.W.isFn K (.ref f)=true
 kp:PySem.W.keepIn K (.ref C)=true
theorem atX{pins:List (Addr×Obj)}{σ:St}{H:Hp}{s:Shared}{Q:VK}{us:List Value}{vs:List V}(M:Mk X.K C f)(F:FnOk X.prog X.w X.K X.mg X.base CX k f fd ps sp)(hr:Room (k+1) X.A)(hb:Binds X.K fd ps ds)(hd:Vals dvs ds)
  (hx:Passes CX X E) (I:Inv X pins σ H s) (r:Vals vs us)
  (h:∀x dx,H x=none->H dx=none->dx≠x->sp (.ref x::(vs++dvs)) (upd (upd H dx (.own x)) x (.ins C dx [])) (λv H2=>v = .non/\Q (.ref x) H2) E) :
  wpAny (model X.prog X.w) X.A (call (.ref C) us) (EP X pins σ Q) X.xe s:=by
 have hq:=h (s.heap.objs.size+1) s.heap.objs.size (I.hok.fresh (Nat.le_succ _)) (I.hok.fresh (Nat.le_refl _)) (Nat.ne_of_lt (Nat.lt_succ_self _))
 have I2:=Inv.made (C:=C) I
 have r2:Vals (V.ref (s.heap.objs.size+1)::(vs++dvs)) (Value.ref (s.heap.objs.size+1)::(us++ds)):=.cons rfl (r.append hd)
 have hl:(Value.ref (s.heap.objs.size+1)::us++ds).length=ps.length:=by
  have e:=r2.length
  rw[F.len _ _ _ _ hq] at e
  exact e.symm
 refine wpAny_call (aUW (f:=f) I.kIn M.makes M.init (beq_iff_eq.mp M.fn) (codeAny_mono (F.run _ X.stack _ _ ⟨Value.ref (s.heap.objs.size+1)::us,[]⟩ (Value.ref (s.heap.objs.size+1)::(us++ds)) _ _ E (hr.make C us [])
  (I2.env0.make C us []) (hb _ (Value.ref (s.heap.objs.size+1)::us) I2.kIn hl) r2 hq) λr s' hq'=>?_))
 cases r with
 |error e=>exact hx pins σ _ _ e s' I2 hq'
 |ok fl=>
  cases fl with
  |ret u=>
   obtain⟨v,H',I3,rv,ev,q3⟩:=I2.after hq'
   subst ev
   exact⟨rv,⟨V.ref (s.heap.objs.size+1),H',I3,rfl,q3⟩⟩
  |next=>exact False.elim hq'
  |brk=>exact False.elim hq'
  |cont=>exact False.elim hq'
theorem baY(M:Mk X.K C f)(F:FnOk X.prog X.w X.K X.mg X.base CX k f fd ps sp)(hr:Room (k+1) X.A)(hg:Gl X x)(hm:X.mg x=some (.ref C))(hb:Binds X.K fd ps ds)(hd:Vals dvs ds)(hx:Passes CX X E)
  (ha:PA X (e::es) t) (hdb:(x==("__debug__" : Str))=false:=by decide) (he:starEach (e::es) X.env=(false,eval e X.env)::starEach es X.env:=by rfl) (hpl:(backTo pos (starEach es X.env)).any (·.1)=false:=by rfl) :
  PE X (.Call (.Name x p) (e::es) [] pos) (tMake C sp dvs E t):=by
 intro pins s σ H Q I h
 refine wpAny_Call_Name_kw (IK I hg hm ?_ hdb)
 refine PySem.W.callWith_K (h₀:=X.base) I.ok.mod.kin M.kp (thn (ha pos pins s σ H _ I h) λus s1 ⟨vs,H1,I1,r,q⟩=>⟨I1.kIn,?_⟩) he hpl
 exact atX M F hr hb hd hx I1 r q
theorem aUZ(M:Mk X.K C f)(F:FnOk X.prog X.w X.K X.mg X.base CX k f fd ps sp)(hr:Room (k+1) X.A)(hg:Gl X x)(hm:X.mg x=some (.ref C))(hb:Binds X.K fd ps ds)(hd:Vals dvs ds)(hx:Passes CX X E)
  (hdb:(x==("__debug__" : Str))=false:=by decide):PE X (.Call (.Name x p) [] [] pos) (tMake C sp dvs E tNil):=by
 intro pins s σ H Q I h
 refine wpAny_Call_Name_kw (IK I hg hm ?_ hdb)
 exact PySem.W.callWith_K0 I.kIn M.kp (atX (us:=[]) M F hr hb hd hx I .nil h)
end
section
variable{X:Cx}{CX:CXT}{k:Nat}{f C:Addr}{fd:FuncData}{ps ks:List Str}{sp:Sp}{E:XK}{x m:Str}{p pos apos kpos:Pos}{e o:Expr}{es:List Expr}{kws:List Keyword}{te ta:TE}{t tk:TA}{nm:Option Str}
variable{g:List Value->List Value->List Value}{gV:List V->List V->List V}
end
structure FnScope(N P:List Str)(sc:Scope):Prop where
 kind:sc.kind = .function
 co:sc.isCoroutine=false
 gen:sc.isGenerator=false
 nd:N.Nodup
 pre:N.take P.length=P
 par:∀x∈P,sc.names.lookup x=some .local\/sc.names.lookup x=some .cell
 nofree:∀y∈sc.names,y.2≠.free
theorem alY{kindOf:Str->Option NameKind}{x:Str}:∀{binds:List (Str×Value)}{m:Str->Option Value},(∀v,(x,v)∉binds)->bindL kindOf binds m x=m x
 |[],_,_=>rfl
 |(n,v)::r,m,h=>by
  unfold bindL
  rw[alY λw hw=>h w (List.mem_cons_of_mem _ hw)]
  split
  ·have:x≠n:=by rintro rfl;exact h v List.mem_cons_self
   simp[this]
  ·rfl
theorem alZ{kindOf:Str->Option NameKind}{x:Str}:∀{binds:List (Str×Value)}{m:Str->Option Value},(∀v,(x,v)∉binds)->bindC kindOf binds m x=m x
 |[],_,_=>rfl
 |(n,v)::r,m,h=>by
  unfold bindC
  rw[alZ λw hw=>h w (List.mem_cons_of_mem _ hw)]
  split
  ·rfl
  ·have:x≠n:=by rintro rfl;exact h v List.mem_cons_self
   simp[this]
theorem amJ{kindOf:Str->Option NameKind}{x:Str}{v:Value}:∀{P:List Str}{vs:List Value}{i:Nat}{m:Str->Option Value},P.Nodup->P[i]? = some x->vs[i]? = some v->kindOf x=some .local->
  bindL kindOf (P.zip vs) m x=some v
 |[],_,_,_,_,h,_,_=>by simp at h
 |_::_,[],_,_,_,_,h,_=>by simp at h
 |p::P,w::vs,0,m,nd,h1,h2,hk=>by
  simp at h1 h2;subst h1;subst h2
  show bindL kindOf ((p,w)::P.zip vs) m p=_
  unfold bindL
  rw[alY λv hv=>(List.nodup_cons.mp nd).1 (List.of_mem_zip hv).1,if_pos hk]
  simp
 |p::P,w::vs,i+1,m,nd,h1,h2,hk=>by
  show bindL kindOf ((p,w)::P.zip vs) m x=_
  unfold bindL
  exact amJ (i:=i) (List.nodup_cons.mp nd).2 (by simpa using h1) (by simpa using h2) hk
theorem amK{kindOf:Str->Option NameKind}{x:Str}{v:Value}:∀{P:List Str}{vs:List Value}{i:Nat}{m:Str->Option Value},P.Nodup->P[i]? = some x->vs[i]? = some v->kindOf x≠some .local->
  bindC kindOf (P.zip vs) m x=some v
 |[],_,_,_,_,h,_,_=>by simp at h
 |_::_,[],_,_,_,_,h,_=>by simp at h
 |p::P,w::vs,0,m,nd,h1,h2,hk=>by
  simp at h1 h2;subst h1;subst h2
  show bindC kindOf ((p,w)::P.zip vs) m p=_
  unfold bindC
  rw[alZ λv hv=>(List.nodup_cons.mp nd).1 (List.of_mem_zip hv).1,if_neg hk]
  simp
 |p::P,w::vs,i+1,m,nd,h1,h2,hk=>by
  show bindC kindOf ((p,w)::P.zip vs) m x=_
  unfold bindC
  exact amK (i:=i) (List.nodup_cons.mp nd).2 (by simpa using h1) (by simpa using h2) hk
def start(N:List Str)(vs:List V):St:=vs.map some++List.replicate (N.length - vs.length) none
def cxOf(CX:CXT)(P:Program)(w:World)(K:PySem.W.Frag)(mg:Str->Option Value)(base:Heap)(N:List Str)(qual:Str)(scope:Scope)(f:Addr)(cd:Value)(A:Around)(outer:List Env)(s:Shared)(H:Hp)(E:XK):Cx where
 prog:=P
 w:=w
 K:=K
 mg:=mg
 base:=base
 A:=A.deeper (envOfC qual scope s.heap.objs.size f cd)
 N:=N
 s_0:=s
 H_0:=H
 env:=envOfC qual scope s.heap.objs.size f cd
 outer:=outer
 stack:=envOfC qual scope s.heap.objs.size f cd::outer
 ex:=[]
 calm:=true
 fn:=λ_=>true
 pn:=[]
 xe:=λe s'=>wpAny (model P w) (A.deeper (envOfC qual scope s.heap.objs.size f cd)) (leaving (envOfC qual scope s.heap.objs.size f cd) e) (λ_ s''=>CX outer H s E e s'') (λe' s''=>CX outer H s E e' s'') s'
theorem atY{sc:Scope}{n:Nat}{x:Str}(h:sc.names.lookup x=some .cell):∃c,(cellsFrom n sc.names []).lookup x=some c:=by
 have q:=PySem.W.cellsFrom_some sc.names n [] (.inl h)
 exact Option.isSome_iff_exists.mp q
theorem aPZ{CX:CXT}{P:Program}{w:World}{K:PySem.W.Frag}{mg:Str->Option Value}{base:Heap}{N ps:List Str}{qual:Str}{scope:Scope}{f:Addr}{cd:Value}{A:Around}{outer:List Env}{s s1:Shared}{H:Hp}{E:XK}{us:List Value}{vs:List V}
  (S:FnScope N ps scope) (hd:A.handled=none) (e0:Env0 P w K mg base A outer s H) (hl:vs.length=ps.length) (r:Vals vs us)
  (x:InCallC s s.heap.objs.size (bindL (envOfC qual scope s.heap.objs.size f cd).kindOf (ps.zip us) λ_=>none) (cellsFrom (s.heap.objs.size+1) scope.names []) (bindC (envOfC qual scope s.heap.objs.size f cd).kindOf (ps.zip us) λ_=>none) s1) :
  Inv (cxOf CX P w K mg base N qual scope f cd A outer s H E) [] (start N vs) H s1:=by
 have hpl:ps.length<=N.length:=by have:=congrArg List.length S.pre;rw[List.length_take] at this;omega
 obtain⟨h1,tk,rfl,hk⟩:=x.done
 have noA:∀b:Addr,b∉(cxOf CX P w K mg base N qual scope f cd A outer s H E).ex:=λb z=>absurd (show b∈([]:List Addr) from z) (by simp)
 refine⟨⟨e0.mod,S.kind,rfl,rfl,Nat.le_refl _,λy z c h1 h2=>?_,λy hy=>?_,λy c _ h=>?_,λ_=>hd,Around.frames_deeper e0.frames,.inr ⟨rfl,rfl⟩,λb z=>absurd z (noA b),e0.bs,e0.bsz,λb _ _=>noA b,λb z=>absurd z (noA b),e0.funs,e0.frf⟩,
  rfl,e0.bare,Un.kept hk,⟨_,x.toInCall.ns,λi y v h1 h2 h3=>?_⟩,λy c h=>⟨_,x.cell y c h⟩,e0.hok.fresh (Nat.le_refl _),λy c h=>?_,λp hp=>absurd (show p∈([]:List (Addr×Obj)) from hp) (by simp),e0.hok.kept hk,?_⟩
 ·exact name_of_addr x.apart (PySem.mem_of_lookup h1) (PySem.mem_of_lookup h2)
 ·have hy:scope.names.lookup y=some .cell\/scope.names.lookup y=some .free:=hy
  rcases hy with hy | hy
  ·exact atY hy
  ·exact absurd rfl (S.nofree _ (PySem.mem_of_lookup hy))
 ·exact Nat.le_of_lt (x.above y c (PySem.mem_of_lookup h))
 ·have hi:i<vs.length:=by
   unfold start at h2
   by_cases hi:i<vs.length
   ·exact hi
   ·rw[List.getElem?_append_right (by simpa using hi)] at h2
    rw[List.getElem?_replicate] at h2
    split at h2 <;> cases h2
  have ha:vs[i]? = some v:=by
   unfold start at h2
   rw[List.getElem?_append_left (by simpa using hi),List.getElem?_map] at h2
   cases e:vs[i]? with
   |none=>rw[e] at h2;cases h2
   |some a=>rw[e] at h2;cases h2;rfl
  obtain⟨u,hu,rv⟩:=r.get ha
  have hp:ps[i]? = some y:=by
   rw[<-S.pre,List.getElem?_take_of_lt (by omega)];exact h1
  have ndP:ps.Nodup:=by rw[<-S.pre];exact S.nd.sublist (List.take_sublist _ _)
  refine⟨u,rv,?_⟩
  rcases S.par y (List.mem_of_getElem? hp) with k | k
  ·exact .inl ⟨k,amJ ndP hp hu k⟩
  ·obtain⟨c,e⟩:=atY (n:=s.heap.objs.size+1) k
   refine .inr ⟨.inl k,c,e,?_⟩
   have q:=x.cell y c e
   rw[amK ndP hp hu (by show scope.names.lookup y≠_;rw[k];decide)] at q
   exact q
 ·exact e0.hok.fresh (Nat.le_of_lt (x.above y c (PySem.mem_of_lookup h)))
 ·unfold start
  show _=N.length
  rw[List.length_append,List.length_map,List.length_replicate]
  omega
theorem bjQ{CX:CXT}{P:Program}{w:World}{K:PySem.W.Frag}{mg:Str->Option Value}{base:Heap}{k:Nat}{f:Addr}{name qual:Str}{params:Arguments}{body:List Stmt}{scope:Scope}{dV kV doc pm cdv ct oc:Value}{an od:Option Addr}
  {osl:Array (Option Value)} {N ps:List Str} {sp:Sp} (lk:K.lookup f=some ⟨oc,od,.func (PySem.W.fnOf name qual params body scope dV kV doc pm an cdv ct),osl⟩) (hcd:PySem.W.codeIn K cdv qual=true) (S:FnScope N ps scope)
  (len:∀vs H Q E,sp vs H Q E->vs.length=ps.length)
  (hbody:∀(A:Around)(outer:List Env)(s:Shared)(H:Hp)(vs:List V)(Q:VK)(E:XK),Room k (A.deeper (envOfC qual scope s.heap.objs.size f cdv))->sp vs H Q E->
   ∃t,PSs (cxOf CX P w K mg base N qual scope f cdv A outer s H E) body t/\t { nx:=λ_ H'=>Q .non H',rt:=Q } (start N vs) H) :
  FnOk P w K mg base CX (k+1) f (PySem.W.fnOf name qual params body scope dV kV doc pm an cdv ct) ps sp:=by
 refine⟨len,λA outer s H args us vs Q E hr e0 hb r hsp=>?_⟩
 have hl:=len _ _ _ _ hsp
 have KX:K.In s.heap:=e0.mod.kin.keeps λb o e=>(e0.bs b o e).1
 have lim:s.heap.NoLimit:=e0.mod.nolimit.keeps λb o e=>(e0.bs b o e).1
 have hkind:∀y∈ps.zip us,scope.names.lookup y.1=some .local\/(scope.names.lookup y.1=some .cell/\((cellsFrom (s.heap.objs.size+1) scope.names []).lookup y.1).isSome=true):=λ⟨n,v⟩ hy=>by
  rcases S.par n (List.of_mem_zip hy).1 with q | q
  ·exact .inl q
  ·exact .inr ⟨q,PySem.W.cellsFrom_some _ _ _ (.inl q)⟩
 refine codeAny_call_function hr.depth (KX _ _ lk) rfl S.co S.gen rfl (PySem.W.codeRec_of KX hcd) (hb _ _ _ _ ?_)
 refine wpAny_newFunctionEnv_cells S.kind hkind λenv he s1 x=>?_
 subst he
 refine⟨lim.keeps x.toInCall.keep,codeAny_func ?_⟩
 obtain⟨t,ht,hq⟩:=hbody A outer s H vs Q E (hr.deeper _) hsp
 have I:Inv (cxOf CX P w K mg base N qual scope f cdv A outer s H E) [] (start N vs) H s1:=aPZ S hr.hd e0 hl r x
 refine wpAny_mono (ht [] s1 (start N vs) H _ I hq) (λfl s' hs=>?_) λe s' hs=>hs
 have fin:∀{σ':St}{H':Hp}{v:V}{u:Value},Inv (cxOf CX P w K mg base N qual scope f cdv A outer s H E) [] σ' H' s'->RelV v u->Q v H'->CE outer P w H s Q u s':=
  λ{σ' H' v u} J rv q=>⟨v,H',J.os,J.bare,J.base,J.hok,rv,q⟩
 cases fl with
 |ret u=>
  obtain⟨v,σ',H',J,rv,q⟩:=hs
  exact fin J rv q
 |next=>
  obtain⟨σ',H',J,q⟩:=hs
  exact fin (v:=V.non) (u:=Value.none) J rfl q
 |brk=>
  obtain⟨_,_,_,q⟩:=hs
  exact False.elim q
 |cont=>
  obtain⟨_,_,_,q⟩:=hs
  exact False.elim q
end L2
namespace L2
open PySem PySem.Spec PyProof.Rows
section
variable{X:Cx}{x:Str}{p pos:Pos}{e:Expr}{es:List Expr}{t:TA}{id T:String}{r:List V->Hp->VK->Prop}
def tCB(r:List V->Hp->VK->Prop)(t:TA):TE:=λσ H Q=>t σ H λvs H1=>r vs H1 Q
theorem cX(hc:CallR X (.builtin id) r)(hg:Gl X x)(hm:X.mg x=none)(hv:bootBuiltins x=some (.builtin id))(ha:PA X (e::es) t)(hn:x≠"__name__":=by decide)(hdb:(x==("__debug__" : Str))=false:=by decide)
  (he:starEach (e::es) X.env=(false,eval e X.env)::starEach es X.env:=by rfl) (hpl:(backTo pos (starEach es X.env)).any (·.1)=false:=by rfl):PE X (.Call (.Name x p) (e::es) [] pos) (tCB r t):=by
 intro pins s σ H Q I h
 refine wpAny_Call_Name_kw (IQ I hg hm hv ?_ hn hdb)
 exact PyProof.Rows.callWith_builtin1 (thn (ha pos pins s σ H _ I h) λus s1 ⟨vs,H1,I1,r1,q1⟩=>hc pins s1 σ H1 vs us Q I1 r1 q1) he hpl
theorem amQ(hc:CallR X (.type T) r)(hg:Gl X x)(hm:X.mg x=none)(hv:bootBuiltins x=some (.type T))(ha:PA X (e::es) t)(hn:x≠"__name__":=by decide)(hdb:(x==("__debug__" : Str))=false:=by decide)
  (he:starEach (e::es) X.env=(false,eval e X.env)::starEach es X.env:=by rfl) (hpl:(backTo pos (starEach es X.env)).any (·.1)=false:=by rfl):PE X (.Call (.Name x p) (e::es) [] pos) (tCB r t):=by
 intro pins s σ H Q I h
 refine wpAny_Call_Name_kw (IQ I hg hm hv ?_ hn hdb)
 exact PyProof.Rows.callWith_type1 (thn (ha pos pins s σ H _ I h) λus s1 ⟨vs,H1,I1,r1,q1⟩=>hc pins s1 σ H1 vs us Q I1 r1 q1) he hpl
end
end L2
namespace HT
open PySem PyProof.Rows
section
open PySem.SeqAt
open PySem.AutoSeq1 (wpAny_loadPart')
open PySem.MeetsSeq PySem.MeetsSeq2 PySem.MeetsSeq3
end
section
variable{prog:Program}{w:World}{A:Around}{E:Value->Shared->Prop}{s:Shared}
def sIx(n d:Nat):Option Int->Nat
 |none=>d
 |some v=>if v<0 then(v+(n:Int)).toNat else min v.toNat n
theorem aVJ(n d:Nat):sIx n d none=d:=rfl
theorem TW(n d k:Nat):sIx n d (some (k:Int))=min k n:=by
 show(if(k:Int)<0 then((k:Int)+(n:Int)).toNat else min (k:Int).toNat n)=min k n
 rw[if_neg (by omega),Int.toNat_natCast]
end
end HT
namespace L2
open PySem PySem.Spec PyProof.Rows
abbrev TO:=St->Hp->(Option Int->Hp->Prop)->Prop
def PO(X:Cx)(e:Option Expr)(t:TO):Prop:=
 ∀(pins:List (Addr×Obj))(s:Shared)(σ:St)(H:Hp)(Q:Option Int->Hp->Prop),Inv X pins σ H s->t σ H Q->
  wpAny (model X.prog X.w) X.A (evalPart e X.env) (λu s'=>∃o H',Inv X pins σ H' s'/\IsPart u o/\Q o H') X.xe s
def tNoPart:TO:=λ_ H Q=>Q none H
def tPart(t:TE):TO:=λσ H Q=>t σ H λx H1=>∃i,x = .int i/\Q (some i) H1
section
variable{X:Cx}{e:Expr}{te:TE}{lo hi:Option Expr}{tl th:TO}{pos p2:Pos}
theorem baZ:PO X none tNoPart:=by
 intro pins s σ H Q I h
 rw[evalPart_none]
 exact wpAny_pure ⟨none,H,I,.none,h⟩
theorem uJ(h:PE X e te):PO X (some e) (tPart te):=by
 intro pins s σ H Q I hw
 rw[evalPart_some]
 refine thn (h pins s σ H _ I hw) λu s1 ⟨x,H1,I1,r1,q1⟩=>?_
 obtain⟨i,rfl,q⟩:=q1
 obtain⟨t,rfl⟩:=r1
 exact⟨some i,H1,I1,.int i t,q⟩
def SlR(X:Cx)(r:V->Option Int->Option Int->Hp->VK->Prop):Prop:=
 ∀(pins:List (Addr×Obj))(s:Shared)(σ:St)(H:Hp)(x:V)(v vl vu:Value)(lo hi:Option Int)(sl:Addr)(Q:VK),Inv X pins σ H s->RelV x v->s.heap.IsSliceOf sl vl vu .none->IsPart vl lo->IsPart vu hi->r x lo hi H Q->
  ∃T id,typeLookup (.type T) "__getitem__"=pure (some (.builtin id))/\s.TypeIs v T/\wpAny (model X.prog X.w) X.A (getItem v (.ref sl)) (EP X pins σ Q) X.xe s
def tSl(r:V->Option Int->Option Int->Hp->VK->Prop)(te:TE)(tl th:TO):TE:=λσ H Q=>te σ H λx H1=>tl σ H1 λl H2=>th σ H2 λu H3=>r x l u H3 Q
theorem KZ{r:V->Option Int->Option Int->Hp->VK->Prop}(hr:SlR X r)(he:PE X e te)(hl:PO X lo tl)(hu:PO X hi th):PE X (.Subscript e (.Slice lo hi none p2) pos) (tSl r te tl th):=by
 intro pins s σ H Q I h
 refine Subscript_ (thn (he pins s σ H _ I h) λv s1 ⟨x,H1,I1,r1,q1⟩=>?_)
 refine wpAny_Slice (thn (hl pins s1 σ H1 _ I1 q1) λvl s2 ⟨l,H2,I2,pl,q2⟩=>thn (hu pins s2 σ H2 _ I2 q2) λvu s3 ⟨u,H3,I3,pu,q3⟩=>?_)
 rw[evalPart_none]
 refine wpAny_pure ?_
 have I4:Inv X pins σ H3 { s3 with heap:=s3.heap.push { cls:=.type "slice",data:=.fields #[vl,vu,.none] } }:=I3.kept (t':=s3.toks) λb ob q=>Heap.get?_push_of_some _ q
 obtain⟨T,id,hT,ht,hg⟩:=hr pins { s3 with heap:=s3.heap.push { cls:=.type "slice",data:=.fields #[vl,vu,.none] } } σ H3 x v vl vu l u s3.heap.objs.size Q I4 r1 (Heap.IsSliceOf.new ..) pl pu q3
 show wpAny (model X.prog X.w) X.A (subscriptTail e (.Slice lo hi none p2) v (.ref s3.heap.objs.size)) (EP X pins σ Q) X.xe { s3 with heap:=s3.heap.push { cls:=.type "slice",data:=.fields #[vl,vu,.none] } }
 exact tail_any (ops:=[.ref s3.heap.objs.size,v]) ht hT hg (by with_unfolding_all rfl)
def cutV(xs:List V)(lo hi:Option Int):List V:=(xs.drop (HT.sIx xs.length 0 lo)).take (HT.sIx xs.length xs.length hi - HT.sIx xs.length 0 lo)
theorem aBQ(xs:List V)(lo hi:Option Int):(cutV xs lo hi).length<=xs.length:=by
 unfold cutV
 rw[List.length_take,List.length_drop]
 omega
end
end L2
namespace L2
open PySem PySem.Spec PyProof.Rows
def ixN(n:Nat)(i:Int):Option Nat:=if 0<=i then(if i<n then some i.toNat else none) else if -(n:Int)<=i then some (i+n).toNat else none
def atI{α:Type}(xs:List α)(i:Int):Option α:=(ixN xs.length i).bind λj=>xs[j]?
theorem bbJ{n:Nat}{i:Int}{j:Nat}(h:ixN n i=some j):seqIndex? i n=some j/\j<n/\-(n:Int)<=i/\i<n:=by
 unfold ixN at h
 by_cases h0:0<=i
 ·rw[if_pos h0] at h
  by_cases h1:i<n
  ·rw[if_pos h1] at h
   have e:i.toNat=j:=Option.some.inj h
   exact⟨by rw[seqIndex_of h0 h1,e],by omega,by omega,h1⟩
  ·rw[if_neg h1] at h;cases h
 ·rw[if_neg h0] at h
  by_cases h1:-(n:Int)<=i
  ·rw[if_pos h1] at h
   have e:(i+n).toNat=j:=Option.some.inj h
   exact⟨by rw[seqIndex_neg (by omega) h1,e],by omega,h1,by omega⟩
  ·rw[if_neg h1] at h;cases h
theorem aiJ{α:Type}{xs:List α}{i:Int}{v:α}(h:atI xs i=some v):∃j,seqIndex? i xs.length=some j/\xs[j]? = some v/\j<xs.length/\-(xs.length:Int)<=i/\i<xs.length:=by
 unfold atI at h
 cases e:ixN xs.length i with
 |none=>rw[e] at h;cases h
 |some j=>
  rw[e] at h
  obtain⟨h1,h2,h3,h4⟩:=bbJ e
  exact⟨j,h1,h,h2,h3,h4⟩
theorem bbK{α:Type}{xs:List α}{j:Nat}{v:α}(h:xs[j]? = some v):atI xs (j:Int)=some v:=by
 have hj:j<xs.length:=(List.getElem?_eq_some_iff.mp h).1
 have e:ixN xs.length (j:Int)=some j:=by
  unfold ixN
  rw[if_pos (by omega),if_pos (by omega)];simp
 unfold atI;rw[e];exact h
def PlainIx(b:Expr):Prop:=∀o i,subscripted b false o i=operate [o,i] (getItem o i)
def IxR(X:Cx)(r:R2):Prop:=
 ∀(value slice:Expr)(pins:List (Addr×Obj))(s:Shared)(σ:St)(H:Hp)(x y:V)(v u:Value)(Q:VK),Inv X pins σ H s->RelV x v->RelV y u->r x y H Q->
  subscripted slice false v u=operate [v,u] (getItem v u)->wpAny (model X.prog X.w) X.A (subscriptTail value slice v u) (EP X pins σ Q) X.xe s
def MtR(X:Cx)(id:String)(r:V->List V->Hp->VK->Prop):Prop:=
 ∀(pins:List (Addr×Obj))(s:Shared)(σ:St)(H:Hp)(x:V)(xs:List V)(v:Value)(us:List Value)(Q:VK),Inv X pins σ H s->RelV x v->Vals xs us->r x xs H Q->
  wpAny (model X.prog X.w) X.A (call (.builtin id) (v::us)) (EP X pins σ Q) X.xe s
section
variable{X:Cx}{a b:Expr}{ta tb:TE}{pos:Pos}
theorem cZ{r:R2}(hr:IxR X r)(ha:PE X a ta)(hb:PE X b tb)(hs:PlainIx b):PE X (.Subscript a b pos) (tOp r ta tb):=by
 intro pins s σ H Q I h
 exact Subscript_ (binT ha hb I h λv u s2 x y H2 I2 rx ry q=>hr a b pins s2 σ H2 x y v u Q I2 rx ry q (hs _ _))
def rIxL(K:PySem.W.Frag):R2:=λx y H Q=>∃p xs i v,x = .ref p/\y = .int i/\SqL K H p xs/\atI xs i=some v/\Q v H
def rIxT(K:PySem.W.Frag):R2:=λx y H Q=>∃p xs i v,x = .ref p/\y = .int i/\SqT K H p xs/\atI xs i=some v/\Q v H
def rIxS:R2:=λx y H Q=>∃z i c,x = .str z/\y = .int i/\z.length<=sizeLine/\atI z.cps.toList i=some c/\Q (.str ⟨#[c]⟩) H
theorem jK:IxR X (rIxL X.K):=by
 intro value slice pins s σ H x y v u Q I rx ry h hs
 obtain⟨p,xs,i,z,rfl,rfl,hq,he,q⟩:=h
 cases rx
 obtain⟨t,rfl⟩:=ry
 obtain⟨its,r,pl,hz⟩:=I.list hq
 obtain⟨j,h1,h2,h3,h4,h5⟩:=aiJ he
 obtain⟨w,ew,rw'⟩:=r.get h2
 have hl:=r.length
 have hn:=line63
 have fin:EP X pins σ Q w s:=⟨z,H,I,rw',q⟩
 by_cases h0:0<=i
 ·have hj:i.toNat=j:=by
   rw[seqIndex_of h0 h5] at h1
   exact Option.some.inj h1
  exact item_listR pl.isList h0 (by omega) (by rw[hj];simpa using ew) fin hs
 ·have hj:(i+(its.toArray.size:Int)).toNat=j:=by
   rw[seqIndex_neg (by omega) h4] at h1
   rw[List.size_toArray,<-hl]
   exact Option.some.inj h1
  exact subscriptTail_builtinR (x:=w) pl.isList.typeIs slot_list_getitem.lookup
   (wpAny_getItem_list_neg (Q:=λr s'=>r=w/\EP X pins σ Q r s') pl.isList (by omega) (by rw[List.size_toArray] <;> omega) (by omega) (by rw[hj];simpa using ew) ⟨rfl,fin⟩) hs
theorem eY:IxR X (rIxT X.K):=by
 intro value slice pins s σ H x y v u Q I rx ry h hs
 obtain⟨p,xs,i,z,rfl,rfl,hq,he,q⟩:=h
 cases rx
 obtain⟨t,rfl⟩:=ry
 obtain⟨its,r,pl,hz⟩:=I.tuple hq
 obtain⟨j,h1,h2,h3,h4,h5⟩:=aiJ he
 obtain⟨w,ew,rw'⟩:=r.get h2
 have hl:=r.length
 have hn:=line63
 have fin:EP X pins σ Q w s:=⟨z,H,I,rw',q⟩
 exact subscriptTail_builtinR (x:=w) pl.typeIs slot_tuple_getitem.lookup
  (getItem_tuple (j:=j) (Q:=λr s'=>r=w/\EP X pins σ Q r s') pl (by omega) (by omega) (by rw[List.size_toArray,<-hl];exact h1) (by simpa using ew) ⟨rfl,fin⟩) hs
theorem bfV:IxR X rIxS:=by
 intro value slice pins s σ H x y v u Q I rx ry h hs
 obtain⟨z,i,c,rfl,rfl,hz,he,q⟩:=h
 obtain⟨t,rfl⟩:=rx
 obtain⟨t',rfl⟩:=ry
 obtain⟨j,h1,h2,h3,h4,h5⟩:=aiJ he
 have hl:z.cps.toList.length=z.length:=by simp[Str.length]
 rw[hl] at h1 h4 h5
 have hn:=line63
 exact tail_any (typeIs_str s z t) slot_str_getitem.lookup (getItem_str (c:=c) (by
  have e1:decide (i < -(2 ^ 63:Int))=false:=decide_eq_false (by omega)
  have e2:decide (i>=2 ^ 63)=false:=decide_eq_false (by omega)
  rw[e1,e2,Bool.or_false]) (by rw[h1];simpa using h2) ⟨.str ⟨#[c]⟩,H,I.tok _,⟨_,rfl⟩,q⟩) hs
theorem atZ(lo hi:Option Int)(n:Nat):(sliceBounds lo hi none n).1=((HT.sIx n 0 lo:Nat):Int)/\(sliceBounds lo hi none n).2.1=((HT.sIx n n hi:Nat):Int)/\(sliceBounds lo hi none n).2.2=1:=by
 refine⟨?_,?_,rfl⟩
 ·cases lo with
  |none=>simp[sliceBounds,HT.sIx]
  |some i=>
   simp only[sliceBounds,HT.sIx,Option.getD_none,show(1:Int) > 0 by decide,if_true]
   by_cases h:i<0
   ·simp only[h,if_true] <;> omega
   ·simp only[h,if_false] <;> omega
 ·cases hi with
  |none=>simp[sliceBounds,HT.sIx]
  |some i=>
   simp only[sliceBounds,HT.sIx,Option.getD_none,show(1:Int) > 0 by decide,if_true]
   by_cases h:i<0
   ·simp only[h,if_true] <;> omega
   ·simp only[h,if_false] <;> omega
theorem aoY(its:List Value)(lo hi:Option Int):slicePick its.toArray lo hi none=((its.drop (HT.sIx its.length 0 lo)).take (HT.sIx its.length its.length hi - HT.sIx its.length 0 lo)).toArray:=by
 obtain⟨h1,h2,h3⟩:=atZ lo hi its.toArray.size
 unfold slicePick
 rw[h1,h2,h3]
 simp only[sliceRange_one,pick_run,List.size_toArray] <;> rfl
def rSlL(K:PySem.W.Frag):V->Option Int->Option Int->Hp->VK->Prop:=λx lo hi H Q=>∃a xs,x = .ref a/\SqL K H a xs/\∀p,H p=none->Q (.ref p) (upd H p (.lst (cutV xs lo hi)))
theorem TX:SlR X (rSlL X.K):=by
 intro pins s σ H x v vl vu lo hi sl Q I rx hs pl pu h
 obtain⟨a,xs,rfl,hx,q⟩:=h
 cases rx
 obtain⟨its,r,ht,hz⟩:=I.list hx
 have hlen:=r.length
 refine⟨"list",_,slot_list_getitem.lookup,ht.isList.typeIs,?_⟩
 refine wpAny_getItem_list_slice ht.isList hs pl pu .none (by simp) ?_ (by rw[List.size_toArray] <;> omega)
 rw[aoY,<-hlen]
 refine⟨.ref s.heap.objs.size,_,I.laid (t':=s.toks) (o:=.lst (cutV xs lo hi)) (λb ob q=>Heap.get?_push_of_some _ q) (Nat.le_refl _) ?_,rfl,q _ (I.hok.fresh (Nat.le_refl _))⟩
 exact⟨Nat.le_trans (aBQ xs lo hi) hz,_,0,(r.drop (HT.sIx xs.length 0 lo)).take (HT.sIx xs.length xs.length hi - HT.sIx xs.length 0 lo),Heap.get?_push_size _ rfl⟩
def flatV:V->Bool
 |.non=>true
 |.bl _=>true
 |.int _=>true
 |.str _=>true
 |_=>false
def eqV:V->V->Bool
 |.non,.non=>true
 |.bl a,.bl b=>a==b
 |.bl a,.int b=>(if a then 1 else 0)==b
 |.int a,.bl b=>a==(if b then 1 else 0)
 |.int a,.int b=>a==b
 |.str a,.str b=>a==b
 |_,_=>false
theorem bfW{A:Around}{s:Shared}{y x:V}{u v:Value}(ry:RelV y u)(rx:RelV x v)(fy:flatV y=true)(fx:flatV x=true):SeqAt.EqAt A s u v (eqV y x):=by
 cases y with
 |non=>
  cases ry
  cases x with
  |non=>cases rx;exact SeqAt.EqAt.same _
  |bl b=>cases rx;exact SeqAt.EqAt.none_bool b
  |int b=>obtain⟨t,rfl⟩:=rx;exact SeqAt.EqAt.none_int b t
  |str b=>obtain⟨t,rfl⟩:=rx;exact SeqAt.EqAt.none_str b t
  |_=>exact absurd (show false=true from fx) Bool.false_ne_true
 |bl a=>
  cases ry
  cases x with
  |non=>cases rx;exact SeqAt.EqAt.bool_none a
  |bl b=>cases rx;exact SeqAt.EqAt.bool_bool a b
  |int b=>obtain⟨t,rfl⟩:=rx;exact SeqAt.EqAt.bool_int a b t
  |str b=>obtain⟨t,rfl⟩:=rx;exact SeqAt.EqAt.bool_str a b t
  |_=>exact absurd (show false=true from fx) Bool.false_ne_true
 |int a=>
  obtain⟨t',rfl⟩:=ry
  cases x with
  |non=>cases rx;exact SeqAt.EqAt.int_none a t'
  |bl b=>cases rx;exact SeqAt.EqAt.int_bool a t' b
  |int b=>obtain⟨t,rfl⟩:=rx;exact SeqAt.EqAt.int_int a t' b t
  |str b=>obtain⟨t,rfl⟩:=rx;exact SeqAt.EqAt.int_str a t' b t
  |_=>exact absurd (show false=true from fx) Bool.false_ne_true
 |str a=>
  obtain⟨t',rfl⟩:=ry
  cases x with
  |non=>cases rx;exact SeqAt.EqAt.str_none a t'
  |bl b=>cases rx;exact SeqAt.EqAt.str_bool a t' b
  |int b=>obtain⟨t,rfl⟩:=rx;exact SeqAt.EqAt.str_int a t' b t
  |str b=>obtain⟨t,rfl⟩:=rx;exact SeqAt.EqAt.str_str a t' b t
  |_=>exact absurd (show false=true from fx) Bool.false_ne_true
 |_=>exact absurd (show false=true from fy) Bool.false_ne_true
def eqU(x:V)(u:Value):Bool:=match u with
 |.none=>eqV .non x
 |.bool b=>eqV (.bl b) x
 |.int i _=>eqV (.int i) x
 |.str z _=>eqV (.str z) x
 |_=>false
theorem aQJ{x y:V}{u:Value}(r:RelV y u)(f:flatV y=true):eqU x u=eqV y x:=by
 cases y with
 |non=>cases r;rfl
 |bl b=>cases r;rfl
 |int i=>obtain⟨t,rfl⟩:=r;rfl
 |str z=>obtain⟨t,rfl⟩:=r;rfl
 |_=>exact absurd (show false=true from f) Bool.false_ne_true
theorem IV{x:V}:∀{xs:List V}{us:List Value},Vals xs us->xs.all flatV=true->us.any (eqU x)=xs.any λy=>eqV y x
 |_,_,.nil,_=>rfl
 |y::xs,u::us,.cons r t,f=>by
  rw[List.all_cons,Bool.and_eq_true] at f
  rw[List.any_cons,List.any_cons,aQJ r f.1,IV t f.2]
theorem BQ{A:Around}{s:Shared}{x:V}{v:Value}(rx:RelV x v)(fx:flatV x=true):∀{xs:List V}{us:List Value},Vals xs us->xs.all flatV=true->∀u∈us,SeqAt.EqAt A s u v (eqU x u)
 |_,_,.nil,_=>λu hu=>by cases hu
 |y::xs,u::us,.cons r t,f=>λu' hu=>by
  rw[List.all_cons,Bool.and_eq_true] at f
  rcases List.mem_cons.mp hu with rfl | hu
  ·rw[aQJ r f.1];exact bfW r rx f.1 fx
  ·exact BQ rx fx t f.2 u' hu
def inV(x:V)(xs:List V):Bool:=xs.any λy=>eqV y x
def rIn(K:PySem.W.Frag)(neg:Bool):R2:=λx y H Q=>∃p xs,y = .ref p/\(SqL K H p xs\/SqT K H p xs)/\flatV x=true/\xs.all flatV=true/\Q (.bl (if neg then !inV x xs else inV x xs)) H
theorem wZ:OpR X (compareOp .In) (rIn X.K false):=by
 intro pins s σ H x y v u Q I rx ry h
 obtain⟨p,xs,rfl,hq,fx,fs,q⟩:=h
 cases ry
 rcases hq with hq | hq
 ·obtain⟨its,r,pl,hz⟩:=I.list hq
  refine SeqAt.in_listAt (eqU x) pl.isList (λw hw=>BQ rx fx r fs w (by simpa using hw)) ⟨.bl _,H,I,rfl,?_⟩
  rw[show its.toArray.any (eqU x)=its.any (eqU x) by simp,IV r fs]
  exact q
 ·obtain⟨its,r,pl,hz⟩:=I.tuple hq
  refine SeqAt.in_tupleAt (eqU x) pl (λw hw=>BQ rx fx r fs w (by simpa using hw)) ⟨.bl _,H,I,rfl,?_⟩
  rw[show its.toArray.any (eqU x)=its.any (eqU x) by simp,IV r fs]
  exact q
theorem lW:OpR X (compareOp .NotIn) (rIn X.K true):=by
 intro pins s σ H x y v u Q I rx ry h
 obtain⟨p,xs,rfl,hq,fx,fs,q⟩:=h
 cases ry
 rcases hq with hq | hq
 ·obtain⟨its,r,pl,hz⟩:=I.list hq
  refine SeqAt.notIn_listAt (eqU x) pl.isList (λw hw=>BQ rx fx r fs w (by simpa using hw)) ⟨.bl _,H,I,rfl,?_⟩
  rw[show its.toArray.any (eqU x)=its.any (eqU x) by simp,IV r fs]
  exact q
 ·obtain⟨its,r,pl,hz⟩:=I.tuple hq
  refine SeqAt.notIn_tupleAt (eqU x) pl (λw hw=>BQ rx fx r fs w (by simpa using hw)) ⟨.bl _,H,I,rfl,?_⟩
  rw[show its.toArray.any (eqU x)=its.any (eqU x) by simp,IV r fs]
  exact q
theorem eZ:CallR X (.builtin "len") (λxs H Q=>∃p ys,xs=[.ref p]/\(SqL X.K H p ys\/SqT X.K H p ys)/\Q (.int ys.length) H):=by
 intro pins s σ H xs us Q I r h
 obtain⟨p,ys,rfl,hq,q⟩:=h
 obtain⟨u,rfl,rx⟩:=vals1 r
 cases rx
 have hn:=line63
 rcases hq with hq | hq
 ·obtain⟨its,r',pl,hz⟩:=I.list hq
  have hlen:=r'.length
  exact Calls.call_len_list pl.isList (by simp only[List.size_toArray] <;> omega) ⟨.int ys.length,H,I.tok _,⟨s.toks+1,by rw[List.size_toArray,hlen]⟩,q⟩
 ·obtain⟨its,r',pl,hz⟩:=I.tuple hq
  have hlen:=r'.length
  exact len_tuple pl (by simp only[List.size_toArray] <;> omega) ⟨.int ys.length,H,I.tok _,⟨s.toks+1,by rw[List.size_toArray,hlen]⟩,q⟩
def tyV(K:PySem.W.Frag)(T:String)(x:V)(H:Hp):Prop:=match x with
 |.str _=>T = "str"
 |.int _=>T = "int"
 |.ref p=>(T = "list"/\∃xs,SqL K H p xs)\/(T = "tuple"/\∃o,K.lookup p=some o/\o.cls = .type "tuple"/\o.dict=none)\/
   (T = "dict"/\((∃kvs,H p=some (.dK kvs))\/∃kvs,H p=some (.dT kvs)))\/(T = "set"/\∃S n,H p=some (.set S n))
 |_=>False
theorem bfX{pins:List (Addr×Obj)}{σ:St}{H:Hp}{s:Shared}{T:String}{x:V}{v:Value}(I:Inv X pins σ H s)(r:RelV x v)(ty:tyV X.K T x H) :
  s.TypeIs v T/\∀a,v = .ref a->∃ob,s.heap.get? a=some ob/\ob.dict=none:=by
 cases x with
 |str z=>
  obtain⟨t,rfl⟩:=r
  cases(show T = "str" from ty)
  exact⟨typeIs_str s z t,λ_ e=>nomatch e⟩
 |int i=>
  obtain⟨t,rfl⟩:=r
  cases(show T = "int" from ty)
  exact⟨typeIs_int s i t,λ_ e=>nomatch e⟩
 |ref p=>
  cases r
  rcases ty with ⟨rfl,xs,hq⟩ | ⟨rfl,o,hk,hc,hd⟩ | ⟨rfl,hk⟩ | ⟨rfl,S,n,hk⟩
  ·obtain⟨its,_,pl,_⟩:=I.list hq
   refine⟨pl.isList.typeIs,λa e=>?_⟩
   cases e
   obtain⟨o,n,e,c,hd,_⟩:=pl
   exact⟨o,e,hd⟩
  ·refine⟨⟨o,I.kIn p o hk,hc⟩,λa e=>?_⟩
   cases e
   exact⟨o,I.kIn _ o hk,hd⟩
  ·have z:∃o,s.heap.get? p=some o/\o.ExactDict:=by
    rcases hk with ⟨kvs,hk⟩ | ⟨kvs,hk⟩
    ·obtain⟨_,_,_,_,o,_,_,e,ex,_⟩:=I.hok p _ hk
     exact⟨o,e,ex⟩
    ·obtain⟨_,_,_,_,o,_,_,e,ex,_⟩:=I.hok p _ hk
     exact⟨o,e,ex⟩
   obtain⟨o,e,ex⟩:=z
   refine⟨⟨o,e,ex.1⟩,λa e2=>?_⟩
   cases e2
   exact⟨o,e,ex.2.1⟩
  ·obtain⟨o,_,_,_,e,ex,_⟩:=I.hok p _ hk
   refine⟨⟨o,e,ex.1⟩,λa e2=>?_⟩
   cases e2
   exact⟨o,e,ex.2.1⟩
 |_=>exact False.elim ty
def tBM(K:PySem.W.Frag)(T:String)(r:V->List V->Hp->VK->Prop)(to:TE)(t:TA):TE:=λσ H Q=>to σ H λx H1=>tyV K T x H1/\t σ H1 λxs H2=>r x xs H2 Q
variable{o e:Expr}{es:List Expr}{to:TE}{t:TA}{name:Str}{apos cpos:Pos}{T id:String}{r:V->List V->Hp->VK->Prop}
theorem mW(pa:PlainAttrs T)(slot:Slot T name id)(hty:typeOf (.builtin id)=pure (.type "method_descriptor"))(hm:MtR X id r)(ho:PE X o to)(ha:PA X (e::es) t)
  (hbase:attributeBase o name X.env (eval o X.env)=eval o X.env:=by rfl)
  (hfew:((backTo cpos (starEach (e::es) X.env)).all (λx=>!x.1)&&(backToKw cpos (keywordEach [] X.env)).all (λx=>x.1.isSome)
   && decide ((e::es).length+([]:List Keyword).length+(if([]:List Keyword).isEmpty then 0 else 1)<30))=true:=by rfl)
  (hline:(apos.endLine==cpos.line)=true:=by rfl) (hs:starEach (e::es) X.env=(false,eval e X.env)::starEach es X.env:=by rfl) (hplain:(backTo cpos (starEach es X.env)).any (·.1)=false:=by rfl) :
  PE X (.Call (.Attribute o name apos) (e::es) [] cpos) (tBM X.K T r to t):=by
 intro pins s σ H Q I h
 refine wpAny_Call_method_late hbase hfew hline rfl (thn (ho pins s σ H _ I h) λv s1 ⟨x,H1,I1,r1,ty,q1⟩=>?_)
 obtain⟨h1,h2⟩:=bfX I1 r1 ty
 refine⟨T,id,pa,slot,hty,h1,h2,?_⟩
 have hA:=ha cpos pins s1 σ H1 _ I1 q1
 rw[hs] at hA ⊢
 refine Calls.callWith_builtin (by show(false || (backTo cpos (starEach es X.env)).any (·.1))=false;rw[hplain] <;> rfl) (Calls.evalArgs_plain ?_)
 exact thn hA λus s2 ⟨vs,H2,I2,r2,q2⟩=>hm pins s2 σ H2 x vs v us Q I2 r1 r2 q2
end
end L2
namespace L2
open PySem PySem.Spec PyProof.Rows
def MtM(X:Cx)(id:String)(r:V->List V->Hp->VK->Prop):Prop:=
 ∀(pins:List (Addr×Obj))(s:Shared)(σ:St)(H:Hp)(x:V)(xs:List V)(v:Value)(us:List Value)(Q:VK),Inv X pins σ H s->RelV x v->Vals xs us->r x xs H Q->
  wpAny (model X.prog X.w) X.A (call (.builtin id) (v::us)) (EP X pins σ Q) X.xe s
theorem Vals.one:∀{x:V}{us:List Value},Vals [x] us->∃u,us=[u]/\RelV x u
 |_,_,.cons r .nil=>⟨_,rfl,r⟩
section
variable{X:Cx}{pins:List (Addr×Obj)}{σ:St}{H:Hp}{s:Shared}{l b:Addr}{xs ys zs:List V}
theorem Inv.lset{its its':List Value}{n:Nat}{f:Array Value->Array Value}{t':Nat}(I:Inv X pins σ H s)(hH:H l=some (.lst xs))
  (e:s.heap.get? l=some { cls:=.type "list",data:=.seq its.toArray n }) (hf:f its.toArray=its'.toArray) (hv:Vals ys its') (hz:ys.length<=sizeLine) :
  Inv X pins σ (upd H l (.lst ys)) { s with heap:=s.heap.update l (Obj.mapSeq f),toks:=t' }:=by
 have q:=PySem.IsL.update e f
 rw[hf] at q
 refine I.write (x:=l) (e:=l) (by rw[hH];exact trivial) (.inl rfl) (λb' u hb hu=>(Heap.get?_update_other s.heap (Obj.mapSeq f) (Ne.symm hb)).trans hu) ⟨_,q⟩ ?_
 exact⟨hz,its',_,hv,q⟩
theorem Inv.lnew{its:List Value}{t':Nat}(I:Inv X pins σ H s)(hv:Vals ys its)(hz:ys.length<=sizeLine) :
  Inv X pins σ (upd H s.heap.objs.size (.lst ys)) { s with heap:=s.heap.push { cls:=.type "list",data:=.seq its.toArray },toks:=t' }:=
 I.laid (λ_ _ q=>Heap.get?_push_of_some _ q) (Nat.le_refl _) ⟨hz,its,0,hv,Heap.get?_push_size _ rfl⟩
theorem Inv.fresh(I:Inv X pins σ H s):H s.heap.objs.size=none:=I.hok.fresh (Nat.le_refl _)
theorem Inv.lstM(I:Inv X pins σ H s)(hH:H l=some (.lst xs)):xs.length<=sizeLine/\∃(its:List Value)(n:Nat),Vals xs its/\xs.length=its.length/\s.heap.get? l=some { cls:=.type "list",data:=.seq its.toArray n }:=by
 obtain⟨z,its,n,r,e⟩:=I.hok l _ hH
 exact⟨z,its,n,r,r.length,e⟩
theorem notLongL{n:Nat}(h:n<=sizeLine):Builtin.List.listTooLong n=false:=by
 unfold Builtin.List.listTooLong
 exact decide_eq_false (by omega)
end
section
variable{X:Cx}
def rAppend:V->List V->Hp->VK->Prop:=λx vs H Q=>∃l xs y,x = .ref l/\vs=[y]/\H l=some (.lst xs)/\xs.length<sizeLine/\Q .non (upd H l (.lst (xs++[y])))
theorem mK:MtM X "list.append" rAppend:=by
 intro pins s σ H x vs v us Q I rx rv h
 obtain⟨l,xs,y,rfl,rfl,hH,hz,q⟩:=h
 cases rx
 obtain⟨u,rfl,ru⟩:=rv.one
 obtain⟨z,its,n,r,hl,e⟩:=I.lstM hH
 refine call_meets F.slot_list_append ⟨_,e,rfl⟩ F.entry_list_append (F.args_list_append_2 _ _) (PySem.list_append l its.toArray n u (by rw[List.size_toArray];omega)) ⟨e,?_⟩
 refine⟨.non,_,I.lset (its':=its++[u]) hH e (by simp) (r.append (.cons ru .nil)) ?_,rfl,q⟩
 rw[List.length_append,List.length_singleton]
 omega
def rExtend:V->List V->Hp->VK->Prop:=λx vs H Q=>∃l b xs zs,x = .ref l/\vs=[.ref b]/\H l=some (.lst xs)/\H b=some (.lst zs)/\xs.length+zs.length<=sizeLine/\Q .non (upd H l (.lst (xs++zs)))
theorem xJ:MtM X "list.extend" rExtend:=by
 intro pins s σ H x vs v us Q I rx rv h
 obtain⟨l,b,xs,zs,rfl,rfl,hH,hB,hz,q⟩:=h
 cases rx
 obtain⟨u,rfl,ru⟩:=rv.one
 cases ru
 obtain⟨z,its,n,r,hl,e⟩:=I.lstM hH
 obtain⟨z2,its2,n2,r2,hl2,e2⟩:=I.lstM hB
 have hsz:its.toArray.size+its2.toArray.size<=sizeLine:=by rw[List.size_toArray,List.size_toArray];omega
 have hlong:¬(!its.toArray.isEmpty&&Builtin.List.listTooLong (its.toArray.size+its2.toArray.size))=true:=by
  rw[notLongL hsz,Bool.and_false]
  exact Bool.false_ne_true
 refine call_meets F.slot_list_extend ⟨_,e,rfl⟩ F.entry_list_extend (F.args_list_extend_2 _ _)
  (AutoSeq1.list_extend_list_list_0 l its.toArray n b its2.toArray n2 hlong (by rw[List.size_toArray];omega) (by omega)) ⟨e,e2,?_⟩
 refine⟨.non,_,I.lset (its':=its++its2) hH e (by simp) (r.append r2) ?_,rfl,q⟩
 rw[List.length_append]
 omega
def rCat:R2:=λx y H Q=>∃l b xs zs,x = .ref l/\y = .ref b/\H l=some (.lst xs)/\H b=some (.lst zs)/\xs.length+zs.length<=sizeLine/\∀p,H p=none->Q (.ref p) (upd H p (.lst (xs++zs)))
theorem QK:OpR X (binaryOp .Add) rCat:=by
 intro pins s σ H x y v u Q I rx ry h
 obtain⟨l,b,xs,zs,rfl,rfl,hH,hB,hz,q⟩:=h
 cases rx
 cases ry
 obtain⟨z,its,n,r,hl,e⟩:=I.lstM hH
 obtain⟨z2,its2,n2,r2,hl2,e2⟩:=I.lstM hB
 refine PySem.P.add_list e e2 ?_ (by rw[List.size_toArray,List.size_toArray];omega)
 have ea:its.toArray++its2.toArray=(its++its2).toArray:=by simp
 rw[ea]
 exact⟨.ref _,_,I.lnew (t':=s.toks) (r.append r2) (by rw[List.length_append];omega),rfl,q _ I.fresh⟩
end
section
variable{prog:Program}{w:World}{A:Around}{E:Value->Shared->Prop}{s:Shared}
set_option maxRecDepth 100000 in
end
section
variable{X:Cx}
end
end L2
namespace L2
open PySem PySem.Spec PyProof.Rows
theorem Vals.ints:∀{ns:List Int}{us:List Value},Vals (ns.map V.int) us->IntsAre us ns
 |[],us,h=>by
  rw[List.map_nil] at h
  cases h
  exact IntsAre.nil
 |n::ns,us,h=>by
  rw[List.map_cons] at h
  cases h with
  |cons r t=>
   obtain⟨k,rfl⟩:=r
   exact IntsAre.cons n k (Vals.ints t)
theorem QQ:∀{us:List Value}{ns:List Int},IntsAre us ns->Vals (ns.map V.int) us
 |_,_,.nil=>by rw[List.map_nil];exact Paired.nil
 |_,_,.cons n t h=>by rw[List.map_cons];exact Paired.cons (show RelV (V.int n) (Value.int n t) from⟨t,rfl⟩) (QQ h)
theorem Vals.bls:∀{bs:List Bool}{us:List Value},Vals (bs.map V.bl) us->us=bs.map Value.bool
 |[],us,h=>by
  rw[List.map_nil] at h
  cases h
  rfl
 |b::bs,us,h=>by
  rw[List.map_cons] at h
  cases h with
  |cons r t=>
   cases r
   rw[Vals.bls t,List.map_cons]
theorem Vals.ref1{a:Addr}{us:List Value}(r:Vals [V.ref a] us):us=[Value.ref a]:=by
 cases r with
 |cons r t=>
  cases t
  cases r
  rfl
section
variable{prog:Program}{w:World}{A:Around}{E:Value->Shared->Prop}{s:Shared}{l:Addr}{its:List Value}{ns:List Int}{Q:Value->Shared->Prop}
end
section
variable{X:Cx}
end
section
variable{X:Cx}
end
section
variable{X:Cx}
end
theorem auJ{prog:Program}{w:World}{A:Around}{E:Value->Shared->Prop}{s:Shared}{l:Addr}{items:Array Value}{Q:Value->Shared->Prop}(hl:s.heap.IsList l items)
  (h:∀s₂:Shared,s₂={ s with heap:=s.heap.push { cls:=.type "list_iterator",data:=.fields #[.ref l,.int 0 0] } }->
   (s₂.heap.IsListIter s.heap.objs.size l 0/\s₂.heap.IsList l items)->l≠s.heap.objs.size->Q (.ref s.heap.objs.size) s₂):wpAny (model prog w) A (pyIter (.ref l)) Q E s:=by
 have hlt:l<s.heap.objs.size:=by obtain⟨_,e,_⟩:=hl;exact Heap.lt_size e
 exact wpAny_pyIter_list hl (h _ rfl ⟨⟨_,Heap.get?_push_size _ rfl,rfl,rfl⟩,hl.push _⟩ (Nat.ne_of_lt hlt))
theorem WZ{prog:Program}{w:World}{A:Around}{bs:List Bool}{its:List Value}(e:its=bs.map Value.bool) :
  TruthOf prog w A (λi v=>its.toArray[i]? = some v) (λi=>bs.getD i false):=λi v s Q E hv hq=>by
 have hv':its[i]? = some v:=by simpa using hv
 rw[e,List.getElem?_map] at hv'
 obtain⟨b,hb,rfl⟩:=Option.map_eq_some_iff.mp hv'
 have hg:bs.getD i false=b:=by rw[List.getD_eq_getElem?_getD,hb] <;> rfl
 have hq':Q (bs.getD i false) s:=hq
 rw[hg] at hq'
 exact wpAny_truthy_bool hq'
theorem amU:∀bs:List Bool,(List.range bs.length).any (λi=>bs.getD i false)=bs.any id
 |[]=>rfl
 |b::bs=>by
  rw[List.length_cons,List.range_succ_eq_map,List.any_cons,List.any_map,List.any_cons,<-amU bs]
  all_goals rfl
theorem amV:∀bs:List Bool,(List.range bs.length).all (λi=>bs.getD i false)=bs.all id
 |[]=>rfl
 |b::bs=>by
  rw[List.length_cons,List.range_succ_eq_map,List.all_cons,List.all_map,List.all_cons,<-amV bs]
  all_goals rfl
section
variable{X:Cx}
def rAny(K:PySem.W.Frag):List V->Hp->VK->Prop:=λvs H Q=>∃(a:Addr)(bs:List Bool),vs=[V.ref a]/\SqL K H a (bs.map V.bl)/\Q (.bl (bs.any id)) H
def rAll(K:PySem.W.Frag):List V->Hp->VK->Prop:=λvs H Q=>∃(a:Addr)(bs:List Bool),vs=[V.ref a]/\SqL K H a (bs.map V.bl)/\Q (.bl (bs.all id)) H
theorem bfY(hc:X.calm=true):CallR X (.builtin "any") (rAny X.K):=by
 intro pins s σ H vs us Q I r h
 obtain⟨a,bs,rfl,hs,q⟩:=h
 obtain⟨its,rv,hl,_⟩:=I.list hs
 rw[Vals.ref1 r]
 have hb:=rv.bls
 refine call_any_walk (auJ hl.isList λs₂ e2 st hne=>?_)
 subst e2
 refine⟨_,_,_,_,_,_,_,rfl,Walks.list (A:=X.A.in1) (I.ok.hd hc) _ a hne its.toArray,st,WZ hb,λh' tk hk=>?_⟩
 refine⟨.bl _,H,I.kept λb o eo=>hk b o (λhmem=>?_) (Heap.get?_push_of_some _ eo),?_,q⟩
 ·rcases List.mem_cons.mp hmem with e1 | hmem
  ·exact absurd (e1▸Heap.lt_size eo) (Nat.lt_irrefl _)
  ·cases hmem
 ·show Value.bool _=Value.bool _
  rw[<-amU,hb,List.size_toArray,List.length_map]
theorem adV(hc:X.calm=true):CallR X (.builtin "all") (rAll X.K):=by
 intro pins s σ H vs us Q I r h
 obtain⟨a,bs,rfl,hs,q⟩:=h
 obtain⟨its,rv,hl,_⟩:=I.list hs
 rw[Vals.ref1 r]
 have hb:=rv.bls
 refine call_all_walk (auJ hl.isList λs₂ e2 st hne=>?_)
 subst e2
 refine⟨_,_,_,_,_,_,_,rfl,Walks.list (A:=X.A.in1) (I.ok.hd hc) _ a hne its.toArray,st,WZ hb,λh' tk hk=>?_⟩
 refine⟨.bl _,H,I.kept λb o eo=>hk b o (λhmem=>?_) (Heap.get?_push_of_some _ eo),?_,q⟩
 ·rcases List.mem_cons.mp hmem with e1 | hmem
  ·exact absurd (e1▸Heap.lt_size eo) (Nat.lt_irrefl _)
  ·cases hmem
 ·show Value.bool _=Value.bool _
  rw[<-amV,hb,List.size_toArray,List.length_map]
end
mutual
inductive Dp(K:PySem.W.Frag)(H:Hp):V->PyData->Prop
 |non:Dp K H .non .none
 |bl (b:Bool):Dp K H (.bl b) (.bool b)
 |int (i:Int):Dp K H (.int i) (.int i)
 |str (x:Str):Dp K H (.str x) (.str x)
 |lst {a:Addr} {xs:List V} {ds:List PyData}:SqL K H a xs->DpAll K H xs ds->Dp K H (.ref a) (.list ds)
 |tup {a:Addr} {xs:List V} {ds:List PyData}:SqT K H a xs->DpAll K H xs ds->Dp K H (.ref a) (.tuple ds)
inductive DpAll(K:PySem.W.Frag)(H:Hp):List V->List PyData->Prop
 |nil:DpAll K H [] []
 |cons {v:V} {vs:List V} {d:PyData} {ds:List PyData}:Dp K H v d->DpAll K H vs ds->DpAll K H (v::vs) (d::ds)
end
section
variable{X:Cx}{pins:List (Addr×Obj)}{σ:St}{H:Hp}{s:Shared}
mutual
theorem Dp.reads(I:Inv X pins σ H s):∀(d:PyData)(v:V)(u:Value),Dp X.K H v d->RelV v u->∃as,Reads s.heap u d as
 |.none,_,_,h,r=>by
  cases h
  cases r
  exact⟨_,Reads.none⟩
 |.bool b,_,_,h,r=>by
  cases h
  cases r
  exact⟨_,Reads.bool b⟩
 |.int i,_,_,h,r=>by
  cases h
  obtain⟨t,rfl⟩:=r
  exact⟨_,Reads.int i t⟩
 |.str x,_,_,h,r=>by
  cases h
  obtain⟨t,rfl⟩:=r
  exact⟨_,Reads.str x t⟩
 |.list ds,_,_,h,r=>by
  cases h with
  |lst hs ha=>
   cases r
   obtain⟨its,rv,⟨o,n,ho,hc,_,hd⟩,_⟩:=I.list hs
   obtain⟨as,hr⟩:=Dp.readsAll I ds _ its ha rv
   exact⟨_,Reads.list ho hc hd hr⟩
 |.tuple ds,_,_,h,r=>by
  cases h with
  |tup hs ha=>
   cases r
   obtain⟨its,rv,⟨o,ho,hc,n,hd⟩,_⟩:=I.tuple hs
   obtain⟨as,hr⟩:=Dp.readsAll I ds _ its ha rv
   exact⟨_,Reads.tuple ho hc hd hr⟩
 |.dict _,_,_,h,_=>by cases h
theorem Dp.readsAll(I:Inv X pins σ H s):∀(ds:List PyData)(vs:List V)(us:List Value),DpAll X.K H vs ds->Vals vs us->∃as,ReadsAll s.heap us ds as
 |[],_,_,h,r=>by
  cases h
  cases r
  exact⟨_,ReadsAll.nil⟩
 |d::ds,_,_,h,r=>by
  cases h with
  |cons h1 h2=>
   cases r with
   |cons r1 r2=>
    obtain⟨as,q1⟩:=Dp.reads I d _ _ h1 r1
    obtain⟨bs,q2⟩:=Dp.readsAll I ds _ _ h2 r2
    exact⟨_,ReadsAll.cons q1 q2⟩
end
end
section
variable{X:Cx}
def rEqD(K:PySem.W.Frag):R2:=λx y H Q=>∃d e,Dp K H x d/\Dp K H y e/\SeqAt.shaped d=true/\SeqAt.shaped e=true/\Q (.bl (PyData.eqv d e)) H
theorem auK(hu:X.A.units+64<cLine):OpR X (compareOp .Eq) (rEqD X.K):=by
 intro pins s σ H x y v u Q I rx ry h
 obtain⟨d,e,hd,he,sd,se,q⟩:=h
 obtain⟨as,r1⟩:=Dp.reads I d x v hd rx
 obtain⟨bs,r2⟩:=Dp.reads I e y u he ry
 exact SeqAt.compareEq_shaped r1 r2 sd se hu ⟨.bl _,H,I,rfl,q⟩
end
end L2
namespace L2
open PySem PySem.Spec PyProof.Rows
abbrev CellAt(h:Heap)(c:Addr)(v:Option Value):Prop:=h.IsCell c v
def relS(scope sc:Scope):Scope:=
 { scope with names:=scope.names.map λ(n,k)=>if(k == .free&&sc.kind == .function&&sc.names.lookup n==some .cell) then(n,.cell) else(n,k) }
def cloFrom(cells:List (Str×Addr)):List (Str×NameKind)->List (Str×Addr)->List (Str×Addr)
 |[],acc=>acc
 |(n,k)::r,acc=>if k == .free then cloFrom cells r ((n,(cells.lookup n).getD 0)::acc) else cloFrom cells r acc
theorem QU(env:Env)(f:Str×NameKind->List (Str×Addr)->Sem (ForInStep (List (Str×Addr))))
  (hf:∀n k c,f (n,k) c=if k == .free then(do let a <-cellOf env n;pure (.yield ((n,a)::c))) else pure (.yield c)) :
  ∀(names:List (Str×NameKind))(acc:List (Str×Addr)),(∀y∈names,y.2 = .free->∃c,env.cells.lookup y.1=some c)->forIn names acc f=pure (cloFrom env.cells names acc)
 |[],acc,_=>by rw[List.forIn_nil];rfl
 |(n,k)::r,acc,h=>by
  rw[List.forIn_cons,hf]
  have ih:=λacc=>QU env f hf r acc λy hy=>h y (List.mem_cons_of_mem _ hy)
  unfold cloFrom
  by_cases hk:(k==NameKind.free)=true
  ·rw[if_pos hk,if_pos hk]
   obtain⟨c,hc⟩:=h (n,k) List.mem_cons_self (by simpa using hk)
   have e:cellOf env n=pure c:=by unfold cellOf;rw[hc]
   rw[e]
   have e2:(env.cells.lookup n).getD 0=c:=by rw[hc];rfl
   rw[e2]
   exact ih _
  ·rw[if_neg hk,if_neg hk]
   exact ih _
theorem aJK{scope:Scope}{env:Env}(h:∀y∈scope.names,y.2 = .free->∃c,env.cells.lookup y.1=some c):closureFor scope env=pure (cloFrom env.cells scope.names []):=by
 simp only[closureFor]
 rw[QU env _ (λn k c=>rfl) scope.names [] h]
 rfl
theorem LJ{α:Type}:∀{l:List (Str×α)}{n:Str}{c:α},(n,c)∈l->∃c',l.lookup n=some c'
 |(k,v)::r,n,c,h=>by
  rw[List.lookup_cons]
  cases hb:n==k with
  |true=>exact⟨_,rfl⟩
  |false=>
   rcases List.mem_cons.mp h with e | h
   ·cases e;simp at hb
   ·exact LJ h
theorem wK{cells:List (Str×Addr)}:∀{names:List (Str×NameKind)}{acc:List (Str×Addr)}{n:Str}{c:Addr},(n,c)∈cloFrom cells names acc->(n,c)∈acc\/((n,.free)∈names/\c=(cells.lookup n).getD 0)
 |[],_,_,_,h=>.inl h
 |(m,k)::r,acc,n,c,h=>by
  unfold cloFrom at h
  split at h
  ·rename_i hk
   have hk:k = .free:=by simpa using hk
   rcases wK h with h | ⟨h1,h2⟩
   ·rcases List.mem_cons.mp h with e | h
    ·cases e;exact .inr ⟨hk▸List.mem_cons_self,rfl⟩
    ·exact .inl h
   ·exact .inr ⟨List.mem_cons_of_mem _ h1,h2⟩
  ·rcases wK h with h | ⟨h1,h2⟩
   ·exact .inl h
   ·exact .inr ⟨List.mem_cons_of_mem _ h1,h2⟩
theorem FX{cells:List (Str×Addr)}:∀{names:List (Str×NameKind)}{acc:List (Str×Addr)}{p:Str×Addr},p∈acc->p∈cloFrom cells names acc
 |[],_,_,h=>h
 |(m,k)::r,acc,p,h=>by
  unfold cloFrom
  split
  ·exact FX (List.mem_cons_of_mem _ h)
  ·exact FX h
theorem FY{cells:List (Str×Addr)}:∀{names:List (Str×NameKind)}{acc:List (Str×Addr)}{n:Str},(n,.free)∈names->(n,(cells.lookup n).getD 0)∈cloFrom cells names acc
 |(m,k)::r,acc,n,h=>by
  unfold cloFrom
  rcases List.mem_cons.mp h with e | h
  ·cases e
   exact FX List.mem_cons_self
  ·split
   ·exact FY h
   ·exact FY h
theorem xK:∀{names:List (Str×NameKind)}{h:Heap}{acc:List (Str×Addr)}{x:Str}{c:Addr},(x,c)∈cellsFrom h.objs.size names acc->
  (x,c)∈acc\/((x,.cell)∈names/\h.objs.size<=c/\CellAt (pushCells h names) c none)
 |[],_,_,_,_,h=>.inl h
 |(n,k)::r,h,acc,x,c,hm=>by
  unfold cellsFrom at hm
  unfold pushCells
  split at hm
  ·rename_i hk
   rw[if_pos hk]
   have hk:k = .cell:=by simpa using hk
   rw[<-Heap.size_push h { cls:=.type "cell",data:=.cell none }] at hm
   rcases xK hm with hm | ⟨h1,h2,h3⟩
   ·rcases List.mem_cons.mp hm with e | hm
    ·cases e
     exact .inr ⟨hk▸List.mem_cons_self,Nat.le_refl _,_,pushCells_keeps r _ _ _ (Heap.get?_push_size _ rfl),rfl⟩
    ·exact .inl hm
   ·rw[Heap.size_push] at h2
    exact .inr ⟨List.mem_cons_of_mem _ h1,Nat.le_of_succ_le h2,h3⟩
  ·rename_i hk
   rw[if_neg hk]
   rcases xK hm with hm | ⟨h1,h2,h3⟩
   ·exact .inl hm
   ·exact .inr ⟨List.mem_cons_of_mem _ h1,h2,h3⟩
theorem EQ:∀{names:List (Str×NameKind)}{n:Nat}{acc:List (Str×Addr)}{p:Str×Addr},p∈acc->p∈cellsFrom n names acc
 |[],_,_,_,h=>h
 |(m,k)::r,n,acc,p,h=>by
  unfold cellsFrom
  split
  ·exact EQ (List.mem_cons_of_mem _ h)
  ·exact EQ h
theorem QV:∀{names:List (Str×NameKind)}{n:Nat}{acc:List (Str×Addr)}{x:Str},(x,.cell)∈names->∃c,(x,c)∈cellsFrom n names acc
 |(m,k)::r,n,acc,x,h=>by
  unfold cellsFrom
  rcases List.mem_cons.mp h with e | h
  ·cases e
   exact⟨n,EQ List.mem_cons_self⟩
  ·split
   ·exact QV h
   ·exact QV h
theorem QW:∀{names:List (Str×NameKind)}{h:Heap}{acc:List (Str×Addr)}{x y:Str}{c:Addr},(∀p∈acc,p.2<h.objs.size)->(∀x y c,(x,c)∈acc->(y,c)∈acc->x=y)->
  (x,c)∈cellsFrom h.objs.size names acc->(y,c)∈cellsFrom h.objs.size names acc->x=y
 |[],_,_,_,_,_,_,hi,h1,h2=>hi _ _ _ h1 h2
 |(n,k)::r,h,acc,x,y,c,hl,hi,h1,h2=>by
  unfold cellsFrom at h1 h2
  split at h1
  ·rename_i hk
   rw[if_pos hk] at h2
   rw[<-Heap.size_push h { cls:=.type "cell",data:=.cell none }] at h1 h2
   refine QW (h:=h.push _) (λp hp=>?_) (λx y c a b=>?_) h1 h2
   ·rw[Heap.size_push]
    rcases List.mem_cons.mp hp with rfl | hp
    ·exact Nat.lt_succ_self _
    ·exact Nat.lt_succ_of_lt (hl p hp)
   ·rcases List.mem_cons.mp a with e | a <;> rcases List.mem_cons.mp b with e' | b
    ·cases e;cases e';rfl
    ·cases e;exact absurd (hl _ b) (Nat.lt_irrefl _)
    ·cases e';exact absurd (hl _ a) (Nat.lt_irrefl _)
    ·exact hi _ _ _ a b
  ·rename_i hk
   rw[if_neg hk] at h2
   exact QW hl hi h1 h2
theorem aBU{M:Model}{A:Around}{E:Value->Shared->Prop}{s:Shared}{scope:Scope}{globals:Addr}{closure:List (Str×Addr)}{qual:Str}{func:Option Addr}{code:Value}{around:Env}{builtins:Addr}{Q:Env->Shared->Prop}
  (h:Q (newEnv scope s.heap.objs.size globals (cellsFrom (s.heap.objs.size+1) scope.names closure) qual func code (some around) builtins)
   { s with heap:=pushCells (s.heap.push { cls:=.type "dict",data:=.dict #[] }) scope.names }) :
  wpAny M A (newFunctionEnv scope globals closure [] qual func code (some around) builtins) Q E s:=by
 simp only[newFunctionEnv,Option.isSome_some,if_true]
 refine wpAny_bind (wpAny_alloc ?_)
 refine wpAny_bind (wpAny_layCells _ (λn k c=>rfl) scope.names closure _ _ ?_)
 rw[show({ s with heap:=s.heap.push { cls:=.type "dict",data:=.dict #[] } }:Shared).heap.objs.size=s.heap.objs.size+1 from Heap.size_push ..]
 rw[List.forIn_nil]
 exact wpAny_bind (wpAny_pure (wpAny_pure h))
theorem FZ{sc:Scope}:∀{names:List (Str×NameKind)}{x:Str}{k:NameKind},
  (names.map λ(n,k)=>if(k==NameKind.free&&sc.kind == .function&&sc.names.lookup n==some .cell) then(n,NameKind.cell) else(n,k)).lookup x=some k->
  ∃k',names.lookup x=some k'/\(k=k'\/(k' = .free/\k = .cell))
 |[],_,_,h=>by simp at h
 |(n,k₀)::r,x,k,h=>by
  have ih:=@FZ sc r x k
  have h':List.lookup x ((if(k₀==NameKind.free&&sc.kind == .function&&sc.names.lookup n==some .cell)=true then(n,NameKind.cell) else(n,k₀))::(r.map _))=some k:=h
  cases hx:x==n with
  |true=>
   simp only[List.lookup_cons,hx]
   by_cases hc:(k₀==NameKind.free&&sc.kind == .function&&sc.names.lookup n==some .cell)=true
   ·rw[if_pos hc] at h'
    simp only[List.lookup_cons,hx] at h'
    cases h'
    simp only[Bool.and_eq_true,beq_iff_eq] at hc
    exact⟨k₀,rfl,.inr ⟨hc.1.1,rfl⟩⟩
   ·rw[if_neg hc] at h'
    simp only[List.lookup_cons,hx] at h'
    cases h'
    exact⟨_,rfl,.inl rfl⟩
  |false=>
   simp only[List.lookup_cons,hx]
   by_cases hc:(k₀==NameKind.free&&sc.kind == .function&&sc.names.lookup n==some .cell)=true
   ·rw[if_pos hc] at h'
    simp only[List.lookup_cons,hx] at h'
    exact ih h'
   ·rw[if_neg hc] at h'
    simp only[List.lookup_cons,hx] at h'
    exact ih h'
structure BlkOk(N:List Str)(sc scope:Scope)(own:List (Str×Nat)):Prop where
 kind:scope.kind = .function
 uniq:∀y∈scope.names,scope.names.lookup y.1=some y.2
 ix:∀p∈own,N[p.2]? = some p.1
 free:∀y∈scope.names,y.2 = .free->sc.names.lookup y.1=some .cell\/sc.names.lookup y.1=some .free
 own:∀y∈scope.names,y.2 = .local\/y.2 = .cell->y.1∈own.map (·.1)\/y.1∉N
def wipe(σ:St):List Nat->St
 |[]=>σ
 |v::vs=>(wipe σ vs).set v none
theorem GJ(σ:St):∀vs:List Nat,(wipe σ vs).length=σ.length
 |[]=>rfl
 |v::vs=>by unfold wipe;rw[List.length_set,GJ σ vs]
theorem QX{σ:St}{i:Nat}{x:V}:∀{vs:List Nat},(wipe σ vs)[i]? = some (some x)->σ[i]? = some (some x)/\i∉vs
 |[],h=>⟨h,by simp⟩
 |v::vs,h=>by
  unfold wipe at h
  by_cases hi:v=i
  ·subst hi
   by_cases hv:v<(wipe σ vs).length
   ·rw[List.getElem?_set_self hv] at h;cases h
   ·rw[List.getElem?_eq_none (by simpa using hv)] at h;cases h
  ·rw[List.getElem?_set_ne hi] at h
   obtain⟨h1,h2⟩:=QX h
   exact⟨h1,by simp only[List.mem_cons,not_or];exact⟨λe=>hi e.symm,h2⟩⟩
abbrev Cx.blk(X:Cx)(s:Shared)(H:Hp)(scope:Scope)(cenv:Env)(fp:List Addr):Cx:={ X with s_0:=s,H_0:=H,env:=cenv,outer:=X.stack,ex:=fp,fn:=λx=>scope.names.lookup x==some .cell,pn:=[],xe:=λ_ _=>False }
section
variable{X:Cx}{pins:List (Addr×Obj)}{σ:St}{H:Hp}{s:Shared}
theorem aBV{scope:Scope}{own:List (Str×Nat)}{fp:List Addr}(I:Inv X pins σ H s)(ok:BlkOk X.N X.env.scope scope own)(hN:X.N.Nodup)(hfp:∀b∈fp,FpOk X pins H b/\b<s.heap.objs.size) :
  Inv (X.blk s H scope (compEnvC scope (cellsFrom (s.heap.objs.size+1) scope.names (cloFrom X.env.cells scope.names [])) s.heap.objs.size X.env) fp) [] (wipe σ (own.map (·.2))) H { s with heap:=pushCells (s.heap.push { cls:=.type "dict",data:=.dict #[] }) scope.names }:=by
 have hfree:∀y∈scope.names,y.2 = .free->∃c,X.env.cells.lookup y.1=some c:=λy hy e=>by
  rcases ok.free y hy e with k | k
  ·exact I.ok.has _ (.inl k)
  ·exact I.ok.has _ (.inr k)
 generalize hcenv:compEnvC scope (cellsFrom (s.heap.objs.size+1) scope.names (cloFrom X.env.cells scope.names [])) s.heap.objs.size X.env=cenv
 have kp:∀b o,s.heap.get? b=some o->(pushCells (s.heap.push { cls:=.type "dict",data:=.dict #[] }) scope.names).get? b=some o:=λb o e=>pushCells_keeps _ _ _ _ (Heap.get?_push_of_some _ e)
 have hL:cenv.locals=s.heap.objs.size:=by rw[<-hcenv];rfl
 have hcl:cenv.cells=cellsFrom (s.heap.objs.size+1) scope.names (cloFrom X.env.cells scope.names []):=by rw[<-hcenv];rfl
 have hsc:cenv.scope=relS scope X.env.scope:=by rw[<-hcenv];rfl
 rw[<-Heap.size_push s.heap { cls:=.type "dict",data:=.dict #[] }] at hcl
 have cm:∀{y c},(y,c)∈cloFrom X.env.cells scope.names []->X.env.cells.lookup y=some c/\c<s.heap.objs.size:=λ{y c} hm=>by
  rcases wK hm with hm | ⟨h1,rfl⟩
  ·cases hm
  ·obtain⟨c,hc⟩:=hfree _ h1 rfl
   rw[hc]
   obtain⟨w,z⟩:=I.cell _ _ hc
   exact⟨rfl,z.lt⟩
 have mem:∀{y c},cenv.cells.lookup y=some c->(X.env.cells.lookup y=some c/\c<s.heap.objs.size)\/(s.heap.objs.size+1<=c/\CellAt (pushCells (s.heap.push { cls:=.type "dict",data:=.dict #[] }) scope.names) c none):=λ{y c} e=>by
  rw[hcl] at e
  rcases xK (PySem.mem_of_lookup e) with hm | ⟨_,h2,h3⟩
  ·exact .inl (cm hm)
  ·rw[Heap.size_push] at h2;exact .inr ⟨h2,h3⟩
 have look:∀{y},scope.names.lookup y=some .free->∃c,cenv.cells.lookup y=some c/\X.env.cells.lookup y=some c:=λ{y} hl=>by
  have hy:(y,NameKind.free)∈scope.names:=PySem.mem_of_lookup hl
  obtain⟨c',e'⟩:=LJ (EQ (names:=scope.names) (n:=(s.heap.push { cls:=.type "dict",data:=.dict #[] }).objs.size) (FY (cells:=X.env.cells) (acc:=[]) hy))
  rw[<-hcl] at e'
  refine⟨c',e',?_⟩
  rw[hcl] at e'
  rcases xK (PySem.mem_of_lookup e') with hm | ⟨h1,_,_⟩
  ·exact(cm hm).1
  ·have:=ok.uniq _ h1
   rw[hl] at this;cases this
 have okB:(X.blk s H scope cenv fp).Ok:=by
  refine⟨I.ok.mod,by show cenv.scope.kind=_;rw[hsc];exact ok.kind,by show cenv.globals=_;rw[<-hcenv];exact I.ok.glob,by show cenv.builtins=_;rw[<-hcenv];exact I.ok.blt,by show s.heap.objs.size<=cenv.locals;rw[hL];exact Nat.le_refl _,
   λy z c e1 e2=>?_,λy hy=>?_,λy c z e=>?_,I.ok.hd,I.ok.frames,.inl rfl,λb hb=>⟨?_,λy c e z=>?_⟩,I.bs,Nat.le_trans I.ok.bsz I.sz,λb o e hb=>?_,λb hb z=>?_,I.stack,I.stkFree⟩
  ·have e1:cenv.cells.lookup y=some c:=e1
   have e2:cenv.cells.lookup z=some c:=e2
   rw[hcl] at e1 e2
   refine QW (λp hp=>?_) (λy z c a b=>I.ok.inj y z c (cm a).1 (cm b).1) (PySem.mem_of_lookup e1) (PySem.mem_of_lookup e2)
   rw[Heap.size_push]
   exact Nat.lt_succ_of_lt (cm (y:=p.1) (c:=p.2) hp).2
  ·show ∃c,cenv.cells.lookup y=some c
   have key:∀k,cenv.kindOf y=some k->(k = .cell\/k = .free)->∃c,cenv.cells.lookup y=some c:=λk hk hk'=>by
    unfold Env.kindOf at hk
    rw[hsc] at hk
    obtain⟨k',e,r⟩:=FZ hk
    have:k' = .cell\/k' = .free:=by
     rcases r with rfl | ⟨rfl,_⟩
     ·exact hk'
     ·exact .inr rfl
    rcases this with rfl | rfl
    ·obtain⟨c,hm⟩:=QV (n:=(s.heap.push { cls:=.type "dict",data:=.dict #[] }).objs.size) (acc:=cloFrom X.env.cells scope.names []) (PySem.mem_of_lookup e)
     obtain⟨c',e'⟩:=LJ hm
     exact⟨c',by rw[hcl];exact e'⟩
    ·obtain⟨c,h1,_⟩:=look e
     exact⟨c,h1⟩
   rcases hy with hy | hy
   ·exact key _ hy (.inl rfl)
   ·exact key _ hy (.inr rfl)
  ·have z:(scope.names.lookup y==some NameKind.cell)=true:=z
   have z:scope.names.lookup y=some .cell:=by simpa using z
   have e:cenv.cells.lookup y=some c:=e
   rw[hcl] at e
   rcases xK (PySem.mem_of_lookup e) with hm | ⟨_,h2,_⟩
   ·rcases wK hm with hm | ⟨h1,_⟩
    ·cases hm
    ·have q:=ok.uniq _ h1
     rw[z] at q;cases q
   ·rw[Heap.size_push] at h2
    exact Nat.le_of_succ_le h2
  ·show b≠cenv.locals
   rw[hL];exact Nat.ne_of_lt (hfp b hb).2
  ·have e:cenv.cells.lookup y=some c:=e
   rcases mem e with ⟨h1,_⟩ | ⟨h1,_⟩
   ·exact(hfp b hb).1.2.2.2.2.1 y c h1 z
   ·have h2:s.heap.objs.size+1<=b:=by rw[<-z];exact h1
    exact absurd (Nat.lt_of_lt_of_le (hfp b hb).2 (Nat.le_of_succ_le h2)) (Nat.lt_irrefl _)
  ·rcases(hfp b hb).1.2.2.2.1 with z | z
   ·exact I.ok.noex b o e z
   ·exact absurd (Nat.lt_of_lt_of_le (Heap.lt_size e) (Nat.le_trans I.ok.bsz z)) (Nat.lt_irrefl _)
  ·rcases List.mem_cons.mp (I.stkSub b z) with z | z
   ·exact(hfp b hb).1.2.1 z
   ·exact(hfp b hb).1.2.2.1 z
 refine⟨okB,rfl,I.bare,Un.kept kp,⟨λ_=>none,?_,λi y av e1 e2 e3=>?_⟩,λy c e=>?_,?_,λy c e=>?_,λp hp=>?_,I.hok.kept kp,by rw[GJ];exact I.len⟩
 ·show Heap.Ns _ cenv.locals _
  rw[hL]
  exact Heap.Ns.keeps (Heap.Ns.new ..) λb o e=>pushCells_keeps _ _ _ _ e
 ·obtain⟨e2,hne⟩:=QX e2
  have hfr:scope.names.lookup y=some .free/\(cenv.kindOf y=some .cell\/cenv.kindOf y=some .free):=by
   have key:∀k,cenv.scope.names.lookup y=some k->k = .local\/k = .cell\/k = .free->scope.names.lookup y=some .free/\(cenv.kindOf y=some .cell\/cenv.kindOf y=some .free):=λk hk hk'=>by
    have hk0:=hk
    rw[hsc] at hk
    obtain⟨k',e,r⟩:=FZ hk
    have no:¬(k' = .local\/k' = .cell):=λhh=>by
     rcases ok.own _ (PySem.mem_of_lookup e) hh with e' | e'
     ·obtain⟨p,hp,hpy⟩:=List.mem_map.mp e'
      have e3:=ok.ix p hp
      have:p.1=y:=hpy
      rw[this] at e3
      exact hne (List.mem_map.mpr ⟨p,hp,ZW hN e3 e1⟩)
     ·exact e' (List.mem_of_getElem? e1)
    rcases r with rfl | ⟨rfl,rfl⟩
    ·rcases hk' with rfl | rfl | rfl
     ·exact absurd (.inl rfl) no
     ·exact absurd (.inr rfl) no
     ·exact⟨e,.inr hk0⟩
    ·exact⟨e,.inl hk0⟩
   have e3:Vis cenv.scope y:=e3
   rcases e3 with e3 | e3 | e3
   ·exact key _ e3 (.inl rfl)
   ·exact key _ e3 (.inr (.inl rfl))
   ·exact key _ e3 (.inr (.inr rfl))
  obtain⟨m,hn,hl⟩:=I.loc
  have hvis:Vis X.env.scope y:=(ok.free _ (PySem.mem_of_lookup hfr.1) rfl).elim (λk=>.inr (.inl k)) (λk=>.inr (.inr k))
  obtain⟨w,r,q⟩:=hl i y av e1 e2 hvis
  refine⟨w,r,.inr ⟨hfr.2,?_⟩⟩
  obtain⟨c,h1,h2⟩:=look hfr.1
  rcases q with ⟨k,_⟩ | ⟨_,c',e',z⟩
  ·have k:X.env.scope.names.lookup y=some .local:=k
   rcases ok.free _ (PySem.mem_of_lookup hfr.1) rfl with k' | k' <;> rw[show X.env.scope.names.lookup y=_ from k'] at k <;> cases k
  ·rw[h2] at e';cases e'
   exact⟨c,h1,z.keeps kp⟩
 ·have e:cenv.cells.lookup y=some c:=e
  rcases mem e with ⟨h1,_⟩ | ⟨_,z⟩
  ·obtain⟨w,z⟩:=I.cell y c h1
   exact⟨w,z.keeps kp⟩
  ·exact⟨_,z⟩
 ·show H cenv.locals=none
  rw[hL];exact I.hok.fresh (Nat.le_refl _)
 ·have e:cenv.cells.lookup y=some c:=e
  rcases mem e with ⟨h1,_⟩ | ⟨h1,_⟩
  ·exact I.freeC y c h1
  ·exact I.hok.fresh (Nat.le_of_succ_le h1)
 ·exact absurd (show p∈([]:List (Addr×Obj))++[] from hp) (by simp)
theorem bfZ{E:Value->Shared->Prop}{D:Addr}{xs:List V}{y:V}{v:Value}{Q:Value->Shared->Prop}(I:Inv X pins σ H s)(hD:H D=some (.lst xs))(hz:xs.length<sizeLine)(r:RelV y v)
  (h:∀s',Inv X pins σ (upd H D (.lst (xs++[y]))) s'->Q .none s'):wpAny (model X.prog X.w) X.A (call (.builtin "list.append") [.ref D,v]) Q E s:=by
 obtain⟨hz',its,n,ri,e⟩:=I.hok D _ hD
 have hl:=ri.length
 refine append_at (hsz:=by rw[List.size_toArray];omega) e λh' sb ho'=>?_
 refine h { s with heap:=h' } (I.write (t':=s.toks) (by rw[hD];trivial) (.inl rfl) (λb u hb q=>(sb.2 b hb).trans q) ⟨_,ho'⟩ ⟨by rw[List.length_append];exact hz,its++[v],n+1,ri.append (.cons r .nil),?_⟩)
 rw[ho']
 simp
def PTs(X:Cx)(ifs:List Expr)(t:TT):Prop:=
 ∀(pins:List (Addr×Obj))(s:Shared)(σ:St)(H:Hp)(Q:Bool->Hp->Prop),Inv X pins σ H s->t σ H Q->
  wpAny (model X.prog X.w) X.A (forIn ifs true λc r=>if r=true then do let ok <-isTrue c X.env (eval c X.env);pure (ForInStep.yield ok) else pure (ForInStep.yield r)) (TP X pins σ Q) X.xe s
def tYes:TT:=λ_ H Q=>Q true H
theorem jQ:PTs X [] tYes:=λ_ _ _ H _ I h=>wpAny_tests_nil ⟨H,I,h⟩
theorem rY{c:Expr}{t:TT}(h:PT X c t):PTs X [c] t:=λpins s σ H Q I hw=>wpAny_tests_one (h pins s σ H Q I hw)
end
theorem thnF{α:Type}{t:Sem α}{Q Q':α->Shared->Prop}{M:Model}{A:Around}{E:Value->Shared->Prop}{s:Shared}(h:wpAny M A t Q (λ_ _=>False) s)(hQ:∀a s,Q a s->Q' a s):wpAny M A t Q' E s:=wpAny_mono h hQ λ_ _ z=>False.elim z
theorem auQ{prog:Program}{w:World}{A:Around}{R:Result->Shared->Prop}{s:Shared}{elt target iter:Expr}{ifs:List Expr}{scope:Scope}{pos:Pos}{it acc:Value}{env:Env}(I:Nat->Shared->Prop)
  (turn:∀n s,I n s->wpAny (model prog w) A (pyNext it) (λr s₁=>match r with
   |none=>R (.ok .next) s₁
   |some v=>wpAny (model prog w) A (letOwnedTupleGo target it v) (λ_ s₁'=>wpAny (model prog w) A (assign target env v) (λ_ s₂=>
     wpAny (model prog w) A (forIn ifs true λc r=>if r=true then do let ok <-isTrue c env (eval c env);pure (ForInStep.yield ok) else pure (ForInStep.yield r)) (λok s₃=>
      if ok=true then wpAny (model prog w) A (eval elt env) (λx s₄=>
       wpAny (model prog w) A (call (.builtin "list.append") [acc,x]) (λ_ s₅=>∃m,m<n/\I m s₅) (notedBy (model prog w) A env λe s'=>R (.error e) s') s₄) (notedBy (model prog w) A env λe s'=>R (.error e) s') s₃
      else ∃m,m<n/\I m s₃) (notedBy (model prog w) A env λe s'=>R (.error e) s') s₂) (notedBy (model prog w) A env λe s'=>R (.error e) s') s₁') (notedBy (model prog w) A env λe s'=>R (.error e) s') s₁) (notedBy (model prog w) A env λe s'=>R (.error e) s') s)
  (n:Nat) (h:I n s) :
  codeAny (model prog w) A (.compLoop (.ListComp elt [⟨target,iter,ifs,0⟩] scope pos) 0 it acc env) R s:=by
 refine codeAny_loop rfl I (λn s hI=>?_) n h
 show wpAny _ A ((compTurn (.ListComp elt [⟨target,iter,ifs,0⟩] scope pos) 0 it acc env).onRaise (λx=>do noteFrame x env;theTreesLotGoes x)) _ _ s
 refine wpAny_noted ?_
 rw[compTurn_list]
 refine wpAny_bind (wpAny_standAt (wpAny_bind (wpAny_mono (turn n s hI) (λr s₁ h₁=>?_) λ_ _ h'=>h')))
 cases r with
 |none=>exact wpAny_pure h₁
 |some v=>
  refine wpAny_bind (wpAny_mono h₁ (λ_ s₁' h₁'=>?_) λ_ _ h'=>h')
  refine wpAny_bind (wpAny_mono h₁' (λ_ s₂ h₂=>wpAny_bind (wpAny_mono h₂ (λok s₃ h₃=>?_) λ_ _ h'=>h')) λ_ _ h'=>h')
  cases ok with
  |false=>exact wpAny_pure ⟨rfl,h₃⟩
  |true=>
   exact wpAny_bind (wpAny_bind (wpAny_mono h₃ (λx s₄ h₄=>wpAny_bind (wpAny_mono h₄ (λ_ s₅ h₅=>wpAny_pure (wpAny_pure ⟨rfl,h₅⟩)) λ_ _ h'=>h')) λ_ _ h'=>h'))
section
variable{X:Cx}
def tLc(wi:TI)(g:TG)(tt:TT)(te:TE)(vs:List Nat):TE:=λσ H Q=>wi σ H λJ H1=>∀D,H1 D=none->∃W:Nat->Nat->Hp->Prop,(∃m,W 0 m (upd H1 D (.lst [])))/\∀i m H,W i m H->
 (J.stop i H/\Q (.ref D) H)\/(J.go i H/\∃Nx:Hp->Prop,(∀H',Nx H'->∃m',m'<m/\W (i+1) m' H')/\∀x H',J.yld i H x H'->g x (wipe σ vs) H' λσ2 H2=>wipe σ2 vs=wipe σ vs/\tt σ2 H2 λb H3=>
  if b=true then te σ2 H3 λy H4=>∃acc,H4 D=some (.lst acc)/\acc.length<sizeLine/\Nx (upd H4 D (.lst (acc++[y]))) else Nx H3)
theorem aGK{pins:List (Addr×Obj)}{s:Shared}{σ:St}{H:Hp}{Q:VK}{elt tg iter:Expr}{ifs:List Expr}{scope:Scope}{own:List (Str×Nat)}{pos pos':Pos}{wi:TI}{g:TG}{tt:TT}{te:TE}{use:Option (Value->Sem Unit)}{Qf:Value->Shared->Prop}
  (hc:X.calm=true) (hN:X.N.Nodup) (I:Inv X pins σ H s) (hi:PI X tg iter wi) (ok:BlkOk X.N X.env.scope scope own)
  (hg:∀(s:Shared)(H:Hp)(C:Addr)(cl:List (Str×Addr))(fp:List Addr),PG (X.blk s H scope (compEnvC scope cl C X.env) fp) tg g) (ht:∀(s:Shared)(H:Hp)(C:Addr)(cl:List (Str×Addr))(fp:List Addr),PTs (X.blk s H scope (compEnvC scope cl C X.env) fp) ifs tt)
  (he:∀(s:Shared)(H:Hp)(C:Addr)(cl:List (Str×Addr))(fp:List Addr),PE (X.blk s H scope (compEnvC scope cl C X.env) fp) elt te) (hs:∀x,foldedSetIterable iter X.env x=pure x)
  (h:tLc wi g tt te (own.map (·.2)) σ H Q)
  (hRR:∀D C s' m H',Inv X pins σ H' s'->Q (.ref D) H'->s'.heap.Ns C m->FpOk X pins H' C->compPost (model X.prog X.w) X.A X.xe use Qf (.ref D) C (.ok .next) s') :
  wpAny (model X.prog X.w) X.A (comprehension (.ListComp elt [⟨tg,iter,ifs,0⟩] scope pos) scope X.env pos' (newList []) false (eval iter X.env) use) Qf X.xe s:=by
 have hfree:∀y∈scope.names,y.2 = .free->∃c,X.env.cells.lookup y.1=some c:=λy hy e=>by
  rcases ok.free y hy e with k | k
  ·exact I.ok.has _ (.inl k)
  ·exact I.ok.has _ (.inr k)
 refine wpAny_comprehension_free (use:=use) rfl hs (aJK hfree) ok.kind (λy hy e=>by rw[ok.uniq y hy,e])
  (thn (hi pins s σ H _ I h) λxv s1 hx=>thn hx λitv s2 h2=>?_)
 obtain⟨it,fp,tn,J,H2,e,I2,T,st2,f2,q⟩:=h2
 subst e
 refine wpAny_newObj_type (aBU ?_) (by show 0<=sizeLine;decide)
 generalize hD:s2.heap.objs.size=D
 have hDn:H2 D=none:=I2.hok.fresh (Nat.le_of_eq hD)
 obtain⟨W,⟨m0,w0⟩,turn⟩:=q D hDn
 generalize hs3:({ s2 with heap:=s2.heap.push { cls:=.type "list",data:=.seq ([]:List Value).toArray } }:Shared)=s3
 have I3:Inv X pins σ (upd H2 D (.lst [])) s3:=by
  rw[<-hs3]
  refine I2.laid (t':=s2.toks) (λb o e=>Heap.get?_push_of_some _ e) (Nat.le_of_eq hD) ⟨Nat.zero_le _,[],0,.nil,?_⟩
  rw[<-hD]
  exact Heap.get?_push_size _ rfl
 have h3:s3.heap=s2.heap.push { cls:=.type "list",data:=.seq ([]:List Value).toArray }:=by rw[<-hs3]
 have sz:∀b∈fp,b<s2.heap.objs.size:=λb hb=>by
  obtain⟨o,e,_⟩:=T.obj _ _ st2 b hb
  exact Heap.lt_size e
 have f3:∀b∈fp,FpOk X pins (upd H2 D (.lst [])) b/\b<s3.heap.objs.size:=λb hb=>by
  have hlt:=sz b hb
  refine⟨⟨?_,(f2 b hb).2⟩,by rw[h3,Heap.size_push];exact Nat.lt_succ_of_lt hlt⟩
  rw[aV (by rw[<-hD];exact Nat.ne_of_lt hlt)]
  exact(f2 b hb).1
 have st3:tn 0 s3.heap:=T.keep _ _ _ st2 λb _ o e=>by rw[h3];exact Heap.get?_push_of_some _ e
 have I4:=aBV I3 ok hN f3
 have pg:=hg s3 (upd H2 D (.lst [])) s3.heap.objs.size (cellsFrom (s3.heap.objs.size+1) scope.names (cloFrom X.env.cells scope.names [])) fp
 have pt:=ht s3 (upd H2 D (.lst [])) s3.heap.objs.size (cellsFrom (s3.heap.objs.size+1) scope.names (cloFrom X.env.cells scope.names [])) fp
 have pe:=he s3 (upd H2 D (.lst [])) s3.heap.objs.size (cellsFrom (s3.heap.objs.size+1) scope.names (cloFrom X.env.cells scope.names [])) fp
 show codeAny _ _ (.compStart (.ListComp elt [⟨tg,iter,ifs,0⟩] scope pos) 0 (.ref it) (.ref D) (compEnvC scope (cellsFrom (s3.heap.objs.size+1) scope.names (cloFrom X.env.cells scope.names [])) s3.heap.objs.size X.env)) (compPost (model X.prog X.w) X.A X.xe use Qf (.ref D) s3.heap.objs.size) { s3 with heap:=pushCells (s3.heap.push { cls:=.type "dict",data:=.dict #[] }) scope.names }
 have nfp:∀b∈fp,(upd H2 D (.lst [])) b=none:=λb hb=>(f3 b hb).1.1
 generalize hce:compEnvC scope (cellsFrom (s3.heap.objs.size+1) scope.names (cloFrom X.env.cells scope.names [])) s3.heap.objs.size X.env=ce at I4 pg pt pe ⊢
 have cL:ce.locals=s3.heap.objs.size:=by subst hce;rfl
 generalize hH3:upd H2 D (.lst [])=H3 at I3 I4 pg pt pe w0 nfp f3
 generalize hs4:({ s3 with heap:=pushCells (s3.heap.push { cls:=.type "dict",data:=.dict #[] }) scope.names }:Shared)=s4 at I4 ⊢
 have st4:tn 0 s4.heap:=T.keep _ _ _ st3 λb _ o e=>by rw[<-hs4];exact pushCells_keeps _ _ _ _ (Heap.get?_push_of_some _ e)
 have stat:∀{σ':St}{H':Hp}{s':Shared},Inv (X.blk s3 H3 scope ce fp) [] σ' H' s'->(∀b∈fp,H' b=none)->∀b∈fp,FpOk (X.blk s3 H3 scope ce fp) [] H' b:=λ{σ' H' s'} I' hn b hb=>
  ⟨hn b hb,(I'.ok.exf b hb).1,I'.ok.exfs b hb,.inl hb,λx c e=>(I'.ok.exf b hb).2 x c e,λp hp=>absurd (show p∈([]:List (Addr×Obj))++[] from hp) (by simp)⟩
 have loop:codeAny (model X.prog X.w) X.A (.compLoop (.ListComp elt [⟨tg,iter,ifs,0⟩] scope pos) 0 (.ref it) (.ref D) ce) (compPost (model X.prog X.w) X.A X.xe use Qf (.ref D) s3.heap.objs.size) s4:=by
  refine auQ (λn s'=>∃i H',Inv (X.blk s3 H3 scope ce fp) [] (wipe σ (own.map (·.2))) H' s'/\tn i s'.heap/\(∀b∈fp,H' b=none)/\W i n H') ?_ m0 ⟨0,H3,I4,st4,nfp,w0⟩
  rintro n s5 ⟨i,H5,I5,st5,n5,w5⟩
  rcases turn i n H5 w5 with ⟨stop,qq⟩ | ⟨go,Nx,hNx,step⟩
  ·have td:=T.done (X.blk s3 H3 scope ce fp) rfl rfl rfl hc i [] s5 _ H5 (λ_ _=>False) I5 (stat I5 n5) st5 stop
   refine thnF td λr s6 ⟨hr,I6⟩=>?_
   subst hr
   have I7:Inv X pins σ H5 s6:=I3.call' (ch:=fp) I6.os I6.base I6.hok I6.bare λb hb=>⟨(f3 b hb).1.2.2.2.1,(f3 b hb).1.2.1,(f3 b hb).1.2.2.2.2.1,(f3 b hb).1.2.2.2.2.2⟩
   have nC:H5 s3.heap.objs.size=none:=by
    have z:H5 ce.locals=none:=I6.free
    rw[cL] at z
    exact z
   obtain⟨m,hn,_⟩:=I6.loc
   have hn:s6.heap.Ns ce.locals m:=hn
   rw[cL] at hn
   exact hRR D s3.heap.objs.size s6 m H5 I7 qq hn (I3.fpOk (Nat.le_refl _) nC)
  ·have ti:=T.item (X.blk s3 H3 scope ce fp) rfl rfl rfl hc i [] s5 _ H5 (λ_ _=>False) I5 (stat I5 n5) st5 go
   refine thnF ti λr s6 ⟨u,hr,h6⟩=>?_
   subst hr
   refine thnF h6 λ_ s7 ⟨x,H7,I7,r7,y7,st7,n7⟩=>?_
   have I7':=I7.pinned (stat I7 n7) (T.obj _ _ st7)
   refine thnF (pg _ s7 _ H7 x u _ I7' r7 (step x H7 y7)) λ_ s8 ⟨σ8,H8,I8,hw8,q8⟩=>?_
   refine thnF (pt _ s8 σ8 H8 _ I8 q8) λb s9 ⟨H9,I9,q9⟩=>?_
   have fin:∀{s':Shared}{H':Hp},Inv (X.blk s3 H3 scope ce fp) ([]++pinsAt fp s7.heap) σ8 H' s'->Nx H'->∃m,m<n/\∃i H',Inv (X.blk s3 H3 scope ce fp) [] (wipe σ (own.map (·.2))) H' s'/\tn i s'.heap/\(∀b∈fp,H' b=none)/\W i m H':=λ{s' H'} I' nx=>by
    obtain⟨m',hm,w'⟩:=hNx H' nx
    have pin':∀b∈fp,∀o,s7.heap.get? b=some o->s'.heap.get? b=some o/\H' b=none:=λb hb o e=>
     let z:=I'.pin (b,o) (List.mem_append_right _ (List.mem_append_right _ (KY hb e)))
     ⟨z.1,z.2.1⟩
    have hl:(wipe σ (own.map (·.2))).length=σ8.length:=by rw[<-hw8,GJ]
    refine⟨m',hm,i+1,H',(I'.unpinned (pins:=[])).weak hl (λj v e=>?_),T.keep _ _ _ st7 λb hb o e=>(pin' b hb o e).1,λb hb=>?_,w'⟩
    ·rw[<-hw8] at e
     exact(QX e).1
    ·obtain⟨o,e,_⟩:=T.obj _ _ st7 b hb
     exact(pin' b hb o e).2
   cases b with
   |false=>
    simp only[Bool.false_eq_true,if_false] at q9 ⊢
    exact fin I9 q9
   |true=>
    simp only[if_true] at q9 ⊢
    refine thnF (pe _ s9 σ8 H9 _ I9 q9) λz s10 ⟨yv,H10,I10,r10,acc,hD10,hz10,nx⟩=>?_
    exact bfZ (X:=X.blk s3 H3 scope ce fp) I10 hD10 hz10 r10 λs11 I11=>fin I11 nx
 exact codeAny_compStart_list loop (T.self X.A 0 _ _ _ st4 loop)
theorem kU{elt tg iter:Expr}{ifs:List Expr}{scope:Scope}{own:List (Str×Nat)}{pos:Pos}{wi:TI}{g:TG}{tt:TT}{te:TE}(hc:X.calm=true)(hN:X.N.Nodup)(hi:PI X tg iter wi)(ok:BlkOk X.N X.env.scope scope own)
  (hg:∀(s:Shared)(H:Hp)(C:Addr)(cl:List (Str×Addr))(fp:List Addr),PG (X.blk s H scope (compEnvC scope cl C X.env) fp) tg g) (ht:∀(s:Shared)(H:Hp)(C:Addr)(cl:List (Str×Addr))(fp:List Addr),PTs (X.blk s H scope (compEnvC scope cl C X.env) fp) ifs tt)
  (he:∀(s:Shared)(H:Hp)(C:Addr)(cl:List (Str×Addr))(fp:List Addr),PE (X.blk s H scope (compEnvC scope cl C X.env) fp) elt te) (hs:∀x,foldedSetIterable iter X.env x=pure x:=by intro _;rfl) :
  PE X (.ListComp elt [⟨tg,iter,ifs,0⟩] scope pos) (tLc wi g tt te (own.map (·.2))):=by
 intro pins s σ H Q I h
 rw[eval_ListComp]
 refine aGK hc hN I hi ok hg ht he hs h λD C s' m H' I' q hn f=>⟨m,hn,λh'' sb=>?_⟩
 obtain⟨f0,f1,f2,f3,f4,f5⟩:=f
 exact⟨.ref D,H',I'.turned (t':=s'.toks) (λb o hb e=>(sb.2 b hb).trans e) f0 f1 f3 f4 f5,rfl,q⟩
theorem LK{i:Nat}{y:Str}{py:Pos}{elt tg iter:Expr}{ifs:List Expr}{scope:Scope}{own:List (Str×Nat)}{pos spos:Pos}{wi:TI}{g:TG}{tt:TT}{te:TE}(hc:X.calm=true)(hN:X.N.Nodup)(hy:X.N[i]? = some y)(hyl:X.env.scope.names.lookup y=some .local)
  (hsw:swapsWith (.ListComp elt [⟨tg,iter,ifs,0⟩] scope pos) (some (.Name y py)) spos.line X.env=pure true) (hi:PI X tg iter wi) (ok:BlkOk X.N X.env.scope scope own)
  (hg:∀(s:Shared)(H:Hp)(C:Addr)(cl:List (Str×Addr))(fp:List Addr),PG (X.blk s H scope (compEnvC scope cl C X.env) fp) tg g) (ht:∀(s:Shared)(H:Hp)(C:Addr)(cl:List (Str×Addr))(fp:List Addr),PTs (X.blk s H scope (compEnvC scope cl C X.env) fp) ifs tt)
  (he:∀(s:Shared)(H:Hp)(C:Addr)(cl:List (Str×Addr))(fp:List Addr),PE (X.blk s H scope (compEnvC scope cl C X.env) fp) elt te) (hs:∀x,foldedSetIterable iter X.env x=pure x:=by intro _;rfl) :
  PS X (.Assign [.Name y py] (.ListComp elt [⟨tg,iter,ifs,0⟩] scope pos) spos) (tAsg (tLc wi g tt te (own.map (·.2))) (gName i)):=by
 intro pins s σ H D I h
 rw[exec_Assign_Name_used _ _ _ _ hsw]
 refine wpAny_bind (wpAny_standAt (wpAny_bind ?_))
 show wpAny _ X.A (do let _ <-comprehension (.ListComp elt [⟨tg,iter,ifs,0⟩] scope pos) scope X.env (firstIterPos [⟨tg,iter,ifs,0⟩] pos) (newList []) false (eval iter X.env) (some (assign (.Name y py) X.env))) _ _ s
 have h:tLc wi g tt te (own.map (·.2)) σ H (λx H1=>gName i x σ H1 D.nx):=h
 refine wpAny_bind (thn (aGK (Qf:=λ_ s'=>SP X pins D .next s') hc hN I hi ok hg ht he hs h λL C s' m H' I' q hn f=>?_) λ_ s' hq=>wpAny_pure (wpAny_pure hq))
 show wpAny _ _ (assign (.Name y py) X.env (.ref L)) _ _ _
 refine wpAny_assign_Name (alX (v:=V.ref L) I' hN hy (.inl hyl) rfl (λs2 I2 ⟨a,sb,ha⟩=>?_) (.inr hyl))
 obtain⟨f0,f1,f2,f3,f4,f5⟩:=f
 have haC:C≠a:=by
  rcases ha with z | z
  ·rw[z];exact f1
  ·exact λe=>f4 y a z e.symm
 refine⟨m,hn.sameBut sb haC,λh3 sb3=>?_⟩
 exact⟨_,H',I2.turned (t':=s2.toks) (λb o hb e=>(sb3.2 b hb).trans e) f0 f1 f3 f4 f5,q⟩
theorem TY{elt:Expr}{gs:List Comprehension}{scope:Scope}{pos py:Pos}{y:Str}{l:Nat}{env:Env}(hk:env.scope.kind = .function)(hy:env.scope.names.lookup y=some .local)(hl:(py.line==pos.line)=true)
  (ha:(scope.names.any λ(n,k)=>n==y&&(k == .local || k == .cell))=false):swapsWith (.ListComp elt gs scope pos) (some (.Name y py)) l env=pure true:=by
 have ky:env.kindOf y=some .local:=hy
 have hb:env.blockKind = .function:=by unfold Env.blockKind;rw[hk];rfl
 unfold swapsWith
 simp only[hb,ky,ha,Expr.pos,hl]
 rfl
end
theorem TZ{K:PySem.W.Frag}{a:Addr}{xs:List V}{g:TG}{tt:TT}{te:TE}{vs:List Nat}{σ:St}{H1:Hp}{D:Addr}{Qd:Hp->Prop}(Pv:Nat->Hp->Prop)(h0:Pv 0 (upd H1 D (.lst [])))(hl:∀i H,i<=xs.length->Pv i H->SqL K H a xs)
  (hs:∀i x H,xs[i]? = some x->Pv i H->g x (wipe σ vs) H λσ2 H2=>wipe σ2 vs=wipe σ vs/\tt σ2 H2 λb H3=>
   if b=true then te σ2 H3 λy H4=>∃acc,H4 D=some (.lst acc)/\acc.length<sizeLine/\Pv (i+1) (upd H4 D (.lst (acc++[y]))) else Pv (i+1) H3) (hd:∀H,Pv xs.length H->Qd H) :
  ∃W:Nat->Nat->Hp->Prop,(∃m,W 0 m (upd H1 D (.lst [])))/\∀i m H,W i m H->
   ((Itl K a).stop i H/\Qd H)\/((Itl K a).go i H/\∃Nx:Hp->Prop,(∀H',Nx H'->∃m',m'<m/\W (i+1) m' H')/\∀x H',(Itl K a).yld i H x H'->g x (wipe σ vs) H' λσ2 H2=>wipe σ2 vs=wipe σ vs/\tt σ2 H2 λb H3=>
    if b=true then te σ2 H3 λy H4=>∃acc,H4 D=some (.lst acc)/\acc.length<sizeLine/\Nx (upd H4 D (.lst (acc++[y]))) else Nx H3):=by
 refine⟨λi m H=>m=xs.length - i/\i<=xs.length/\Pv i H,⟨xs.length,by simp,Nat.zero_le _,h0⟩,?_⟩
 rintro i m H ⟨rfl,hi,p⟩
 have q:=hl i H hi p
 by_cases hlt:i<xs.length
 ·refine .inr ⟨⟨xs,xs[i],q,by simp[hlt]⟩,Pv (i+1),λH' p'=>⟨xs.length - (i+1),by omega,rfl,hlt,p'⟩,λx H' y=>?_⟩
  obtain⟨e,y⟩:=y
  subst e
  exact hs i x _ (y xs q) p
 ·have e:i=xs.length:=by omega
  subst e
  exact .inl ⟨⟨xs,q,Nat.le_refl _⟩,hd H p⟩
theorem bgJ{K:PySem.W.Frag}{a:Addr}{xs:List V}{g:TG}{tt:TT}{te:TE}{vs:List Nat}{σ:St}{H1:Hp}{D:Addr}{Qd:Hp->Prop}(Pv:Nat->Hp->Prop)(h0:Pv 0 (upd H1 D (.lst [])))(hl:∀i H,i<=xs.length->Pv i H->SqT K H a xs)
  (hs:∀i x H,xs[i]? = some x->Pv i H->g x (wipe σ vs) H λσ2 H2=>wipe σ2 vs=wipe σ vs/\tt σ2 H2 λb H3=>
   if b=true then te σ2 H3 λy H4=>∃acc,H4 D=some (.lst acc)/\acc.length<sizeLine/\Pv (i+1) (upd H4 D (.lst (acc++[y]))) else Pv (i+1) H3) (hd:∀H,Pv xs.length H->Qd H) :
  ∃W:Nat->Nat->Hp->Prop,(∃m,W 0 m (upd H1 D (.lst [])))/\∀i m H,W i m H->
   ((Itt K a).stop i H/\Qd H)\/((Itt K a).go i H/\∃Nx:Hp->Prop,(∀H',Nx H'->∃m',m'<m/\W (i+1) m' H')/\∀x H',(Itt K a).yld i H x H'->g x (wipe σ vs) H' λσ2 H2=>wipe σ2 vs=wipe σ vs/\tt σ2 H2 λb H3=>
    if b=true then te σ2 H3 λy H4=>∃acc,H4 D=some (.lst acc)/\acc.length<sizeLine/\Nx (upd H4 D (.lst (acc++[y]))) else Nx H3):=by
 refine⟨λi m H=>m=xs.length - i/\i<=xs.length/\Pv i H,⟨xs.length,by simp,Nat.zero_le _,h0⟩,?_⟩
 rintro i m H ⟨rfl,hi,p⟩
 have q:=hl i H hi p
 by_cases hlt:i<xs.length
 ·refine .inr ⟨⟨xs,xs[i],q,by simp[hlt]⟩,Pv (i+1),λH' p'=>⟨xs.length - (i+1),by omega,rfl,hlt,p'⟩,λx H' y=>?_⟩
  obtain⟨e,y⟩:=y
  subst e
  exact hs i x _ (y xs q) p
 ·have e:i=xs.length:=by omega
  subst e
  exact .inl ⟨⟨xs,q,Nat.le_refl _⟩,hd H p⟩
def blkC(N:List Str)(sc scope:Scope)(own:List (Str×Nat)):Bool:=
 (match scope.kind with | .function=>true | _=>false)&&(scope.names.all λy=>decide (scope.names.lookup y.1=some y.2))&&(own.all λp=>decide (N[p.2]? = some p.1)) &&
  (scope.names.all λy=>match y.2 with
   |.free=>(match sc.names.lookup y.1 with | some .cell=>true | some .free=>true | _=>false)
   |.local=>decide (y.1∈own.map (·.1)) || decide (y.1∉N)
   |.cell=>decide (y.1∈own.map (·.1)) || decide (y.1∉N)
   |_=>true)
theorem eK{N:List Str}{sc scope:Scope}{own:List (Str×Nat)}(h:blkC N sc scope own=true):BlkOk N sc scope own:=by
 unfold blkC at h
 simp only[Bool.and_eq_true,List.all_eq_true,decide_eq_true_eq] at h
 obtain⟨⟨⟨h1,h2⟩,h3⟩,h4⟩:=h
 refine⟨?_,h2,h3,λy hy e=>?_,λy hy e=>?_⟩
 ·split at h1
  ·assumption
  ·cases h1
 ·have q:=h4 y hy
  simp only[e] at q
  split at q <;> first | exact .inl (by assumption) | exact .inr (by assumption) | cases q
 ·have q:=h4 y hy
  rcases e with e | e <;> (simp only[e,Bool.or_eq_true,decide_eq_true_eq] at q;exact q)
end L2
namespace L2
open PySem PySem.Spec PyProof.Rows
section
variable{prog:Program}{w:World}{A:Around}{R:Result->Shared->Prop}{s:Shared}{elt t0 i0 t1 i1:Expr}{ifs0 ifs1:List Expr}{scope:Scope}{pos:Pos}{it acc:Value}{env:Env}
end
section
variable{X:Cx}
end
end L2
namespace L2
open PySem PySem.Spec PyProof.Rows
section
variable{κ:Type}[DecidableEq κ]
def valV(kvs:List (κ×V))(k:κ):Option V:=(kvs.find? λkv=>decide (kv.1=k)).map (·.2)
def putK(kvs:List (κ×V))(k:κ)(v:V):List (κ×V):=
 if(kvs.any λkv=>decide (kv.1=k))=true then kvs.map (λkv=>if kv.1=k then(kv.1,v) else kv) else kvs++[(k,v)]
def dropK(kvs:List (κ×V))(k:κ):List (κ×V):=kvs.filter λkv=>decide (kv.1≠k)
theorem aVK{k:κ}:valV ([]:List (κ×V)) k=none:=rfl
theorem fY{p:κ×V}{r:List (κ×V)}{k:κ}(e:p.1=k):valV (p::r) k=some p.2:=by simp[valV,List.find?_cons,e]
theorem fZ{p:κ×V}{r:List (κ×V)}{k:κ}(e:¬p.1=k):valV (p::r) k=valV r k:=by simp[valV,List.find?_cons,e]
theorem lQ(k:κ):∀kvs:List (κ×V),(kvs.any λkv=>decide (kv.1=k))=(valV kvs k).isSome
 |[]=>rfl
 |p::r=>by
  rw[List.any_cons]
  by_cases e:p.1=k
  ·simp only[fY e,decide_eq_true e,Bool.true_or,Option.isSome_some]
  ·rw[fZ e,decide_eq_false e,Bool.false_or];exact lQ k r
theorem auU(k j:κ)(y:V):∀kvs:List (κ×V),valV (kvs.map λkv=>if kv.1=k then(kv.1,y) else kv) j=(valV kvs j).map λx=>if j=k then y else x
 |[]=>rfl
 |p::r=>by
  have ih:=auU k j y r
  rw[List.map_cons]
  by_cases h:p.1=k
  ·rw[if_pos h]
   by_cases e:p.1=j
   ·rw[fY (p:=(p.1,y)) e,fY e,Option.map_some,if_pos (e.symm.trans h)]
   ·rw[fZ (p:=(p.1,y)) e,fZ e,ih]
  ·rw[if_neg h]
   by_cases e:p.1=j
   ·rw[fY (p:=p) e,fY e,Option.map_some,if_neg (λz=>h (e.trans z))]
   ·rw[fZ (p:=p) e,fZ e,ih]
theorem amW(k j:κ)(y:V):∀kvs:List (κ×V),valV kvs k=none->valV (kvs++[(k,y)]) j=if j=k then some y else valV kvs j
 |[],_=>by
  by_cases e:k=j
  ·rw[if_pos e.symm];exact fY (p:=(k,y)) e
  ·rw[if_neg (λz=>e z.symm)];exact fZ (p:=(k,y)) e
 |p::r,hn=>by
  rw[List.cons_append]
  have hk:¬p.1=k:=λz=>by rw[fY z] at hn;cases hn
  rw[fZ hk] at hn
  have ih:=amW k j y r hn
  by_cases e:p.1=j
  ·rw[fY e,fY e,if_neg (λz=>hk (e.trans z))]
  ·rw[fZ e,fZ e,ih]
theorem BU(kvs:List (κ×V))(k j:κ)(y:V):valV (putK kvs k y) j=if j=k then some y else valV kvs j:=by
 unfold putK
 by_cases a:(kvs.any λkv=>decide (kv.1=k))=true
 ·rw[if_pos a,auU]
  rw[lQ] at a
  by_cases e:j=k
  ·obtain⟨x,hx⟩:=Option.isSome_iff_exists.mp a
   rw[if_pos e,e,hx,Option.map_some,if_pos rfl]
  ·rw[if_neg e]
   cases valV kvs j with
   |none=>rfl
   |some x=>rw[Option.map_some,if_neg e]
 ·rw[if_neg a]
  refine amW k j y kvs ?_
  rw[lQ] at a
  cases q:valV kvs k with
  |none=>rfl
  |some x=>rw[q] at a;exact(a rfl).elim
theorem nX(kvs:List (κ×V))(k:κ)(v:V):(putK kvs k v).length<=kvs.length+1:=by
 unfold putK
 split
 ·rw[List.length_map];omega
 ·rw[List.length_append,List.length_cons,List.length_nil];omega
theorem uK{kvs:List (κ×V)}{k:κ}(v:V)(h:valV kvs k=none):putK kvs k v=kvs++[(k,v)]:=by
 unfold putK
 rw[lQ,h]
 exact if_neg (by decide)
theorem RelO.isSome_eq{o:Option V}{u:Option Value}(r:RelO o u):o.isSome=u.isSome:=by
 cases o with
 |none=>cases u with
  |none=>rfl
  |some _=>exact(show False from r).elim
 |some _=>cases u with
  |none=>exact(show False from r).elim
  |some _=>rfl
theorem RelO.getD{o:Option V}{u:Option Value}{d:V}{d':Value}(r:RelO o u)(rd:RelV d d'):RelV (o.getD d) (u.getD d'):=by
 cases o with
 |none=>cases u with
  |none=>exact rd
  |some _=>exact(show False from r).elim
 |some _=>cases u with
  |none=>exact(show False from r).elim
  |some _=>exact r
theorem KV.val{kvs:List (κ×V)}{vs:List (κ×Value)}(r:KV kvs vs)(k:κ):RelO (valV kvs k) (valueAt vs k):=by
 unfold KV at r
 induction r with
 |nil=>exact True.intro
 |@cons p q ps qs h t ih=>
  obtain⟨h1,h2⟩:=h
  by_cases e:p.1=k
  ·have e':q.1=k:=h1.symm.trans e
   have b:valueAt (q::qs) k=some q.2:=by simp[valueAt,List.find?_cons,e']
   rw[fY e,b];exact h2
  ·have e':¬q.1=k:=λz=>e (h1.trans z)
   have b:valueAt (q::qs) k=valueAt qs k:=by simp[valueAt,List.find?_cons,e']
   rw[fZ e,b];exact ih
theorem KV.any{kvs:List (κ×V)}{vs:List (κ×Value)}(r:KV kvs vs)(k:κ):(kvs.any λkv=>decide (kv.1=k))=vs.any λkv=>decide (kv.1=k):=by
 unfold KV at r
 induction r with
 |nil=>rfl
 |cons h t ih=>rw[List.any_cons,List.any_cons,ih,h.1]
theorem KV.repl{kvs:List (κ×V)}{vs:List (κ×Value)}(r:KV kvs vs)(k:κ){y:V}{u:Value}(ry:RelV y u) :
  KV (kvs.map λkv=>if kv.1=k then(kv.1,y) else kv) (vs.map λkv=>if kv.1=k then(kv.1,u) else kv):=by
 unfold KV at r ⊢
 induction r with
 |nil=>exact .nil
 |@cons p q ps qs h t ih=>
  rw[List.map_cons,List.map_cons]
  refine .cons ?_ ih
  obtain⟨h1,h2⟩:=h
  by_cases e:p.1=k
  ·rw[if_pos e,if_pos (h1.symm.trans e)];exact⟨h1,ry⟩
  ·rw[if_neg e,if_neg (λz=>e (h1.trans z))];exact⟨h1,h2⟩
theorem KV.put{kvs:List (κ×V)}{vs:List (κ×Value)}(r:KV kvs vs)(k:κ){y:V}{u:Value}(ry:RelV y u):KV (putK kvs k y) (stored vs k u):=by
 unfold putK stored
 rw[r.any k]
 by_cases e:(vs.any λkv=>decide (kv.1=k))=true
 ·rw[if_pos e,if_pos e];exact r.repl k ry
 ·rw[if_neg e,if_neg e];exact Paired.snoc r ⟨rfl,ry⟩
theorem KV.drop{kvs:List (κ×V)}{vs:List (κ×Value)}(r:KV kvs vs)(k:κ):KV (dropK kvs k) (without vs k):=by
 unfold KV at r ⊢
 unfold dropK without
 induction r with
 |nil=>exact .nil
 |@cons p q ps qs h t ih=>
  obtain⟨h1,h2⟩:=h
  rw[List.filter_cons,List.filter_cons]
  by_cases e:p.1=k
  ·have a:¬decide (p.1≠k)=true:=by simp[e]
   have b:¬decide (q.1≠k)=true:=by simp[h1.symm.trans e]
   rw[if_neg a,if_neg b];exact ih
  ·have e':¬q.1=k:=λz=>e (h1.trans z)
   have a:decide (p.1≠k)=true:=by simp[e]
   have b:decide (q.1≠k)=true:=by simp[e']
   rw[if_pos a,if_pos b];exact .cons ⟨h1,h2⟩ ih
theorem KV.keys{kvs:List (κ×V)}{vs:List (κ×Value)}(r:KV kvs vs):kvs.map (·.1)=vs.map (·.1):=by
 unfold KV at r
 induction r with
 |nil=>rfl
 |cons h t ih=>rw[List.map_cons,List.map_cons,ih,h.1]
theorem KV.length{kvs:List (κ×V)}{vs:List (κ×Value)}(r:KV kvs vs):kvs.length=vs.length:=Paired.length r
theorem auV(kvs:List (κ×V))(k:κ):(dropK kvs k).length<=kvs.length:=List.length_filter_le _ _
end
theorem wQ{P:Program}{w:World}{k:Key}{u:Value}(r:RelV (kV k) u):(mixKind P w).is k u=true:=by
 cases k with
 |inl i=>obtain⟨t,e⟩:=(show ∃t,u=Value.int i t from r);subst e;exact aBJ P w i t
 |inr x=>obtain⟨t,e⟩:=(show ∃t,u=Value.str x t from r);subst e;exact aBK P w x t
theorem amX{P:Program}{w:World}:∀{ks:List Key}{us:List Value},Vals (ks.map kV) us->ItemsAre (mixKind P w) ks us
 |[],_,r=>by rw[List.map_nil] at r;cases r;exact .nil
 |k::ks,_,r=>by
  rw[List.map_cons] at r
  cases r with
  |cons h t=>exact .cons (wQ h) (amX t)
abbrev KT(H:Hp):List (List Key×V)->List (List Key×Addr×Value)->Prop:=Paired λp q=>p.1=q.1/\H q.2.1=some (.tup (p.1.map kV))/\RelV p.2 q.2.2
theorem KT.val{H:Hp}{kvs:List (List Key×V)}{xs:List (List Key×Addr×Value)}(r:KT H kvs xs)(k:List Key):RelO (valV kvs k) ((atKey xs k).map (·.2)):=by
 induction r with
 |nil=>exact True.intro
 |@cons p q ps qs h t ih=>
  obtain⟨h1,_,h2⟩:=h
  by_cases e:p.1=k
  ·have e':q.1=k:=h1.symm.trans e
   have b:atKey (q::qs) k=some q.2:=by simp[atKey,List.find?_cons,e']
   rw[fY e,b];exact h2
  ·have e':¬q.1=k:=λz=>e (h1.trans z)
   have b:atKey (q::qs) k=atKey qs k:=by simp[atKey,List.find?_cons,e']
   rw[fZ e,b];exact ih
theorem KT.repl{H:Hp}{kvs:List (List Key×V)}{xs:List (List Key×Addr×Value)}(r:KT H kvs xs)(k:List Key){y:V}{u:Value}(ry:RelV y u) :
  KT H (kvs.map λkv=>if kv.1=k then(kv.1,y) else kv) (xs.map (putAt k u)):=by
 induction r with
 |nil=>exact .nil
 |@cons p q ps qs h t ih=>
  rw[List.map_cons,List.map_cons]
  refine .cons ?_ ih
  obtain⟨h1,h2,h3⟩:=h
  unfold putAt
  by_cases e:p.1=k
  ·rw[if_pos e,if_pos (h1.symm.trans e)];exact⟨h1,h2,ry⟩
  ·rw[if_neg e,if_neg (λz=>e (h1.trans z))];exact⟨h1,h2,h3⟩
theorem KT.put{H:Hp}{kvs:List (List Key×V)}{xs:List (List Key×Addr×Value)}(r:KT H kvs xs)(k:List Key){b:Addr}{y:V}{u:Value}(hb:H b=some (.tup (k.map kV)))(ry:RelV y u) :
  KT H (putK kvs k y) (storedH xs k b u):=by
 have e:(kvs.any λkv=>decide (kv.1=k))=(atKey xs k).isSome:=by
  rw[lQ,(r.val k).isSome_eq,Option.isSome_map]
 unfold putK storedH
 rw[e]
 by_cases q:(atKey xs k).isSome=true
 ·rw[if_pos q,if_pos q];exact r.repl k ry
 ·rw[if_neg q,if_neg q];exact Paired.snoc r ⟨rfl,hb,ry⟩
theorem KT.keeps{H H':Hp}{kvs:List (List Key×V)}{xs:List (List Key×Addr×Value)}(r:KT H kvs xs)(ht:∀b ys,H b=some (.tup ys)->H' b=some (.tup ys)):KT H' kvs xs:=
 Paired.mapP r λ_ _ z=>⟨z.1,ht _ _ z.2.1,z.2.2⟩
section
variable{P:Program}{w:World}{H:Hp}{h:Heap}{a:Addr}
theorem aYK{u:HO}(ok:HOk P w H h)(e:Rd H a u):ObjOk P w H h a u:=e.ok ok
theorem sQ{kvs:List (Key×V)}(ok:HOk P w H h)(e:Rd H a (.dK kvs)):kvs.length<=sizeLine/\(a==sysModules)=false/\∃vs,KV kvs vs/\h.DictOf (mixKind P w) a vs:=
 show ObjOk P w H h a (.dK kvs) from aYK ok e
theorem arZ{kvs:List (Key×V)}(ok:HOk P w H h)(e:H a=some (.dK kvs)):kvs.length<=sizeLine/\(a==sysModules)=false/\∃vs,KV kvs vs/\h.DictOf (mixKind P w) a vs:=sQ ok (.inl e)
theorem BV{ks:List Key}(ok:HOk P w H h)(e:H a=some (.tup (ks.map kV))):(tupleKind (mixKind P w)).is h ks a:=by
 obtain⟨_,its,r,o,h1,h2,n,h3⟩:=(show ObjOk P w H h a (.tup (ks.map kV)) from ok a _ e)
 exact⟨o,its.toArray,n,h1,h2,h3,by simpa using amX r⟩
theorem EU{kvs:List (List Key×V)}(ok:HOk P w H h)(e:Rd H a (.dT kvs)):kvs.length<=sizeLine/\(a==sysModules)=false/\
  ∃xs,KT H kvs xs/\h.DictOfH (tupleKind (mixKind P w)) a xs:=by
 obtain⟨z,y,xs,r,o,es,ep,h1,h2,h3,h4,h5⟩:=(show ObjOk P w H h a (.dT kvs) from aYK ok e)
 refine⟨z,y,xs,r,o,es,ep,h1,h2,h3,h4,λx hx=>?_,h5⟩
 have all:∀{l:List (List Key×V)}{m:List (List Key×Addr×Value)},KT H l m->∀x∈m,(tupleKind (mixKind P w)).is h x.1 x.2.1:=by
  intro l m q
  induction q with
  |nil=>intro x hx;exact nomatch hx
  |@cons p q ps qs hq t ih=>
   intro x hx
   rcases List.mem_cons.mp hx with e | hx
   ·subst e
    exact BV ok (by rw[<-hq.1];exact hq.2.1)
   ·exact ih x hx
 exact all r x hx
theorem bjU{kvs:List (List Key×V)}(ok:HOk P w H h)(e:H a=some (.dT kvs)):kvs.length<=sizeLine/\(a==sysModules)=false/\
  ∃xs,KT H kvs xs/\h.DictOfH (tupleKind (mixKind P w)) a xs:=EU ok (.inl e)
end
def DGet(H:Hp)(a:Addr)(y:V)(r:Option V):Prop:=
 (∃kvs k,Rd H a (.dK kvs)/\y=kV k/\r=valV kvs k)\/∃kvs k b,Rd H a (.dT kvs)/\y = .ref b/\H b=some (.tup (k.map kV))/\r=valV kvs k
def DPut(H:Hp)(a:Addr)(y v:V)(H':Hp):Prop:=
 (∃kvs k,H a=some (.dK kvs)/\y=kV k/\kvs.length<sizeLine/\H'=upd H a (.dK (putK kvs k v)))\/
 ∃kvs k b,H a=some (.dT kvs)/\y = .ref b/\H b=some (.tup (k.map kV))/\kvs.length<sizeLine/\H'=upd H a (.dT (putK kvs k v))
theorem DGet.k{H:Hp}{a:Addr}{kvs:List (Key×V)}{k:Key}(e:H a=some (.dK kvs)):DGet H a (kV k) (valV kvs k):=.inl ⟨kvs,k,.inl e,rfl,rfl⟩
theorem DGet.t{H:Hp}{a b:Addr}{kvs:List (List Key×V)}{k:List Key}(e:H a=some (.dT kvs))(eb:H b=some (.tup (k.map kV))):DGet H a (.ref b) (valV kvs k):=.inr ⟨kvs,k,b,.inl e,rfl,eb,rfl⟩
theorem DPut.k{H:Hp}{a:Addr}{kvs:List (Key×V)}{k:Key}{v:V}(e:H a=some (.dK kvs))(hl:kvs.length<sizeLine):DPut H a (kV k) v (upd H a (.dK (putK kvs k v))):=.inl ⟨kvs,k,e,rfl,hl,rfl⟩
theorem DPut.t{H:Hp}{a b:Addr}{kvs:List (List Key×V)}{k:List Key}{v:V}(e:H a=some (.dT kvs))(eb:H b=some (.tup (k.map kV)))(hl:kvs.length<sizeLine) :
  DPut H a (.ref b) v (upd H a (.dT (putK kvs k v))):=.inr ⟨kvs,k,b,e,rfl,eb,hl,rfl⟩
section
variable{X:Cx}{pins:List (Addr×Obj)}{σ:St}{H:Hp}{s:Shared}{a:Addr}{y v:V}{u r:Value}{o:Option V}{A:Around}{E:Value->Shared->Prop}
theorem Inv.big(I:Inv X pins σ H s):sysModules<s.heap.objs.size:=by
 have h:mainGlobals<s.heap.objs.size:=(I.mod.glob.keeps I.bk).lt
 exact Nat.lt_trans (by decide) h
theorem aQK{Q:Value->Shared->Prop}(hu:A.units+1<cLine)(I:Inv X pins σ H s)(g:DGet H a y (some v))(ry:RelV y u)(h:∀w' s',Inv X pins σ H s'->RelV v w'->Q w' s') :
  wpAny (model X.prog X.w) A (getItem (.ref a) u) Q E s:=by
 rcases g with ⟨kvs,k,e,ey,l⟩ | ⟨kvs,k,b,e,ey,eb,l⟩
 ·subst ey
  obtain⟨z,hd,vs,rel,dd⟩:=sQ I.hok e
  obtain⟨w',hw,rw'⟩:=RelO.some_of (v:=v) (o:=valueAt vs k) (by rw[l];exact rel.val k)
  exact wpAny_getItem_of (wQ ry) dd.mapOf hw (h w' _ (I.tok _) rw')
 ·subst ey
  cases(show u=Value.ref b from ry)
  obtain⟨z,hd,xs,rel,dd⟩:=EU I.hok e
  obtain⟨w',hw,rw'⟩:=RelO.some_of (v:=v) (o:=(atKey xs k).map (·.2)) (by rw[l];exact rel.val k)
  obtain⟨p,hp,hp2⟩:=Option.map_eq_some_iff.mp hw
  refine wpAny_getItem_heap (tupleKind_room_in1 hu) (BV I.hok eb) dd hp ?_
  rw[hp2]
  exact h w' _ (I.tok _) rw'
theorem blV{Q:Value->Shared->Prop}(hu:A.units+1<cLine)(I:Inv X pins σ H s)(g:DGet H a y o)(ry:RelV y u)(h:∀s',Inv X pins σ H s'->Q (.bool o.isSome) s') :
  wpAny (model X.prog X.w) A (compareOp .In u (.ref a)) Q E s:=by
 rcases g with ⟨kvs,k,e,ey,l⟩ | ⟨kvs,k,b,e,ey,eb,l⟩
 ·subst ey
  obtain⟨z,hd,vs,rel,dd⟩:=sQ I.hok e
  refine wpAny_in_of (wQ ry) hd dd.mapOf ?_
  rw[<-(rel.val k).isSome_eq,<-l]
  exact h _ (I.tok _)
 ·subst ey
  cases(show u=Value.ref b from ry)
  obtain⟨z,hd,xs,rel,dd⟩:=EU I.hok e
  refine wpAny_in_heap (tupleKind_room_in1 hu) (BV I.hok eb) hd dd ?_
  have q:=(rel.val k).isSome_eq
  rw[Option.isSome_map] at q
  rw[<-q,<-l]
  exact h _ (I.tok _)
theorem bbQ{Q:Value->Shared->Prop}(hu:A.units+1<cLine)(I:Inv X pins σ H s)(g:DGet H a y o)(ry:RelV y u)(h:∀s',Inv X pins σ H s'->Q (.bool (!o.isSome)) s') :
  wpAny (model X.prog X.w) A (compareOp .NotIn u (.ref a)) Q E s:=by
 rcases g with ⟨kvs,k,e,ey,l⟩ | ⟨kvs,k,b,e,ey,eb,l⟩
 ·subst ey
  obtain⟨z,hd,vs,rel,dd⟩:=sQ I.hok e
  refine wpAny_notIn_of (wQ ry) hd dd.mapOf ?_
  rw[<-(rel.val k).isSome_eq,<-l]
  exact h _ (I.tok _)
 ·subst ey
  cases(show u=Value.ref b from ry)
  obtain⟨z,hd,xs,rel,dd⟩:=EU I.hok e
  refine wpAny_notIn_heap (tupleKind_room_in1 hu) (BV I.hok eb) hd dd ?_
  have q:=(rel.val k).isSome_eq
  rw[Option.isSome_map] at q
  rw[<-q,<-l]
  exact h _ (I.tok _)
theorem IW{h':Heap}{t':Nat}{ob:HO}(I:Inv X pins σ H s)(mu:Mut (H a))(hs:Heap.SameBut a s.heap h')(he:∃q,h'.get? a=some q)(new:ObjOk X.prog X.w (upd H a ob) h' a ob) :
  Inv X pins σ (upd H a ob) { s with heap:=h',toks:=t' }:=
 I.write (x:=a) (e:=a) mu (.inl rfl) (λb q hb z=>(hs.2 b hb).trans z) he new
theorem adW{P:Program}{w:World}{H':Hp}{h':Heap}{kvs:List (Key×V)}{vs:List (Key×Value)}(z:kvs.length<=sizeLine)(hd:(a==sysModules)=false)(rel:KV kvs vs)(dd:h'.DictOf (mixKind P w) a vs) :
  ObjOk P w H' h' a (.dK kvs):=⟨z,hd,vs,rel,dd⟩
theorem aQQ{H':Hp}{Q:Unit->Shared->Prop}(hu:A.units+1<cLine)(I:Inv X pins σ H s)(g:DPut H a y v H')(ry:RelV y u)(rv:RelV v r)(h:∀s',Inv X pins σ H' s'->Q () s') :
  wpAny (model X.prog X.w) A (setItem (.ref a) u r) Q E s:=by
 rcases g with ⟨kvs,k,e,ey,l,eH⟩ | ⟨kvs,k,b,e,ey,eb,l,eH⟩
 ·subst ey eH
  obtain⟨z,hd,vs,rel,dd⟩:=arZ I.hok e
  have hz:vs.length<=sizeLine:=by rw[<-rel.length];exact z
  have hl:(putK kvs k v).length<=sizeLine:=by have:=nX kvs k v;omega
  refine wpAny_setItem_pairs (hsz:=hz) (wQ ry) dd λh' dd' hs=>h _ ?_
  have he:∃q,h'.get? a=some q:=let ⟨q,_,_,hq,_⟩:=dd';⟨q,hq⟩
  exact IW I (by rw[e];exact True.intro) hs he (adW hl hd (rel.put k rv) dd')
 ·subst ey eH
  cases(show u=Value.ref b from ry)
  obtain⟨z,hd,xs,rel,dd⟩:=bjU I.hok e
  have hz:xs.length<=sizeLine:=by rw[<-Paired.length rel];exact z
  have hl:(putK kvs k v).length<=sizeLine:=by have:=nX kvs k v;omega
  refine wpAny_setItem_heap (hsz:=hz) (tupleKind_room_in1 hu) (BV I.hok eb) dd λh' dd' hs=>h _ ?_
  obtain⟨q,es,ep,hq,h2,h3,h4,_,h5⟩:=dd'
  refine IW I (by rw[e];exact True.intro) hs ⟨q,hq⟩ ⟨hl,hd,_,(rel.put k eb rv).keeps λc ys ec=>?_,q,es,ep,hq,h2,h3,h4,h5⟩
  rw[aV (eW ec e (λz=>nomatch z))]
  exact ec
end
section
variable{X:Cx}{pins:List (Addr×Obj)}{σ:St}{H:Hp}{s:Shared}{a:Addr}{kvs:List (Key×V)}{k:Key}{u:Value}{A:Around}{E:Value->Shared->Prop}
theorem blU{Q:Unit->Shared->Prop}(I:Inv X pins σ H s)(e:H a=some (.dK kvs))(ry:RelV (kV k) u)(l:(valV kvs k).isSome=true)(h:∀s',Inv X pins σ (upd H a (.dK (dropK kvs k))) s'->Q () s') :
  wpAny (model X.prog X.w) A (delItem (.ref a) u) Q E s:=by
 obtain⟨z,hd,vs,rel,dd⟩:=arZ I.hok e
 refine wpAny_delItem_slot dd.typeIs (by decide) PySem.F.slot_dict_delitem
  (call_meetsIn PySem.F.slot_dict_delitem dd.typeIs PySem.F.entry_dict_delitem (PySem.F.args_dict_delitem_2 _ _) (meets_dict_delitem_pairs (mixKind X.prog X.w) a (wQ ry)) ⟨vs,dd,by rw[<-rel.length];exact z,by rw[<-(rel.val k).isSome_eq];exact l,λh' dd' hs=>h _ ?_⟩)
 have he:∃q,h'.get? a=some q:=let ⟨q,_,_,hq,_⟩:=dd';⟨q,hq⟩
 exact IW I (by rw[e];exact True.intro) hs he (adW (Nat.le_trans (auV kvs k) z) hd (rel.drop k) dd')
theorem bjV{v:V}{more:List Value}{Q:Value->Shared->Prop}(I:Inv X pins σ H s)(e:H a=some (.dK kvs))(ry:RelV (kV k) u)(l:valV kvs k=some v)(hm:more=[]\/∃x,more=[x])
  (h:∀w' s',Inv X pins σ (upd H a (.dK (dropK kvs k))) s'->RelV v w'->Q w' s'):wpAny (model X.prog X.w) A (call (.builtin "dict.pop") (.ref a::u::more)) Q E s:=by
 obtain⟨z,hd,vs,rel,dd⟩:=arZ I.hok e
 obtain⟨w',hw,rw'⟩:=RelO.some_of (v:=v) (o:=valueAt vs k) (by rw[<-l];exact rel.val k)
 have hp:(keyPart u).isSome=true:=by
  cases k with
  |inl i=>obtain⟨t,q⟩:=(show ∃t,u=Value.int i t from ry);subst q;rfl
  |inr x=>obtain⟨t,q⟩:=(show ∃t,u=Value.str x t from ry);subst q;rfl
 have ha:argsOk "dict.pop" ⟨.ref a::u::more,[]⟩:=by
  rcases hm with q | ⟨x,q⟩
  ·subst q;exact PySem.F.args_dict_pop_2 _ _
  ·subst q;exact PySem.F.args_dict_pop_3 _ _ _
 refine call_meetsIn PySem.F.slot_dict_pop dd.typeIs PySem.F.entry_dict_pop ha (meets_dict_pop_there (mixKind X.prog X.w) a (wQ ry) more hm hp)
  ⟨vs,w',dd,by rw[<-rel.length];exact z,hw,λh' dd' hs=>h w' _ ?_ rw'⟩
 have he:∃q,h'.get? a=some q:=let ⟨q,_,_,hq,_⟩:=dd';⟨q,hq⟩
 exact IW I (by rw[e];exact True.intro) hs he (adW (Nat.le_trans (auV kvs k) z) hd (rel.drop k) dd')
theorem bjW{Q:Value->Shared->Prop}(I:Inv X pins σ H s)(e:Rd H a (.dK kvs))(h:∀t s',Inv X pins σ H s'->Q (.int kvs.length t) s'):wpAny (model X.prog X.w) A (call (.builtin "len") [.ref a]) Q E s:=by
 obtain⟨z,hd,vs,rel,dd⟩:=sQ I.hok e
 refine call_len_dict hd dd (by rw[<-rel.length];rw[sizeLine_eq] at z;omega) ?_
 rw[<-rel.length]
 exact h _ _ (I.tok _)
end
def NoSl(i:Expr):Prop:=∀ov iv,subscripted i false ov iv=operate [ov,iv] (getItem ov iv)
theorem bbU{prog:Program}{w:World}{A:Around}{E:Value->Shared->Prop}{s:Shared}{env:Env}{value slice:Expr}{pos:Pos}{T id:String}{Q:Value->Shared->Prop}
  (hl:typeLookup (.type T) "__getitem__"=pure (some (.builtin id))) (hs:NoSl slice)
  (h:wpAny (model prog w) A (eval value env) (λo s₁=>wpAny (model prog w) A (eval slice env) (λi s₂=>s₂.TypeIs o T/\wpAny (model prog w) A (getItem o i) Q E s₂) E s₁) E s) :
  wpAny (model prog w) A (eval (.Subscript value slice pos) env) Q E s:=by
 refine Subscript_ (wpAny_mono h (λo s₁ h₁=>wpAny_mono h₁ (λi s₂ h₂=>?_) λ_ _ x=>x) λ_ _ x=>x)
 obtain⟨hT,h₂⟩:=h₂
 unfold subscriptTail
 refine wpAny_bind ?_
 rw[getitemInPython_of_ne hT.not_modules]
 refine wpAny_bind (wpAny_specialOf hT hl ?_)
 have fin:wpAny (model prog w) A (subscripted slice false o i) (λr s₃=>wpAny (model prog w) A (letTemporaryGo value o r >>= λ_=>pure r) Q E s₃) E s₂:=by
  rw[hs o i]
  exact wpAny_operating (wpAny_mono h₂ (λr s₃ h₃=>wpAny_bind (wpAny_letTemporaryGo (wpAny_pure h₃))) λ_ _ x=>x)
 first
  |exact wpAny_pure (wpAny_bind fin)
  |exact wpAny_bind (wpAny_pure (wpAny_bind fin))
  |exact wpAny_bind fin
theorem aBW{X:Cx}{pins:List (Addr×Obj)}{σ:St}{H:Hp}{s:Shared}{a:Addr}{y:V}{o:Option V}(I:Inv X pins σ H s)(g:DGet H a y o):s.TypeIs (.ref a) "dict":=by
 rcases g with ⟨kvs,k,e,_,_⟩ | ⟨kvs,k,b,e,_,_,_⟩
 ·obtain⟨_,_,vs,_,dd⟩:=sQ I.hok e
  exact dd.typeIs
 ·obtain⟨_,_,xs,_,dd⟩:=EU I.hok e
  exact dd.typeIs
def tDGet(td ty:TE):TE:=λσ H Q=>td σ H λx H1=>ty σ H1 λy H2=>∃a v,x = .ref a/\DGet H2 a y (some v)/\Q v H2
def tDIn(ty td:TE):TE:=λσ H Q=>ty σ H λy H1=>td σ H1 λx H2=>∃a o,x = .ref a/\DGet H2 a y o/\Q (.bl o.isSome) H2
def tDNotIn(ty td:TE):TE:=λσ H Q=>ty σ H λy H1=>td σ H1 λx H2=>∃a o,x = .ref a/\DGet H2 a y o/\Q (.bl (!o.isSome)) H2
def sDPut(td ty tv:TE):TS:=λD σ H=>tv σ H λv H1=>td σ H1 λx H2=>ty σ H2 λy H3=>∃a H4,x = .ref a/\DPut H3 a y v H4/\D.nx σ H4
section
variable{X:Cx}{o i e value:Expr}{pos pos' tpos:Pos}{td ty tv:TE}
theorem gU(hu:X.A.units+1<cLine)(ho:PE X o td)(hi:PE X i ty)(hs:NoSl i):PE X (.Subscript o i pos) (tDGet td ty):=by
 intro pins s σ H Q I h
 refine bbU PySem.F.slot_dict_getitem.lookup hs (thn (ho pins s σ H _ I h) λu s1 ⟨x,H1,I1,rx,q1⟩=>thn (hi pins s1 σ H1 _ I1 q1) λiv s2 ⟨y,H2,I2,ry,a,v,ex,g,q2⟩=>?_)
 subst ex
 obtain rfl:u=Value.ref a:=rx
 exact⟨aBW I2 g,aQK hu I2 g ry λw' s3 I3 rw'=>⟨v,H2,I3,rw',q2⟩⟩
theorem xQ(hu:X.A.units+1<cLine)(hi:PE X i ty)(ho:PE X o td):PC X .In i o (tDIn ty td):=by
 intro pins s σ H Q I h
 refine thn (hi pins s σ H _ I h) λiv s1 ⟨y,H1,I1,ry,q1⟩=>thn (ho pins s1 σ H1 _ I1 q1) λu s2 ⟨x,H2,I2,rx,a,ov,ex,g,q2⟩=>?_
 subst ex
 obtain rfl:u=Value.ref a:=rx
 exact blV hu I2 g ry λs3 I3=>⟨.bl ov.isSome,H2,I3,rfl,q2⟩
theorem kW(hu:X.A.units+1<cLine)(hi:PE X i ty)(ho:PE X o td):PC X .NotIn i o (tDNotIn ty td):=by
 intro pins s σ H Q I h
 refine thn (hi pins s σ H _ I h) λiv s1 ⟨y,H1,I1,ry,q1⟩=>thn (ho pins s1 σ H1 _ I1 q1) λu s2 ⟨x,H2,I2,rx,a,ov,ex,g,q2⟩=>?_
 subst ex
 obtain rfl:u=Value.ref a:=rx
 exact bbQ hu I2 g ry λs3 I3=>⟨.bl (!ov.isSome),H2,I3,rfl,q2⟩
theorem oZ(hu:X.A.units+1<cLine)(ho:PE X o td)(hi:PE X i ty)(hv:PE X value tv)(hs:swapsWith value (some (.Subscript o i pos')) pos.line X.env=pure false) :
  PS X (.Assign [.Subscript o i pos'] value pos) (sDPut td ty tv):=by
 intro pins s σ H D I h
 refine wpAny_Assign_Subscript (thn (hv pins s σ H _ I h) λr s1 ⟨v,H1,I1,rv,q1⟩=>thn (ho pins s1 σ H1 _ I1 q1) λu s2 ⟨x,H2,I2,rx,q2⟩=>thn (hi pins s2 σ H2 _ I2 q2) λiv s3 ⟨y,H3,I3,ry,a,H4,ex,g,q3⟩=>?_) hs
 subst ex
 obtain rfl:u=Value.ref a:=rx
 exact aQQ hu I3 g ry rv λs4 I4=>⟨σ,H4,I4,q3⟩
end
theorem auW{P:Program}{w:World}{H:Hp}(h:Heap)(hb:sysModules<h.objs.size):ObjOk P w H (h.push { cls:=.type "dict",data:=.dict #[] }) h.objs.size (.dK []):=
 ⟨Nat.zero_le _,beq_eq_false_iff_ne.mpr (Ne.symm (Nat.ne_of_lt hb)),[],.nil,Heap.DictOf.new h⟩
theorem aVQ{P:Program}{w:World}{H:Hp}(h:Heap)(hb:sysModules<h.objs.size):ObjOk P w H (h.push { cls:=.type "dict",data:=.dict #[] }) h.objs.size (.dT []):=
 ⟨Nat.zero_le _,beq_eq_false_iff_ne.mpr (Ne.symm (Nat.ne_of_lt hb)),[],.nil,_,#[],0,Heap.get?_push_size _ rfl,⟨rfl,rfl,rfl⟩,rfl,rfl,List.nodup_nil⟩
def tDNewK:TE:=λ_ H Q=>∀p,H p=none->Q (.ref p) (upd H p (.dK []))
def tDNewT:TE:=λ_ H Q=>∀p,H p=none->Q (.ref p) (upd H p (.dT []))
section
variable{X:Cx}{pos:Pos}
theorem oQ:PE X (.Dict [] [] pos) tDNewK:=λpins s σ H Q I h=>
 wpAny_Dict_empty ⟨.ref s.heap.objs.size,_,I.laid (a:=s.heap.objs.size) (o:=.dK []) (t':=s.toks) (λ_ _ q=>Heap.get?_push_of_some _ q) (Nat.le_refl _) (auW s.heap I.big),rfl,h _ (I.hok.fresh (Nat.le_refl _))⟩
theorem aVU:PE X (.Dict [] [] pos) tDNewT:=λpins s σ H Q I h=>
 wpAny_Dict_empty ⟨.ref s.heap.objs.size,_,I.laid (a:=s.heap.objs.size) (o:=.dT []) (t':=s.toks) (λ_ _ q=>Heap.get?_push_of_some _ q) (Nat.le_refl _) (aVQ s.heap I.big),rfl,h _ (I.hok.fresh (Nat.le_refl _))⟩
end
def tPairs:List (TE×TE)->St->Hp->(List (V×V)->Hp->Prop)->Prop
 |[],_,H,Q=>Q [] H
 |(tk,tv)::r,σ,H,Q=>tk σ H λx H1=>tv σ H1 λy H2=>tPairs r σ H2 λps H3=>Q ((x,y)::ps) H3
abbrev VV:List (V×V)->List (Value×Value)->Prop:=Paired λp q=>RelV p.1 q.1/\RelV p.2 q.2
def PPs(X:Cx)(pos:Pos)(keys:List (Option Expr))(values:List Expr)(trs:List (TE×TE)):Prop:=
 ∀(pins:List (Addr×Obj))(s:Shared)(σ:St)(H:Hp)(Q:List (V×V)->Hp->Prop),Inv X pins σ H s->tPairs trs σ H Q->
  wpAny (model X.prog X.w) X.A (evalPairs (pairTrees keys values X.env pos)) (λvs s'=>∃ps H',Inv X pins σ H' s'/\VV ps vs/\Q ps H') X.xe s
theorem bbV{X:Cx}{pos:Pos}:PPs X pos [] [] []:=λpins s σ H Q I h=>pairTrees_nil_walk ⟨[],H,I,.nil,h⟩
theorem aVV{X:Cx}{pos:Pos}{k v:Expr}{ks:List (Option Expr)}{vs:List Expr}{tk tv:TE}{trs:List (TE×TE)}(hk:PE X k tk)(hv:PE X v tv)(hr:PPs X pos ks vs trs) :
  PPs X pos (some k::ks) (v::vs) ((tk,tv)::trs):=λpins s σ H Q I h=>
 pairTrees_cons_walk (thn (hk pins s σ H _ I h) λu s1 ⟨x,H1,I1,rx,q1⟩=>thn (hv pins s1 σ H1 _ I1 q1) λw2 s2 ⟨y,H2,I2,ry,q2⟩=>
  thn (hr pins s2 σ H2 _ I2 q2) λws s3 ⟨ps,H3,I3,rel,q3⟩=>⟨(x,y)::ps,H3,I3,.cons ⟨rx,ry⟩ rel,q3⟩)
def mergeK(kvs more:List (Key×V)):List (Key×V):=more.foldl (λacc kv=>putK acc kv.1 kv.2) kvs
theorem KV.merge:∀{more:List (Key×V)}{rs:List (Key×Value)}{kvs:List (Key×V)}{vs:List (Key×Value)},KV more rs->KV kvs vs->KV (mergeK kvs more) (merged vs rs):=by
 intro more rs kvs vs r
 unfold KV at r
 induction r generalizing kvs vs with
 |nil=>intro q;exact q
 |@cons p q ps qs h t ih=>
  intro r0
  have e:KV (putK kvs p.1 p.2) (stored vs q.1 q.2):=by
   have:=r0.put p.1 h.2
   rw[<-h.1];exact this
  exact ih e
theorem NY:∀(more kvs:List (Key×V)),(mergeK kvs more).length<=kvs.length+more.length
 |[],kvs=>by show kvs.length<=kvs.length+0;omega
 |p::r,kvs=>by
  have h1:=NY r (putK kvs p.1 p.2)
  have h2:=nX kvs p.1 p.2
  show(mergeK (putK kvs p.1 p.2) r).length<=_
  rw[List.length_cons];omega
theorem adX{P:Program}{w:World}:∀{kvs:List (Key×V)}{ws:List (Value×Value)},VV (kvs.map λkv=>(kV kv.1,kv.2)) ws->∃rs,Carries (mixKind P w) ws rs/\KV kvs rs
 |[],_,r=>by rw[List.map_nil] at r;cases r;exact⟨[],True.intro,.nil⟩
 |p::kvs,_,r=>by
  rw[List.map_cons] at r
  cases r with
  |@cons a b as bs h t=>
   obtain⟨rs,c,q⟩:=adX (P:=P) (w:=w) t
   obtain⟨b1,b2⟩:=b
   exact⟨(p.1,b2)::rs,⟨wQ h.1,rfl,c⟩,.cons ⟨rfl,h.2⟩ q⟩
def tDisp(trs:List (TE×TE)):TE:=λσ H Q=>∀p,H p=none->tPairs trs σ (upd H p (.dK [])) λps H2=>H2 p=some (.dK [])/\∃kvs:List (Key×V),ps=kvs.map (λkv=>(kV kv.1,kv.2))/\kvs.length<=15/\Q (.ref p) (upd H2 p (.dK (mergeK [] kvs)))
theorem bbW{X:Cx}{pos:Pos}{keys:List (Option Expr)}{values:List Expr}{trs:List (TE×TE)}(h:PPs X pos keys values trs)(hall:keys.all (·.isSome)=true)(hl:keys.length=values.length)(h0:keys≠[])
  (h15:keys.length<=15):PE X (.Dict keys values pos) (tDisp trs):=by
 intro pins s σ H Q I q
 have hn:=I.hok.fresh (Nat.le_refl s.heap.objs.size)
 have I1:=I.laid (a:=s.heap.objs.size) (o:=.dK []) (h':=s.heap.push { cls:=.type "dict",data:=.dict #[] }) (t':=s.toks) (λ_ _ q=>Heap.get?_push_of_some _ q) (Nat.le_refl _) (auW s.heap I.big)
 refine wpAny_Dict_walk (knd:=mixKind X.prog X.w) hall hl h0 h15 (thn (h pins _ σ _ _ I1 (q _ hn)) λws s2 ⟨ps,H2,I2,rel,e,kvs,ep,lk,q2⟩=>?_)
 subst ep
 obtain⟨rs,c,rk⟩:=adX (P:=X.prog) (w:=X.w) rel
 obtain⟨z,hd,vs0,r0,dd⟩:=arZ I2.hok e
 cases r0
 refine⟨rs,c,dd,λh' dd' hs=>⟨.ref s.heap.objs.size,_,?_,rfl,q2⟩⟩
 have hz:(mergeK [] kvs).length<=sizeLine:=by
  have h1:=NY kvs []
  rw[List.length_nil] at h1
  rw[sizeLine_eq];omega
 have he:∃q,h'.get? s.heap.objs.size=some q:=let ⟨q,_,_,hq,_⟩:=dd';⟨q,hq⟩
 exact IW I2 (by rw[e];exact True.intro) hs he (adW hz hd (rk.merge .nil) dd')
structure M1(X:Cx)(o:Expr)(m:Str)(apos:Pos)(e:Expr)(cpos:Pos):Prop where
 base:attributeBase o m X.env (eval o X.env)=eval o X.env
 few:((backTo cpos (starEach [e] X.env)).all (λx=>!x.1)&&(backToKw cpos (keywordEach [] X.env)).all (λx=>x.1.isSome)
  && decide (([e]:List Expr).length+([]:List Keyword).length+(if([]:List Keyword).isEmpty then 0 else 1)<30))=true
 line:(apos.endLine==cpos.line)=true
 trees:backTo cpos (starEach [e] X.env)=[(false,eval e X.env)]
structure M2(X:Cx)(o:Expr)(m:Str)(apos:Pos)(e f:Expr)(cpos:Pos):Prop where
 base:attributeBase o m X.env (eval o X.env)=eval o X.env
 few:((backTo cpos (starEach [e,f] X.env)).all (λx=>!x.1)&&(backToKw cpos (keywordEach [] X.env)).all (λx=>x.1.isSome)
  && decide (([e,f]:List Expr).length+([]:List Keyword).length+(if([]:List Keyword).isEmpty then 0 else 1)<30))=true
 line:(apos.endLine==cpos.line)=true
 trees:backTo cpos (starEach [e,f] X.env)=[(false,eval e X.env),(false,eval f X.env)]
def IsD(H:Hp)(a:Addr):Prop:=(∃kvs,Rd H a (.dK kvs))\/∃kvs,Rd H a (.dT kvs)
theorem auX{X:Cx}{pins:List (Addr×Obj)}{σ:St}{H:Hp}{s:Shared}{a:Addr}(I:Inv X pins σ H s)(d:IsD H a) :
  s.TypeIs (.ref a) "dict"/\(∀b,Value.ref a = .ref b->∃ob,s.heap.get? b=some ob/\ob.dict=none)/\(a==sysModules)=false:=by
 rcases d with ⟨kvs,e⟩ | ⟨kvs,e⟩
 ·obtain⟨_,hd,vs,_,dd⟩:=sQ I.hok e
  refine⟨dd.typeIs,λb q=>?_,hd⟩
  cases q
  obtain⟨ob,_,_,h1,h2,_⟩:=dd
  exact⟨ob,h1,h2.2.1⟩
 ·obtain⟨_,hd,xs,_,dd⟩:=EU I.hok e
  refine⟨dd.typeIs,λb q=>?_,hd⟩
  cases q
  obtain⟨ob,_,_,h1,h2,_⟩:=dd
  exact⟨ob,h1,h2.2.1⟩
section
variable{X:Cx}{pins:List (Addr×Obj)}{σ:St}{H:Hp}{s:Shared}{a:Addr}{y d:V}{u r:Value}{o:Option V}{A:Around}{E:Value->Shared->Prop}
theorem bgK{Q:Value->Shared->Prop}(hu:A.units+1<cLine)(I:Inv X pins σ H s)(g:DGet H a y o)(ry:RelV y u)(h:∀w' s',Inv X pins σ H s'->RelV (o.getD .non) w'->Q w' s') :
  wpAny (model X.prog X.w) A (call (.builtin "dict.get") [.ref a,u]) Q E s:=by
 rcases g with ⟨kvs,k,e,ey,l⟩ | ⟨kvs,k,b,e,ey,eb,l⟩
 ·subst ey
  obtain⟨z,hd,vs,rel,dd⟩:=sQ I.hok e
  refine call_meetsIn PySem.F.slot_dict_get dd.typeIs PySem.F.entry_dict_get (PySem.F.args_dict_get_2 _ _) (meets_dict_get (mixKind X.prog X.w) a (wQ ry) hd) ⟨_,dd.mapOf,h _ _ (I.tok _) ?_⟩
  rw[l]
  exact(rel.val k).getD rfl
 ·subst ey
  cases(show u=Value.ref b from ry)
  obtain⟨z,hd,xs,rel,dd⟩:=EU I.hok e
  refine call_meetsIn PySem.F.slot_dict_get dd.typeIs PySem.F.entry_dict_get (PySem.F.args_dict_get_2 _ _) (meetsH_dict_get (tupleKind (mixKind X.prog X.w)) a b hd) ⟨tupleKind_room_in1 hu,k,xs,BV I.hok eb,dd,h _ _ (I.tok _) ?_⟩
  rw[l]
  exact(rel.val k).getD rfl
theorem bgQ{Q:Value->Shared->Prop}(hu:A.units+1<cLine)(I:Inv X pins σ H s)(g:DGet H a y o)(ry:RelV y u)(rd:RelV d r)(h:∀w' s',Inv X pins σ H s'->RelV (o.getD d) w'->Q w' s') :
  wpAny (model X.prog X.w) A (call (.builtin "dict.get") [.ref a,u,r]) Q E s:=by
 rcases g with ⟨kvs,k,e,ey,l⟩ | ⟨kvs,k,b,e,ey,eb,l⟩
 ·subst ey
  obtain⟨z,hd,vs,rel,dd⟩:=sQ I.hok e
  refine call_meetsIn PySem.F.slot_dict_get dd.typeIs PySem.F.entry_dict_get (PySem.F.args_dict_get_3 _ _ _) (meets_dict_get_default (mixKind X.prog X.w) a (wQ ry) hd r) ⟨_,dd.mapOf,h _ _ (I.tok _) ?_⟩
  rw[l]
  exact(rel.val k).getD rd
 ·subst ey
  cases(show u=Value.ref b from ry)
  obtain⟨z,hd,xs,rel,dd⟩:=EU I.hok e
  refine call_meetsIn PySem.F.slot_dict_get dd.typeIs PySem.F.entry_dict_get (PySem.F.args_dict_get_3 _ _ _) (meetsH_dict_get_default (tupleKind (mixKind X.prog X.w)) a b hd r) ⟨tupleKind_room_in1 hu,k,xs,BV I.hok eb,dd,h _ _ (I.tok _) ?_⟩
  rw[l]
  exact(rel.val k).getD rd
end
def tDGet1(td ty:TE):TE:=λσ H Q=>td σ H λx H1=>∃a,x = .ref a/\IsD H1 a/\ty σ H1 λy H2=>∃o,DGet H2 a y o/\Q (o.getD .non) H2
def tDGet2(td ty tx:TE):TE:=λσ H Q=>td σ H λx H1=>∃a,x = .ref a/\IsD H1 a/\ty σ H1 λy H2=>tx σ H2 λz H3=>∃o,DGet H3 a y o/\Q (o.getD z) H3
def tDPop1(td ty:TE):TE:=λσ H Q=>td σ H λx H1=>∃a,x = .ref a/\IsD H1 a/\ty σ H1 λy H2=>∃kvs k v,H2 a=some (.dK kvs)/\y=kV k/\valV kvs k=some v/\Q v (upd H2 a (.dK (dropK kvs k)))
section
variable{X:Cx}{o e f:Expr}{apos cpos:Pos}{td ty tx:TE}
theorem kJ(hu:X.A.units+1<cLine)(ho:PE X o td)(he:PE X e ty)(m:M1 X o "get" apos e cpos):PE X (.Call (.Attribute o "get" apos) [e] [] cpos) (tDGet1 td ty):=by
 intro pins s σ H Q I h
 refine wpAny_Call_method m.base m.few m.line PySem.F.plainAttrs_dict PySem.F.slot_dict_get PySem.F.type_dict_get (thn (ho pins s σ H _ I h) λu s1 ⟨x,H1,I1,rx,a,ex,d,q1⟩=>?_)
 subst ex
 obtain rfl:u=Value.ref a:=rx
 obtain⟨t1,t2,_⟩:=auX I1 d
 refine⟨t1,t2,?_⟩
 rw[m.trees]
 refine Calls.callWith_builtin rfl (Calls.evalArgs_plain (Calls.spliced_cons (thn (he pins s1 σ H1 _ I1 q1) λiv s2 ⟨y,H2,I2,ry,ov,g,q2⟩=>Calls.spliced_nil ?_)))
 exact bgK hu I2 g ry λw' s3 I3 rw'=>⟨_,H2,I3,rw',q2⟩
theorem aVW(hu:X.A.units+1<cLine)(ho:PE X o td)(he:PE X e ty)(hf:PE X f tx)(m:M2 X o "get" apos e f cpos):PE X (.Call (.Attribute o "get" apos) [e,f] [] cpos) (tDGet2 td ty tx):=by
 intro pins s σ H Q I h
 refine wpAny_Call_method m.base m.few m.line PySem.F.plainAttrs_dict PySem.F.slot_dict_get PySem.F.type_dict_get (thn (ho pins s σ H _ I h) λu s1 ⟨x,H1,I1,rx,a,ex,d,q1⟩=>?_)
 subst ex
 obtain rfl:u=Value.ref a:=rx
 obtain⟨t1,t2,_⟩:=auX I1 d
 refine⟨t1,t2,?_⟩
 rw[m.trees]
 refine Calls.callWith_builtin rfl (Calls.evalArgs_plain (Calls.spliced_cons (thn (he pins s1 σ H1 _ I1 q1) λiv s2 ⟨y,H2,I2,ry,q2⟩=>
  Calls.spliced_cons (thn (hf pins s2 σ H2 _ I2 q2) λfv s3 ⟨z,H3,I3,rz,ov,g,q3⟩=>Calls.spliced_nil ?_))))
 exact bgQ hu I3 g ry rz λw' s4 I4 rw'=>⟨_,H3,I4,rw',q3⟩
theorem aVX(ho:PE X o td)(he:PE X e ty)(m:M1 X o "pop" apos e cpos):PE X (.Call (.Attribute o "pop" apos) [e] [] cpos) (tDPop1 td ty):=by
 intro pins s σ H Q I h
 refine wpAny_Call_method m.base m.few m.line PySem.F.plainAttrs_dict PySem.F.slot_dict_pop PySem.F.type_dict_pop (thn (ho pins s σ H _ I h) λu s1 ⟨x,H1,I1,rx,a,ex,d,q1⟩=>?_)
 subst ex
 obtain rfl:u=Value.ref a:=rx
 obtain⟨t1,t2,_⟩:=auX I1 d
 refine⟨t1,t2,?_⟩
 rw[m.trees]
 refine Calls.callWith_builtin rfl (Calls.evalArgs_plain (Calls.spliced_cons (thn (he pins s1 σ H1 _ I1 q1) λiv s2 ⟨y,H2,I2,ry,kvs,k,v,ea,ey,l,q2⟩=>Calls.spliced_nil ?_)))
 subst ey
 exact bjV I2 ea ry l (.inl rfl) λw' s3 I3 rw'=>⟨v,_,I3,rw',q2⟩
end
section
variable{X:Cx}{pins:List (Addr×Obj)}{σ:St}{H:Hp}{s:Shared}{a:Addr}{kvs:List (Key×V)}{A:Around}{E:Value->Shared->Prop}
end
section
variable{X:Cx}{pins:List (Addr×Obj)}{σ:St}{H:Hp}{s:Shared}{a:Addr}{y:V}{u:Value}{A:Around}{E:Value->Shared->Prop}
end
end L2
namespace L2
open PySem PySem.Spec PyProof.Rows
section
variable{prog:Program}{w:World}{A:Around}{E:Value->Shared->Prop}
end
section
variable{X:Cx}
end
end L2
namespace L2
open PySem PySem.Spec PyProof.Rows
theorem aiK:bootBuiltins "reversed"=some (.type "reversed"):=by decide +kernel
section
variable{X:Cx}{pins:List (Addr×Obj)}{σ:St}{H:Hp}{s:Shared}{h':Heap}
theorem Inv.turnedNew{t':Nat}{ch:List Addr}{T:Addr}{ob:HO}(I:Inv X pins σ H s)(k:∀b o,b∉ch->s.heap.get? b=some o->h'.get? b=some o)(hf:∀b∈ch,FpOk X pins H b)(hT:s.heap.objs.size<=T)
  (new:ObjOk X.prog X.w (upd H T ob) h' T ob):Inv X pins σ (upd H T ob) { s with heap:=h',toks:=t' }:=by
 have hn:H T=none:=I.hok.fresh hT
 have nit:∀b u,H b=some u->b∉ch:=λb u e z=>by
  have q:=(hf b z).1
  rw[q] at e;cases e
 refine I.step (g':=s.gens) (d':=s.drawn) (ch:=ch) (λb hb=>⟨(hf b hb).2.2.2.1,(hf b hb).2.1,(hf b hb).2.2.2.2.1,(hf b hb).2.2.2.2.2⟩) (λb o _ _ hc e _=>k b o hc e) (λb o _ _ hc e _=>⟨o.slots,k b o hc e⟩)
  (λb o _ e n=>?_) (λb o hc e=>⟨o,k b o hc e⟩) (λb xs e=>?_) (λb o u e=>?_) (λb ps e=>⟨#[],?_⟩) (λm hm=>?_) (λb u e=>?_) I.bare
 ·rw[aV (Nat.ne_of_lt (Nat.lt_of_lt_of_le (Heap.lt_size e) hT))];exact n
 ·rw[aV (aX e hn)];exact e
 ·rw[aV (aX e hn)];exact e
 ·rw[aV (aX e hn),e];simp
 ·obtain⟨o,es,ep,ho,r⟩:=hm
  exact⟨o,es,ep,k _ o (λz=>(hf _ z).2.1 rfl) ho,r⟩
 ·by_cases hb:b=T
  ·subst hb
   rw[upd_same] at e
   cases e
   exact new
  ·rw[aV hb] at e
   refine(I.hok b u e).stay (λc v hc q=>k c v ?_ q) (λc q=>by rw[aV (aX q hn)];exact q) λc xs q=>by rw[aV (aX q hn)];exact q
   rcases hc with z | z
   ·rw[z];exact nit b u e
   ·exact nit c _ z
theorem Inv.lock{d:Addr}{u:HO}(I:Inv X pins σ H s)(h:H d=some u)(mu:Mut (some u)):∃od,Inv X pins σ (upd H d (.frz od u)) s:=by
 have x:=I.hok d u h
 have ex:∃od,s.heap.get? d=some od:=by
  cases u with
  |lst xs=>obtain⟨_,_,_,_,e⟩:=x;exact⟨_,e⟩
  |dK kvs=>obtain⟨_,_,_,_,o,_,_,e,_⟩:=x;exact⟨o,e⟩
  |dT kvs=>obtain⟨_,_,_,_,o,_,_,e,_⟩:=x;exact⟨o,e⟩
  |set S n=>obtain⟨o,_,_,_,e,_⟩:=x;exact⟨o,e⟩
  |ins C dx fs=>obtain⟨_,_,_,e,_⟩:=x;exact⟨_,e⟩
  |ext φ=>obtain⟨_,⟨_,e⟩,_⟩:=x;exact⟨_,e⟩
  |_=>exact False.elim mu
 obtain⟨od,e⟩:=ex
 have new:ObjOk X.prog X.w (upd H d (.frz od u)) s.heap d (.frz od u):=by
  refine⟨e,x.stay (λb v _ q=>q) (λb q=>?_) λb xs q=>?_⟩
  ·rw[aV (λz=>by rw[z,h] at q;cases q;exact mu)];exact q
  ·rw[aV (λz=>by rw[z,h] at q;cases q;exact mu)];exact q
 exact⟨od,I.write (x:=d) (e:=d) (t':=s.toks) (h':=s.heap) (by rw[h];exact mu) (.inl rfl) (λb v _ q=>q) ⟨od,e⟩ new⟩
theorem Inv.nofrz{d:Addr}{u:HO}(I:Inv X pins σ H s)(h:H d=some u)(mu:Mut (some u)):∀o' u',X.H_0 d≠some (.frz o' u'):=λo' u' e=>by
 have q:=I.base.frzs d o' u' e
 rw[h] at q
 cases q
 exact mu
theorem Inv.unlock{d:Addr}{od:Obj}{u:HO}(I:Inv X pins σ H s)(h:H d=some (.frz od u))(hn:∀o' u',X.H_0 d≠some (.frz o' u')):Inv X pins σ (upd H d u) s:=by
 have neH:∀b o,H b=some o->(∀o' u',o≠.frz o' u')->b≠d:=λb o e hne z=>by
  rw[z,h] at e
  cases e
  exact hne _ _ rfl
 have neN:∀b,H b=none->b≠d:=λb e z=>by rw[z,h] at e;cases e
 refine⟨I.ok,I.os,I.bare,⟨I.base.keep,I.base.slot,λb o e n hx=>?_,I.base.there,λb xs e=>?_,λb o x e=>?_,λb ps e=>?_⟩,I.loc,I.cell,?_,λx c e=>?_,λp hp=>?_,λb o e=>?_,I.len⟩
 ·rw[aV (neN b (I.base.free b o e n hx))];exact I.base.free b o e n hx
 ·have q:=I.base.tups b xs e
  rw[aV (neH b _ q (λ_ _ z=>nomatch z))];exact q
 ·have q:=I.base.frzs b o x e
  rw[aV (λz=>by rw[z] at e;exact hn _ _ e)];exact q
 ·obtain⟨m,q⟩:=I.base.tbls b ps e
  exact⟨m,by rw[aV (neH b _ q (λ_ _ z=>nomatch z))];exact q⟩
 ·rw[aV (neN _ I.free)];exact I.free
 ·rw[aV (neN c (I.freeC x c e))];exact I.freeC x c e
 ·obtain⟨e,n,r⟩:=I.pin p hp
  exact⟨e,by rw[aV (neN _ n)];exact n,r⟩
 ·by_cases hb:b=d
  ·rw[hb,upd_same] at e
   cases e
   rw[hb]
   obtain⟨_,x⟩:=I.hok d _ h
   exact x.stay (λc v _ q=>q) (λc q=>by rw[aV (neH c _ q (λ_ _ z=>nomatch z))];exact q) λc xs q=>by rw[aV (neH c _ q (λ_ _ z=>nomatch z))];exact q
  ·rw[aV hb] at e
   exact(I.hok b o e).stay (λc v _ q=>q) (λc q=>by rw[aV (neH c _ q (λ_ _ z=>nomatch z))];exact q) λc xs q=>by rw[aV (neH c _ q (λ_ _ z=>nomatch z))];exact q
end
def tLock(t:TS):TS:=λD σ H=>∃d u,H d=some u/\Mut (some u)/\∀od,t ⟨λσ' H'=>H' d=some (.frz od u)/\D.nx σ' (upd H' d u),λv H'=>H' d=some (.frz od u)/\D.rt v (upd H' d u),λσ' H'=>H' d=some (.frz od u)/\D.bk σ' (upd H' d u),λσ' H'=>H' d=some (.frz od u)/\D.ct σ' (upd H' d u)⟩ σ (upd H d (.frz od u))
def tLockE(t:TE):TE:=λσ H Q=>∃d u,H d=some u/\Mut (some u)/\∀od,t σ (upd H d (.frz od u)) λv H'=>H' d=some (.frz od u)/\Q v (upd H' d u)
section
variable{X:Cx}
theorem aiQ{st:Stmt}{t:TS}(h:PS X st t):PS X st (tLock t):=by
 intro pins s σ H D I hw
 obtain⟨d,u,hd,mu,hw⟩:=hw
 obtain⟨od,I1⟩:=I.lock hd mu
 refine thn (h pins s σ _ _ I1 (hw od)) λf s1 q=>?_
 cases f with
 |next=>obtain⟨σ',H',I2,e,q⟩:=q;exact⟨σ',_,I2.unlock e (I.nofrz hd mu),q⟩
 |brk=>obtain⟨σ',H',I2,e,q⟩:=q;exact⟨σ',_,I2.unlock e (I.nofrz hd mu),q⟩
 |cont=>obtain⟨σ',H',I2,e,q⟩:=q;exact⟨σ',_,I2.unlock e (I.nofrz hd mu),q⟩
 |ret v=>obtain⟨x,σ',H',I2,r,e,q⟩:=q;exact⟨x,σ',_,I2.unlock e (I.nofrz hd mu),r,q⟩
theorem UJ{e:Expr}{t:TE}(h:PE X e t):PE X e (tLockE t):=by
 intro pins s σ H Q I hw
 obtain⟨d,u,hd,mu,hw⟩:=hw
 obtain⟨od,I1⟩:=I.lock hd mu
 refine thn (h pins s σ _ _ I1 (hw od)) λv s1 ⟨x,H1,I2,r,e2,q⟩=>?_
 exact⟨x,_,I2.unlock e2 (I.nofrz hd mu),r,q⟩
theorem IX{tg:Expr}{pins:List (Addr×Obj)}{σ:St}{H:Hp}{s:Shared}{R:It->Hp->Prop}{J:It}{tn:Nat->Heap->Prop}{tk:Nat}(I:Inv X pins σ H s)(o:Obj)
  (T:Turn X.prog X.w X.K tg J [s.heap.objs.size] s.heap.objs.size tn) (st:tn 0 (s.heap.push o)) (q:R J H):PIE X pins σ tg R (.ref s.heap.objs.size) { s with heap:=s.heap.push o,toks:=tk }:=by
 refine⟨s.heap.objs.size,[s.heap.objs.size],tn,J,H,rfl,I.kept λb ob e=>Heap.get?_push_of_some _ e,T,st,λb hb=>?_,q⟩
 have e:b=s.heap.objs.size:=by simpa using hb
 subst e
 exact I.fpOk (Nat.le_refl _) (I.hok.fresh (Nat.le_refl _))
end
def Itc(lo c:Int)(n:Nat):It:=⟨λi _=>i<n,λi H x H'=>H'=H/\x = .int (lo+(i:Nat)*c),λi _=>n<=i⟩
theorem aBX{P:Program}{w:World}{K:PySem.W.Frag}{tg:Expr}(it:Addr)(lo c:Int)(n:Nat):Turn P w K tg (Itc lo c n) [it] it (λi h=>IsRangeIter h it (lo+(i:Nat)*c) ((n:Int) - (i:Nat)) c) where
 mem:=by simp
 obj:=λi h st b hb=>by
  have e:b=it:=by simpa using hb
  subst e
  exact⟨_,st,λv z=>nomatch z⟩
 keep:=λi h h' st k=>k it (by simp) _ st
 item:=by
  intro X hP hw hK hc i pins s σ H E I hf st hg
  subst hP hw hK
  obtain⟨f0,f1,f2,f3,f4,f5⟩:=hf it (by simp)
  have W:=Walks.range (prog:=X.prog) (w:=X.w) (I.ok.hd hc) it lo c n
  refine W.item i s _ _ hg st λv h' tk hv st' kk=>?_
  obtain⟨t,rfl⟩:=hv
  have I1:Inv X pins σ H { s with heap:=h',toks:=tk }:=I.turned (λb o hb e=>kk b o (by simpa using hb) e) f0 f1 f3 f4 f5
  exact⟨_,rfl,EJ (s:={ s with heap:=h',toks:=tk }) (n := "range_iterator") st' rfl rfl (by decide) ⟨.int (lo+(i:Nat)*c),H,I1,⟨t,rfl⟩,⟨rfl,rfl⟩,st',λb hb=>(hf b hb).1⟩⟩
 done:=by
  intro X hP hw hK hc i pins s σ H E I hf st hg
  subst hP hw hK
  obtain⟨f0,f1,f2,f3,f4,f5⟩:=hf it (by simp)
  exact wpAny_pyNext_range_end (I.ok.hd hc) st (by have:n<=i:=hg;omega) λh' eb=>⟨rfl,I.turned (t':=s.toks) (λb o hb e=>eb b o hb e) f0 f1 f3 f4 f5⟩
 self:=λA i s Q E st h=>wpAny_pyIter_rangeiter st h
def RgC(i j c:Int)(n:Nat):Prop:=c≠0/\c.natAbs<1073741824/\Builtin.Range.small i j c=true/\Builtin.Range.rangeSize i j c=n
def iRng3(ta:TA):TI:=λσ H R=>ta σ H λvs H1=>∃(i j c:Int)(n:Nat),vs=[.int i,.int j,.int c]/\RgC i j c n/\R (Itc i c n) H1
section
variable{X:Cx}{tg:Expr}
theorem aQU{a b c:Expr}{ta:TA}{p pos:Pos}(hg:Gl X "range")(hm:X.mg "range"=none)(ha:PA X [a,b,c] ta)
  (hs:starEach [a,b,c] X.env=(false,eval a X.env)::starEach [b,c] X.env:=by rfl) (hpl:(backTo pos (starEach [b,c] X.env)).any (·.1)=false:=by rfl) :
  PI X tg (.Call (.Name "range" p) [a,b,c] [] pos) (iRng3 ta):=by
 intro pins s σ H R I h
 refine Call_ (IQ I hg hm boot_range (PyProof.Rows.callWith_type1 (thn (ha pos pins s σ H _ I h) λus s1 ⟨vs,H1,I1,r1,q1⟩=>?_) hs hpl))
 obtain⟨i,j,k,n,e,⟨c0,c1,c2,c3⟩,q⟩:=q1
 subst e
 cases r1 with
 |cons r rr=>
  cases rr with
  |cons r' rr=>
   cases rr with
   |cons r'' rr=>
    cases rr
    obtain⟨t,rfl⟩:=r
    obtain⟨t',rfl⟩:=r'
    obtain⟨t'',rfl⟩:=r''
    refine call_range_3 c0 ?_ (.inl (PyProof.noPylong_small c1))
    refine wpAny_pyIter_range (IsRange.new ..) c2 ?_
    have I2:Inv X pins σ H1 { s1 with heap:=s1.heap.push { cls:=.type "range",data:=.fields #[.int i t,.int j t',.int k t''] } }:=I1.kept (t':=s1.toks) λb o e=>Heap.get?_push_of_some _ e
    refine IX (tk:=s1.toks) I2 _ (aBX _ i k n) ?_ q
    have e1:i+((0:Nat):Int)*k=i:=by simp
    have e2:(n:Int) - ((0:Nat):Int)=Builtin.Range.rangeSize i j k:=by rw[c3];simp
    show IsRangeIter _ _ (i+((0:Nat):Int)*k) ((n:Int) - ((0:Nat):Int)) k
    rw[e1,e2]
    exact Heap.get?_push_size _ rfl
end
theorem aJQ{lo c:Int}{n:Nat}{g:TG}{tb:TS}{D:Ends}{σ:St}{H:Hp}(Pv:Nat->St->Hp->Prop)(h0:Pv 0 σ H)
  (hs:∀i σ H,i<n->Pv i σ H->g (.int (lo+(i:Nat)*c)) σ H λσ2 H2=>tb { D with nx:=Pv (i+1),ct:=Pv (i+1),bk:=D.nx } σ2 H2) (hd:∀σ H,Pv n σ H->D.nx σ H) :
  ∃W:Nat->Nat->St->Hp->Prop,(∃m,W 0 m σ H)/\∀i m σ H,W i m σ H->
   ((Itc lo c n).stop i H/\D.nx σ H)\/((Itc lo c n).go i H/\∃N:St->Hp->Prop,(∀σ' H',N σ' H'->∃m',m'<m/\W (i+1) m' σ' H')/\∀x H',(Itc lo c n).yld i H x H'->g x σ H' λσ2 H2=>tb { D with nx:=N,ct:=N,bk:=D.nx } σ2 H2):=by
 refine⟨λi m σ H=>m=n - i/\i<=n/\Pv i σ H,⟨n,by simp,Nat.zero_le _,h0⟩,?_⟩
 rintro i m σ H ⟨rfl,hi,p⟩
 by_cases hlt:i<n
 ·refine .inr ⟨hlt,Pv (i+1),λσ' H' p'=>⟨n - (i+1),by omega,rfl,hlt,p'⟩,λx H' y=>?_⟩
  obtain⟨e,y⟩:=y
  subst e y
  exact hs i σ _ hlt p
 ·have e:i=n:=by omega
  subst e
  exact .inl ⟨Nat.le_refl _,hd σ H p⟩
def Itv(K:PySem.W.Frag)(a:Addr)(n:Nat):It:=
 ⟨λi H=>i<n/\∃(xs:List V)(x:V),SqL K H a xs/\xs[n - 1 - i]? = some x,λi H x H'=>H'=H/\∀xs,SqL K H a xs->xs[n - 1 - i]? = some x,λi _=>n<=i⟩
theorem aVY{P:Program}{w:World}{K:PySem.W.Frag}{tg:Expr}(a it:Addr)(n:Nat):Turn P w K tg (Itv K a n) [it] it (λi h=>i<=n/\h.IsRevIter it a ((n:Int) - 1 - (i:Nat))) where
 mem:=by simp
 obj:=λi h st b hb=>by
  have e:b=it:=by simpa using hb
  subst e
  obtain⟨_,o,e,c,d⟩:=st
  exact⟨o,e,λv z=>by rw[d] at z;cases z⟩
 keep:=λi h h' st k=>⟨st.1,st.2.at λo e=>k it (by simp) o e⟩
 item:=by
  intro X hP hw hK hc i pins s σ H E I hf st hg
  subst hP hw hK
  obtain⟨hin,xs,x,hq,hx⟩:=hg
  obtain⟨its,rv,p,hz⟩:=I.list hq
  obtain⟨u,hu,ru⟩:=rv.get hx
  obtain⟨f0,f1,f2,f3,f4,f5⟩:=hf it (by simp)
  obtain⟨_,hit⟩:=st
  have e1:(n:Int) - 1 - ((i:Nat):Int)=((n - 1 - i:Nat):Int):=by omega
  rw[e1] at hit
  refine wpAny_pyNext_rev_item hit p.isList (x:=u) (by simpa using hu) λh' st' sb=>?_
  have e2:((n - 1 - i:Nat):Int) - 1=(n:Int) - 1 - ((i+1:Nat):Int):=by omega
  rw[e2] at st'
  have I1:Inv X pins σ H { s with heap:=h' }:=I.turned (t':=s.toks) (λb o hb e=>(sb.2 b hb).trans e) f0 f1 f3 f4 f5
  obtain⟨o,e,c,d⟩:=id st'
  exact⟨u,rfl,EJ (s:={ s with heap:=h' }) e c d (by decide) ⟨x,H,I1,ru,⟨rfl,λys hy=>by rw[I.list_inj hy hq];exact hx⟩,⟨hin,st'⟩,λb hb=>(hf b hb).1⟩⟩
 done:=by
  intro X hP hw hK hc i pins s σ H E I hf st hg
  subst hP hw hK
  obtain⟨f0,f1,f2,f3,f4,f5⟩:=hf it (by simp)
  obtain⟨hin,hit⟩:=st
  have hge:n<=i:=hg
  have e1:(n:Int) - 1 - ((i:Nat):Int) = -1:=by omega
  rw[e1] at hit
  exact wpAny_pyNext_rev_end (I.ok.hd hc) hit λh' eb=>⟨rfl,I.turned (t':=s.toks) (λb o hb e=>eb b o hb e) f0 f1 f3 f4 f5⟩
 self:=λA i s Q E st h=>wpAny_pyIter_revIter st.2 h
def iRev(K:PySem.W.Frag)(ta:TA):TI:=λσ H R=>ta σ H λvs H1=>∃(a:Addr)(xs:List V),vs=[.ref a]/\SqL K H1 a xs/\R (Itv K a xs.length) H1
section
variable{X:Cx}{tg:Expr}
theorem qK{e:Expr}{ta:TA}{p pos:Pos}(hg:Gl X "reversed")(hm:X.mg "reversed"=none)(ha:PA X [e] ta)(hs:starEach [e] X.env=[(false,eval e X.env)]:=by rfl):PI X tg (.Call (.Name "reversed" p) [e] [] pos) (iRev X.K ta):=by
 intro pins s σ H R I h
 refine Call_ (IQ I hg hm aiK (PyProof.Rows.callWith_type1 (thn (ha pos pins s σ H _ I h) λus s1 ⟨vs,H1,I1,r1,q1⟩=>?_) hs rfl))
 obtain⟨a,xs,e,hq,q⟩:=q1
 subst e
 cases r1 with
 |cons r rr=>
  cases rr
  cases r
  obtain⟨its,rv,p',hz⟩:=I1.list hq
  have hl:=rv.length
  have e1:((its.toArray.size:Nat):Int) - 1=(xs.length:Int) - 1 - ((0:Nat):Int):=by simp only[List.size_toArray];omega
  refine call_reversed_list p'.isList (wpAny_pyIter_revIter (l:=a) (i:=((its.toArray.size:Nat):Int) - 1) ⟨_,Heap.get?_push_size _ rfl,rfl,rfl⟩ ?_)
  refine IX (tk:=s1.toks) I1 _ (aVY a _ xs.length) ⟨Nat.zero_le _,?_⟩ q
  rw[<-e1]
  exact⟨_,Heap.get?_push_size _ rfl,rfl,rfl⟩
end
def Its(x:Str):It:=⟨λi _=>i<x.cps.size,λi H v H'=>H'=H/\∃c,x.cps[i]? = some c/\v = .str ⟨#[c]⟩,λi _=>x.cps.size<=i⟩
theorem auY{P:Program}{w:World}{K:PySem.W.Frag}{tg:Expr}(it:Addr)(x:Str)(t:Tok)(ty:String)(hty:ty = "str_ascii_iterator"\/ty = "str_iterator") :
  Turn P w K tg (Its x) [it] it (λi h=>h.IsStrIter it ty x t i) where
 mem:=by simp
 obj:=λi h st b hb=>by
  have e:b=it:=by simpa using hb
  subst e
  obtain⟨o,e,c,d⟩:=st
  exact⟨o,e,λv z=>by rw[d] at z;cases z⟩
 keep:=λi h h' st k=>let ⟨o,ho,r⟩:=st;⟨o,k it (by simp) o ho,r⟩
 item:=by
  intro X hP hw hK hc i pins s σ H E I hf st hg
  subst hP hw hK
  obtain⟨f0,f1,f2,f3,f4,f5⟩:=hf it (by simp)
  have W:Walks X.prog X.w X.A it [it] [it] x.cps.size (SignAt x) (λi h=>h.IsStrIter it ty x t i):=by
   rcases hty with e | e
   ·rw[e];exact Walks.strAscii (I.ok.hd hc) it x t
   ·rw[e];exact Walks.strWide (I.ok.hd hc) it x t
  have hno:["enumerate", "zip", "dict_itemiterator", "dict_reverseitemiterator", "odict_iterator", "itertools.zip_longest", "itertools.pairwise"].contains ty=false:=by
   rcases hty with e | e
   ·rw[e];decide
   ·rw[e];decide
  refine W.item i s _ _ hg st λv h' tk hv st' kk=>?_
  obtain⟨c,u,hcx,rfl⟩:=hv
  have I1:Inv X pins σ H { s with heap:=h',toks:=tk }:=I.turned (λb o hb e=>kk b o (by simpa using hb) e) f0 f1 f3 f4 f5
  obtain⟨oi,e,cc,dd⟩:=id st'
  exact⟨_,rfl,EJ (s:={ s with heap:=h',toks:=tk }) e cc dd hno ⟨.str ⟨#[c]⟩,H,I1,⟨u,rfl⟩,⟨rfl,c,hcx,rfl⟩,st',λb hb=>(hf b hb).1⟩⟩
 done:=by
  intro X hP hw hK hc i pins s σ H E I hf st hg
  subst hP hw hK
  obtain⟨f0,f1,f2,f3,f4,f5⟩:=hf it (by simp)
  have hx:x.cps[i]? = none:=Array.getElem?_eq_none hg
  rcases hty with e | e
  ·rw[e] at st
   exact wpAny_pyNext_ascii_end (I.ok.hd hc) st hx λh' eb=>⟨rfl,I.turned (t':=s.toks) (λb o hb e=>eb b o hb e) f0 f1 f3 f4 f5⟩
  ·rw[e] at st
   exact wpAny_pyNext_wide_end (I.ok.hd hc) st hx λh' eb=>⟨rfl,I.turned (t':=s.toks) (λb o hb e=>eb b o hb e) f0 f1 f3 f4 f5⟩
 self:=λA i s Q E st h=>by
  rcases hty with e | e
  ·rw[e] at st;exact wpAny_pyIter_striter_ascii st h
  ·rw[e] at st;exact wpAny_pyIter_striter_wide st h
def iStr(te:TE):TI:=λσ H R=>te σ H λv H1=>∃x,v = .str x/\R (Its x) H1
theorem bgU{X:Cx}{tg e:Expr}{te:TE}(he:PE X e te):PI X tg e (iStr te):=by
 intro pins s σ H R I h
 refine thn (he pins s σ H _ I h) λv s1 ⟨y,H1,I1,r1,x,ex,q⟩=>?_
 subst ex
 obtain⟨t,rfl⟩:=r1
 cases ha:x.cps.all (· < 128)
 ·exact wpAny_pyIter_wide ha (IX (tk:=s1.toks) I1 _ (auY _ x t "str_iterator" (.inr rfl)) ⟨_,Heap.get?_push_size _ rfl,rfl,rfl⟩ q)
 ·exact wpAny_pyIter_ascii ha (IX (tk:=s1.toks) I1 _ (auY _ x t "str_ascii_iterator" (.inl rfl)) ⟨_,Heap.get?_push_size _ rfl,rfl,rfl⟩ q)
section
variable{prog:Program}{w:World}{A:Around}{E:Value->Shared->Prop}{s:Shared}
theorem amY{d:Addr}{o:Obj}{es:Array DictEntry}{ep:Nat}{Q:Value->Shared->Prop}(hd:(d==sysModules)=false)(ho:s.heap.get? d=some o)(hc:o.ExactDict)(hdat:o.data = .dict es ep)
  (hQ:Q (.ref s.heap.objs.size) { s with heap:=s.heap.push { cls:=.type "dict_keyiterator",data:=.fields #[.ref d,.int 0 0,.int es.size 0,.int ep 0] } }) :
  wpAny (model prog w) A (pyIter (.ref d)) Q E s:=by
 have hT:s.TypeIs (.ref d) "dict":=⟨o,ho,hc.1⟩
 refine wpAny_pyIter_slot hT F.slot_dict_iter (wpAny_call_entry F.slot_dict_iter hT F.entry_dict_iter ?_ (F.args_dict_iter_1 _))
 unfold Builtin.«dict.__iter__»
 refine wpAny_bind ?_
 unfold Builtin.Dict.dictSlotNone
 refine wpAny_bind (wpAny_notOrdered_dict hT ?_)
 show wpAny _ _ (pure (Value.ref d)) _ _ s
 refine wpAny_pure ?_
 show wpAny _ _ (Builtin.Dict.showsAll d >>= _) _ _ s
 unfold Builtin.Dict.showsAll
 rw[if_neg (by rw[hd];exact Bool.false_ne_true)]
 refine wpAny_bind (wpAny_pure ?_)
 refine wpAny_bind (wpAny_dictEntries ho hdat ?_)
 refine wpAny_bind (wpAny_dictEpoch ho hdat ?_)
 refine wpAny_bind (wpAny_newObj_type (wpAny_pure ⟨_,rfl, "dict_keyiterator",_,⟨_,Heap.get?_push_size _ rfl,rfl⟩,F.slot_dict_keyiterator_next.lookup,?_⟩))
 simpa[rawInt] using hQ
theorem aoZ{it d:Addr}{i n ep:Nat}{od:Obj}{es:Array DictEntry}{en:DictEntry}{Q:Option Value->Shared->Prop}(hit:s.heap.IsKeyIter it d i n ep)(hod:s.heap.get? d=some od)(hdd:od.data = .dict es ep)
  (hsz:es.size=n) (hx:es[i]? = some en) (hQ:∀h',h'.IsKeyIter it d (i+1) n ep->Heap.SameBut it s.heap h'->Q (some en.key) { s with heap:=h' }):wpAny (model prog w) A (pyNext (.ref it)) Q E s:=by
 obtain⟨o,ho,hc,hd⟩:=id hit
 unfold pyNext
 refine wpAny_bind (wpAny_attempt (wpAny_callSpecial?_slot (name:=Str.ofString "__next__") hit.typeIs F.slot_dict_keyiterator_next
  (wpAny_call_entry F.slot_dict_keyiterator_next hit.typeIs F.entry_dict_keyiterator_next ?_ (F.args_dict_keyiterator_next_1 _))))
 refine wpAny_bind (wpAny_pure ?_)
 refine wpAny_bind ?_
 refine wpAny_bind ?_
 first | refine wpAny_bind (wpAny_typeNameOfWhole_keyiter hit.typeIs (wpAny_pure ?_)) | refine wpAny_bind (wpAny_typeNameOf_keyiter hit.typeIs (wpAny_pure ?_))
 refine wpAny_bind (wpAny_fieldsOf ho hd ?_)
 have hown:Builtin.Dict_items.ownsTuple "dict_keyiterator"=false:=by decide
 simp only[hown,Bool.false_eq_true,if_false]
 show wpAny _ _ (if(Value.ref d==Value.none)=true then _ else _) _ _ s
 rw[if_neg (show ¬((Value.ref d==Value.none)=true) from Bool.false_ne_true)]
 refine wpAny_bind (wpAny_pure ?_)
 refine wpAny_bind (wpAny_dictEntries hod hdd ?_)
 rw[if_neg (by rw[hsz];simp)]
 refine wpAny_bind (wpAny_pure ?_)
 refine wpAny_bind (wpAny_dictEpoch hod hdd ?_)
 rw[if_neg (by simp)]
 refine wpAny_pure ?_
 obtain⟨hlt',hen⟩:=Array.getElem?_eq_some_iff.mp hx
 simp only[show ¬((i:Int)<0) from by omega,if_false,Int.toNat_natCast,Array.getElem?_eq_getElem hlt']
 refine wpAny_bind ?_
 first | refine wpAny_bind (wpAny_typeNameOfWhole_keyiter hit.typeIs (wpAny_pure ?_)) | refine wpAny_bind (wpAny_typeNameOf_keyiter hit.typeIs (wpAny_pure ?_))
 refine wpAny_bind (wpAny_isOneOf_keyiter hit.typeIs ?_)
 show wpAny _ _ (setField (.ref it) 1 (rawInt ((i:Int)+1)) >>= _) _ _ s
 refine wpAny_bind (wpAny_setField ho hd (by simp) ?_)
 have hit':(s.heap.update it (Obj.mapFields (·.setIfInBounds 1 (rawInt ((i:Int)+1))))).IsKeyIter it d (i+1) n ep:=
  ⟨_,Heap.get?_update_self _ ho (Obj.isFreed_of_fields (Obj.data_mapFields hd _)),(Obj.cls_mapFields ..).trans hc,by rw[Obj.data_mapFields hd];simp[rawInt]⟩
 refine wpAny_bind (wpAny_holding ?_)
 refine wpAny_bind (wpAny_isOneOf_keyiter (s:={ s with heap:=s.heap.update it (Obj.mapFields (·.setIfInBounds 1 (rawInt ((i:Int)+1)))) }) hit'.typeIs ?_)
 show wpAny _ _ (pure es[i].key) _ _ _
 rw[hen]
 exact wpAny_pure (wpAny_pure ⟨_,rfl,wpAny_pure (hQ _ hit' (Heap.SameBut.update ..))⟩)
theorem QY{it d:Addr}{i n ep:Nat}{od:Obj}{es:Array DictEntry}{Q:Option Value->Shared->Prop}(hh:A.handled=none)(hit:s.heap.IsKeyIter it d i n ep)(hod:s.heap.get? d=some od)(hdd:od.data = .dict es ep)
  (hsz:es.size=n) (hge:n<=i) (hQ:∀h',Heap.ExtBut it s.heap h'->Q none { s with heap:=h' }):wpAny (model prog w) A (pyNext (.ref it)) Q E s:=by
 obtain⟨o,ho,hc,hd⟩:=id hit
 unfold pyNext
 refine wpAny_bind (wpAny_attempt (wpAny_callSpecial?_slot (name:=Str.ofString "__next__") hit.typeIs F.slot_dict_keyiterator_next
  (wpAny_call_entry F.slot_dict_keyiterator_next hit.typeIs F.entry_dict_keyiterator_next ?_ (F.args_dict_keyiterator_next_1 _))))
 refine wpAny_bind (wpAny_pure ?_)
 refine wpAny_bind ?_
 refine wpAny_bind ?_
 first | refine wpAny_bind (wpAny_typeNameOfWhole_keyiter hit.typeIs (wpAny_pure ?_)) | refine wpAny_bind (wpAny_typeNameOf_keyiter hit.typeIs (wpAny_pure ?_))
 refine wpAny_bind (wpAny_fieldsOf ho hd ?_)
 have hown:Builtin.Dict_items.ownsTuple "dict_keyiterator"=false:=by decide
 simp only[hown,Bool.false_eq_true,if_false]
 show wpAny _ _ (if(Value.ref d==Value.none)=true then _ else _) _ _ s
 rw[if_neg (show ¬((Value.ref d==Value.none)=true) from Bool.false_ne_true)]
 refine wpAny_bind (wpAny_pure ?_)
 refine wpAny_bind (wpAny_dictEntries hod hdd ?_)
 rw[if_neg (by rw[hsz];simp)]
 refine wpAny_bind (wpAny_pure ?_)
 refine wpAny_bind (wpAny_dictEpoch hod hdd ?_)
 rw[if_neg (by simp)]
 refine wpAny_pure ?_
 have hge':es.size<=i:=by rw[hsz];exact hge
 simp only[show ¬((i:Int)<0) from by omega,if_false,Int.toNat_natCast,Array.getElem?_eq_none hge']
 refine wpAny_bind ?_
 first | refine wpAny_bind (wpAny_typeNameOfWhole_keyiter hit.typeIs (wpAny_pure ?_)) | refine wpAny_bind (wpAny_typeNameOf_keyiter hit.typeIs (wpAny_pure ?_))
 show wpAny _ _ (setField (.ref it) 0 .none >>= _) _ _ s
 refine wpAny_bind (wpAny_setField ho hd (by simp) ?_)
 show wpAny _ _ (newExc (.type "StopIteration") [] >>= _) _ _ _
 refine wpAny_bind ?_
 simp only[newExc,newTuple]
 refine wpAny_bind (wpAny_newObj_type ?_ (by size_fits))
 refine wpAny_bind (m:=firstArgMember _ _) (wpAny_of_eq (a:=Value.none) (by first | rfl | (simp only[firstArgMember];rfl)) ?_)
 refine wpAny_newObj_type ?_ (by size_fits)
 simp only[raiseNew]
 refine wpAny_bind (wpAny_handled ?_)
 rw[show A.in1.handled=none from hh]
 refine wpAny_bind (wpAny_pure (wpAny_throw ?_))
 refine wpAny_bind (wpAny_isInstance (T := "StopIteration") (b:=true) ⟨_,Heap.get?_push_size _ rfl,rfl⟩ isSubtype_stop ?_)
 exact wpAny_pure (hQ _ (((Heap.SameBut.update ..).extBut.push _).push _))
end
theorem bgV{κ:Type}{kvs:List (κ×V)}{vs:List (κ×Value)}(h:KV kvs vs):∀{i:Nat}{k:κ}{v:V},kvs[i]? = some (k,v)->∃u,vs[i]? = some (k,u)/\RelV v u:=by
 unfold KV at h
 induction h with
 |nil=>intro i k v e;simp at e
 |@cons a b l₁ l₂ r t ih=>
  intro i k v e
  cases i with
  |zero=>
   simp only[List.getElem?_cons_zero,Option.some.injEq] at e
   subst e
   refine⟨b.2,?_,r.2⟩
   simp only[List.getElem?_cons_zero]
   exact congrArg some (Prod.ext r.1.symm rfl)
  |succ j=>
   simp only[List.getElem?_cons_succ] at e ⊢
   exact ih e
theorem aJU{α β:Type}{G:α->β->Prop}{l₁:List α}{l₂:List β}(h:Paired G l₁ l₂):∀{i:Nat}{a:α},l₁[i]? = some a->∃b,l₂[i]? = some b/\G a b:=by
 induction h with
 |nil=>intro i a e;simp at e
 |@cons a b l₁ l₂ r t ih=>
  intro i a' e
  cases i with
  |zero=>
   simp only[List.getElem?_cons_zero,Option.some.injEq] at e
   subst e
   exact⟨b,rfl,r⟩
  |succ j=>
   simp only[List.getElem?_cons_succ] at e ⊢
   exact ih e
theorem aaJ{k:Key}{u:Value}(h:keyIs k u=true):RelV (kV k) u:=by
 rcases gX h with ⟨i,t,rfl,rfl⟩ | ⟨x,t,rfl,rfl⟩
 ·exact⟨t,rfl⟩
 ·exact⟨t,rfl⟩
section
variable{X:Cx}{pins:List (Addr×Obj)}{σ:St}{H:Hp}{s:Shared}{d:Addr}{o:Obj}
theorem Inv.frzK{kvs:List (Key×V)}(I:Inv X pins σ H s)(h:H d=some (.frz o (.dK kvs))) :
  (d==sysModules)=false/\s.heap.get? d=some o/\o.ExactDict/\∃(es:Array DictEntry)(ep:Nat)(vs:List (Key×Value)),o.data = .dict es ep/\es.size=kvs.length/\KV kvs vs/\s.heap.DictAt (mixKind X.prog X.w) d vs ep:=by
 obtain⟨hd,z,hs,vs,kv,o',es,ep,ho,hx,hdt,r⟩:=I.hok d _ h
 rw[hd] at ho
 cases ho
 refine⟨hs,hd,hx,es,ep,vs,hdt,?_,kv,o,es,hd,hx,hdt,r⟩
 have l1:=r.2.1.length
 have l2:kvs.length=vs.length:=Paired.length kv
 rw[Array.length_toList] at l1
 omega
theorem Inv.frzT{kvs:List (List Key×V)}(I:Inv X pins σ H s)(h:H d=some (.frz o (.dT kvs))) :
  (d==sysModules)=false/\s.heap.get? d=some o/\o.ExactDict/\∃(es:Array DictEntry)(ep:Nat),o.data = .dict es ep/\es.size=kvs.length/\
   ∀(i:Nat)(k:List Key)(v:V),kvs[i]? = some (k,v)->∃(en:DictEntry)(q:Addr),es[i]? = some en/\en.key = .ref q/\H q=some (.tup (k.map kV)):=by
 obtain⟨hd,z,hs,xs,pr,o',es,ep,ho,hx,hdt,he,_⟩:=I.hok d _ h
 rw[hd] at ho
 cases ho
 refine⟨hs,hd,hx,es,ep,hdt,?_,λi k v e=>?_⟩
 ·have l1:es.size=xs.length:=size_of_entries he
  have l2:kvs.length=xs.length:=Paired.length pr
  omega
 ·obtain⟨b,hb,e1,e2,_⟩:=aJU pr e
  have q:=entry_at he i
  rw[hb] at q
  exact⟨_,b.2.1,q,rfl,e2⟩
end
def Itk(d:Addr)(o:Obj)(kvs:List (Key×V)):It:=
 ⟨λi H=>H d=some (.frz o (.dK kvs))/\i<kvs.length,λi H x H'=>H'=H/\∃k v,kvs[i]? = some (k,v)/\x=kV k,λi H=>H d=some (.frz o (.dK kvs))/\kvs.length<=i⟩
def Itkt(d:Addr)(o:Obj)(kvs:List (List Key×V)):It:=
 ⟨λi H=>H d=some (.frz o (.dT kvs))/\i<kvs.length,λi H x H'=>H'=H/\∃(k:List Key)(v:V)(q:Addr),kvs[i]? = some (k,v)/\x = .ref q/\H q=some (.tup (k.map kV)),λi H=>H d=some (.frz o (.dT kvs))/\kvs.length<=i⟩
theorem UK{o:Obj}{es es':Array DictEntry}{ep ep':Nat}(h:o.data = .dict es ep)(h':o.data = .dict es' ep'):es'=es/\ep'=ep:=by
 rw[h] at h'
 cases h'
 exact⟨rfl,rfl⟩
section
variable{P:Program}{w:World}{K:PySem.W.Frag}{tg:Expr}{d:Addr}{o:Obj}{es:Array DictEntry}{ep:Nat}
theorem aQV{kvs:List (Key×V)}(it:Addr)(hod:o.data = .dict es ep):Turn P w K tg (Itk d o kvs) [it] it (λi h=>h.IsKeyIter it d i kvs.length ep) where
 mem:=by simp
 obj:=λi h st b hb=>by
  have e:b=it:=by simpa using hb
  subst e
  obtain⟨oi,e,c,dd⟩:=st
  exact⟨oi,e,λv z=>by rw[dd] at z;cases z⟩
 keep:=λi h h' st k=>st.at λoi e=>k it (by simp) oi e
 item:=by
  intro X hP hw hK hc i pins s σ H E I hf st hg
  subst hP hw hK
  obtain⟨hd,hi⟩:=hg
  obtain⟨f0,f1,f2,f3,f4,f5⟩:=hf it (by simp)
  obtain⟨hs,hgd,hx,es',ep',vs,hdt,hsz,kv,hm⟩:=I.frzK hd
  obtain⟨rfl,rfl⟩:=UK hod hdt
  obtain⟨⟨k,v⟩,hkv⟩:∃p,kvs[i]? = some p:=⟨kvs[i],List.getElem?_eq_getElem hi⟩
  obtain⟨u,hu,ru⟩:=bgV kv hkv
  have hl:kvs.length=vs.length:=Paired.length kv
  rw[hl] at st
  refine wpAny_pyNext_dict_item st hm hu λkey h' hkey st' sb=>?_
  have I1:Inv X pins σ H { s with heap:=h' }:=I.turned (t':=s.toks) (λb ob hb e=>(sb.2 b hb).trans e) f0 f1 f3 f4 f5
  obtain⟨oi,e,c,dd⟩:=id st'
  refine⟨key,rfl,EJ (s:={ s with heap:=h' }) e c dd (by decide) ⟨kV k,H,I1,aaJ (show keyIs k key=true from hkey),⟨rfl,k,v,hkv,rfl⟩,?_,λb hb=>(hf b hb).1⟩⟩
  show h'.IsKeyIter it d (i+1) kvs.length _
  rw[hl]
  exact st'
 done:=by
  intro X hP hw hK hc i pins s σ H E I hf st hg
  subst hP hw hK
  obtain⟨hd,hi⟩:=hg
  obtain⟨f0,f1,f2,f3,f4,f5⟩:=hf it (by simp)
  obtain⟨hs,hgd,hx,es',ep',vs,hdt,hsz,kv,hm⟩:=I.frzK hd
  obtain⟨rfl,rfl⟩:=UK hod hdt
  exact QY (I.ok.hd hc) st hgd hdt hsz hi λh' eb=>⟨rfl,I.turned (t':=s.toks) (λb ob hb e=>eb b ob hb e) f0 f1 f3 f4 f5⟩
 self:=λA i s Q E st h=>wpAny_pyIter_keyiter st h
theorem aJV{kvs:List (List Key×V)}(it:Addr)(hod:o.data = .dict es ep):Turn P w K tg (Itkt d o kvs) [it] it (λi h=>h.IsKeyIter it d i kvs.length ep) where
 mem:=by simp
 obj:=λi h st b hb=>by
  have e:b=it:=by simpa using hb
  subst e
  obtain⟨oi,e,c,dd⟩:=st
  exact⟨oi,e,λv z=>by rw[dd] at z;cases z⟩
 keep:=λi h h' st k=>st.at λoi e=>k it (by simp) oi e
 item:=by
  intro X hP hw hK hc i pins s σ H E I hf st hg
  subst hP hw hK
  obtain⟨hd,hi⟩:=hg
  obtain⟨f0,f1,f2,f3,f4,f5⟩:=hf it (by simp)
  obtain⟨hs,hgd,hx,es',ep',hdt,hsz,ent⟩:=I.frzT hd
  obtain⟨rfl,rfl⟩:=UK hod hdt
  obtain⟨⟨k,v⟩,hkv⟩:∃p,kvs[i]? = some p:=⟨kvs[i],List.getElem?_eq_getElem hi⟩
  obtain⟨en,q,hen,hkey,hq⟩:=ent i k v hkv
  refine aoZ st hgd hdt hsz hen λh' st' sb=>?_
  have I1:Inv X pins σ H { s with heap:=h' }:=I.turned (t':=s.toks) (λb ob hb e=>(sb.2 b hb).trans e) f0 f1 f3 f4 f5
  obtain⟨oi,e,c,dd⟩:=id st'
  exact⟨en.key,rfl,EJ (s:={ s with heap:=h' }) e c dd (by decide) ⟨.ref q,H,I1,hkey,⟨rfl,k,v,q,hkv,rfl,hq⟩,st',λb hb=>(hf b hb).1⟩⟩
 done:=by
  intro X hP hw hK hc i pins s σ H E I hf st hg
  subst hP hw hK
  obtain⟨hd,hi⟩:=hg
  obtain⟨f0,f1,f2,f3,f4,f5⟩:=hf it (by simp)
  obtain⟨hs,hgd,hx,es',ep',hdt,hsz,ent⟩:=I.frzT hd
  obtain⟨rfl,rfl⟩:=UK hod hdt
  exact QY (I.ok.hd hc) st hgd hdt hsz hi λh' eb=>⟨rfl,I.turned (t':=s.toks) (λb ob hb e=>eb b ob hb e) f0 f1 f3 f4 f5⟩
 self:=λA i s Q E st h=>by
  refine wpAny_pyIter_slot st.typeIs F.slot_dict_keyiterator_iter (wpAny_call_entry F.slot_dict_keyiterator_iter st.typeIs F.entry_dict_keyiterator_iter ?_ (F.args_dict_keyiterator_iter_1 _))
  show wpAny _ _ (ret (.ref it)) _ _ s
  exact wpAny_pure ⟨_,rfl, "dict_keyiterator",_,st.typeIs,F.slot_dict_keyiterator_next.lookup,h⟩
end
def iKeys(td:TE):TI:=λσ H R=>td σ H λx H1=>∃d o,x = .ref d/\((∃kvs,H1 d=some (.frz o (.dK kvs))/\R (Itk d o kvs) H1)\/∃kvs,H1 d=some (.frz o (.dT kvs))/\R (Itkt d o kvs) H1)
section
variable{X:Cx}{tg e:Expr}{td:TE}{apos cpos:Pos}
theorem rZ(he:PE X e td):PI X tg e (iKeys td):=by
 intro pins s σ H R I h
 refine thn (he pins s σ H _ I h) λu s1 ⟨x,H1,I1,rx,d,o,ex,q⟩=>?_
 subst ex
 obtain rfl:u=Value.ref d:=rx
 rcases q with ⟨kvs,hd,q⟩ | ⟨kvs,hd,q⟩
 ·obtain⟨hs,hgd,hx,es,ep,vs,hdt,hsz,kv,hm⟩:=I1.frzK hd
  refine amY hs hgd hx hdt (IX (tk:=s1.toks) I1 _ (aQV _ hdt) ⟨_,Heap.get?_push_size _ rfl,rfl,?_⟩ q)
  rw[hsz] <;> rfl
 ·obtain⟨hs,hgd,hx,es,ep,hdt,hsz,ent⟩:=I1.frzT hd
  refine amY hs hgd hx hdt (IX (tk:=s1.toks) I1 _ (aJV _ hdt) ⟨_,Heap.get?_push_size _ rfl,rfl,?_⟩ q)
  rw[hsz] <;> rfl
end
def Ite(K:PySem.W.Frag)(a:Addr):It:=
 ⟨λi H=>∃(xs:List V)(x:V),SqL K H a xs/\xs[i]? = some x,λi H v H'=>∃T x,v = .ref T/\H T=none/\H'=upd H T (.tup [.int (i:Nat),x])/\∀xs,SqL K H a xs->xs[i]? = some x,λi H=>∃xs:List V,SqL K H a xs/\xs.length<=i⟩
theorem aQW{P:Program}{w:World}{K:PySem.W.Frag}{elts:List Expr}{kk:Nat}{tpos:Pos}(a e it:Addr) :
  Turn P w K (.Tuple elts kk tpos) (Ite K a) [e,it] e (λi h=>(∃old,IsEnum h e it ((i:Nat):Int) old)/\h.IsListIter it a i/\e≠it) where
 mem:=by simp
 obj:=λi h st b hb=>by
  obtain⟨⟨old,he⟩,⟨o,ho,hc,hd⟩,_⟩:=st
  have e':b=e\/b=it:=by simpa using hb
  rcases e' with z | z
  ·rw[z];exact⟨_,he,λv q=>nomatch q⟩
  ·rw[z];exact⟨o,ho,λv q=>by rw[hd] at q;cases q⟩
 keep:=λi h h' st k=>let ⟨⟨old,he⟩,hi,hne⟩:=st;⟨⟨old,k e (by simp) _ he⟩,hi.at λo q=>k it (by simp) o q,hne⟩
 item:=by
  intro X hP hw hK hc i pins s σ H E I hf st hg
  subst hP hw hK
  obtain⟨⟨old,he⟩,hit,hne⟩:=st
  obtain⟨xs,x,hq,hx⟩:=hg
  obtain⟨its,rv,p,hz⟩:=I.list hq
  obtain⟨u,hu,ru⟩:=rv.get hx
  have hel:e<s.heap.objs.size:=Heap.lt_size he
  have hil:it<s.heap.objs.size:=by obtain⟨_,q,_⟩:=hit;exact Heap.lt_size q
  refine wpAny_pyNext_enum_item he hit p.isList (x:=u) (by simpa using hu) hne λh' ho hit' hT hsz hk=>?_
  refine⟨_,rfl,wpAny_letOwnedTupleGo_enum (s:={ s with heap:=h',toks:=s.toks+1 }) ho λh'' he' sb=>?_⟩
  have hT2:h''.get? s.heap.objs.size=some { cls:=.type "tuple",data:=.seq #[.int i s.toks,u] }:=(sb.2 _ (Nat.ne_of_gt hel)).trans hT
  have new:ObjOk X.prog X.w (upd H s.heap.objs.size (.tup [.int (i:Nat),x])) h'' s.heap.objs.size (.tup [.int (i:Nat),x]):=
   ⟨by show 2<=sizeLine;decide,[.int i s.toks,u],.cons ⟨_,rfl⟩ (.cons ru .nil),⟨_,hT2,rfl,_,rfl⟩⟩
  have I1:Inv X pins σ (upd H s.heap.objs.size (.tup [.int (i:Nat),x])) { s with heap:=h'',toks:=s.toks+1 }:=
   I.turnedNew (ch:=[e,it]) (λb ob hb q=>(sb.2 b (λz=>hb (by simp[z]))).trans (hk b ob (λz=>hb (by simp[z])) (λz=>hb (by simp[z])) q)) hf (Nat.le_refl _) new
  refine⟨.ref s.heap.objs.size,_,I1,rfl,⟨_,x,rfl,I.hok.fresh (Nat.le_refl _),rfl,λys hy=>by rw[I.list_inj hy hq];exact hx⟩,⟨⟨u,?_⟩,hit'.at λo q=>(sb.2 it (Ne.symm hne)).trans q,hne⟩,λb hb=>?_⟩
  ·have e1:((i+1:Nat):Int)=(i:Int)+1:=by omega
   rw[e1];exact he'
  ·have hb':b<s.heap.objs.size:=by
    have e':b=e\/b=it:=by simpa using hb
    rcases e' with z | z
    ·rw[z];exact hel
    ·rw[z];exact hil
   rw[aV (Nat.ne_of_lt hb')]
   exact(hf b hb).1
 done:=by
  intro X hP hw hK hc i pins s σ H E I hf st hg
  subst hP hw hK
  obtain⟨⟨old,he⟩,hit,hne⟩:=st
  obtain⟨xs,hq,hx⟩:=hg
  obtain⟨its,rv,p,hz⟩:=I.list hq
  obtain⟨f0,f1,f2,f3,f4,f5⟩:=hf it (by simp)
  have hl:=rv.length
  exact wpAny_pyNext_enum_end (I.ok.hd hc) he hit p.isList (by simp;omega) λh' eb=>⟨rfl,I.turned (t':=s.toks) (λb o hb q=>eb b o hb q) f0 f1 f3 f4 f5⟩
 self:=λA i s Q E st h=>let ⟨⟨_,he⟩,_⟩:=st;wpAny_pyIter_enum he h
def iEnum(K:PySem.W.Frag)(ta:TA):TI:=λσ H R=>ta σ H λvs H1=>∃a xs,vs=[.ref a]/\SqL K H1 a xs/\R (Ite K a) H1
theorem bbX{X:Cx}{e:Expr}{ta:TA}{p pos tpos:Pos}{elts:List Expr}{kk:Nat}(hg:Gl X "enumerate")(hm:X.mg "enumerate"=none)(ha:PA X [e] ta)(hs:starEach [e] X.env=[(false,eval e X.env)]:=by rfl) :
  PI X (.Tuple elts kk tpos) (.Call (.Name "enumerate" p) [e] [] pos) (iEnum X.K ta):=by
 intro pins s σ H R I h
 refine Call_ (IQ I hg hm boot_enumerate (PyProof.Rows.callWith_type1 (thn (ha pos pins s σ H _ I h) λus s1 ⟨vs,H1,I1,r1,q1⟩=>?_) hs rfl))
 obtain⟨a,xs,ex,hq,q⟩:=q1
 subst ex
 cases r1 with
 |cons r rr=>
  cases rr
  cases r
  obtain⟨its,rv,p',hz⟩:=I1.list hq
  refine call_enumerate_list p'.isList λh' he hit hsz hk=>wpAny_pyIter_enum he ?_
  have I2:Inv X pins σ H1 { s1 with heap:=h' }:=I1.kept (t':=s1.toks) hk
  refine⟨s1.heap.objs.size+1,[s1.heap.objs.size+1,s1.heap.objs.size],_,_,H1,rfl,I2,aQW a (s1.heap.objs.size+1) s1.heap.objs.size,⟨⟨.none,he⟩,hit,Nat.succ_ne_self _⟩,λb hb=>?_,q⟩
  have e':b=s1.heap.objs.size+1\/b=s1.heap.objs.size:=by simpa using hb
  have hle:s1.heap.objs.size<=b:=by
   rcases e' with z | z
   ·rw[z];exact Nat.le_add_right _ _
   ·rw[z];exact Nat.le_refl _
  exact I1.fpOk hle (I1.hok.fresh hle)
end L2
section
namespace Bits
open PySem PyProof.Rows
end Bits
end
section
namespace TL
open PySem PySem.Builtin PySem.Builtin.Str PySem.StrLaws
abbrev tl(x:Str):List Nat:=x.cps.toList
theorem len_tl(x:Str):x.length=(tl x).length:=by simp[tl,Str.length]
theorem tl_append(x y:Str):tl (x++y)=tl x++tl y:=by
 show(x++y).cps.toList=_
 rw[Str.cps_append,Array.toList_append]
def joinL(S:List Nat):List (List Nat)->List Nat
 |[]=>[]
 |[p]=>p
 |p::q::r=>p++(S++joinL S (q::r))
theorem AU(y:Str):∀parts:List Str,tl (Str.join y parts)=joinL (tl y) (parts.map tl)
 |[]=>rfl
 |[_]=>rfl
 |x::z::r=>by
  show tl (x++y++Str.join y (z::r))=tl x++(tl y++joinL (tl y) ((z::r).map tl))
  rw[tl_append,tl_append,AU y (z::r),List.append_assoc]
theorem aiU(y:Str)(parts:List Str):Txt.join y parts=Str.join y parts:=glued_eq_join y parts
end TL
end
namespace L2
open PySem PySem.Spec PyProof.Rows
theorem BW:∀{ys:List Str}{us:List Value},Vals (ys.map V.str) us->StrsAre us ys
 |[],_,.nil=>.nil
 |y::ys,_,.cons r t=>by
  obtain⟨k,rfl⟩:=r
  exact .cons y k (BW t)
section
variable{X:Cx}{pins:List (Addr×Obj)}{σ:St}{H:Hp}{s:Shared}{Q:VK}
end
section
variable{X:Cx}
theorem bbY:MtR X "str.join" (λx xs H Q=>∃a p,∃ys:List Str,x = .str a/\xs=[.ref p]/\(SqL X.K H p (ys.map V.str)\/SqT X.K H p (ys.map V.str))/\
  (ys.map (·.length)).sum+ys.length*a.length<=16777216/\Q (.str (Txt.join a ys)) H):=by
 intro pins s σ H x xs v us Q I rx rs h
 obtain⟨a,p,ys,rfl,rfl,hp,hz,h⟩:=h
 obtain⟨t,rfl⟩:=rx
 cases rs with
 |cons r1 rs=>
  cases rs
  cases r1
  rcases hp with hp | hp
  ·obtain⟨its,r,⟨o,n,ho,hc,_,hd⟩,_⟩:=I.list hp
   exact PyProof.Rows.join_list (items:=its.toArray) ⟨o,ho,hc,n,hd⟩ (by rw[List.toList_toArray];exact BW r) hz λt' k=>⟨.str _,H,I.tok k,⟨t',rfl⟩,h⟩
  ·obtain⟨its,r,ht,_⟩:=I.tuple hp
   exact PyProof.Rows.join_tuple (items:=its.toArray) ht (by rw[List.toList_toArray];exact BW r) hz λt' k=>⟨.str _,H,I.tok k,⟨t',rfl⟩,h⟩
end
section
variable{X:Cx}{o e:Expr}{to te:TE}
def tM1(r:V->List V->Hp->VK->Prop)(to te:TE):TE:=λσ H Q=>to σ H λx H1=>(∃a,x = .str a)/\te σ H1 λy H2=>r x [y] H2 Q
theorem bjX{id:String}{name:Str}{apos pos:Pos}{r:V->List V->Hp->VK->Prop}(slot:Slot "str" name id)(ty:typeOf (.builtin id)=pure (.type "method_descriptor"))(rule:MtR X id r)(ho:PE X o to)(he:PE X e te)
  (hs:starEach [e] X.env=[(false,eval e X.env)]:=by rfl) (hbase:attributeBase o name X.env (eval o X.env)=eval o X.env:=by rfl) (hline:(apos.endLine==pos.line)=true:=by rfl) :
  PE X (.Call (.Attribute o name apos) [e] [] pos) (tM1 r to te):=by
 intro pins s σ H Q I h
 refine PySem.Call_method1 hbase hs hline (thn (ho pins s σ H _ I h) λv s1 ⟨x,H1,I1,r1,q1⟩=>?_)
 obtain⟨⟨a,rfl⟩,q1⟩:=q1
 obtain⟨t,rfl⟩:=_root_.id r1
 refine⟨"str",_,F.plainAttrs_str,slot,ty,typeIs_str _ _ _,(λ_ e=>nomatch e),Calls.callWith_builtin rfl (Calls.evalArgs_plain (Calls.spliced_cons ?_))⟩
 exact thn (he pins s1 σ H1 _ I1 q1) λu s2 ⟨y,H2,I2,r2,q2⟩=>Calls.spliced_nil (rule pins s2 σ H2 _ [y] _ [u] Q I2 r1 (.cons r2 .nil) q2)
theorem aiV{apos pos:Pos}(ho:PE X o to)(he:PE X e te)(hs:starEach [e] X.env=[(false,eval e X.env)]:=by rfl)(hbase:attributeBase o "join" X.env (eval o X.env)=eval o X.env:=by rfl)(hline:(apos.endLine==pos.line)=true:=by rfl) :
  PE X (.Call (.Attribute o "join" apos) [e] [] pos) (tM1 (λx xs H Q=>∃a p,∃ys:List Str,x = .str a/\xs=[.ref p]/\(SqL X.K H p (ys.map V.str)\/SqT X.K H p (ys.map V.str))/\
   (ys.map (·.length)).sum+ys.length*a.length<=16777216/\Q (.str (Txt.join a ys)) H) to te):=
 bjX F.slot_str_join F.type_str_join bbY ho he hs hbase hline
end
end L2
namespace L2
open PySem PySem.Spec PyProof.Rows
section
variable{X:Cx}
end
end L2
namespace Att
open PySem PySem.W PySem.Calls PyProof.Rows
section
variable{prog:Program}{w:World}{A:Around}{E:Value->Shared->Prop}{s:Shared}{K:Frag}
end
end Att
namespace L2
open PySem PySem.Spec PyProof.Rows
end L2
namespace L2
open PySem PySem.Spec PyProof.Rows
end L2
namespace L2
open PySem PySem.Spec PyProof.Rows
def inClass(s:Stmt)(j:Nat):Stmt:=match s with
 |.ClassDef _ _ _ body _ _ _ _ _ _ _=>body.getD j (.Pass ⟨0,0,0,0⟩)
 |_=>.Pass ⟨0,0,0,0⟩
def defArgs(s:Stmt):Arguments:=match s with
 |.FunctionDef _ a _ _ _ _ _ _ _ _=>a
 |_=>{ posonlyargs:=[],args:=[],vararg:=none,kwonlyargs:=[],kw_defaults:=[],kwarg:=none,defaults:=[] }
def defBody(s:Stmt):List Stmt:=match s with
 |.FunctionDef _ _ b _ _ _ _ _ _ _=>b
 |_=>[]
def defScope(s:Stmt):Scope:=match s with
 |.FunctionDef _ _ _ _ _ _ sc _ _ _=>sc
 |_=>{ kind:=.function,names:=[],isGenerator:=false,isCoroutine:=false }
abbrev CX0:CXT:=λ_ _ _ _ _ _=>False
abbrev E0:XK:=λ_ _ _=>False
theorem pass0{X:Cx}:Passes CX0 X E0:=λ_ _ _ _ _ _ _ h=>h.elim
structure Fun(K:PySem.W.Frag)(x qual:Str)(st:Stmt)(f:Addr)(fd:FuncData):Prop where
 ex:∃(oc:Value)(od:Option Addr)(kV doc pm:Value)(an:Option Addr)(cdv ct:Value)(osl:Array (Option Value)),
  fd=PySem.W.fnOf x qual (defArgs st) (defBody st) (defScope st) .none kV doc pm an cdv ct/\K.lookup f=some ⟨oc,od,.func fd,osl⟩/\PySem.W.codeIn K cdv qual=true
 kp:PySem.W.keepIn K (.ref f)=true
section
variable{P:Program}{w:World}{K:PySem.W.Frag}{mg:Str->Option Value}{base:Heap}
theorem Fun.ok{x qual:Str}{st:Stmt}{f:Addr}{fd:FuncData}{N ps:List Str}{k:Nat}{sp:Sp}(F:Fun K x qual st f fd)(S:FnScope N ps (defScope st))(len:∀vs H Q E,sp vs H Q E->vs.length=ps.length)
  (hbody:∀(cdv:Value)(A:Around)(outer:List Env)(s:Shared)(H:Hp)(vs:List V)(Q:VK)(E:XK),Room k (A.deeper (envOfC qual (defScope st) s.heap.objs.size f cdv))->sp vs H Q E->
   ∃t,PSs (cxOf CX0 P w K mg base N qual (defScope st) f cdv A outer s H E).nox (defBody st) t/\t { nx:=λ_ H'=>Q .non H',rt:=Q } (start N vs) H):FnOk P w K mg base CX0 (k+1) f fd ps sp:=by
 obtain⟨oc,od,kV,doc,pm,an,cdv,ct,osl,rfl,lk,hcd⟩:=F.ex
 refine bjQ lk hcd S len λA outer s H vs Q E hr hsp=>?_
 obtain⟨t,h,q⟩:=hbody cdv A outer s H vs Q E hr hsp
 exact⟨t,h.nox,q⟩
theorem Fun.binds{x qual:Str}{st:Stmt}{f:Addr}{fd:FuncData}{ps:List Str}(F:Fun K x qual st f fd)
  (h:∀(kV doc pm:Value)(an:Option Addr)(cdv ct:Value)(us:List Value),us.length=ps.length->bindArgs (PySem.W.fnOf x qual (defArgs st) (defBody st) (defScope st) .none kV doc pm an cdv ct) ⟨us,[]⟩=pure (ps.zip us)):Binds K fd ps []:=by
 obtain⟨oc,od,kV,doc,pm,an,cdv,ct,osl,rfl,lk,hcd⟩:=F.ex
 exact .all (h kV doc pm an cdv ct)
theorem adY{x qual:Str}{st:Stmt}{f:Addr}{oc:Value}{od an:Option Addr}{osl:Array (Option Value)}{kV doc pm cdv ct:Value}(l:K.lookup f=some ⟨oc,od,.func (PySem.W.fnOf x qual (defArgs st) (defBody st) (defScope st) .none kV doc pm an cdv ct),osl⟩)
  (c:PySem.W.codeIn K cdv qual=true) (k:PySem.W.keepIn K (.ref f)=true):Fun K x qual st f (PySem.W.fnOf x qual (defArgs st) (defBody st) (defScope st) .none kV doc pm an cdv ct):=⟨⟨oc,od,kV,doc,pm,an,cdv,ct,osl,rfl,l,c⟩,k⟩
end
theorem dY{A:Around}{k:Nat}(hr:Room k A):A.units+1<cLine:=Nat.lt_of_le_of_lt (Nat.add_le_add_left (by decide:1<=64) _) hr.units
theorem small1000{n:Nat}(h:n<=1000):n<sizeLine:=Nat.lt_of_le_of_lt h (by decide)
section
variable{X:Cx}
theorem pv(i:Nat){x:Str}{pos:Pos}(hN:X.N[i]? = some x:=by rfl)(hv:Vis X.env.scope x:=by first | exact Or.inl rfl | exact Or.inr (Or.inl rfl) | exact Or.inr (Or.inr rfl))(hd:(x==("__debug__" : Str))=false:=by decide)
  (hcd:(x==("__classdict__" : Str))=false:=by decide):PE X (.Name x pos) (tVar i):=bfJ hN hv hd hcd
theorem amZ:CallR X (.builtin "len") (λxs H Q=>∃a kvs,xs=[V.ref a]/\H a=some (.dK kvs)/\Q (.int kvs.length) H):=by
 intro pins s σ H xs us Q I r h
 obtain⟨a,kvs,rfl,ha,q⟩:=h
 obtain⟨u,rfl,ru⟩:=vals1 r
 cases ru
 exact bjW I (.inl ha) λt s' I'=>⟨.int kvs.length,H,I',⟨t,rfl⟩,q⟩
end
theorem iteF{A B:Prop}(h:B):if false=true then A else B:=by
 rw[if_neg Bool.false_ne_true]
 exact h
theorem iteT{A B:Prop}(h:A):if true=true then A else B:=by
 rw[if_pos rfl]
 exact h
theorem ite2{c A B:Prop}[Decidable c](h1:c->A)(h2:¬c->B):if c then A else B:=by
 by_cases h:c
 ·rw[if_pos h]
  exact h1 h
 ·rw[if_neg h]
  exact h2 h
def Same(H H':Hp):Prop:=∀b o,H b=some o->H' b=some o
theorem Same.refl(H:Hp):Same H H:=λ_ _ h=>h
theorem Same.trans{H H1 H2:Hp}(a:Same H H1)(b:Same H1 H2):Same H H2:=λc o h=>b c o (a c o h)
theorem Same.free{H H':Hp}(e:Same H H'){l:Addr}(h:H' l=Option.none):H l=Option.none:=by
 cases q:H l with
 |none=>rfl
 |some o=>
  rw[e l o q] at h
  cases h
theorem Same.seq{K:PySem.W.Frag}{H H':Hp}{a:Addr}{xs:List V}(e:Same H H')(h:SqL K H a xs):SqL K H' a xs:=by
 rcases h with (h | ⟨o,h⟩) | h
 ·exact .inl (.inl (e _ _ h))
 ·exact .inl (.inr ⟨o,e _ _ h⟩)
 ·exact .inr h
section
variable{κ:Type}[DecidableEq κ]
theorem aiW:∀{l:List κ}{k:κ},l.Nodup->¬k∈l->(l++[k]).Nodup
 |[],k,_,_=>by simp
 |a::r,k,h,hk=>by
  obtain⟨h1,h2⟩:=List.nodup_cons.mp h
  show(a::(r++[k])).Nodup
  refine List.nodup_cons.mpr ⟨λm=>?_,aiW h2 λm=>hk (List.mem_cons.mpr (Or.inr m))⟩
  rcases List.mem_append.mp m with q | q
  ·exact h1 q
  ·exact hk (List.mem_cons.mpr (Or.inl (List.mem_singleton.mp q).symm))
theorem aQX{p:κ×V}{r:List (κ×V)}{k:κ}(e:p.1=k):dropK (p::r) k=dropK r k:=by
 unfold dropK
 rw[List.filter_cons,if_neg (by simp[e])]
theorem aQY{p:κ×V}{r:List (κ×V)}{k:κ}(e:¬p.1=k):dropK (p::r) k=p::dropK r k:=by
 unfold dropK
 rw[List.filter_cons,if_pos (by simp[e])]
end
theorem qY{xs:List V}{z:Int}{j:Nat}{v:V}(e:z=(j:Int))(h:xs[j]? = some v):atI xs z=some v:=by
 rw[e]
 exact bbK h
theorem aJW{α:Type}{l:List α}(hN:l.Nodup){i j:Nat}{x:α}(a:l[i]? = some x)(b:l[j]? = some x):i=j:=by
 obtain⟨h1,e1⟩:=List.getElem?_eq_some_iff.mp a
 obtain⟨h2,e2⟩:=List.getElem?_eq_some_iff.mp b
 exact(List.getElem_inj hN).mp (e1.trans e2.symm)
theorem Same.made{H H1:Hp}{x dx C:Addr}(nx:H x=Option.none)(nd:H dx=Option.none)(k:∀b o,(upd (upd H dx (.own x)) x (.ins C dx [])) b=some o->b≠x->H1 b=some o):Same H H1:=λb o e=>
 k b o (by rw[aV (aX e nx),aV (aX e nd)];exact e) (aX e nx)
end L2
end
section
namespace L2
open PySem PySem.Spec PyProof.Rows
section
variable{X:Cx}
def tCallV(X:Cx)(k:Nat)(tf:TE)(t:TA):TE:=λσ H Q=>tf σ H λx H1=>∃f fd ps sp,x = .ref f/\FnOk X.prog X.w X.K X.mg X.base CX0 k f fd ps sp/\PySem.W.keepIn X.K (.ref f)=true/\Binds X.K fd ps []/\t σ H1 λvs H2=>sp vs H2 Q E0
theorem aVZ{k:Nat}{x:Str}{p pos:Pos}{e:Expr}{es:List Expr}{tf:TE}{t:TA}(hf:PE X (.Name x p) tf)(hr:Room k X.A)(ha:PA X (e::es) t)
  (he:starEach (e::es) X.env=(false,eval e X.env)::starEach es X.env:=by rfl) (hpl:(backTo pos (starEach es X.env)).any (·.1)=false:=by rfl) :
  PE X (.Call (.Name x p) (e::es) [] pos) (tCallV X k tf t):=by
 intro pins s σ H Q I h
 refine wpAny_Call_Name_kw (thn (hf pins s σ H _ I h) λu s1 ⟨v,H1,I1,rv,f,fd,ps,sp,ev,F,hk,hb,q⟩=>?_)
 subst ev
 obtain rfl:u=Value.ref f:=rv
 refine PySem.W.callWith_K (h₀:=X.base) I.ok.mod.kin hk (thn (ha pos pins s1 σ H1 _ I1 q) λus s2 ⟨vs,H2,I2,r,q2⟩=>⟨I2.kIn,?_⟩) he hpl
 exact adU F hr hb .nil pass0 I2 r (by rw[List.append_nil];exact q2)
def noneU(u:Value):Bool:=match u with
 |.none=>true
 |_=>false
def rNoneIn(K:PySem.W.Frag):R2:=λx y H Q=>∃p xs,x = .non/\y = .ref p/\SqL K H p xs/\(∀z∈xs,z = .non\/∃a ys,z = .ref a/\SqT K H a ys)/\Q (.bl (xs.any λz=>decide (z = .non))) H
theorem anJ:∀{xs:List V}{us:List Value},Vals xs us->us.any noneU=xs.any λz=>decide (z = .non)
 |_,_,.nil=>rfl
 |_,_,.cons (a:=x) (b:=u) r t=>by
  rw[List.any_cons,List.any_cons,anJ t]
  congr 1
  cases x with
  |non=>cases(show u=Value.none from r);rfl
  |bl b=>cases(show u=Value.bool b from r);rfl
  |int i=>obtain⟨t,rfl⟩:=r;rfl
  |str i=>obtain⟨t,rfl⟩:=r;rfl
  |byt i=>obtain⟨t,rfl⟩:=r;rfl
  |flt i=>obtain⟨t,rfl⟩:=r;rfl
  |ref a=>cases(show u=Value.ref a from r);rfl
  |ty a=>cases(show u=Value.type a from r);rfl
theorem auZ:∀{xs:List V}{us:List Value},Vals xs us->∀u∈us,∃x∈xs,RelV x u
 |_,_,.nil,u,h=>by cases h
 |_,_,.cons r t,u,h=>by
  rcases List.mem_cons.mp h with rfl | h
  ·exact⟨_,List.mem_cons_self,r⟩
  ·obtain⟨x,hx,rx⟩:=auZ t u h
   exact⟨x,List.mem_cons_of_mem _ hx,rx⟩
theorem aQZ(hu:X.A.in1.units<cLine):OpR X (compareOp .In) (rNoneIn X.K):=by
 intro pins s σ H x y v u Q I rx ry h
 obtain⟨p,xs,rfl,rfl,hq,hx,q⟩:=h
 cases rx
 cases ry
 obtain⟨its,r,pl,hz⟩:=I.list hq
 refine SeqAt.in_listAt noneU pl.isList (λw hw=>?_) ⟨.bl _,H,I,rfl,?_⟩
 ·obtain⟨z,hz,rz⟩:=auZ r w (by simpa using hw)
  rcases hx z hz with rfl | ⟨a,ys,rfl,ht⟩
  ·cases(show w=Value.none from rz)
   exact SeqAt.EqAt.same _
  ·cases(show w=Value.ref a from rz)
   obtain⟨its2,r2,pt,_⟩:=I.tuple ht
   exact SeqAt.EqAt.tuple_none pt hu
 ·rw[show its.toArray.any noneU=its.any noneU by simp,anJ r]
  exact q
theorem aGQ:∀{xs:List V}{us:List Value},us.length=xs.length->(∀(j:Nat) u,us[j]? = some u->∃x,xs[j]? = some x/\RelV x u)->Vals xs us
 |[],[],_,_=>.nil
 |[],_::_,h,_=>by simp at h
 |_::_,[],h,_=>by simp at h
 |x::xs,u::us,h,hj=>by
  obtain⟨y,e,r⟩:=hj 0 u rfl
  cases(show x=y from Option.some.inj e)
  exact .cons r (aGQ (by simpa using h) λj w hw=>hj (j+1) w hw)
theorem aiX(hc:X.calm=true):CallR X (.type "list") (λxs H Q=>∃d kvs,xs=[.ref d]/\Rd H d (.dK kvs)/\∀l,H l=none->Q (.ref l) (upd H l (.lst (kvs.map λkv=>kV kv.1)))):=by
 intro pins s σ H xs us Q I r h
 obtain⟨d,kvs,rfl,hd,q⟩:=h
 obtain⟨u,rfl,rx⟩:=vals1 r
 cases rx
 obtain⟨hz,lo,vs,kv,dd⟩:=sQ I.hok hd
 obtain⟨ep,hat⟩:=dd.dictAt
 have hlen:=KV.length kv
 refine PySem.W.kdl_call (PySem.W.kdl_dict (knd:=mixKind X.prog X.w) (kvs:=vs) (ep:=ep) lo) (I.ok.hd hc) hat (by omega) λh' tk acc' c' hk hD hacc=>?_
 refine⟨.ref s.heap.objs.size,_,I.laid (t':=tk) (o:=.lst (kvs.map λkv=>kV kv.1)) hk (Nat.le_refl _) ?_,rfl,q _ (I.hok.fresh (Nat.le_refl _))⟩
 refine⟨by rw[List.length_map];exact hz,acc'.toList,c',aGQ (by rw[Array.length_toList,List.length_map,hlen];exact hacc.1) λj u hu=>?_,by rw[Array.toArray_toList];exact hD⟩
 obtain⟨k,x,e1,e2⟩:=hacc.2 j u (by rw[<-Array.getElem?_toList];exact hu)
 have ek:=KV.keys kv
 have:(kvs.map (·.1))[j]? = some k:=by rw[ek,List.getElem?_map,e1];rfl
 rw[List.getElem?_map] at this
 obtain⟨p,hp,hpk⟩:=Option.map_eq_some_iff.mp this
 refine⟨kV k,?_,aaJ e2⟩
 rw[List.getElem?_map,hp]
 show some (kV p.1)=_
 rw[hpk]
def rExtendT(K:PySem.W.Frag):V->List V->Hp->VK->Prop:=λx vs H Q=>∃l b xs zs,x = .ref l/\vs=[.ref b]/\H l=some (.lst xs)/\SqT K H b zs/\xs.length+zs.length<=sizeLine/\Q .non (upd H l (.lst (xs++zs)))
set_option maxRecDepth 8000 in
theorem bbZ(l:Addr)(xs:Array Value)(n:Nat)(b:Addr)(ys:Array Value)(m:Nat)(dd:Option Addr)(sl:Array (Option Value))(h0:¬(!xs.isEmpty&&Builtin.List.listTooLong (xs.size+ys.size))=true)(h1:xs.size<=sizeLine)(h2:xs.size+ys.size<=sizeLine+1) :
  Meets (Builtin.«list.extend» ⟨[.ref l,.ref b],[]⟩) (λ_ R s=>s.heap.get? l=some { cls:=.type "list",data:=.seq xs n }/\
   s.heap.get? b=some { cls:=.type "tuple",dict:=dd,data:=.seq ys m,slots:=sl }/\
   R (.ok (.ret Value.none)) { s with heap:=s.heap.update l (Obj.mapSeq λx=>x++ys),toks:=s.toks }):=
 .of_wp λpg w A R s h=>by
  obtain⟨hp,g,d,tk,os⟩:=s
  obtain⟨hl,hb,h⟩:=h
  have f1:=AutoSeq1.idx_int
  have f2:=AutoSeq1.sub_tuple_tuple
  have f3:=AutoSeq1.sub_list_list
  have f4:=AutoSeq1.sub_tuple_list
  have f5:=AutoSeq1.sub_list_tuple
  have hz2:(xs++ys).size<=sizeLine+1:=by
   rw[Array.size_append]
   exact h2
  wp_walk using(wpAny_updateSeq hl rfl (hz:=h1) (_hz':=hz2)),wpAny_loadPart' hl,wpAny_loadPart' hb
  exact⟨_,rfl,h⟩
theorem adZ:MtM X "list.extend" (rExtendT X.K):=by
 intro pins s σ H x vs v us Q I rx rv h
 obtain⟨l,b,xs,zs,rfl,rfl,hH,hB,hz,q⟩:=h
 cases rx
 obtain⟨u,rfl,ru⟩:=rv.one
 cases ru
 obtain⟨z,its,n,r,hl,e⟩:=I.lstM hH
 obtain⟨its2,r2,⟨⟨cl,dd,da,sl⟩,h2,hc2,n2,hd2⟩,hz2⟩:=I.tuple hB
 cases hc2
 cases hd2
 have hl2:=r2.length
 have hsz:its.toArray.size+its2.toArray.size<=sizeLine:=by rw[List.size_toArray,List.size_toArray];omega
 have hlong:¬(!its.toArray.isEmpty&&Builtin.List.listTooLong (its.toArray.size+its2.toArray.size))=true:=by
  rw[notLongL hsz,Bool.and_false]
  exact Bool.false_ne_true
 refine call_meets F.slot_list_extend ⟨_,e,rfl⟩ F.entry_list_extend (F.args_list_extend_2 _ _)
  (bbZ l its.toArray n b its2.toArray n2 dd sl hlong (by rw[List.size_toArray];omega) (by omega)) ⟨e,h2,?_⟩
 refine⟨.non,_,I.lset (its':=its++its2) hH e (by simp) (r.append r2) ?_,rfl,q⟩
 rw[List.length_append]
 omega
end
theorem bcJ{d:Addr}{o:Obj}{kvs:List (Key×V)}{g:TG}{tt:TT}{te:TE}{vs:List Nat}{σ:St}{H1:Hp}{D:Addr}{Qd:Hp->Prop}(Pv:Nat->Hp->Prop)(h0:Pv 0 (upd H1 D (.lst [])))(hl:∀i H,i<=kvs.length->Pv i H->H d=some (.frz o (.dK kvs)))
  (hs:∀i k v H,kvs[i]? = some (k,v)->Pv i H->g (kV k) (wipe σ vs) H λσ2 H2=>wipe σ2 vs=wipe σ vs/\tt σ2 H2 λb H3=>
   if b=true then te σ2 H3 λy H4=>∃acc,H4 D=some (.lst acc)/\acc.length<sizeLine/\Pv (i+1) (upd H4 D (.lst (acc++[y]))) else Pv (i+1) H3) (hd:∀H,Pv kvs.length H->Qd H) :
  ∃W:Nat->Nat->Hp->Prop,(∃m,W 0 m (upd H1 D (.lst [])))/\∀i m H,W i m H->
   ((Itk d o kvs).stop i H/\Qd H)\/((Itk d o kvs).go i H/\∃Nx:Hp->Prop,(∀H',Nx H'->∃m',m'<m/\W (i+1) m' H')/\∀x H',(Itk d o kvs).yld i H x H'->g x (wipe σ vs) H' λσ2 H2=>wipe σ2 vs=wipe σ vs/\tt σ2 H2 λb H3=>
    if b=true then te σ2 H3 λy H4=>∃acc,H4 D=some (.lst acc)/\acc.length<sizeLine/\Nx (upd H4 D (.lst (acc++[y]))) else Nx H3):=by
 refine⟨λi m H=>m=kvs.length - i/\i<=kvs.length/\Pv i H,⟨kvs.length,by simp,Nat.zero_le _,h0⟩,?_⟩
 rintro i m H ⟨rfl,hi,p⟩
 have q:=hl i H hi p
 by_cases hlt:i<kvs.length
 ·refine .inr ⟨⟨q,hlt⟩,Pv (i+1),λH' p'=>⟨kvs.length - (i+1),by omega,rfl,hlt,p'⟩,λx H' y=>?_⟩
  obtain⟨e,k,v,e1,e2⟩:=y
  subst e e2
  exact hs i k v _ e1 p
 ·have e:i=kvs.length:=by omega
  subst e
  exact .inl ⟨⟨q,Nat.le_refl _⟩,hd H p⟩
theorem bgW{x:Str}{g:TG}{tt:TT}{te:TE}{vs:List Nat}{σ:St}{H1:Hp}{D:Addr}{Qd:Hp->Prop}(Pv:Nat->Hp->Prop)(h0:Pv 0 (upd H1 D (.lst [])))
  (hs:∀i c H,x.cps[i]? = some c->Pv i H->g (.str ⟨#[c]⟩) (wipe σ vs) H λσ2 H2=>wipe σ2 vs=wipe σ vs/\tt σ2 H2 λb H3=>
   if b=true then te σ2 H3 λy H4=>∃acc,H4 D=some (.lst acc)/\acc.length<sizeLine/\Pv (i+1) (upd H4 D (.lst (acc++[y]))) else Pv (i+1) H3) (hd:∀H,Pv x.cps.size H->Qd H) :
  ∃W:Nat->Nat->Hp->Prop,(∃m,W 0 m (upd H1 D (.lst [])))/\∀i m H,W i m H->
   ((Its x).stop i H/\Qd H)\/((Its x).go i H/\∃Nx:Hp->Prop,(∀H',Nx H'->∃m',m'<m/\W (i+1) m' H')/\∀y H',(Its x).yld i H y H'->g y (wipe σ vs) H' λσ2 H2=>wipe σ2 vs=wipe σ vs/\tt σ2 H2 λb H3=>
    if b=true then te σ2 H3 λy H4=>∃acc,H4 D=some (.lst acc)/\acc.length<sizeLine/\Nx (upd H4 D (.lst (acc++[y]))) else Nx H3):=by
 refine⟨λi m H=>m=x.cps.size - i/\i<=x.cps.size/\Pv i H,⟨x.cps.size,by simp,Nat.zero_le _,h0⟩,?_⟩
 rintro i m H ⟨rfl,hi,p⟩
 by_cases hlt:i<x.cps.size
 ·refine .inr ⟨hlt,Pv (i+1),λH' p'=>⟨x.cps.size - (i+1),by omega,rfl,hlt,p'⟩,λy H' z=>?_⟩
  obtain⟨e,c,e1,e2⟩:=z
  subst e e2
  exact hs i c _ e1 p
 ·have e:i=x.cps.size:=by omega
  subst e
  exact .inl ⟨Nat.le_refl _,hd H p⟩
theorem aWJ{K:PySem.W.Frag}{a:Addr}{xs:List V}{g:TG}{tb:TS}{D:Ends}{σ:St}{H:Hp}(Pv:Nat->St->Hp->Prop)(h0:Pv 0 σ H)(hl:∀i σ H,i<=xs.length->Pv i σ H->SqL K H a xs)
  (hs:∀i x T σ H,xs[i]? = some x->H T=none->Pv i σ H->g (.ref T) σ (upd H T (.tup [.int (i:Nat),x])) λσ2 H2=>tb { D with nx:=Pv (i+1),ct:=Pv (i+1),bk:=D.nx } σ2 H2) (hd:∀σ H,Pv xs.length σ H->D.nx σ H) :
  ∃W:Nat->Nat->St->Hp->Prop,(∃m,W 0 m σ H)/\∀i m σ H,W i m σ H->
   ((Ite K a).stop i H/\D.nx σ H)\/((Ite K a).go i H/\∃N:St->Hp->Prop,(∀σ' H',N σ' H'->∃m',m'<m/\W (i+1) m' σ' H')/\∀x H',(Ite K a).yld i H x H'->g x σ H' λσ2 H2=>tb { D with nx:=N,ct:=N,bk:=D.nx } σ2 H2):=by
 refine⟨λi m σ H=>m=xs.length - i/\i<=xs.length/\Pv i σ H,⟨xs.length,by simp,Nat.zero_le _,h0⟩,?_⟩
 rintro i m σ H ⟨rfl,hi,p⟩
 have q:=hl i σ H hi p
 by_cases hlt:i<xs.length
 ·refine .inr ⟨⟨xs,xs[i],q,by simp[hlt]⟩,Pv (i+1),λσ' H' p'=>⟨xs.length - (i+1),by omega,rfl,hlt,p'⟩,λx H' y=>?_⟩
  obtain⟨T,z,rfl,hT,rfl,hz⟩:=y
  exact hs i z T σ _ (hz xs q) hT p
 ·have e:i=xs.length:=by omega
  subst e
  exact .inl ⟨⟨xs,q,Nat.le_refl _⟩,hd σ H p⟩
theorem aaK{d:Addr}{o:Obj}{kvs:List (Key×V)}{g:TG}{tb:TS}{D:Ends}{σ:St}{H:Hp}(Pv:Nat->St->Hp->Prop)(h0:Pv 0 σ H)(hl:∀i σ H,i<=kvs.length->Pv i σ H->H d=some (.frz o (.dK kvs)))
  (hs:∀i k v σ H,kvs[i]? = some (k,v)->Pv i σ H->g (kV k) σ H λσ2 H2=>tb { D with nx:=Pv (i+1),ct:=Pv (i+1),bk:=D.nx } σ2 H2) (hd:∀σ H,Pv kvs.length σ H->D.nx σ H) :
  ∃W:Nat->Nat->St->Hp->Prop,(∃m,W 0 m σ H)/\∀i m σ H,W i m σ H->
   ((Itk d o kvs).stop i H/\D.nx σ H)\/((Itk d o kvs).go i H/\∃N:St->Hp->Prop,(∀σ' H',N σ' H'->∃m',m'<m/\W (i+1) m' σ' H')/\∀x H',(Itk d o kvs).yld i H x H'->g x σ H' λσ2 H2=>tb { D with nx:=N,ct:=N,bk:=D.nx } σ2 H2):=by
 refine⟨λi m σ H=>m=kvs.length - i/\i<=kvs.length/\Pv i σ H,⟨kvs.length,by simp,Nat.zero_le _,h0⟩,?_⟩
 rintro i m σ H ⟨rfl,hi,p⟩
 have q:=hl i σ H hi p
 by_cases hlt:i<kvs.length
 ·refine .inr ⟨⟨q,hlt⟩,Pv (i+1),λσ' H' p'=>⟨kvs.length - (i+1),by omega,rfl,hlt,p'⟩,λx H' y=>?_⟩
  obtain⟨e,k,v,e1,e2⟩:=y
  subst e e2
  exact hs i k v σ _ e1 p
 ·have e:i=kvs.length:=by omega
  subst e
  exact .inl ⟨⟨q,Nat.le_refl _⟩,hd σ H p⟩
end L2
end
section
namespace L2
open PySem PySem.Spec PyProof.Rows
theorem Same.new{H:Hp}{p:Addr}{o:HO}(h:H p=none):Same H (upd H p o):=λb u e=>by rw[aV (aX e h)];exact e
theorem Same.upd{H0 H:Hp}(s:Same H0 H){p:Addr}{o:HO}(h:H0 p=none):Same H0 (L2.upd H p o):=λb u e=>by rw[aV (aX e h)];exact s b u e
theorem Same.rd{H H':Hp}(s:Same H H'){a:Addr}{u:HO}(h:Rd H a u):Rd H' a u:=by
 rcases h with h | ⟨o,h⟩
 ·exact .inl (s _ _ h)
 ·exact .inr ⟨o,s _ _ h⟩
theorem Same.sqt{K:PySem.W.Frag}{H H':Hp}{a:Addr}{xs:List V}(e:Same H H')(h:SqT K H a xs):SqT K H' a xs:=by
 rcases h with h | h
 ·exact .inl (e.rd h)
 ·exact .inr h
def But(d:Addr)(H H':Hp):Prop:=∀b o,H b=some o->b≠d->H' b=some o
theorem But.refl(d:Addr)(H:Hp):But d H H:=λ_ _ h _=>h
theorem But.upd{d:Addr}{H H':Hp}(s:But d H H'){o:HO}:But d H (L2.upd H' d o):=λb u e n=>by rw[aV n];exact s b u e n
theorem But.same{d:Addr}{H H1 H2:Hp}(s:But d H H1)(t:Same H1 H2):But d H H2:=λb u e n=>t b u (s b u e n)
theorem But.trans{d:Addr}{H H1 H2:Hp}(s:But d H H1)(t:But d H1 H2):But d H H2:=λb u e n=>t b u (s b u e n) n
theorem But.new{d:Addr}{H H':Hp}(s:But d H H'){p:Addr}{o:HO}(h:H p=none):But d H (L2.upd H' p o):=λb u e n=>by rw[aV (aX e h)];exact s b u e n
theorem But.lock{d:Addr}{H:Hp}{o:HO}:But d H (L2.upd H d o):=λb u e n=>by rw[aV n];exact e
theorem But.back{d:Addr}{H H':Hp}{u:HO}(s:But d H H')(h:H d=some u):Same H (L2.upd H' d u):=λb o e=>by
 by_cases z:b=d
 ·subst z
  rw[upd_same]
  exact h.symm.trans e
 ·rw[aV z]
  exact s b o e z
theorem bU{α:Type}:∀{l:List α}{i:Nat}{x:α},l[i]? = some x->l.take (i+1)=l.take i++[x]
 |[],i,x,h=>by simp at h
 |a::l,0,x,h=>by
  have e:a=x:=Option.some.inj h
  subst e
  rfl
 |a::l,i+1,x,h=>by
  have ih:=bU (l:=l) (i:=i) (x:=x) h
  show a::l.take (i+1)=a::l.take i++[x]
  rw[ih]
  rfl
theorem gmap{α β:Type}{f:α->β}{l:List α}{i:Nat}{y:β}(h:(l.map f)[i]? = some y):∃x,l[i]? = some x/\y=f x:=by
 rw[List.getElem?_map] at h
 obtain⟨x,e1,e2⟩:=Option.map_eq_some_iff.mp h
 exact⟨x,e1,e2.symm⟩
theorem IY{X:Cx}(K:PySem.W.Frag){e:Expr}{f:Str}{pos:Pos}{ta:TE}(he:PE X e ta)(hb:attributeBase e f X.env (eval e X.env)=eval e X.env)(hK:X.K=K:=by rfl):PE X (.Attribute e f pos) (tFld K ta f):=by
 subst hK
 exact bX he hb
theorem aGU{X:Cx}(K:PySem.W.Frag)(hK:X.K=K:=by rfl):IxR X (rIxT K):=by
 subst hK
 exact eY
theorem aeJ{X:Cx}(K:PySem.W.Frag)(hK:X.K=K:=by rfl):OpR X (compareOp .In) (rIn K false):=by
 subst hK
 exact wZ
theorem bcK{X:Cx}(K:PySem.W.Frag)(n:Nat){es:List Expr}{k:Nat}{t:TGs}{pos:Pos}(hc:X.calm=true)(h:PGs X es t)(hn:(assignEach es X.env).length=n:=by rfl)(hst:(assignEach es X.env).findIdx? (·.1)=none:=by rfl)(hK:X.K=K:=by rfl):PG X (.Tuple es k pos) (gTup K n t):=by
 subst hK
 exact PY hc h hn hst
section
variable{K:PySem.W.Frag}{g:TG}{tt:TT}{te:TE}{vs:List Nat}{σ:St}{H1:Hp}{D:Addr}{Qd:Hp->Prop}
def LcTurn(g:TG)(tt:TT)(te:TE)(vs:List Nat)(σ:St)(x:V)(H:Hp)(now:List V)(next:List V):Prop:=
 ∀(k:V->Hp->Prop)(nx:Hp->Prop),(∀y H',Same H H'->next=now++[y]->k y H')->(∀H',Same H H'->next=now->nx H')->
  g x (wipe σ vs) H λσ2 H2=>wipe σ2 vs=wipe σ vs/\tt σ2 H2 λb H3=>if b=true then te σ2 H3 k else nx H3
theorem lcl{a:Addr}{xs:List V}(res:Nat->List V)(hD:H1 D=none)(hL:SqL K H1 a xs)(r0:res 0=[])(hz:∀i,i<xs.length->(res i).length<sizeLine)
  (hs:∀i x H,xs[i]? = some x->Same H1 H->LcTurn g tt te vs σ x H (res i) (res (i+1))) (hd:∀H,Same H1 H->H D=some (.lst (res xs.length))->Qd H) :
  ∃W:Nat->Nat->Hp->Prop,(∃m,W 0 m (upd H1 D (.lst [])))/\∀i m H,W i m H->
   ((Itl K a).stop i H/\Qd H)\/((Itl K a).go i H/\∃Nx:Hp->Prop,(∀H',Nx H'->∃m',m'<m/\W (i+1) m' H')/\∀x H',(Itl K a).yld i H x H'->g x (wipe σ vs) H' λσ2 H2=>wipe σ2 vs=wipe σ vs/\tt σ2 H2 λb H3=>
    if b=true then te σ2 H3 λy H4=>∃acc,H4 D=some (.lst acc)/\acc.length<sizeLine/\Nx (upd H4 D (.lst (acc++[y]))) else Nx H3):=by
 refine TZ (λi H=>Same H1 H/\H D=some (.lst (res i))) ⟨Same.new hD,by rw[upd_same,r0]⟩ (λi H _ p=>p.1.seq hL) (λi x H hx p=>?_) λH p=>hd H p.1 p.2
 refine hs i x H hx p.1 _ _ (λy H' s e=>⟨_,s _ _ p.2,hz i (List.getElem?_eq_some_iff.mp hx).1,(p.1.trans s).upd hD,?_⟩) λH' s e=>⟨p.1.trans s,by rw[e];exact s _ _ p.2⟩
 rw[upd_same,e]
theorem lct{a:Addr}{xs:List V}(res:Nat->List V)(hD:H1 D=none)(hL:SqT K H1 a xs)(r0:res 0=[])(hz:∀i,i<xs.length->(res i).length<sizeLine)
  (hs:∀i x H,xs[i]? = some x->Same H1 H->LcTurn g tt te vs σ x H (res i) (res (i+1))) (hd:∀H,Same H1 H->H D=some (.lst (res xs.length))->Qd H) :
  ∃W:Nat->Nat->Hp->Prop,(∃m,W 0 m (upd H1 D (.lst [])))/\∀i m H,W i m H->
   ((Itt K a).stop i H/\Qd H)\/((Itt K a).go i H/\∃Nx:Hp->Prop,(∀H',Nx H'->∃m',m'<m/\W (i+1) m' H')/\∀x H',(Itt K a).yld i H x H'->g x (wipe σ vs) H' λσ2 H2=>wipe σ2 vs=wipe σ vs/\tt σ2 H2 λb H3=>
    if b=true then te σ2 H3 λy H4=>∃acc,H4 D=some (.lst acc)/\acc.length<sizeLine/\Nx (upd H4 D (.lst (acc++[y]))) else Nx H3):=by
 refine bgJ (λi H=>Same H1 H/\H D=some (.lst (res i))) ⟨Same.new hD,by rw[upd_same,r0]⟩ (λi H _ p=>p.1.sqt hL) (λi x H hx p=>?_) λH p=>hd H p.1 p.2
 refine hs i x H hx p.1 _ _ (λy H' s e=>⟨_,s _ _ p.2,hz i (List.getElem?_eq_some_iff.mp hx).1,(p.1.trans s).upd hD,?_⟩) λH' s e=>⟨p.1.trans s,by rw[e];exact s _ _ p.2⟩
 rw[upd_same,e]
theorem lck{d:Addr}{o:Obj}{kvs:List (Key×V)}(res:Nat->List V)(hD:H1 D=none)(hL:H1 d=some (.frz o (.dK kvs)))(r0:res 0=[])(hz:∀i,i<kvs.length->(res i).length<sizeLine)
  (hs:∀i k v H,kvs[i]? = some (k,v)->Same H1 H->LcTurn g tt te vs σ (kV k) H (res i) (res (i+1))) (hd:∀H,Same H1 H->H D=some (.lst (res kvs.length))->Qd H) :
  ∃W:Nat->Nat->Hp->Prop,(∃m,W 0 m (upd H1 D (.lst [])))/\∀i m H,W i m H->
   ((Itk d o kvs).stop i H/\Qd H)\/((Itk d o kvs).go i H/\∃Nx:Hp->Prop,(∀H',Nx H'->∃m',m'<m/\W (i+1) m' H')/\∀x H',(Itk d o kvs).yld i H x H'->g x (wipe σ vs) H' λσ2 H2=>wipe σ2 vs=wipe σ vs/\tt σ2 H2 λb H3=>
    if b=true then te σ2 H3 λy H4=>∃acc,H4 D=some (.lst acc)/\acc.length<sizeLine/\Nx (upd H4 D (.lst (acc++[y]))) else Nx H3):=by
 refine bcJ (λi H=>Same H1 H/\H D=some (.lst (res i))) ⟨Same.new hD,by rw[upd_same,r0]⟩ (λi H _ p=>p.1 _ _ hL) (λi k v H hx p=>?_) λH p=>hd H p.1 p.2
 refine hs i k v H hx p.1 _ _ (λy H' s e=>⟨_,s _ _ p.2,hz i (List.getElem?_eq_some_iff.mp hx).1,(p.1.trans s).upd hD,?_⟩) λH' s e=>⟨p.1.trans s,by rw[e];exact s _ _ p.2⟩
 rw[upd_same,e]
theorem lcs{x:Str}(res:Nat->List V)(hD:H1 D=none)(r0:res 0=[])(hz:∀i,i<x.cps.size->(res i).length<sizeLine)
  (hs:∀i c H,x.cps[i]? = some c->Same H1 H->LcTurn g tt te vs σ (.str ⟨#[c]⟩) H (res i) (res (i+1))) (hd:∀H,Same H1 H->H D=some (.lst (res x.cps.size))->Qd H) :
  ∃W:Nat->Nat->Hp->Prop,(∃m,W 0 m (upd H1 D (.lst [])))/\∀i m H,W i m H->
   ((Its x).stop i H/\Qd H)\/((Its x).go i H/\∃Nx:Hp->Prop,(∀H',Nx H'->∃m',m'<m/\W (i+1) m' H')/\∀y H',(Its x).yld i H y H'->g y (wipe σ vs) H' λσ2 H2=>wipe σ2 vs=wipe σ vs/\tt σ2 H2 λb H3=>
    if b=true then te σ2 H3 λy H4=>∃acc,H4 D=some (.lst acc)/\acc.length<sizeLine/\Nx (upd H4 D (.lst (acc++[y]))) else Nx H3):=by
 refine bgW (λi H=>Same H1 H/\H D=some (.lst (res i))) ⟨Same.new hD,by rw[upd_same,r0]⟩ (λi c H hx p=>?_) λH p=>hd H p.1 p.2
 refine hs i c H hx p.1 _ _ (λy H' s e=>⟨_,s _ _ p.2,hz i (Array.getElem?_eq_some_iff.mp hx).1,(p.1.trans s).upd hD,?_⟩) λH' s e=>⟨p.1.trans s,by rw[e];exact s _ _ p.2⟩
 rw[upd_same,e]
end
theorem IZ{K:PySem.W.Frag}{a:Addr}{xs:List V}{g:TG}{tb:TS}{D:Ends}{σ:St}{H:Hp}(Pv:Nat->St->Hp->Prop)(h0:Pv 0 σ H)(hl:∀i σ H,i<=xs.length->Pv i σ H->SqL K H a xs)
  (hs:∀i x σ H,i<xs.length->xs[xs.length - 1 - i]? = some x->Pv i σ H->g x σ H λσ2 H2=>tb { D with nx:=Pv (i+1),ct:=Pv (i+1),bk:=D.nx } σ2 H2) (hd:∀σ H,Pv xs.length σ H->D.nx σ H) :
  ∃W:Nat->Nat->St->Hp->Prop,(∃m,W 0 m σ H)/\∀i m σ H,W i m σ H->
   ((Itv K a xs.length).stop i H/\D.nx σ H)\/((Itv K a xs.length).go i H/\∃N:St->Hp->Prop,(∀σ' H',N σ' H'->∃m',m'<m/\W (i+1) m' σ' H')/\∀x H',(Itv K a xs.length).yld i H x H'->g x σ H' λσ2 H2=>tb { D with nx:=N,ct:=N,bk:=D.nx } σ2 H2):=by
 refine⟨λi m σ H=>m=xs.length - i/\i<=xs.length/\Pv i σ H,⟨xs.length,by simp,Nat.zero_le _,h0⟩,?_⟩
 rintro i m σ H ⟨rfl,hi,p⟩
 have q:=hl i σ H hi p
 by_cases hlt:i<xs.length
 ·have hj:xs.length - 1 - i<xs.length:=by omega
  refine .inr ⟨⟨hlt,xs,xs[xs.length - 1 - i],q,by simp[hj]⟩,Pv (i+1),λσ' H' p'=>⟨xs.length - (i+1),by omega,rfl,hlt,p'⟩,λx H' y=>?_⟩
  obtain⟨e,y⟩:=y
  subst e
  exact hs i x σ _ hlt (y xs q) p
 ·have e:i=xs.length:=by omega
  subst e
  exact .inl ⟨Nat.le_refl _,hd σ H p⟩
section
variable{prog:Program}{w:World}{A:Around}{E:Value->Shared->Prop}{s:Shared}
theorem aBY{T:String}{r d:Addr}{n:Nat}{P:Nat->Value->Prop}{OK:Heap->Prop}{Q:List Value->Shared->Prop}(K:PySem.W.KdlSrc prog w T r d n P OK)(hh:A.handled=none)(hok:OK s.heap)(hn:n<=sizeLine)
  (hQ:∀h' tk (vs:List Value),s.heap.objs.size<h'.objs.size->(∀b o,s.heap.get? b=some o->h'.get? b=some o)->vs.length=n->(∀j v,vs[j]? = some v->P j v)->Q vs { s with heap:=h',toks:=tk }) :
  wpAny (model prog w) A (collect (.ref r)) Q E s:=by
 have hlt:=K.there _ hok
 unfold collect
 refine wpAny_bind (wpAny_runValue (codeAny_builtin entry_proto_collect' ?_))
 show wpAny _ _ (do again (.builtin "list.__iadd__" ⟨[<-newList [],.ref r],[]⟩)) _ _ s
 refine wpAny_bind (wpAny_newList (wpAny_pure ⟨Code.quiet_builtin _ (by decide +kernel),codeAny_builtin entry_list_iadd' ?_⟩))
 show wpAny _ _ (Builtin.List.listExtendWith (.ref s.heap.objs.size) (.ref r) (.ref s.heap.objs.size)) _ _ { s with heap:=s.heap.push (seqObj "list" #[] 0) }
 rw[Around.under_plainId (show plainId "list.__iadd__"=true by decide +kernel)]
 refine PySem.W.kdl_extend (R:=λrr s'=>match rr with
  |.ok (.ret v)=>wpAny (model prog w) A (match v with
    |.ref a=>do
     let o <-load a
     match o.data with
     |.seq xs _=>pure xs.toList
     |_=>unsupported "internal:collect"
    |_=>unsupported "internal:collect") Q E s'
  |.ok _=>False
  |.error e=>E e s') (s:={ s with heap:=s.heap.push (seqObj "list" #[] 0) }) K hh (K.keep _ _ hok λb _ o e=>Heap.get?_push_of_some _ e) _ (Nat.ne_of_gt hlt.1) (Nat.ne_of_gt hlt.2) _ 0 (Heap.get?_push_size _ rfl) (λh' tk acc' c' hk hS' hacc=>?_) hn
 show wpAny (model prog w) A (do
   let o <-load s.heap.objs.size
   match o.data with
   |.seq xs _=>pure xs.toList
   |_=>unsupported "internal:collect") Q E { s with heap:=h',toks:=tk }
 refine wpAny_bind (wpAny_load hS' ?_)
 exact wpAny_pure (hQ h' tk acc'.toList (Heap.lt_size hS') (λb o e=>hk b o (Nat.ne_of_lt (Heap.lt_size e)) (Heap.get?_push_of_some _ e)) (by rw[Array.length_toList];exact hacc.1) λj v e=>hacc.2 j v (by rw[<-Array.getElem?_toList];exact e))
end
section
variable{X:Cx}
theorem aGV:∀{ns:List Int}{us:List Value},us.length=ns.length->(∀(j:Nat) u,us[j]? = some u->∃n t,ns[j]? = some n/\u=Value.int n t)->Vals (ns.map V.int) us
 |[],[],_,_=>.nil
 |[],_::_,h,_=>by simp at h
 |_::_,[],h,_=>by simp at h
 |n::ns,u::us,h,hj=>by
  obtain⟨y,t,e,r⟩:=hj 0 u rfl
  cases(show n=y from Option.some.inj e)
  exact .cons ⟨t,r⟩ (aGV (by simpa using h) λj w hw=>hj (j+1) w hw)
def rSortedD:List V->Hp->VK->Prop:=λvs H Q=>∃(d:Addr)(kvs:List (Key×V))(ns:List Int),vs=[V.ref d]/\Rd H d (.dK kvs)/\kvs.map (·.1)=ns.map Sum.inl/\
 ∀(ns':List Int)(p:Addr),ns'.Perm ns->ns'.Pairwise (·<=·)->H p=none->Q (.ref p) (upd H p (.lst (ns'.map V.int)))
theorem BX(hc:X.calm=true):CallR X (.builtin "sorted") rSortedD:=by
 intro pins s σ H xs us Q I r h
 obtain⟨d,kvs,ns,rfl,hd,hns,q⟩:=h
 obtain⟨u,rfl,rx⟩:=vals1 r
 cases rx
 obtain⟨hz,lo,vs,kv,dd⟩:=sQ I.hok hd
 obtain⟨ep,hat⟩:=dd.dictAt
 have hlen:=KV.length kv
 have hl2:kvs.length=ns.length:=by have:=congrArg List.length hns;simpa using this
 refine Calls.call_function_entry kind_sorted plain_sorted entry_sorted (args_sorted1 _) ?_
 unfold Builtin.«sorted»
 refine wpAny_bind (m:=checkCount "sorted" 1 1 _) (wpAny_pure ?_)
 refine wpAny_bind (aBY (PySem.W.kdl_dict (knd:=mixKind X.prog X.w) (kvs:=vs) (ep:=ep) lo) (I.ok.hd hc) hat (by omega) λh' tk ws hge hk hl hP=>?_)
 have hV:Vals (ns.map V.int) ws:=by
  refine aGV (by omega) λj u hu=>?_
  obtain⟨k,x,e1,e2⟩:=hP j u hu
  have ek:=KV.keys kv
  have:(kvs.map (·.1))[j]? = some k:=by rw[ek,List.getElem?_map,e1];rfl
  rw[hns,List.getElem?_map] at this
  obtain⟨n,hn,hk2⟩:=Option.map_eq_some_iff.mp this
  subst hk2
  obtain⟨t,ht⟩:=aaJ (k:=Sum.inl n) e2
  exact⟨n,t,hn,ht⟩
 refine wpAny_bind (wpAny_newList ?_)
 have hoL:(h'.push (seqObj "list" ws.toArray 0)).get? h'.objs.size=some (seqObj "list" ws.toArray 0):=Heap.get?_push_size _ rfl
 show wpAny _ _ _ _ _ { s with heap:=h'.push (seqObj "list" ws.toArray 0),toks:=tk }
 have hi:=hV.ints
 have hge:=Nat.le_of_lt hge
 refine wpAny_bind (wpAny_holding (wpAny_call_entry slot_list_sort ⟨_,hoL,rfl⟩ entry_list_sort (list_sort_treeAny hoL hi (by omega) λout ns' h1 h2 h3=>⟨_,rfl,?_⟩) (args_list_sort _)))
 obtain⟨ep2,he'⟩:=sortedHeap_at (out:=out) hoL
 have hlen2:(ns'.map V.int).length<=sizeLine:=by rw[List.length_map,h2.length_eq];omega
 refine wpAny_pure ⟨_,rfl,?_⟩
 exact⟨.ref h'.objs.size,upd H h'.objs.size (.lst (ns'.map V.int)),I.laid (t':=tk) (λb o e=>(sortedHeap_old (Nat.ne_of_lt (Heap.lt_size (hk _ _ e))) (by rw[size_push'];exact Nat.lt_succ_of_lt (Heap.lt_size (hk _ _ e)))).trans (Heap.get?_push_of_some _ (hk _ _ e))) hge ⟨hlen2,out.toList,ep2,QQ h1,he'⟩,rfl,q ns' _ h2 h3 (I.hok.fresh hge)⟩
end
end L2
end
section
namespace Nc
open PySem PySem.Spec PyProof.Rows L2
open Vbnlal (Case Member State Effect)
theorem bmK{a:Str}{b:V}{es:List (Str×V)}:List.lookup a ((a,b)::es)=some b:=by
 rw[List.lookup_cons,beq_self_eq_true]
theorem bmQ{a k:Str}{b:V}{es:List (Str×V)}(h:a≠k):List.lookup a ((k,b)::es)=List.lookup a es:=by
 rw[List.lookup_cons,beq_eq_false_iff_ne.mpr h]
theorem bmU{f:Str}{v x:V}{r:List (Str×V)}:putF f v ((f,x)::r)=(f,v)::r:=by
 show(if f=f then _ else _)=_
 rw[if_pos rfl]
theorem bmV{k f:Str}{v x:V}{r:List (Str×V)}(h:k≠f):putF f v ((k,x)::r)=(k,x)::putF f v r:=by
 show(if k=f then _ else _)=_
 rw[if_neg h]
def caseF(v0 v1 v2 v3 v4 v5 v6 v7:V):List (Str×V):=[("proposals",v0),("phase",v1),("opened",v2),("comments",v3),("last_comment",v4),("closing",v5),("ballots",v6),("published",v7)]
theorem aeK(v0 v1 v2 v3 v4 v5 v6 v7:V):(caseF v0 v1 v2 v3 v4 v5 v6 v7).lookup ("proposals" : Str)=some v0:=by kernel_rfl
theorem aBZ(v0 v1 v2 v3 v4 v5 v6 v7:V):(caseF v0 v1 v2 v3 v4 v5 v6 v7).lookup ("phase" : Str)=some v1:=by kernel_rfl
theorem aeQ(v0 v1 v2 v3 v4 v5 v6 v7 w:V):putF ("phase" : Str) w (caseF v0 v1 v2 v3 v4 v5 v6 v7)=caseF v0 w v2 v3 v4 v5 v6 v7:=by kernel_rfl
theorem avJ(v0 v1 v2 v3 v4 v5 v6 v7:V):(caseF v0 v1 v2 v3 v4 v5 v6 v7).lookup ("opened" : Str)=some v2:=by kernel_rfl
theorem aWK(v0 v1 v2 v3 v4 v5 v6 v7 w:V):putF ("opened" : Str) w (caseF v0 v1 v2 v3 v4 v5 v6 v7)=caseF v0 v1 w v3 v4 v5 v6 v7:=by kernel_rfl
theorem JJ(v0 v1 v2 v3 v4 v5 v6 v7:V):(caseF v0 v1 v2 v3 v4 v5 v6 v7).lookup ("comments" : Str)=some v3:=by kernel_rfl
theorem QZ(v0 v1 v2 v3 v4 v5 v6 v7 w:V):putF ("comments" : Str) w (caseF v0 v1 v2 v3 v4 v5 v6 v7)=caseF v0 v1 v2 w v4 v5 v6 v7:=by kernel_rfl
theorem RJ(v0 v1 v2 v3 v4 v5 v6 v7:V):(caseF v0 v1 v2 v3 v4 v5 v6 v7).lookup ("last_comment" : Str)=some v4:=by kernel_rfl
theorem GK(v0 v1 v2 v3 v4 v5 v6 v7 w:V):putF ("last_comment" : Str) w (caseF v0 v1 v2 v3 v4 v5 v6 v7)=caseF v0 v1 v2 v3 w v5 v6 v7:=by kernel_rfl
theorem apJ(v0 v1 v2 v3 v4 v5 v6 v7:V):(caseF v0 v1 v2 v3 v4 v5 v6 v7).lookup ("closing" : Str)=some v5:=by kernel_rfl
theorem VW(v0 v1 v2 v3 v4 v5 v6 v7 w:V):putF ("closing" : Str) w (caseF v0 v1 v2 v3 v4 v5 v6 v7)=caseF v0 v1 v2 v3 v4 w v6 v7:=by kernel_rfl
theorem apK(v0 v1 v2 v3 v4 v5 v6 v7:V):(caseF v0 v1 v2 v3 v4 v5 v6 v7).lookup ("ballots" : Str)=some v6:=by kernel_rfl
theorem VX(v0 v1 v2 v3 v4 v5 v6 v7 w:V):putF ("ballots" : Str) w (caseF v0 v1 v2 v3 v4 v5 v6 v7)=caseF v0 v1 v2 v3 v4 v5 w v7:=by kernel_rfl
theorem aeU(v0 v1 v2 v3 v4 v5 v6 v7:V):(caseF v0 v1 v2 v3 v4 v5 v6 v7).lookup ("published" : Str)=some v7:=by kernel_rfl
theorem OU(v0 v1 v2 v3 v4 v5 v6 v7 w:V):putF ("published" : Str) w (caseF v0 v1 v2 v3 v4 v5 v6 v7)=caseF v0 v1 v2 v3 v4 v5 v6 w:=by kernel_rfl
theorem aJX(v0:V):putF ("proposals" : Str) v0 ([]:List (Str×V))=([("proposals",v0)]:List (Str×V)):=by kernel_rfl
theorem aJY(v0 v1:V):putF ("phase" : Str) v1 ([("proposals",v0)]:List (Str×V))=([("proposals",v0),("phase",v1)]:List (Str×V)):=by kernel_rfl
theorem aJZ(v0 v1 v2:V):putF ("opened" : Str) v2 ([("proposals",v0),("phase",v1)]:List (Str×V))=([("proposals",v0),("phase",v1),("opened",v2)]:List (Str×V)):=by kernel_rfl
theorem aKJ(v0 v1 v2 v3:V):putF ("comments" : Str) v3 ([("proposals",v0),("phase",v1),("opened",v2)]:List (Str×V))=([("proposals",v0),("phase",v1),("opened",v2),("comments",v3)]:List (Str×V)):=by kernel_rfl
theorem aKK(v0 v1 v2 v3 v4:V):putF ("last_comment" : Str) v4 ([("proposals",v0),("phase",v1),("opened",v2),("comments",v3)]:List (Str×V))=([("proposals",v0),("phase",v1),("opened",v2),("comments",v3),("last_comment",v4)]:List (Str×V)):=by kernel_rfl
theorem aKQ(v0 v1 v2 v3 v4 v5:V):putF ("closing" : Str) v5 ([("proposals",v0),("phase",v1),("opened",v2),("comments",v3),("last_comment",v4)]:List (Str×V))=([("proposals",v0),("phase",v1),("opened",v2),("comments",v3),("last_comment",v4),("closing",v5)]:List (Str×V)):=by kernel_rfl
theorem aKU(v0 v1 v2 v3 v4 v5 v6:V):putF ("ballots" : Str) v6 ([("proposals",v0),("phase",v1),("opened",v2),("comments",v3),("last_comment",v4),("closing",v5)]:List (Str×V))=([("proposals",v0),("phase",v1),("opened",v2),("comments",v3),("last_comment",v4),("closing",v5),("ballots",v6)]:List (Str×V)):=by kernel_rfl
theorem aKV(v0 v1 v2 v3 v4 v5 v6 v7:V):putF ("published" : Str) v7 ([("proposals",v0),("phase",v1),("opened",v2),("comments",v3),("last_comment",v4),("closing",v5),("ballots",v6)]:List (Str×V))=([("proposals",v0),("phase",v1),("opened",v2),("comments",v3),("last_comment",v4),("closing",v5),("ballots",v6),("published",v7)]:List (Str×V)):=by kernel_rfl
def courtF(v0 v1 v2 v3 v4:V):List (Str×V):=[("today",v0),("last_days",v1),("presiding",v2),("cases",v3),("rulings",v4)]
theorem avK(v0 v1 v2 v3 v4:V):(courtF v0 v1 v2 v3 v4).lookup ("today" : Str)=some v0:=by kernel_rfl
theorem aaQ(v0 v1 v2 v3 v4 w:V):putF ("today" : Str) w (courtF v0 v1 v2 v3 v4)=courtF w v1 v2 v3 v4:=by kernel_rfl
theorem aaU(v0 v1 v2 v3 v4:V):(courtF v0 v1 v2 v3 v4).lookup ("last_days" : Str)=some v1:=by kernel_rfl
theorem aKW(v0 v1 v2 v3 v4 w:V):putF ("last_days" : Str) w (courtF v0 v1 v2 v3 v4)=courtF v0 w v2 v3 v4:=by kernel_rfl
theorem aaV(v0 v1 v2 v3 v4:V):(courtF v0 v1 v2 v3 v4).lookup ("presiding" : Str)=some v2:=by kernel_rfl
theorem LQ(v0 v1 v2 v3 v4 w:V):putF ("presiding" : Str) w (courtF v0 v1 v2 v3 v4)=courtF v0 v1 w v3 v4:=by kernel_rfl
theorem avQ(v0 v1 v2 v3 v4:V):(courtF v0 v1 v2 v3 v4).lookup ("cases" : Str)=some v3:=by kernel_rfl
theorem aWQ(v0 v1 v2 v3 v4 w:V):putF ("cases" : Str) w (courtF v0 v1 v2 v3 v4)=courtF v0 v1 v2 w v4:=by kernel_rfl
theorem aiY(v0 v1 v2 v3 v4:V):(courtF v0 v1 v2 v3 v4).lookup ("rulings" : Str)=some v4:=by kernel_rfl
theorem aRJ(v0 v1 v2 v3 v4 w:V):putF ("rulings" : Str) w (courtF v0 v1 v2 v3 v4)=courtF v0 v1 v2 v3 w:=by kernel_rfl
theorem aCJ(v0:V):putF ("today" : Str) v0 ([]:List (Str×V))=([("today",v0)]:List (Str×V)):=by kernel_rfl
theorem aCK(v0 v1:V):putF ("last_days" : Str) v1 ([("today",v0)]:List (Str×V))=([("today",v0),("last_days",v1)]:List (Str×V)):=by kernel_rfl
theorem aCQ(v0 v1 v2:V):putF ("presiding" : Str) v2 ([("today",v0),("last_days",v1)]:List (Str×V))=([("today",v0),("last_days",v1),("presiding",v2)]:List (Str×V)):=by kernel_rfl
theorem aCU(v0 v1 v2 v3:V):putF ("cases" : Str) v3 ([("today",v0),("last_days",v1),("presiding",v2)]:List (Str×V))=([("today",v0),("last_days",v1),("presiding",v2),("cases",v3)]:List (Str×V)):=by kernel_rfl
theorem aCV(v0 v1 v2 v3 v4:V):putF ("rulings" : Str) v4 ([("today",v0),("last_days",v1),("presiding",v2),("cases",v3)]:List (Str×V))=([("today",v0),("last_days",v1),("presiding",v2),("cases",v3),("rulings",v4)]:List (Str×V)):=by kernel_rfl
def feedF(v0 v1:V):List (Str×V):=[("numbers",v0),("place",v1)]
theorem apQ(v0 v1:V):(feedF v0 v1).lookup ("numbers" : Str)=some v0:=by kernel_rfl
theorem GQ(v0 v1:V):(feedF v0 v1).lookup ("place" : Str)=some v1:=by kernel_rfl
theorem EV(v0 v1 w:V):putF ("place" : Str) w (feedF v0 v1)=feedF v0 w:=by kernel_rfl
theorem aKX(v0:V):putF ("numbers" : Str) v0 ([]:List (Str×V))=([("numbers",v0)]:List (Str×V)):=by kernel_rfl
theorem aKY(v0 v1:V):putF ("place" : Str) v1 ([("numbers",v0)]:List (Str×V))=([("numbers",v0),("place",v1)]:List (Str×V)):=by kernel_rfl
theorem bW(v0 v1:V):(feedF v0 v1).lookup ("take" : Str)=none:=by kernel_rfl
theorem pW(v0 v1:V):(feedF v0 v1).lookup ("take_row" : Str)=none:=by kernel_rfl
theorem aaW(v0 v1:V):(feedF v0 v1).lookup ("is_over" : Str)=none:=by kernel_rfl
inductive Part where
 |court | ld | cs | ru | cas (i:Nat) | bal (i:Nat) | pro (i:Nat)
abbrev Own:=Addr->Option Part
abbrev kvI(l:List (Int×Int)):List (Key×V):=l.map λp=>(Sum.inl p.1,V.int p.2)
abbrev kvM(l:List Member):List (Key×V):=l.map λm=>(Sum.inl m.key,V.int m.until_)
abbrev kvC(qs:List (Addr×Addr×Addr))(cs:List Case):List (Key×V):=List.zipWith (λq (c:Case)=>(Sum.inl c.key,V.ref q.1)) qs cs
def TupAt(H:Hp)(t:Addr)(e:Effect):Prop:=H t=some (.tup [.int e.kind,.int e.a,.int e.b])
structure PropsAt(H:Hp)(p:Addr)(ts:List Addr)(es:List Effect):Prop where
 lst:H p=some (.lst (ts.map V.ref))
 len:ts.length=es.length
 tup:∀(i:Nat) t e,ts[i]? = some t->es[i]? = some e->TupAt H t e
structure CaseAt(Ck:Addr)(H:Hp)(ow:Own)(i:Nat)(q:Addr×Addr×Addr)(x:Case):Prop where
 ins:∃dx,H q.1=some (.ins Ck dx (caseF (.ref q.2.2) (.int x.phase) (.int x.opened) (.int x.comments) (.int x.last) (.int x.closing) (.ref q.2.1) (.int x.published)))
 bal:H q.2.1=some (.dK (kvI x.ballots))
 pro:∃ts,PropsAt H q.2.2 ts x.effects
 o1:ow q.1=some (.cas i)
 o2:ow q.2.1=some (.bal i)
 o3:ow q.2.2=some (.pro i)
structure Lay where
 ld:Addr
 cs:Addr
 ru:Addr
 cas:List (Addr×Addr×Addr)
structure CourtAt(Cc Ck:Addr)(H:Hp)(c:Addr)(ow:Own)(L:Lay)(s:State):Prop where
 ins:∃dx,H c=some (.ins Cc dx (courtF (.int s.today) (.ref L.ld) (.int s.president) (.ref L.cs) (.ref L.ru)))
 ld:H L.ld=some (.dK (kvM s.members))
 cs:H L.cs=some (.dK (kvC L.cas s.cases))
 ru:H L.ru=some (.lst (s.rulings.map V.int))
 len:L.cas.length=s.cases.length
 cas:∀(i:Nat) q x,L.cas[i]? = some q->s.cases[i]? = some x->CaseAt Ck H ow i q x
 o0:ow c=some .court
 o1:ow L.ld=some .ld
 o2:ow L.cs=some .cs
 o3:ow L.ru=some .ru
 dom:∀b,H b=none->ow b=none
structure Keep(ow:Own)(H:Hp)(ow':Own)(H':Hp):Prop where
 st:∀b o,H b=some o->ow b=none->H' b=some o/\ow' b=none
 gr:∀b,H' b=none->H b=none
theorem aW{H:Hp}{p b:Addr}{o:HO}(h:upd H p o b=none):H b=none:=by
 unfold upd at h
 split at h
 ·cases h
 ·exact h
theorem Keep.refl(ow:Own)(H:Hp):Keep ow H ow H:=⟨λ_ _ h q=>⟨h,q⟩,λ_ h=>h⟩
theorem Keep.trans{ow ow1 ow2:Own}{H H1 H2:Hp}(a:Keep ow H ow1 H1)(b:Keep ow1 H1 ow2 H2):Keep ow H ow2 H2:=⟨λc o h q=>
 have z:=a.st c o h q
 b.st c o z.1 z.2,λc h=>a.gr c (b.gr c h)⟩
theorem Keep.same{ow:Own}{H H':Hp}(a:Same H H'):Keep ow H ow H':=⟨λb o h q=>⟨a b o h,q⟩,λb h=>a.free h⟩
theorem PropsAt.same{H H':Hp}{p:Addr}{ts:List Addr}{es:List Effect}(P:PropsAt H p ts es)(h:Same H H'):PropsAt H' p ts es:=
 ⟨h _ _ P.lst,P.len,λi t e h1 h2=>h _ _ (P.tup i t e h1 h2)⟩
theorem CaseAt.same{Ck:Addr}{H H':Hp}{ow:Own}{i:Nat}{q:Addr×Addr×Addr}{x:Case}(P:CaseAt Ck H ow i q x)(h:Same H H'):CaseAt Ck H' ow i q x:=
 ⟨let ⟨dx,e⟩:=P.ins;⟨dx,h _ _ e⟩,h _ _ P.bal,let ⟨ts,e⟩:=P.pro;⟨ts,e.same h⟩,P.o1,P.o2,P.o3⟩
theorem CourtAt.same{Cc Ck:Addr}{H H':Hp}{c:Addr}{ow:Own}{L:Lay}{s:State}(P:CourtAt Cc Ck H c ow L s)(h:Same H H'):CourtAt Cc Ck H' c ow L s:=
 ⟨let ⟨dx,e⟩:=P.ins;⟨dx,h _ _ e⟩,h _ _ P.ld,h _ _ P.cs,h _ _ P.ru,P.len,λi q x h1 h2=>(P.cas i q x h1 h2).same h,P.o0,P.o1,P.o2,P.o3,λb hb=>P.dom b (h.free hb)⟩
theorem fX{ow:Own}{a b:Addr}{p q:Part}(h1:ow a=some p)(h2:ow b=some q)(h:p≠q):a≠b:=λe=>h (Option.some.inj (h1.symm.trans (e▸h2)))
theorem bcQ{qs:List (Addr×Addr×Addr)}{cs:List Case}{i:Nat}{q q':Addr×Addr×Addr}{x x':Case}(hq:qs[i]? = some q)(hx:cs[i]? = some x)(e1:q'.1=q.1)(e2:x'.key=x.key):kvC (qs.set i q') (cs.set i x')=kvC qs cs:=by
 apply List.ext_getElem?
 intro j
 rw[List.getElem?_zipWith,List.getElem?_zipWith,List.getElem?_set,List.getElem?_set]
 by_cases h:i=j
 ·subst h
  have l1:=(List.getElem?_eq_some_iff.mp hq).1
  have l2:=(List.getElem?_eq_some_iff.mp hx).1
  rw[if_pos rfl,if_pos rfl,if_pos l1,if_pos l2,hq,hx]
  show some (Sum.inl x'.key,V.ref q'.1)=some (Sum.inl x.key,V.ref q.1)
  rw[e1,e2]
 ·rw[if_neg h,if_neg h]
section
variable{Cc Ck:Addr}{H H':Hp}{c:Addr}{ow:Own}{L:Lay}{s:State}
theorem CourtAt.upCase{i:Nat}{q:Addr×Addr×Addr}{x x':Case}(B:CourtAt Cc Ck H c ow L s)(hq:L.cas[i]? = some q)(hx:s.cases[i]? = some x)(ba:Addr)(hba:ba=q.2.1\/H ba=none)
  (kp:∀b o,H b=some o->b≠q.1->b≠q.2.1->H' b=some o)
  (ins:∃dx,H' q.1=some (.ins Ck dx (caseF (.ref q.2.2) (.int x'.phase) (.int x'.opened) (.int x'.comments) (.int x'.last) (.int x'.closing) (.ref ba) (.int x'.published))))
  (bal:H' ba=some (.dK (kvI x'.ballots))) (he:x'.effects=x.effects) (hk:x'.key=x.key) (gr:∀b,H' b=none->H b=none) :
  ∃ow',CourtAt Cc Ck H' c ow' { L with cas:=L.cas.set i (q.1,ba,q.2.2) } { s with cases:=s.cases.set i x' }/\Keep ow H ow' H':=by
 have C:=B.cas i q x hq hx
 obtain⟨dx,hins⟩:=C.ins
 let ow':Own:=λb=>if b=ba then some (.bal i) else ow b
 have oba:∀b o,H b=some o->b≠q.2.1->b≠ba:=λb o hb h1=>by
  rcases hba with e | e
  ·rw[e];exact h1
  ·exact aX hb e
 have ow1:∀b,b≠ba->ow' b=ow b:=λb h=>if_neg h
 have nz:∀{b:Addr}{o:HO}{p:Part},H b=some o->ow b=some p->p≠.cas i->p≠.bal i->H' b=some o/\ow' b=some p:=λ{b o p} h1 h2 h3 h4=>by
  have n1:=fX h2 C.o1 h3
  have n2:=fX h2 C.o2 h4
  exact⟨kp b o h1 n1 n2,(ow1 b (oba b o h1 n2)).trans h2⟩
 obtain⟨d0,h0⟩:=B.ins
 have z0:=nz h0 B.o0 (by intro z;cases z) (by intro z;cases z)
 have z1:=nz B.ld B.o1 (by intro z;cases z) (by intro z;cases z)
 have z2:=nz B.cs B.o2 (by intro z;cases z) (by intro z;cases z)
 have z3:=nz B.ru B.o3 (by intro z;cases z) (by intro z;cases z)
 have tups:∀t ys,H t=some (.tup ys)->H' t=some (.tup ys):=λt ys ht=>kp t _ ht (eW ht hins (by intro z;cases z)) (eW ht C.bal (by intro z;cases z))
 have pros:∀{p:Addr}{ts:List Addr}{es:List Effect},PropsAt H p ts es->PropsAt H' p ts es:=λ{p ts es} P=>
  ⟨kp _ _ P.lst (eW P.lst hins (by intro z;cases z)) (eW P.lst C.bal (by intro z;cases z)),P.len,λj t e h1 h2=>tups _ _ (P.tup j t e h1 h2)⟩
 refine⟨ow',⟨⟨d0,z0.1⟩,z1.1,?_,z3.1,by rw[List.length_set,List.length_set];exact B.len,?_,z0.2,z1.2,z2.2,z3.2,λb hb=>?_⟩,?_⟩
 ·show H' L.cs=some (.dK (kvC (L.cas.set i (q.1,ba,q.2.2)) (s.cases.set i x')))
  rw[bcQ (q':=(q.1,ba,q.2.2)) hq hx rfl hk]
  exact z2.1
 ·intro j q2 x2 h1 h2
  have h1:(L.cas.set i (q.1,ba,q.2.2))[j]? = some q2:=h1
  have h2:(s.cases.set i x')[j]? = some x2:=h2
  rw[List.getElem?_set] at h1 h2
  by_cases hij:i=j
  ·subst hij
   rw[if_pos rfl,if_pos (List.getElem?_eq_some_iff.mp hq).1] at h1
   rw[if_pos rfl,if_pos (List.getElem?_eq_some_iff.mp hx).1] at h2
   cases h1
   cases h2
   obtain⟨ts,P⟩:=C.pro
   obtain⟨dy,hi⟩:=ins
   have n1:q.1≠ba:=oba _ _ hins (fX C.o1 C.o2 (by intro z;cases z))
   have n3:q.2.2≠ba:=oba _ _ P.lst (fX C.o3 C.o2 (by intro z;cases z))
   exact⟨⟨dy,hi⟩,bal,⟨ts,by rw[he];exact pros P⟩,(ow1 _ n1).trans C.o1,if_pos rfl,(ow1 _ n3).trans C.o3⟩
  ·rw[if_neg hij] at h1 h2
   have D:=B.cas j q2 x2 h1 h2
   obtain⟨dy,hi⟩:=D.ins
   obtain⟨ts,P⟩:=D.pro
   have y1:=nz hi D.o1 (by intro z;cases z;exact hij rfl) (by intro z;cases z)
   have y2:=nz D.bal D.o2 (by intro z;cases z) (by intro z;cases z;exact hij rfl)
   have y3:=nz P.lst D.o3 (by intro z;cases z) (by intro z;cases z)
   exact⟨⟨dy,y1.1⟩,y2.1,⟨ts,pros P⟩,y1.2,y2.2,y3.2⟩
 ·have:b≠ba:=λe=>by rw[e,bal] at hb;cases hb
  exact(ow1 b this).trans (B.dom b (gr b hb))
 ·refine⟨λb o hb hn=>?_,gr⟩
  have n1:b≠q.1:=λe=>by rw[e,C.o1] at hn;cases hn
  have n2:b≠q.2.1:=λe=>by rw[e,C.o2] at hn;cases hn
  exact⟨kp b o hb n1 n2,(ow1 b (oba b o hb n2)).trans hn⟩
theorem CourtAt.upInts{t p:Int}(B:CourtAt Cc Ck H c ow L s)(kp:∀b o,H b=some o->b≠c->H' b=some o)
  (ins:∃dx,H' c=some (.ins Cc dx (courtF (.int t) (.ref L.ld) (.int p) (.ref L.cs) (.ref L.ru)))) (gr:∀b,H' b=none->H b=none) :
  CourtAt Cc Ck H' c ow L { s with today:=t,president:=p }/\Keep ow H ow H':=by
 have nz:∀{b:Addr}{o:HO}{p:Part},H b=some o->ow b=some p->p≠.court->H' b=some o:=λ{b o p} h1 h2 h3=>kp b o h1 (fX h2 B.o0 h3)
 obtain⟨d0,h0⟩:=B.ins
 refine⟨⟨ins,nz B.ld B.o1 (by intro z;cases z),nz B.cs B.o2 (by intro z;cases z),nz B.ru B.o3 (by intro z;cases z),B.len,λi q x h1 h2=>?_,B.o0,B.o1,B.o2,B.o3,λb hb=>B.dom b (gr b hb)⟩,⟨λb o hb hn=>⟨kp b o hb λe=>(by rw[e,B.o0] at hn;cases hn),hn⟩,gr⟩⟩
 have D:=B.cas i q x h1 h2
 obtain⟨dy,hi⟩:=D.ins
 obtain⟨ts,P⟩:=D.pro
 exact⟨⟨dy,nz hi D.o1 (by intro z;cases z)⟩,nz D.bal D.o2 (by intro z;cases z),⟨ts,⟨nz P.lst D.o3 (by intro z;cases z),P.len,λj t e h1 h2=>kp _ _ (P.tup j t e h1 h2) (eW (P.tup j t e h1 h2) h0 (by intro z;cases z))⟩⟩,D.o1,D.o2,D.o3⟩
theorem CourtAt.upMem{ms:List Member}(B:CourtAt Cc Ck H c ow L s)(kp:∀b o,H b=some o->b≠L.ld->H' b=some o)(hd:H' L.ld=some (.dK (kvM ms)))(gr:∀b,H' b=none->H b=none) :
  CourtAt Cc Ck H' c ow L { s with members:=ms }/\Keep ow H ow H':=by
 have nz:∀{b:Addr}{o:HO}{p:Part},H b=some o->ow b=some p->p≠.ld->H' b=some o:=λ{b o p} h1 h2 h3=>kp b o h1 (fX h2 B.o1 h3)
 obtain⟨d0,h0⟩:=B.ins
 refine⟨⟨⟨d0,nz h0 B.o0 (by intro z;cases z)⟩,hd,nz B.cs B.o2 (by intro z;cases z),nz B.ru B.o3 (by intro z;cases z),B.len,λi q x h1 h2=>?_,B.o0,B.o1,B.o2,B.o3,λb hb=>B.dom b (gr b hb)⟩,⟨λb o hb hn=>⟨kp b o hb λe=>(by rw[e,B.o1] at hn;cases hn),hn⟩,gr⟩⟩
 have D:=B.cas i q x h1 h2
 obtain⟨dy,hi⟩:=D.ins
 obtain⟨ts,P⟩:=D.pro
 exact⟨⟨dy,nz hi D.o1 (by intro z;cases z)⟩,nz D.bal D.o2 (by intro z;cases z),⟨ts,⟨nz P.lst D.o3 (by intro z;cases z),P.len,λj t e h1 h2=>kp _ _ (P.tup j t e h1 h2) (eW (P.tup j t e h1 h2) B.ld (by intro z;cases z))⟩⟩,D.o1,D.o2,D.o3⟩
theorem CourtAt.upRul{rs:List Int}(B:CourtAt Cc Ck H c ow L s)(kp:∀b o,H b=some o->b≠L.ru->H' b=some o)(hd:H' L.ru=some (.lst (rs.map V.int)))(gr:∀b,H' b=none->H b=none) :
  CourtAt Cc Ck H' c ow L { s with rulings:=rs }/\Keep ow H ow H':=by
 have nz:∀{b:Addr}{o:HO}{p:Part},H b=some o->ow b=some p->p≠.ru->H' b=some o:=λ{b o p} h1 h2 h3=>kp b o h1 (fX h2 B.o3 h3)
 obtain⟨d0,h0⟩:=B.ins
 refine⟨⟨⟨d0,nz h0 B.o0 (by intro z;cases z)⟩,nz B.ld B.o1 (by intro z;cases z),nz B.cs B.o2 (by intro z;cases z),hd,B.len,λi q x h1 h2=>?_,B.o0,B.o1,B.o2,B.o3,λb hb=>B.dom b (gr b hb)⟩,⟨λb o hb hn=>⟨kp b o hb λe=>(by rw[e,B.o3] at hn;cases hn),hn⟩,gr⟩⟩
 have D:=B.cas i q x h1 h2
 obtain⟨dy,hi⟩:=D.ins
 obtain⟨ts,P⟩:=D.pro
 exact⟨⟨dy,nz hi D.o1 (by intro z;cases z)⟩,nz D.bal D.o2 (by intro z;cases z),⟨ts,⟨nz P.lst D.o3 (by intro z;cases z),P.len,λj t e h1 h2=>kp _ _ (P.tup j t e h1 h2) (eW (P.tup j t e h1 h2) B.ru (by intro z;cases z))⟩⟩,D.o1,D.o2,D.o3⟩
theorem CourtAt.upNew{a ba pa:Addr}{x:Case}(B:CourtAt Cc Ck H c ow L s)(na:H a=none)(nb:H ba=none)(np:ow pa=none)(hab:a≠ba)
  (kp:∀b o,H b=some o->b≠L.cs->H' b=some o) (hd:H' L.cs=some (.dK (kvC L.cas s.cases++[(Sum.inl x.key,V.ref a)])))
  (ins:∃dx,H' a=some (.ins Ck dx (caseF (.ref pa) (.int x.phase) (.int x.opened) (.int x.comments) (.int x.last) (.int x.closing) (.ref ba) (.int x.published))))
  (bal:H' ba=some (.dK (kvI x.ballots))) (pro:∃ts,PropsAt H pa ts x.effects) (gr:∀b,H' b=none->H b=none) :
  ∃ow',CourtAt Cc Ck H' c ow' { L with cas:=L.cas++[(a,ba,pa)] } { s with cases:=s.cases++[x] }/\(∀b o,H b=some o->ow b=none->b≠pa->H' b=some o/\ow' b=none):=by
 obtain⟨ts,P⟩:=pro
 let n:=s.cases.length
 let ow':Own:=λb=>if b=a then some (.cas n) else if b=ba then some (.bal n) else if b=pa then some (.pro n) else ow b
 obtain⟨d0,h0⟩:=B.ins
 have npa:pa≠a:=aX P.lst na
 have npb:pa≠ba:=aX P.lst nb
 have ow1:∀b o,H b=some o->b≠pa->ow' b=ow b:=λb o hb h=>by
  show(if b=a then _ else _)=_
  rw[if_neg (aX hb na),if_neg (aX hb nb),if_neg h]
 have nz:∀{b:Addr}{o:HO}{p:Part},H b=some o->ow b=some p->p≠.cs->H' b=some o/\ow' b=some p:=λ{b o p} h1 h2 h3=>
  ⟨kp b o h1 (fX h2 B.o2 h3),(ow1 b o h1 λe=>by rw[e,np] at h2;cases h2).trans h2⟩
 have z0:=nz h0 B.o0 (by intro z;cases z)
 have z1:=nz B.ld B.o1 (by intro z;cases z)
 have z3:=nz B.ru B.o3 (by intro z;cases z)
 have pros:∀{p:Addr}{ts:List Addr}{es:List Effect},PropsAt H p ts es->PropsAt H' p ts es:=λ{p ts es} P=>
  ⟨kp _ _ P.lst (eW P.lst B.cs (by intro z;cases z)),P.len,λj t e h1 h2=>kp _ _ (P.tup j t e h1 h2) (eW (P.tup j t e h1 h2) B.cs (by intro z;cases z))⟩
 refine⟨ow',⟨⟨d0,z0.1⟩,z1.1,?_,z3.1,?_,?_,z0.2,z1.2,(ow1 _ _ B.cs λe=>?_).trans B.o2,z3.2,λb hb=>?_⟩,λb o hb hn hp=>⟨kp b o hb λe=>(by rw[e,B.o2] at hn;cases hn),(ow1 b o hb hp).trans hn⟩⟩
 ·show H' L.cs=some (.dK (List.zipWith _ (L.cas++[(a,ba,pa)]) (s.cases++[x])))
  rw[List.zipWith_append B.len]
  exact hd
 ·show(L.cas++[_]).length=(s.cases++[_]).length
  rw[List.length_append,List.length_append,B.len]
  rfl
 ·intro j q2 x2 h1 h2
  have h1:(L.cas++[(a,ba,pa)])[j]? = some q2:=h1
  have h2:(s.cases++[x])[j]? = some x2:=h2
  by_cases hj:j<s.cases.length
  ·rw[List.getElem?_append_left (by rw[B.len];exact hj)] at h1
   rw[List.getElem?_append_left hj] at h2
   have D:=B.cas j q2 x2 h1 h2
   obtain⟨dy,hi⟩:=D.ins
   obtain⟨ts,P⟩:=D.pro
   have y1:=nz hi D.o1 (by intro z;cases z)
   have y2:=nz D.bal D.o2 (by intro z;cases z)
   have y3:=nz P.lst D.o3 (by intro z;cases z)
   exact⟨⟨dy,y1.1⟩,y2.1,⟨ts,pros P⟩,y1.2,y2.2,y3.2⟩
  ·have hlt:=(List.getElem?_eq_some_iff.mp h2).1
   rw[List.length_append,List.length_singleton] at hlt
   have ej:j=s.cases.length:=by omega
   subst ej
   rw[<-B.len,List.getElem?_append_right (Nat.le_refl _),Nat.sub_self] at h1
   rw[List.getElem?_append_right (Nat.le_refl _),Nat.sub_self] at h2
   cases h1
   cases h2
   refine⟨ins,bal,⟨ts,pros P⟩,if_pos rfl,?_,?_⟩
   ·show(if ba=a then _ else _)=_
    rw[if_neg (Ne.symm hab),if_pos rfl]
   ·show(if pa=a then _ else _)=_
    rw[if_neg npa,if_neg npb,if_pos rfl]
 ·rw[<-e,B.o2] at np
  cases np
 ·have n1:b≠a:=λe=>by
   obtain⟨dx,hi⟩:=ins
   rw[e,hi] at hb
   cases hb
  have n2:b≠ba:=λe=>by rw[e,bal] at hb;cases hb
  have n3:b≠pa:=λe=>by rw[e,(pros P).lst] at hb;cases hb
  show(if b=a then _ else _)=_
  rw[if_neg n1,if_neg n2,if_neg n3]
  exact B.dom b (gr b hb)
theorem avU{k:Int}:∀{qs:List (Addr×Addr×Addr)}{cs:List Case},qs.length=cs.length->
  (cs.find? (λc=>c.key==k)=none->valV (kvC qs cs) (Sum.inl k)=none)/\
  ∀x,cs.find? (λc=>c.key==k)=some x->∃(i:Nat)(q:Addr×Addr×Addr),qs[i]? = some q/\cs[i]? = some x/\x.key=k/\valV (kvC qs cs) (Sum.inl k)=some (.ref q.1)
 |[],[],_=>⟨λ_=>rfl,λx h=>by cases h⟩
 |[],_::_,h=>by simp at h
 |_::_,[],h=>by simp at h
 |q::qs,c::cs,h=>by
  have ih:=avU (k:=k) (qs:=qs) (cs:=cs) (by simpa using h)
  have e0:kvC (q::qs) (c::cs)=(Sum.inl c.key,V.ref q.1)::kvC qs cs:=rfl
  by_cases hk:c.key=k
  ·have hb:(c.key==k)=true:=beq_iff_eq.mpr hk
   refine⟨λhn=>?_,λx hx=>?_⟩
   ·rw[List.find?_cons,hb] at hn;cases hn
   ·rw[List.find?_cons,hb] at hx
    cases hx
    refine⟨0,q,rfl,rfl,hk,?_⟩
    rw[e0]
    exact fY (congrArg Sum.inl hk)
  ·have hb:(c.key==k)=false:=beq_eq_false_iff_ne.mpr hk
   have e1:valV (kvC (q::qs) (c::cs)) (Sum.inl k)=valV (kvC qs cs) (Sum.inl k):=by
    rw[e0]
    exact fZ (by show ¬(Sum.inl c.key:Key)=Sum.inl k;intro z;exact hk (Sum.inl.inj z))
   refine⟨λhn=>?_,λx hx=>?_⟩
   ·rw[List.find?_cons,hb] at hn
    rw[e1];exact ih.1 hn
   ·rw[List.find?_cons,hb] at hx
    obtain⟨i,q2,h1,h2,h3,h4⟩:=ih.2 x hx
    exact⟨i+1,q2,h1,h2,h3,by rw[e1];exact h4⟩
theorem CourtAt.seek(B:CourtAt Cc Ck H c ow L s)(k:Int):(Vbnlal.caseOf s k=none->valV (kvC L.cas s.cases) (Sum.inl k)=none)/\
  ∀x,Vbnlal.caseOf s k=some x->∃(i:Nat)(q:Addr×Addr×Addr),L.cas[i]? = some q/\s.cases[i]? = some x/\x.key=k/\valV (kvC L.cas s.cases) (Sum.inl k)=some (.ref q.1):=avU B.len
theorem kX{i:Nat}{x x':Case}(nd:(s.cases.map (·.key)).Nodup)(hx:s.cases[i]? = some x)(hk:x'.key=x.key):Vbnlal.setCase s x'={ s with cases:=s.cases.set i x' }:=by
 unfold Vbnlal.setCase
 congr 1
 apply List.ext_getElem?
 intro j
 rw[List.getElem?_map,List.getElem?_set]
 by_cases h:i=j
 ·subst h
  rw[if_pos rfl,if_pos (List.getElem?_eq_some_iff.mp hx).1,hx]
  show some (if x.key=x'.key then x' else x)=_
  rw[if_pos hk.symm]
 ·rw[if_neg h]
  cases e:s.cases[j]? with
  |none=>rfl
  |some y=>
   show some (if y.key=x'.key then x' else y)=_
   rw[if_neg]
   intro z
   have e1:(s.cases.map (·.key))[j]? = some x.key:=by rw[List.getElem?_map,e,<-hk,<-z];rfl
   have e2:(s.cases.map (·.key))[i]? = some x.key:=by rw[List.getElem?_map,hx];rfl
   exact h (aJW nd e2 e1)
end
section
variable{Cc Ck:Addr}{H H':Hp}{c:Addr}{ow:Own}{L:Lay}{s:State}
theorem CourtAt.but(B:CourtAt Cc Ck H c ow L s){f:Addr}{o:HO}(hf:H f=some o)(ho:∀xs,o≠.tup xs)(hw:ow f=none)(kp:But f H H')(gr:∀b,H' b=none->H b=none):CourtAt Cc Ck H' c ow L s:=by
 have nz:∀{b:Addr}{o:HO}{p:Part},H b=some o->ow b=some p->H' b=some o:=λ{b o p} h1 h2=>kp b o h1 λe=>by rw[e,hw] at h2;cases h2
 obtain⟨d0,h0⟩:=B.ins
 refine⟨⟨d0,nz h0 B.o0⟩,nz B.ld B.o1,nz B.cs B.o2,nz B.ru B.o3,B.len,λi q x h1 h2=>?_,B.o0,B.o1,B.o2,B.o3,λb hb=>B.dom b (gr b hb)⟩
 have D:=B.cas i q x h1 h2
 obtain⟨dy,hi⟩:=D.ins
 obtain⟨ts,P⟩:=D.pro
 exact⟨⟨dy,nz hi D.o1⟩,nz D.bal D.o2,⟨ts,⟨nz P.lst D.o3,P.len,λj t e h1 h2=>kp _ _ (P.tup j t e h1 h2) λz=>by
  have:=P.tup j t e h1 h2
  unfold TupAt at this
  rw[z,hf] at this
  exact ho _ (Option.some.inj this)⟩⟩,D.o1,D.o2,D.o3⟩
end
theorem mkSc{N ps:List Str}{s:Scope}(a:s.kind = .function:=by rfl)(b:s.isCoroutine=false:=by rfl)(c:s.isGenerator=false:=by rfl)(d:N.Nodup:=by decide +kernel)(e:N.take ps.length=ps:=by rfl)(f:∀x∈ps,s.names.lookup x=some .local\/s.names.lookup x=some .cell:=by decide +kernel)(g:∀y∈s.names,y.2≠.free:=by decide +kernel):FnScope N ps s:=⟨a,b,c,d,e,f,g⟩
theorem okS{P:Program}{w:World}{K:PySem.W.Frag}{mg:Str->Option Value}{base:Heap}{x qual:Str}{st:Stmt}{f:Addr}{fd:FuncData}{N ps:List Str}{k:Nat}{sp:Sp}(F:Fun K x qual st f fd)(S:FnScope N ps (defScope st))
  (hb:∀{cdv:Value}{A:Around}{outer:List Env}{vs:List V}(s:Shared)(H:Hp)(Q:VK)(E:XK),Room k (A.deeper (envOfC qual (defScope st) s.heap.objs.size f cdv))->sp vs H Q E->
   ∃t,PSs (cxOf CX0 P w K mg base N qual (defScope st) f cdv A outer s H E).nox (defBody st) t/\t { nx:=λ_ H'=>Q .non H',rt:=Q } (L2.start N vs) H) (len:∀vs H Q E,sp vs H Q E->vs.length=ps.length:=by
   intro vs H Q E h
   obtain⟨a,rfl,_⟩:=h
   rfl):FnOk P w K mg base CX0 (k+1) f fd ps sp:=F.ok S len λcdv A outer s H vs Q E hr h=>hb s H Q E hr h
structure Wd where
 prog:Program
 w:World
 K:PySem.W.Frag
 mg:Str->Option Value
 base:Heap
abbrev cxw(X:Cx):Wd:=⟨X.prog,X.w,X.K,X.mg,X.base⟩
abbrev OkZ(Z:Wd)(k:Nat)(f:Addr)(fd:FuncData)(ps:List Str)(sp:Sp):Prop:=FnOk Z.prog Z.w Z.K Z.mg Z.base CX0 k f fd ps sp
def DefOk(Z:Wd)(k:Nat)(x:Str)(ps:List Str)(sp:Sp):Prop:=
 ∃f fd,Z.mg x=some (.ref f)/\PySem.W.keepIn Z.K (.ref f)=true/\Binds Z.K fd ps []/\OkZ Z k f fd ps sp
def MethOk(Z:Wd)(C:Addr)(k:Nat)(m:Str)(ps:List Str)(sp:Sp):Prop:=
 ∃f fd,Meth Z.K C m f/\Binds Z.K fd ps []/\OkZ Z k f fd ps sp
def MakeOk(Z:Wd)(C:Addr)(k:Nat)(x:Str)(ps:List Str)(sp:Sp):Prop:=
 ∃f fd,Z.mg x=some (.ref C)/\Mk Z.K C f/\Binds Z.K fd ps []/\OkZ Z k f fd ps sp
def GInt(Z:Wd)(x:Str)(i:Int):Prop:=∃t,Z.mg x=some (.int i t)
def GStr(Z:Wd)(x:Str)(i:Str):Prop:=∃t,Z.mg x=some (.str i t)
section
variable{X:Cx}{k:Nat}{x m:Str}{ps:List Str}{sp:Sp}{p pos apos:Pos}{e o:Expr}{es:List Expr}{t:TA}{ta:TE}{C:Addr}
theorem cJ(D:DefOk (cxw X) k x ps sp)(hr:Room k X.A)(hg:Gl X x)(ha:PA X (e::es) t)(hdb:(x==("__debug__" : Str))=false:=by decide)
  (he:starEach (e::es) X.env=(false,eval e X.env)::starEach es X.env:=by rfl) (hpl:(backTo pos (starEach es X.env)).any (·.1)=false:=by rfl) :
  PE X (.Call (.Name x p) (e::es) [] pos) (tCall sp [] E0 t):=by
 obtain⟨f,fd,h1,h2,h3,h4⟩:=D
 exact baX h4 hr hg h1 h2 h3 .nil pass0 ha hdb he hpl
theorem aRK(D:DefOk (cxw X) k x ps sp)(hr:Room k X.A)(hg:Gl X x)(hdb:(x==("__debug__" : Str))=false:=by decide) :
  PE X (.Call (.Name x p) [] [] pos) (tCall sp [] E0 tNil):=by
 obtain⟨f,fd,h1,h2,h3,h4⟩:=D
 exact aUX h4 hr hg h1 h2 h3 .nil pass0 hdb
theorem cQ{pl:Sem Bool}(he:PE X o ta)(c:Cls X.K C)(D:MethOk (cxw X) C k m ps sp)(hr:Room k X.A)
  (ht:eval (.Call (.Attribute o m apos) [] [] pos) X.env=(do
   let ov <-eval o X.env
   standAt apos.atName
   let (f,first) <-holding [ov] (getMethod ov m pl)
   callWith pos f first (backTo pos (starEach [] X.env)) (backToKw pos (keywordEach [] X.env))):=by rfl) :
  PE X (.Call (.Attribute o m apos) [] [] pos) (tMeth C m sp [] E0 ta tNil):=by
 obtain⟨f,fd,h1,h2,h3⟩:=D
 exact aUY he c h1 h3 hr h2 .nil pass0 ht
theorem aYQ(D:MakeOk (cxw X) C k x ps sp)(hr:Room (k+1) X.A)(hg:Gl X x)(ha:PA X (e::es) t)(hdb:(x==("__debug__" : Str))=false:=by decide)
  (he:starEach (e::es) X.env=(false,eval e X.env)::starEach es X.env:=by rfl) (hpl:(backTo pos (starEach es X.env)).any (·.1)=false:=by rfl) :
  PE X (.Call (.Name x p) (e::es) [] pos) (tMake C sp [] E0 t):=by
 obtain⟨f,fd,h1,h2,h3,h4⟩:=D
 exact baY h2 h4 hr hg h1 h3 .nil pass0 ha hdb he hpl
theorem bgX(D:MakeOk (cxw X) C k x ps sp)(hr:Room (k+1) X.A)(hg:Gl X x)(hdb:(x==("__debug__" : Str))=false:=by decide) :
  PE X (.Call (.Name x p) [] [] pos) (tMake C sp [] E0 tNil):=by
 obtain⟨f,fd,h1,h2,h3,h4⟩:=D
 exact aUZ h2 h4 hr hg h1 h3 .nil pass0 hdb
theorem bK{i:Int}(D:GInt (cxw X) x i)(hg:Gl X x)(hd:(x==("__debug__" : Str))=false:=by decide):PE X (.Name x pos) (tC (.int i)):=by
 obtain⟨t,h⟩:=D
 exact ahY hg h ⟨t,rfl⟩ hd
theorem bjY{i:Str}(D:GStr (cxw X) x i)(hg:Gl X x)(hd:(x==("__debug__" : Str))=false:=by decide):PE X (.Name x pos) (tC (.str i)):=by
 obtain⟨t,h⟩:=D
 exact ahY hg h ⟨t,rfl⟩ hd
end
theorem bgY{Z:Wd}{x qual:Str}{st:Stmt}{f:Addr}{fd:FuncData}{ps:List Str}{k:Nat}{sp:Sp}(F:Fun Z.K x qual st f fd)(hm:Z.mg x=some (.ref f))(hb:Binds Z.K fd ps [])(h:OkZ Z k f fd ps sp):DefOk Z k x ps sp:=⟨f,fd,hm,F.kp,hb,h⟩
def top(i:Nat):Stmt:=PySem.Challenge.pw_namecourt_s01_answers.main.body.getD i (.Pass ⟨0,0,0,0⟩)
abbrev GA(K:PySem.W.Frag)(H:Hp)(a:Addr)(f:Str)(Q:V->Prop):Prop:=∃a2 C dx2 fs v,V.ref a = .ref a2/\H a2=some (.ins C dx2 fs)/\Cls K C/\NoAttr K C f/\fs.lookup f=some v/\Q v
abbrev SA(K:PySem.W.Frag)(H:Hp)(a:Addr)(f:Str)(w:V)(D:Hp->Prop):Prop:=∃a2 C dx2 fs,V.ref a = .ref a2/\H a2=some (.ins C dx2 fs)/\Cls K C/\NoAttr K C f/\fs.length<1000/\D (upd H a2 (.ins C dx2 (putF f w fs)))
structure Tx(Z:Wd)(Cc Ck Cf:Addr):Prop where
 n_len:Z.mg "len"=none
 n_all:Z.mg "all"=none
 n_any:Z.mg "any"=none
 n_ord:Z.mg "ord"=none
 n_str:Z.mg "str"=none
 n_list:Z.mg "list"=none
 n_isinstance:Z.mg "isinstance"=none
 n_int:Z.mg "int"=none
 n_enumerate:Z.mg "enumerate"=none
 n_sorted:Z.mg "sorted"=none
 n_range:Z.mg "range"=none
 n_tuple:Z.mg "tuple"=none
 n_sum:Z.mg "sum"=none
 n_min:Z.mg "min"=none
 n_max:Z.mg "max"=none
 n_reversed:Z.mg "reversed"=none
 g_LARGEST_KEY:GInt Z "LARGEST_KEY" 1000000000
 g_COMMENTS:GInt Z "COMMENTS" 1
 g_FIRST_VOTE:GInt Z "FIRST_VOTE" 2
 g_BEFORE_SECOND_VOTE:GInt Z "BEFORE_SECOND_VOTE" 3
 g_SECOND_VOTE:GInt Z "SECOND_VOTE" 4
 g_ADOPTED:GInt Z "ADOPTED" 5
 g_REJECTED:GInt Z "REJECTED" 6
 g_WITHDRAWN:GInt Z "WITHDRAWN" 7
 g_PUBLISHED:GInt Z "PUBLISHED" 8
 g_WRONG_TEXT:GInt Z "WRONG_TEXT" (-1)
 g_WRONG_NUMBER:GInt Z "WRONG_NUMBER" (-2)
 g_TOO_MANY_PROPOSALS:GInt Z "TOO_MANY_PROPOSALS" (-3)
 g_WRONG_KEY:GInt Z "WRONG_KEY" (-4)
 g_THERE_ALREADY:GInt Z "THERE_ALREADY" (-5)
 g_NOT_THERE:GInt Z "NOT_THERE" (-6)
 g_FULL:GInt Z "FULL" (-8)
 g_OUT_OF_RANGE:GInt Z "OUT_OF_RANGE" (-9)
 g_OVER_ITSELF:GInt Z "OVER_ITSELF" (-10)
 g_BEFORE_TODAY:GInt Z "BEFORE_TODAY" (-12)
 g_WRONG_PHASE:GInt Z "WRONG_PHASE" (-13)
 g_WRONG_TIME:GInt Z "WRONG_TIME" (-14)
 g_MOST_PROPOSALS:GInt Z "MOST_PROPOSALS" 6
 g_RESTORE:GInt Z "RESTORE" 0
 g_SUPPRESS:GInt Z "SUPPRESS" 1
 g_SUPPRESS_WHOLLY:GInt Z "SUPPRESS_WHOLLY" 2
 g_CONSERVE:GInt Z "CONSERVE" 3
 g_FIX:GInt Z "FIX" 4
 g_REJECT:GInt Z "REJECT" 5
 g_ANNUL:GInt Z "ANNUL" 6
 g_BLANK:GInt Z "BLANK" 32
 g_SEMICOLON:GInt Z "SEMICOLON" 59
 g_LETTERS:GStr Z "LETTERS" "abcdefghijklmnopqrstuvwxyz"
 g_MOST_CASES:GInt Z "MOST_CASES" 32
 g_MOST_COMMENTS:GInt Z "MOST_COMMENTS" 100
 g_LAST_DAY:GInt Z "LAST_DAY" 474814
 g_MOST_MEMBERS:GInt Z "MOST_MEMBERS" 30
 g_VOTE_DAYS:GInt Z "VOTE_DAYS" 90
 g_DAYS_FROM_PETITION:GInt Z "DAYS_FROM_PETITION" 180
 g_DAYS_FROM_COMMENT:GInt Z "DAYS_FROM_COMMENT" 30
 g_FEWEST_BALLOTS:GInt Z "FEWEST_BALLOTS" 3
 g_FOR:GInt Z "FOR" 1
 g_AGAINST:GInt Z "AGAINST" 2
 g_NEITHER:GInt Z "NEITHER" 3
 c_Case:Cls Z.K Ck
 a_case_proposals:NoAttr Z.K Ck "proposals"
 a_case_phase:NoAttr Z.K Ck "phase"
 a_case_opened:NoAttr Z.K Ck "opened"
 a_case_comments:NoAttr Z.K Ck "comments"
 a_case_last_comment:NoAttr Z.K Ck "last_comment"
 a_case_closing:NoAttr Z.K Ck "closing"
 a_case_ballots:NoAttr Z.K Ck "ballots"
 a_case_published:NoAttr Z.K Ck "published"
 c_Court:Cls Z.K Cc
 a_court_today:NoAttr Z.K Cc "today"
 a_court_last_days:NoAttr Z.K Cc "last_days"
 a_court_presiding:NoAttr Z.K Cc "presiding"
 a_court_cases:NoAttr Z.K Cc "cases"
 a_court_rulings:NoAttr Z.K Cc "rulings"
 c_Feed:Cls Z.K Cf
 a_feed_numbers:NoAttr Z.K Cf "numbers"
 a_feed_place:NoAttr Z.K Cf "place"
 d_cc:Cc≠Ck
section
variable{Z:Wd}{Cc Ck Cf:Addr}
variable{H:Hp}{a dx:Addr}{v0 v1 v2 v3 v4 v5 v6 v7 w:V}{Q:V->Prop}{D:Hp->Prop}(T:Tx Z Cc Ck Cf)
include T
theorem mX(h:H a=some (.ins Ck dx (caseF v0 v1 v2 v3 v4 v5 v6 v7)))(q:Q v0):GA Z.K H a "proposals" Q:=⟨a,Ck,dx,_,_,rfl,h,T.c_Case,T.a_case_proposals,aeK _ _ _ _ _ _ _ _,q⟩
theorem dZ(h:H a=some (.ins Ck dx (caseF v0 v1 v2 v3 v4 v5 v6 v7)))(q:Q v1):GA Z.K H a "phase" Q:=⟨a,Ck,dx,_,_,rfl,h,T.c_Case,T.a_case_phase,aBZ _ _ _ _ _ _ _ _,q⟩
theorem lX(h:H a=some (.ins Ck dx (caseF v0 v1 v2 v3 v4 v5 v6 v7)))(q:D (upd H a (.ins Ck dx (caseF v0 w v2 v3 v4 v5 v6 v7)))):SA Z.K H a "phase" w D:=⟨a,Ck,dx,_,rfl,h,T.c_Case,T.a_case_phase,(by show 8<1000;decide),by rw[aeQ];exact q⟩
theorem NZ(h:H a=some (.ins Ck dx (caseF v0 v1 v2 v3 v4 v5 v6 v7)))(q:Q v2):GA Z.K H a "opened" Q:=⟨a,Ck,dx,_,_,rfl,h,T.c_Case,T.a_case_opened,avJ _ _ _ _ _ _ _ _,q⟩
theorem nY(h:H a=some (.ins Ck dx (caseF v0 v1 v2 v3 v4 v5 v6 v7)))(q:Q v3):GA Z.K H a "comments" Q:=⟨a,Ck,dx,_,_,rfl,h,T.c_Case,T.a_case_comments,JJ _ _ _ _ _ _ _ _,q⟩
theorem tW(h:H a=some (.ins Ck dx (caseF v0 v1 v2 v3 v4 v5 v6 v7)))(q:Q v4):GA Z.K H a "last_comment" Q:=⟨a,Ck,dx,_,_,rfl,h,T.c_Case,T.a_case_last_comment,RJ _ _ _ _ _ _ _ _,q⟩
theorem OV(h:H a=some (.ins Ck dx (caseF v0 v1 v2 v3 v4 v5 v6 v7)))(q:D (upd H a (.ins Ck dx (caseF v0 v1 v2 v3 w v5 v6 v7)))):SA Z.K H a "last_comment" w D:=⟨a,Ck,dx,_,rfl,h,T.c_Case,T.a_case_last_comment,(by show 8<1000;decide),by rw[GK];exact q⟩
theorem lY(h:H a=some (.ins Ck dx (caseF v0 v1 v2 v3 v4 v5 v6 v7)))(q:Q v5):GA Z.K H a "closing" Q:=⟨a,Ck,dx,_,_,rfl,h,T.c_Case,T.a_case_closing,apJ _ _ _ _ _ _ _ _,q⟩
theorem JK(h:H a=some (.ins Ck dx (caseF v0 v1 v2 v3 v4 v5 v6 v7)))(q:D (upd H a (.ins Ck dx (caseF v0 v1 v2 v3 v4 w v6 v7)))):SA Z.K H a "closing" w D:=⟨a,Ck,dx,_,rfl,h,T.c_Case,T.a_case_closing,(by show 8<1000;decide),by rw[VW];exact q⟩
theorem jU(h:H a=some (.ins Ck dx (caseF v0 v1 v2 v3 v4 v5 v6 v7)))(q:Q v6):GA Z.K H a "ballots" Q:=⟨a,Ck,dx,_,_,rfl,h,T.c_Case,T.a_case_ballots,apK _ _ _ _ _ _ _ _,q⟩
theorem JQ(h:H a=some (.ins Ck dx (caseF v0 v1 v2 v3 v4 v5 v6 v7)))(q:D (upd H a (.ins Ck dx (caseF v0 v1 v2 v3 v4 v5 w v7)))):SA Z.K H a "ballots" w D:=⟨a,Ck,dx,_,rfl,h,T.c_Case,T.a_case_ballots,(by show 8<1000;decide),by rw[VX];exact q⟩
theorem BY(h:H a=some (.ins Ck dx (caseF v0 v1 v2 v3 v4 v5 v6 v7)))(q:Q v7):GA Z.K H a "published" Q:=⟨a,Ck,dx,_,_,rfl,h,T.c_Case,T.a_case_published,aeU _ _ _ _ _ _ _ _,q⟩
theorem aaX(h:H a=some (.ins Ck dx (caseF v0 v1 v2 v3 v4 v5 v6 v7)))(q:D (upd H a (.ins Ck dx (caseF v0 v1 v2 v3 v4 v5 v6 w)))):SA Z.K H a "published" w D:=⟨a,Ck,dx,_,rfl,h,T.c_Case,T.a_case_published,(by show 8<1000;decide),by rw[OU];exact q⟩
theorem fJ(h:H a=some (.ins Cc dx (courtF v0 v1 v2 v3 v4)))(q:Q v0):GA Z.K H a "today" Q:=⟨a,Cc,dx,_,_,rfl,h,T.c_Court,T.a_court_today,avK _ _ _ _ _,q⟩
theorem apU(h:H a=some (.ins Cc dx (courtF v0 v1 v2 v3 v4)))(q:D (upd H a (.ins Cc dx (courtF w v1 v2 v3 v4)))):SA Z.K H a "today" w D:=⟨a,Cc,dx,_,rfl,h,T.c_Court,T.a_court_today,(by show 5<1000;decide),by rw[aaQ];exact q⟩
theorem cY(h:H a=some (.ins Cc dx (courtF v0 v1 v2 v3 v4)))(q:Q v1):GA Z.K H a "last_days" Q:=⟨a,Cc,dx,_,_,rfl,h,T.c_Court,T.a_court_last_days,aaU _ _ _ _ _,q⟩
theorem pX(h:H a=some (.ins Cc dx (courtF v0 v1 v2 v3 v4)))(q:Q v2):GA Z.K H a "presiding" Q:=⟨a,Cc,dx,_,_,rfl,h,T.c_Court,T.a_court_presiding,aaV _ _ _ _ _,q⟩
theorem zQ(h:H a=some (.ins Cc dx (courtF v0 v1 v2 v3 v4)))(q:D (upd H a (.ins Cc dx (courtF v0 v1 w v3 v4)))):SA Z.K H a "presiding" w D:=⟨a,Cc,dx,_,rfl,h,T.c_Court,T.a_court_presiding,(by show 5<1000;decide),by rw[LQ];exact q⟩
theorem cW(h:H a=some (.ins Cc dx (courtF v0 v1 v2 v3 v4)))(q:Q v3):GA Z.K H a "cases" Q:=⟨a,Cc,dx,_,_,rfl,h,T.c_Court,T.a_court_cases,avQ _ _ _ _ _,q⟩
theorem nZ(h:H a=some (.ins Cc dx (courtF v0 v1 v2 v3 v4)))(q:Q v4):GA Z.K H a "rulings" Q:=⟨a,Cc,dx,_,_,rfl,h,T.c_Court,T.a_court_rulings,aiY _ _ _ _ _,q⟩
theorem uQ(h:H a=some (.ins Cf dx (feedF v0 v1)))(q:Q v0):GA Z.K H a "numbers" Q:=⟨a,Cf,dx,_,_,rfl,h,T.c_Feed,T.a_feed_numbers,apQ _ _,q⟩
theorem BZ(h:H a=some (.ins Cf dx (feedF v0 v1)))(q:Q v1):GA Z.K H a "place" Q:=⟨a,Cf,dx,_,_,rfl,h,T.c_Feed,T.a_feed_place,GQ _ _,q⟩
end
theorem smallS{n:Nat}(h:n<=100000):n<sizeLine:=by rw[sizeLine_eq];omega
theorem ifY{c A B:Prop}[Decidable c](h:c)(x:A):if c then A else B:=by rw[if_pos h];exact x
theorem ifN{c A B:Prop}[Decidable c](h:¬c)(x:B):if c then A else B:=by rw[if_neg h];exact x
theorem fK{α:Type}(i:Nat)(l:List α):(l.take i).length<=l.length:=by rw[List.length_take];omega
theorem l1{a:V}:[a].length<=sizeLine:=by show 1<=sizeLine;decide
theorem l2{a b:V}:[a,b].length<=sizeLine:=by show 2<=sizeLine;decide
theorem l3{a b c:V}:[a,b,c].length<=sizeLine:=by show 3<=sizeLine;decide
theorem l4{a b c d:V}:[a,b,c,d].length<=sizeLine:=by show 4<=sizeLine;decide
theorem l6{a b c d e f:V}:[a,b,c,d,e,f].length<=sizeLine:=by show 6<=sizeLine;decide
theorem dgetR{H:Hp}{a:Addr}{kvs:List (Key×V)}{n:Int}{o:Option V}(e:Rd H a (.dK kvs))(hv:valV kvs (Sum.inl n)=o):DGet H a (.int n) o:=.inl ⟨kvs,Sum.inl n,e,rfl,hv.symm⟩
theorem dgetI{H:Hp}{a:Addr}{kvs:List (Key×V)}{n:Int}{o:Option V}(e:H a=some (.dK kvs))(hv:valV kvs (Sum.inl n)=o):DGet H a (.int n) o:=dgetR (.inl e) hv
theorem aWU(l:List Member)(x:Member):kvM (l++[x])=kvM l++[(Sum.inl x.key,V.int x.until_)]:=List.map_append
theorem avV(l:List (Int×Int))(x:Int×Int):kvI (l++[x])=kvI l++[(Sum.inl x.1,V.int x.2)]:=List.map_append
def mkSp{α:Type}(args:α->List V)(pre:α->Hp->VK->Prop):Sp:=λvs H Q _=>∃a,vs=args a/\pre a H Q
def RetL(H:Hp)(Q:VK)(l:List Int):Prop:=∀(H':Hp)(p:Addr),Same H H'->H p=none->H' p=some (.lst (l.map V.int))->Q (.ref p) H'
theorem RetL.now{H0 H:Hp}{Q:VK}{l:List Int}(k:RetL H0 Q l)(s:Same H0 H){xs:List V}(e:xs=l.map V.int):∀p,H p=none->Q (.ref p) (upd H p (.lst xs)):=λp hp=>k _ p (s.trans (Same.new hp)) (s.free hp) (by rw[upd_same,e])
structure Ct where
 c:Addr
 ow:Own
 L:Lay
 s:State
 n:Nat
structure CtOk(Cc Ck:Addr)(H:Hp)(a:Ct):Prop where
 at_:CourtAt Cc Ck H a.c a.ow a.L a.s
 good:Good a.n a.s
 ord:Ord a.s
 few:a.n<=400
 bal:Bal a.s
theorem CtOk.same{Cc Ck:Addr}{H H':Hp}{a:Ct}(B:CtOk Cc Ck H a)(s:Same H H'):CtOk Cc Ck H' a:=⟨B.at_.same s,B.good,B.ord,B.few,B.bal⟩
def RetM(Cc Ck:Addr)(H:Hp)(a:Ct)(Q:VK)(r:State×List Int):Prop:=
 ∀(H':Hp)(p:Addr)(ow':Own)(L':Lay),CourtAt Cc Ck H' a.c ow' L' r.1->Keep a.ow H ow' H'->H p=none->H' p=some (.lst (r.2.map V.int))->Q (.ref p) H'
theorem RetM.stay{Cc Ck:Addr}{H:Hp}{a:Ct}{Q:VK}{l:List Int}(k:RetM Cc Ck H a Q (a.s,l))(B:CourtAt Cc Ck H a.c a.ow a.L a.s):RetL H Q l:=
 λH' p h1 h2 h3=>k H' p a.ow a.L (B.same h1) (Keep.same h1) h2 h3
theorem RetM.up{Cc Ck:Addr}{H H1:Hp}{a:Ct}{Q:VK}{r:State×List Int}(k:RetM Cc Ck H a Q r)(s:Same H H1):RetM Cc Ck H1 a Q r:=
 λH' p ow' L' h1 h2 h3 h4=>k H' p ow' L' h1 ((Keep.same s).trans h2) (s.free h3) h4
theorem RetM.now{Cc Ck:Addr}{H H1:Hp}{a:Ct}{Q:VK}{r:State×List Int}(k:RetM Cc Ck H a Q r){ow':Own}{L':Lay}(B:CourtAt Cc Ck H1 a.c ow' L' r.1)(kp:Keep a.ow H ow' H1){xs:List V}(e:xs=r.2.map V.int) :
  ∀p,H1 p=none->Q (.ref p) (upd H1 p (.lst xs)):=λp hp=>k _ p ow' L' (B.same (Same.new hp)) ⟨λb o h1 h2=>have z:=kp.st b o h1 h2;⟨Same.new hp _ _ z.1,z.2⟩,λb h=>kp.gr b (aW h)⟩ (kp.gr p hp) (by rw[upd_same,e])
def spB1(f:Int->Bool):Sp:=mkSp (λn:Int=>[.int n]) λn H Q=>Q (.bl (f n)) H
def spR0(Cc Ck:Addr)(f:State->List Int):Sp:=mkSp (λa:Ct=>[.ref a.c]) λa H Q=>CtOk Cc Ck H a/\RetL H Q (f a.s)
def spR1(Cc Ck:Addr)(f:State->Int->List Int):Sp:=mkSp (λa:Ct×Int=>[.ref a.1.c,.int a.2]) λa H Q=>CtOk Cc Ck H a.1/\RetL H Q (f a.1.s a.2)
def spR2(Cc Ck:Addr)(f:State->Int->Int->List Int):Sp:=mkSp (λa:Ct×Int×Int=>[.ref a.1.c,.int a.2.1,.int a.2.2]) λa H Q=>CtOk Cc Ck H a.1/\RetL H Q (f a.1.s a.2.1 a.2.2)
def spR3(Cc Ck:Addr)(f:State->Int->Int->Int->List Int):Sp:=mkSp (λa:Ct×Int×Int×Int=>[.ref a.1.c,.int a.2.1,.int a.2.2.1,.int a.2.2.2]) λa H Q=>CtOk Cc Ck H a.1/\RetL H Q (f a.1.s a.2.1 a.2.2.1 a.2.2.2)
def spM1(Cc Ck:Addr)(f:State->Int->State×List Int):Sp:=mkSp (λa:Ct×Int=>[.ref a.1.c,.int a.2]) λa H Q=>CtOk Cc Ck H a.1/\RetM Cc Ck H a.1 Q (f a.1.s a.2)
def spM2(Cc Ck:Addr)(f:State->Int->Int->State×List Int):Sp:=mkSp (λa:Ct×Int×Int=>[.ref a.1.c,.int a.2.1,.int a.2.2]) λa H Q=>CtOk Cc Ck H a.1/\RetM Cc Ck H a.1 Q (f a.1.s a.2.1 a.2.2)
def spM3(Cc Ck:Addr)(f:State->Int->Int->Int->State×List Int):Sp:=mkSp (λa:Ct×Int×Int×Int=>[.ref a.1.c,.int a.2.1,.int a.2.2.1,.int a.2.2.2]) λa H Q=>CtOk Cc Ck H a.1/\RetM Cc Ck H a.1 Q (f a.1.s a.2.1 a.2.2.1 a.2.2.2)
end Nc
end
section
set_option maxHeartbeats 4000000
namespace Nc
open PySem PySem.Spec PyProof.Rows L2
open Vbnlal (Case Member State Effect)
theorem dJ{x:Const}{k:Nat}{pos:Pos}{es:List Expr}{env:Env}:starEach (.Constant x k pos::es) env=(false,eval (.Constant x k pos) env)::starEach es env:=rfl
theorem hJ{l:List Expr}{pos:Pos}{es:List Expr}{env:Env}:starEach (.List l pos::es) env=(false,eval (.List l pos) env)::starEach es env:=rfl
theorem sJ{x:Str}{pos:Pos}{es:List Expr}{env:Env}:starEach (.Name x pos::es) env=(false,eval (.Name x pos) env)::starEach es env:=rfl
section
variable{Z:Wd}{Cc Ck Cf f:Addr}{fd:FuncData}
abbrev aaY:Stmt:=top 12
theorem aRQ:FnScope ["number"] ["number"] (defScope aaY):=mkSc
theorem aRU(F:Fun Z.K "is_key" "is_key" aaY f fd)(T:Tx Z Cc Ck Cf):OkZ Z 1 f fd ["number"] (spB1 Vbnlal.keyOk):=by
 refine okS F aRQ λs H Q E hr h=>?_
 obtain⟨n,rfl,q⟩:=h
 refine⟨_,(aQ
  (aU (atU oY oY aY (pv 0) (bK T.g_LARGEST_KEY rfl)))),?_⟩
 refine⟨_,rfl,_,_,rfl,rfl,_,rfl,ite2 (λh=>⟨_,_,rfl,rfl,?_⟩) λh=>?_⟩
 ·have e:Vbnlal.keyOk n=decide (n<=1000000000):=by
   unfold Vbnlal.keyOk Vbnlal.within Vbnlal.MOSTKEY
   rw[h,Bool.true_and]
  rw[e] at q
  exact q
 ·have e:Vbnlal.keyOk n=false:=by
   unfold Vbnlal.keyOk Vbnlal.within
   rw[show decide (1<=n)=false by simpa using h,Bool.false_and]
  rw[e] at q
  exact q
abbrev aaZ:Stmt:=top 66
theorem aRV:FnScope ["number"] ["number"] (defScope aaZ):=mkSc
theorem aRW(F:Fun Z.K "is_day" "is_day" aaZ f fd)(T:Tx Z Cc Ck Cf):OkZ Z 1 f fd ["number"] (spB1 Vbnlal.dayOk):=by
 refine okS F aRV λs H Q E hr h=>?_
 obtain⟨n,rfl,q⟩:=h
 refine⟨_,(aQ
  (aU (atU oY oY aY (pv 0) (bK T.g_LAST_DAY rfl)))),?_⟩
 refine⟨_,rfl,_,_,rfl,rfl,_,rfl,ite2 (λh=>⟨_,_,rfl,rfl,?_⟩) λh=>?_⟩
 ·have e:Vbnlal.dayOk n=decide (n<=474814):=by
   unfold Vbnlal.dayOk Vbnlal.within Vbnlal.LAST
   rw[h,Bool.true_and]
  rw[e] at q
  exact q
 ·have e:Vbnlal.dayOk n=false:=by
   unfold Vbnlal.dayOk Vbnlal.within
   rw[show decide (0<=n)=false by simpa using h,Bool.false_and]
  rw[e] at q
  exact q
def firstOut(f a:Int):Int:=if 2*(f+a)<=3*f then 5 else if a<f then 3 else 6
def spFirst:Sp:=mkSp (λp:Int×Int=>[.int p.1,.int p.2]) λp H Q=>Q (.int (firstOut p.1 p.2)) H
abbrev sU:Stmt:=top 110
theorem abJ:FnScope ["f", "a"] ["f", "a"] (defScope sU):=mkSc
theorem abK(F:Fun Z.K "first_outcome" "first_outcome" sU f fd)(T:Tx Z Cc Ck Cf):OkZ Z 1 f fd ["f", "a"] (spFirst):=by
 refine okS F abJ λs H Q E hr h=>?_
 obtain⟨⟨x,y⟩,rfl,q⟩:=h
 refine⟨_,(aK
  (bY (bZ acZ (gY atK aY (pv 0)) (gY atK aY (gY wY (pv 0) (pv 1))) (nomark _))
   (aQ
    (aU (bK T.g_ADOPTED rfl)))
   aZ)
  (aK
  (bY (bZ TV (pv 0) (pv 1) (nomark _))
   (aQ
    (aU (bK T.g_BEFORE_SECOND_VOTE rfl)))
   aZ)
  (aQ
  (aU (bK T.g_REJECTED rfl))))),?_⟩
 unfold firstOut at q
 refine⟨_,rfl,_,_,rfl,rfl,.inl ⟨by decide,by decide⟩,_,rfl,_,rfl,_,_,rfl,rfl,_,_,rfl,rfl,.inl ⟨by decide,by decide⟩,_,_,rfl,rfl,_,rfl,ite2 (λh=>?_) λh=>?_⟩
 ·rw[if_pos (by simpa using h)] at q
  exact q
 rw[if_neg (by simpa using h)] at q
 refine⟨_,rfl,_,rfl,_,_,rfl,rfl,_,rfl,ite2 (λh=>?_) λh=>?_⟩
 ·rw[if_pos (by simpa using h)] at q
  exact q
 rw[if_neg (by simpa using h)] at q
 exact q
end
theorem oU(ms:List Member)(k:Int):(valV (kvM ms) (Sum.inl k)).isSome=ms.any λm=>m.key==k:=by
 rw[<-lQ,List.any_map]
 congr 1
 funext m
 rw[Bool.eq_iff_iff]
 simp
theorem UQ:∀{ms:List Member}{k:Int}{m:Member},(ms.find? λx=>x.key==k)=some m->valV (kvM ms) (Sum.inl k)=some (.int m.until_)
 |[],k,m,h=>by cases h
 |a::ms,k,m,h=>by
  rw[List.find?_cons] at h
  by_cases e:a.key=k
  ·rw[show(a.key==k)=true from beq_iff_eq.mpr e] at h
   cases h
   exact fY (p:=(Sum.inl a.key,V.int a.until_)) (congrArg Sum.inl e)
  ·rw[show(a.key==k)=false from beq_eq_false_iff_ne.mpr e] at h
   exact(fZ (p:=(Sum.inl a.key,V.int a.until_)) (λz=>e (Sum.inl.inj z))).trans (UQ h)
theorem abQ:∀(ms:List Member)(k:Int),dropK (kvM ms) (Sum.inl k)=kvM (ms.filter λx=>x.key != k)
 |[],k=>rfl
 |a::ms,k=>by
  rw[List.filter_cons]
  show dropK ((Sum.inl a.key,V.int a.until_)::kvM ms) (Sum.inl k)=_
  by_cases e:a.key=k
  ·rw[aQX (congrArg Sum.inl e),abQ ms k,if_neg (by simp[e])]
  ·rw[aQY (λz=>e (Sum.inl.inj z)),abQ ms k,if_pos (by simp[e])]
   rfl
theorem Good.office{n:Nat}{s:State}(g:Good n s)(k:Int):Vbnlal.inOffice s k=s.members.any λx=>x.key==k:=by
 rw[eU g.mnd]
 congr 1
 exact List.filter_eq_self.mpr λm hm=>decide_eq_true (g.srv m hm)
theorem aCW{ms:List Member}{k:Int}(h:(ms.any λm=>m.key==k)=true):∃m,(ms.find? λx=>x.key==k)=some m:=by
 obtain⟨x,hx,e⟩:=List.any_eq_true.mp h
 cases q:ms.find? λx=>x.key==k with
 |none=>exact absurd e (List.find?_eq_none.mp q x hx)
 |some m=>exact⟨m,rfl⟩
structure Cl where
 c:Addr
 ow:Own
 L:Lay
 s:State
 k:Int
def spEnd(Cc Ck:Addr):Sp:=mkSp (λa:Cl=>[.ref a.c,.int a.k]) λa H Q=>CourtAt Cc Ck H a.c a.ow a.L a.s/\(a.s.members.any λm=>m.key==a.k)=true/\
 ∀H',CourtAt Cc Ck H' a.c a.ow a.L (endOff a.s a.k)->Keep a.ow H a.ow H'->Q .non H'
section
variable{Z:Wd}{Cc Ck Cf f:Addr}{fd:FuncData}
abbrev CJ:Stmt:=top 68
theorem apV:FnScope ["court", "member"] ["court", "member"] (defScope CJ):=mkSc
theorem apW(F:Fun Z.K "end_office" "end_office" CJ f fd)(T:Tx Z Cc Ck Cf):OkZ Z 1 f fd ["court", "member"] (spEnd Cc Ck):=by
 refine okS F apV λs H Q E hr h=>?_
 obtain⟨⟨c,ow,L,st,k⟩,rfl,B,hm,q⟩:=h
 refine⟨_,(aK
  (gJ (aVX (bX (pv 0) rfl) (pv 1) ⟨rfl,rfl,rfl,rfl⟩))
  (aQ
  (bY (bZ eQ (bX (pv 0) rfl) (pv 1) (nomark _))
   (aQ
    (eX (pv 0) aY rfl))
   aZ))),?_⟩
 dsimp only at B hm q
 obtain⟨dx,hc⟩:=B.ins
 obtain⟨m,hf⟩:=aCW hm
 refine⟨_,rfl,cY T hc ⟨_,rfl,.inl ⟨_,.inl B.ld⟩,_,rfl,_,Sum.inl k,_,B.ld,rfl,UQ hf,?_⟩⟩
 obtain⟨B1,k1⟩:=B.upMem (H':=upd H L.ld (.dK (dropK (kvM st.members) (Sum.inl k)))) (ms:=st.members.filter λx=>x.key != k) (λb o hb hn=>by rw[aV hn];exact hb) (by rw[upd_same,abQ]) (λb h=>aW h)
 obtain⟨dx1,hc1⟩:=B1.ins
 refine⟨_,rfl,pX T hc1 ⟨_,rfl,rfl,_,rfl,ite2 (λh=>?_) λh=>?_⟩⟩
 ·have e:st.president=k:=by simpa using h
  refine⟨_,rfl,zQ T hc1 ?_⟩
  obtain⟨B2,k2⟩:=B1.upInts (H':=upd (upd H L.ld (.dK (dropK (kvM st.members) (Sum.inl k)))) c (.ins Cc dx1 (courtF (.int st.today) (.ref L.ld) (.int 0) (.ref L.cs) (.ref L.ru)))) (t:=st.today) (p:=0) (λb o hb hn=>by rw[aV hn];exact hb) ⟨dx1,upd_same⟩ (λb h=>aW h)
  refine q _ ?_ (k1.trans k2)
  unfold endOff
  rw[if_pos e]
  exact B2
 ·have e:¬st.president=k:=by simpa using h
  refine q _ ?_ k1
  unfold endOff
  rw[if_neg e]
  exact B1
abbrev avW:Stmt:=top 69
theorem bcU:FnScope ["court", "member", "last"] ["court", "member", "last"] (defScope avW):=mkSc
theorem bcV(F:Fun Z.K "seat" "seat" avW f fd)(T:Tx Z Cc Ck Cf)(D_is_key:DefOk Z 1 "is_key" ["number"] (spB1 Vbnlal.keyOk))(D_is_day:DefOk Z 1 "is_day" ["number"] (spB1 Vbnlal.dayOk)):OkZ Z 2 f fd ["court", "member", "last"] (spM2 Cc Ck seatM):=by
 refine okS F bcU λs H Q E hr h=>?_
 obtain⟨⟨a,m,u⟩,rfl,B,q⟩:=h
 have hu:=dY hr
 refine⟨_,(aK
  (bY (iU (fQ (cJ D_is_key (hr.mono (by decide)) rfl (aJ (pv 1) pa_nil))))
   (aQ
    (aU (bJ (aJ (bK T.g_WRONG_KEY rfl) pa_nil))))
   aZ)
  (aK
  (bY (iU (fQ (cJ D_is_day (hr.mono (by decide)) rfl (aJ (pv 2) pa_nil))))
   (aQ
    (aU (bJ (aJ (bK T.g_OUT_OF_RANGE rfl) pa_nil))))
   aZ)
  (aK
  (bY (bZ wJ (pv 2) (bX (pv 0) rfl) (nomark _))
   (aQ
    (aU (bJ (aJ (bK T.g_BEFORE_TODAY rfl) pa_nil))))
   aZ)
  (aK
  (bY (dW (xQ hu (pv 1) (bX (pv 0) rfl)) rfl)
   (aQ
    (aU (bJ (aJ (bK T.g_THERE_ALREADY rfl) pa_nil))))
   aZ)
  (aK
  (bY (bZ acZ (cX amZ (by rfl) T.n_len PySem.boot_len (aJ (bX (pv 0) rfl) pa_nil)) (bK T.g_MOST_MEMBERS rfl) (nomark _))
   (aQ
    (aU (bJ (aJ (bK T.g_FULL rfl) pa_nil))))
   aZ)
  (aK
  (oZ hu (bX (pv 0) rfl) (pv 1) (pv 2) rfl)
  (aQ
  (aU (bJ (aJ aY pa_nil)))))))))),?_⟩
 dsimp only at B q
 obtain⟨dx,hc⟩:=B.at_.ins
 unfold seatM at q
 refine⟨_,rfl,_,rfl,_,rfl,ite2 (λh=>?_) λh=>?_⟩
 ·rw[if_pos (by simpa using h)] at q
  exact⟨by decide,(q.stay B.at_).now (Same.refl _) rfl⟩
 rw[if_neg (by simpa using h)] at q
 refine⟨_,rfl,_,rfl,_,rfl,ite2 (λh=>?_) λh=>?_⟩
 ·rw[if_pos (by simpa using h)] at q
  exact⟨by decide,(q.stay B.at_).now (Same.refl _) rfl⟩
 rw[if_neg (by simpa using h)] at q
 refine⟨_,rfl,_,rfl,fJ T hc ⟨_,_,rfl,rfl,_,rfl,ite2 (λh=>?_) λh=>?_⟩⟩
 ·rw[if_pos (by simpa using h)] at q
  exact⟨by decide,(q.stay B.at_).now (Same.refl _) rfl⟩
 rw[if_neg (by simpa using h)] at q
 refine⟨_,rfl,_,rfl,cY T hc ⟨_,_,rfl,DGet.k (k:=Sum.inl m) B.at_.ld,_,rfl,ite2 (λh=>?_) λh=>?_⟩⟩
 ·rw[oU] at h
  rw[if_pos h] at q
  exact⟨by decide,(q.stay B.at_).now (Same.refl _) rfl⟩
 rename ¬_=true=>hm
 have hm2:=hm
 rw[oU] at hm
 rw[if_neg hm] at q
 refine⟨_,rfl,cY T hc ⟨_,_,rfl,B.at_.ld,_,_,rfl,rfl,_,rfl,ite2 (λh=>?_) λh=>?_⟩⟩
 ·have e:Vbnlal.MEMBERS<=a.s.members.length:=by
   have:=of_decide_eq_true h
   rw[List.length_map] at this
   unfold Vbnlal.MEMBERS
   omega
  rw[if_pos e] at q
  exact⟨by decide,(q.stay B.at_).now (Same.refl _) rfl⟩
 have e:¬Vbnlal.MEMBERS<=a.s.members.length:=λz=>h (by
  rw[List.length_map]
  unfold Vbnlal.MEMBERS at z
  exact decide_eq_true (by omega))
 rw[if_neg e] at q
 have hv:valV (kvM a.s.members) (Sum.inl m)=none:=by
  cases z:valV (kvM a.s.members) (Sum.inl m) with
  |none=>rfl
  |some v=>rw[z] at hm2;exact absurd rfl hm2
 refine⟨_,rfl,_,rfl,cY T hc ⟨_,rfl,_,_,rfl,DPut.k (k:=Sum.inl m) B.at_.ld (small1000 (by rw[List.length_map];have:=B.good.mem;omega)),?_⟩⟩
 obtain⟨B1,k1⟩:=B.at_.upMem (H':=upd H a.L.ld (.dK (putK (kvM a.s.members) (Sum.inl m) (V.int u)))) (ms:=a.s.members++[⟨m,u⟩]) (λb o hb hn=>by rw[aV hn];exact hb) (by rw[upd_same,uK _ hv,aWU]) (λb h=>aW h)
 exact⟨by decide,q.now B1 k1 rfl⟩
abbrev aiZ:Stmt:=top 70
theorem aWV:FnScope ["court", "member"] ["court", "member"] (defScope aiZ):=mkSc
theorem aWW(F:Fun Z.K "leave" "leave" aiZ f fd)(T:Tx Z Cc Ck Cf)(D_end_office:DefOk Z 1 "end_office" ["court", "member"] (spEnd Cc Ck)):OkZ Z 2 f fd ["court", "member"] (spM1 Cc Ck λs k=>Vbnlal.step s (.leave k)):=by
 refine okS F aWV λs H Q E hr h=>?_
 obtain⟨⟨a,m⟩,rfl,B,q⟩:=h
 have hu:=dY hr
 refine⟨_,(aK
  (bY (dW (kW hu (pv 1) (bX (pv 0) rfl)) rfl)
   (aQ
    (aU (bJ (aJ (bK T.g_NOT_THERE rfl) pa_nil))))
   aZ)
  (aK
  (gJ (cJ D_end_office (hr.mono (by decide)) rfl (aJ (pv 0) (aJ (pv 1) pa_nil))))
  (aQ
  (aU (bJ (aJ aY pa_nil)))))),?_⟩
 dsimp only at B q
 obtain⟨dx,hc⟩:=B.at_.ins
 rw[step_leave,B.good.office] at q
 refine⟨_,rfl,_,rfl,cY T hc ⟨_,_,rfl,DGet.k (k:=Sum.inl m) B.at_.ld,_,rfl,ite2 (λh=>?_) λh=>?_⟩⟩
 ·rw[oU] at h
  rw[if_pos (by simpa using h)] at q
  exact⟨by decide,(q.stay B.at_).now (Same.refl _) rfl⟩
 rw[oU] at h
 have hm:(a.s.members.any λx=>x.key==m)=true:=by simpa using h
 rw[if_neg (by rw[hm];exact Bool.noConfusion)] at q
 refine⟨_,rfl,_,rfl,⟨a.c,a.ow,a.L,a.s,m⟩,rfl,B.at_,hm,λH' B1 k1=>?_⟩
 exact⟨by decide,q.now B1 k1 rfl⟩
abbrev RK:Stmt:=top 71
theorem aKZ:FnScope ["court", "member"] ["court", "member"] (defScope RK):=mkSc
theorem aLJ(F:Fun Z.K "preside" "preside" RK f fd)(T:Tx Z Cc Ck Cf):OkZ Z 1 f fd ["court", "member"] (spM1 Cc Ck λs k=>Vbnlal.step s (.preside k)):=by
 refine okS F aKZ λs H Q E hr h=>?_
 obtain⟨⟨a,m⟩,rfl,B,q⟩:=h
 have hu:=dY hr
 refine⟨_,(aK
  (bY (dW (kW hu (pv 1) (bX (pv 0) rfl)) rfl)
   (aQ
    (aU (bJ (aJ (bK T.g_NOT_THERE rfl) pa_nil))))
   aZ)
  (aK
  (eX (pv 0) (pv 1) rfl)
  (aQ
  (aU (bJ (aJ aY pa_nil)))))),?_⟩
 dsimp only at B q
 obtain⟨dx,hc⟩:=B.at_.ins
 rw[step_preside,B.good.office] at q
 refine⟨_,rfl,_,rfl,cY T hc ⟨_,_,rfl,DGet.k (k:=Sum.inl m) B.at_.ld,_,rfl,ite2 (λh=>?_) λh=>?_⟩⟩
 ·rw[oU] at h
  rw[if_pos (by simpa using h)] at q
  exact⟨by decide,(q.stay B.at_).now (Same.refl _) rfl⟩
 rw[oU] at h
 have hm:(a.s.members.any λx=>x.key==m)=true:=by simpa using h
 rw[if_neg (by rw[hm];exact Bool.noConfusion)] at q
 refine⟨_,rfl,_,rfl,zQ T hc ?_⟩
 obtain⟨B2,k2⟩:=B.at_.upInts (H':=upd H a.c (.ins Cc dx (courtF (.int a.s.today) (.ref a.L.ld) (.int m) (.ref a.L.cs) (.ref a.L.ru)))) (t:=a.s.today) (p:=m) (λb o hb hn=>by rw[aV hn];exact hb) ⟨dx,upd_same⟩ (λb h=>aW h)
 exact⟨by decide,q.now B2 k2 rfl⟩
abbrev yJ:Stmt:=top 72
theorem uU:FnScope ["court", "told", "member"] ["court"] (defScope yJ):=mkSc
theorem ajJ(F:Fun Z.K "tell_office" "tell_office" yJ f fd)(T:Tx Z Cc Ck Cf):OkZ Z 1 f fd ["court"] (spR0 Cc Ck λs=>(stepM s .office).2):=by
 refine okS F uU λs H Q E hr h=>?_
 obtain⟨a,rfl,B,q⟩:=h
 have hu:=dY hr
 refine⟨_,(aK
  (bQ (i:=1) uU.nd rfl (Or.inl rfl) (bJ (aJ aY (aJ (bX (pv 0) rfl) pa_nil))))
  (aK
  (fV PassesOwn.never rfl (dQ (cX (BX rfl) (by rfl) T.n_sorted boot_sorted (aJ (bX (pv 0) rfl) pa_nil))) (cK (i:=2) uU.nd rfl (Or.inl rfl))
   (aQ
    (gJ (mW PySem.F.plainAttrs_list PySem.F.slot_list_extend PySem.F.type_list_extend xJ (pv 1) (aJ (bJ (aJ (pv 2) (aJ (gU hu (bX (pv 0) rfl) (pv 2) (λ_ _=>rfl)) pa_nil))) pa_nil hJ)))))
  (aQ
  (aU (pv 1))))),?_⟩
 obtain⟨dx,hc⟩:=B.at_.ins
 refine⟨_,rfl,pX T hc ⟨l2,λt ht=>?_⟩⟩
 have s0:Same H (upd H t (.lst [.int 0,.int a.s.president])):=Same.new ht
 refine⟨_,rfl,cY T (s0 _ _ hc) ⟨_,_,a.s.members.map (·.key),rfl,.inl (s0 _ _ B.at_.ld),by rw[List.map_map,List.map_map];rfl,λks p hp hs hn=>?_⟩⟩
 have s1:=s0.trans (Same.new (o:=.lst (ks.map V.int)) hn)
 have htp:t≠p:=aX upd_same hn
 have np:=s0.free hn
 have len30:ks.length<=30:=by rw[hp.length_eq,List.length_map];exact B.good.mem
 refine⟨p,rfl,⟨_,SqL.of upd_same⟩,iK (K:=Z.K) (a:=p) (xs:=ks.map V.int) (λi σ H'=>∃v:Option V,σ=[some (.ref a.c),some (.ref t),v]/\Same H H'/\H' p=some (.lst (ks.map V.int))/\
   H' t=some (.lst ((0::a.s.president::(ks.take i).flatMap λk=>[k,untilOf a.s.members k]).map V.int)))
  ⟨none,rfl,s1,upd_same,by rw[aV htp,upd_same];rfl⟩ (λi σ H' _ ⟨_,_,_,h,_⟩=>SqL.of h) ?_ ?_⟩
 ·rintro i y σ H' hi ⟨v,rfl,s2,hp2,ht2⟩
  obtain⟨k,hk,rfl⟩:=gmap hi
  have hmem:k∈a.s.members.map (·.key):=hp.mem_iff.mp (List.mem_of_getElem? hk)
  obtain⟨m,hm,em⟩:=List.mem_map.mp hmem
  have hfind:=rV B.good.mnd hm
  rw[em] at hfind
  refine⟨_,rfl,.inl ⟨rfl,_,SqL.of ht2⟩,_,rfl,_,rfl,cY T (s2 _ _ hc) ⟨_,rfl,_,_,rfl,dgetI (s2 _ _ B.at_.ld) (UQ hfind),l2,λl hl=>?_⟩⟩
  have s3:Same H' (upd H' l (.lst [.int k,.int m.until_])):=Same.new hl
  have hi30:(ks.take i).length<=30:=Nat.le_trans (fK _ _) len30
  refine⟨t,l,_,_,rfl,rfl,s3 _ _ ht2,upd_same,Nat.le_of_lt (small1000 ?_),_,rfl,(s2.trans s3).upd ht,?_,?_⟩
  ·rw[List.length_map,List.length_cons,List.length_cons]
   have:=eJ (f:=λk=>[k,untilOf a.s.members k]) (k:=2) (l:=ks.take i) λx _=>Nat.le_refl _
   show _+2<=1000
   omega
  ·rw[aV (Ne.symm htp)]
   exact s3 _ _ hp2
  ·rw[upd_same,bU hk,List.flatMap_append]
   have e1:untilOf a.s.members k=m.until_:=by unfold untilOf;rw[hfind]
   simp[e1]
 ·rintro σ H' ⟨v,rfl,s2,hp2,ht2⟩
  rw[List.length_map,List.take_length,aOQ B.good.mnd hp hs] at ht2
  refine⟨_,rfl,q H' t s2 ht ht2⟩
abbrev GU:Stmt:=top 67
theorem RQ:FnScope ["court", "d", "member"] ["court", "d"] (defScope GU):=mkSc
theorem avX(F:Fun Z.K "go_to_day" "go_to_day" GU f fd)(T:Tx Z Cc Ck Cf)(D_is_day:DefOk Z 1 "is_day" ["number"] (spB1 Vbnlal.dayOk))(D_end_office:DefOk Z 1 "end_office" ["court", "member"] (spEnd Cc Ck)):OkZ Z 2 f fd ["court", "d"] (spM1 Cc Ck dayM):=by
 refine okS F RQ λs H Q E hr h=>?_
 obtain⟨⟨a,d⟩,rfl,B,q⟩:=h
 have hu:=dY hr
 refine⟨_,(aK
  (bY (iU (fQ (cJ D_is_day (hr.mono (by decide)) rfl (aJ (pv 1) pa_nil))))
   (aQ
    (aU (bJ (aJ (bK T.g_OUT_OF_RANGE rfl) pa_nil))))
   aZ)
  (aK
  (bY (bZ wJ (pv 1) (bX (pv 0) rfl) (nomark _))
   (aQ
    (aU (bJ (aJ (bK T.g_BEFORE_TODAY rfl) pa_nil))))
   aZ)
  (aK
  (eX (pv 0) (pv 1) rfl)
  (aK
  (fV PassesOwn.never rfl (dQ (amQ (aiX rfl) (by rfl) T.n_list boot_list (aJ (bX (pv 0) rfl) pa_nil))) (cK (i:=2) RQ.nd rfl (Or.inl rfl))
   (aQ
    (bY (bZ wJ (gU hu (bX (pv 0) rfl) (pv 2) (λ_ _=>rfl)) (pv 1) (nomark _))
     (aQ
      (gJ (cJ D_end_office (hr.mono (by decide)) rfl (aJ (pv 0) (aJ (pv 2) pa_nil)))))
     aZ)))
  (aQ
  (aU (bJ (aJ aY pa_nil)))))))),?_⟩
 dsimp only at B q
 obtain⟨dx,hc⟩:=B.at_.ins
 unfold dayM at q
 refine⟨_,rfl,_,rfl,_,rfl,ite2 (λh=>?_) λh=>?_⟩
 ·rw[if_pos (by simpa using h)] at q
  exact⟨by decide,(q.stay B.at_).now (Same.refl _) rfl⟩
 rw[if_neg (by simpa using h)] at q
 refine⟨_,rfl,_,rfl,fJ T hc ⟨_,_,rfl,rfl,_,rfl,ite2 (λh=>?_) λh=>?_⟩⟩
 ·rw[if_pos (by simpa using h)] at q
  exact⟨by decide,(q.stay B.at_).now (Same.refl _) rfl⟩
 rw[if_neg (by simpa using h)] at q
 refine⟨_,rfl,_,rfl,apU T hc ?_⟩
 obtain⟨B1,k1⟩:=B.at_.upInts (H':=upd H a.c (.ins Cc dx (courtF (.int d) (.ref a.L.ld) (.int a.s.president) (.ref a.L.cs) (.ref a.L.ru)))) (t:=d) (p:=a.s.president) (λb o hb hn=>by rw[aV hn];exact hb) ⟨dx,upd_same⟩ (λb h=>aW h)
 obtain⟨dx1,hc1⟩:=B1.ins
 refine⟨_,rfl,cY T hc1 ⟨_,_,rfl,.inl B1.ld,λl hl=>?_⟩⟩
 generalize hH1:upd H a.c (.ins Cc dx (courtF (.int d) (.ref a.L.ld) (.int a.s.president) (.ref a.L.cs) (.ref a.L.ru)))=H1 at B1 k1 hc1 hl ⊢
 rw[show((kvM a.s.members).map λkv=>kV kv.1)=(a.s.members.map (·.key)).map V.int by rw[List.map_map,List.map_map];rfl]
 have z0:{ a.s with today:=d,president:=a.s.president }=dayAt a.s d 0:=(aIQ a.s d).symm
 rw[z0] at B1
 have ol:=B1.dom l hl
 have B2:=B1.same (Same.new (o:=.lst ((a.s.members.map (·.key)).map V.int)) hl)
 have k2:=k1.trans (Keep.same (ow:=a.ow) (Same.new (o:=.lst ((a.s.members.map (·.key)).map V.int)) hl))
 generalize hH2:upd H1 l (.lst ((a.s.members.map (·.key)).map V.int))=H2 at B2 k2 ⊢
 have hl2:H2 l=some (.lst ((a.s.members.map (·.key)).map V.int)):=by rw[<-hH2,upd_same]
 refine⟨l,rfl,⟨_,SqL.of hl2⟩,iK (K:=Z.K) (a:=l) (xs:=(a.s.members.map (·.key)).map V.int) (λi σ H'=>∃v:Option V,σ=[some (.ref a.c),some (.int d),v]/\CourtAt Cc Ck H' a.c a.ow a.L (dayAt a.s d i)/\Keep a.ow H2 a.ow H')
  ⟨none,rfl,B2,Keep.refl _ _⟩ (λi σ H' _ ⟨_,_,_,h⟩=>SqL.of (h.st _ _ hl2 ol).1) ?_ ?_⟩
 ·rintro i y σ H' hi ⟨v,rfl,B3,k3⟩
  obtain⟨k,hk,rfl⟩:=gmap hi
  obtain⟨m,hm,rfl⟩:=gmap hk
  obtain⟨dx3,hc3⟩:=B3.ins
  have hmem:m∈(dayAt a.s d i).members:=by
   show m∈(a.s.members.take i).filter (serves d)++a.s.members.drop i
   rw[nU hm]
   simp
  have hnd:((dayAt a.s d i).members.map (·.key)).Nodup:=by
   refine List.Nodup.sublist (List.Sublist.map _ ?_) B.good.mnd
   show((a.s.members.take i).filter (serves d)++a.s.members.drop i).Sublist a.s.members
   conv=>rhs;rw[<-List.take_append_drop i a.s.members]
   exact List.Sublist.append List.filter_sublist (List.Sublist.refl _)
  have hfind:=rV hnd hmem
  refine⟨_,rfl,cY T hc3 ⟨_,rfl,_,_,rfl,dgetI B3.ld (UQ hfind),_,rfl,_,_,rfl,rfl,_,rfl,ite2 (λh=>?_) λh=>?_⟩⟩
  ·have hs:¬serves d m=true:=by
    unfold serves
    have:=of_decide_eq_true h
    simpa using this
   refine⟨_,rfl,_,rfl,⟨a.c,a.ow,a.L,dayAt a.s d i,m.key⟩,rfl,B3,List.any_eq_true.mpr ⟨m,hmem,beq_self_eq_true _⟩,λH' B4 k4=>⟨_,rfl,?_,k3.trans k4⟩⟩
   rw[aOU B.good hm hs]
   exact B4
  ·have hs:serves d m=true:=by
    unfold serves
    have:¬m.until_<d:=λz=>h (decide_eq_true z)
    exact decide_eq_true (by omega)
   refine⟨_,rfl,?_,k3⟩
   rw[aIU hm hs]
   exact B3
 ·rintro σ H' ⟨v,rfl,B3,k3⟩
  rw[List.length_map,List.length_map,aIV B.good] at B3
  exact⟨by decide,q.now B3 (k2.trans k3) rfl⟩
end
theorem AV:∀(l:List (Int×Int))(k:Int),valV (kvI l) (Sum.inl k)=(valI l k).map V.int
 |[],k=>rfl
 |p::l,k=>by
  unfold valI
  rw[List.find?_cons]
  by_cases e:p.1=k
  ·rw[show(p.1==k)=true from beq_iff_eq.mpr e]
   exact fY (p:=(Sum.inl p.1,V.int p.2)) (congrArg Sum.inl e)
  ·rw[show(p.1==k)=false from beq_eq_false_iff_ne.mpr e]
   exact(fZ (p:=(Sum.inl p.1,V.int p.2)) (λz=>e (Sum.inl.inj z))).trans (AV l k)
theorem CK(l:List (Int×Int))(k:Int):(valV (kvI l) (Sum.inl k)).isSome=l.any λb=>b.1==k:=by
 rw[<-lQ,List.any_map]
 congr 1
 funext m
 rw[Bool.eq_iff_iff]
 simp
structure Cs where
 a:Ct
 i:Nat
 q:Addr×Addr×Addr
 x:Case
structure CsOk(Cc Ck:Addr)(H:Hp)(z:Cs):Prop where
 ct:CtOk Cc Ck H z.a
 hq:z.a.L.cas[z.i]? = some z.q
 hx:z.a.s.cases[z.i]? = some z.x
section
variable{Cc Ck:Addr}{H H':Hp}{z:Cs}{a:Ct}
theorem CsOk.same(B:CsOk Cc Ck H z)(s:Same H H'):CsOk Cc Ck H' z:=⟨B.ct.same s,B.hq,B.hx⟩
theorem CsOk.case(B:CsOk Cc Ck H z):CaseAt Ck H z.a.ow z.i z.q z.x:=B.ct.at_.cas _ _ _ B.hq B.hx
theorem CsOk.mem(B:CsOk Cc Ck H z):z.x∈z.a.s.cases:=List.mem_of_getElem? B.hx
theorem CtOk.seek(B:CtOk Cc Ck H a)(k:Int):(Vbnlal.caseOf a.s k=none/\valV (kvC a.L.cas a.s.cases) (Sum.inl k)=none)\/
  ∃i q x,CsOk Cc Ck H ⟨a,i,q,x⟩/\Vbnlal.caseOf a.s k=some x/\x.key=k/\valV (kvC a.L.cas a.s.cases) (Sum.inl k)=some (.ref q.1):=by
 cases e:Vbnlal.caseOf a.s k with
 |none=>exact .inl ⟨rfl,(B.at_.seek k).1 e⟩
 |some x=>
  obtain⟨i,q,h1,h2,h3,h4⟩:=(B.at_.seek k).2 x e
  exact .inr ⟨i,q,x,⟨B,h1,h2⟩,rfl,h3,h4⟩
end
theorem zY{x:Case}:Vbnlal.voting x=true↔x.phase=2\/x.phase=4:=by
 unfold Vbnlal.voting
 simp
def early(s:State)(x:Case):Bool:=decide (s.today<x.opened+180) || (decide (0<x.comments)&&decide (s.today<x.last+30))
def spEarly(Cc Ck:Addr):Sp:=mkSp (λz:Cs=>[.ref z.a.c,.ref z.q.1]) λz H Q=>CsOk Cc Ck H z/\Q (.bl (early z.a.s z.x)) H
def spVoted(Cc Ck:Addr):Sp:=mkSp (λz:Cs=>[.ref z.a.c,.ref z.q.1]) λz H Q=>CsOk Cc Ck H z/\∀H',Same H H'->Q (.bl (Vbnlal.allVoted z.a.s z.x)) H'
def spCast(Cc Ck:Addr):Sp:=mkSp (λz:Cs×Int=>[.ref z.1.q.1,.int z.2]) λz H Q=>CsOk Cc Ck H z.1/\∀H',Same H H'->Q (.int (Vbnlal.votes z.1.x z.2)) H'
def spOut(Cc Ck:Addr):Sp:=mkSp (λz:Cs=>[.ref z.a.c,.ref z.q.1]) λz H Q=>CsOk Cc Ck H z/\∀H',Same H H'->Q (.int (Vbnlal.outcome z.a.s z.x)) H'
section
variable{Z:Wd}{Cc Ck Cf f:Addr}{fd:FuncData}
abbrev uV:Stmt:=top 104
theorem aeV:FnScope ["court", "case"] ["court", "case"] (defScope uV):=mkSc
theorem aeW(F:Fun Z.K "is_too_early" "is_too_early" uV f fd)(T:Tx Z Cc Ck Cf):OkZ Z 1 f fd ["court", "case"] (spEarly Cc Ck):=by
 refine okS F aeV λs H Q E hr h=>?_
 obtain⟨z,rfl,B,q⟩:=h
 refine⟨_,(aK
  (bY (bZ wJ (gY acX (bX (pv 0) rfl) (bX (pv 1) rfl)) (bK T.g_DAYS_FROM_PETITION rfl) (nomark _))
   (aQ
    (aU zX))
   aZ)
  (aQ
  (aU (acW (nW TV (bX (pv 1) rfl) aY (nomark _)) (PX (nW wJ (gY acX (bX (pv 0) rfl) (bX (pv 1) rfl)) (bK T.g_DAYS_FROM_COMMENT rfl) (nomark _))))))),?_⟩
 obtain⟨dx,hc⟩:=B.ct.at_.ins
 obtain⟨dk,hi⟩:=B.case.ins
 unfold early at q
 refine⟨_,rfl,fJ T hc ⟨_,rfl,NZ T hi ⟨_,_,rfl,rfl,_,_,rfl,rfl,_,rfl,ite2 (λh=>?_) λh=>?_⟩⟩⟩
 ·have e:decide (z.a.s.today<z.x.opened+180)=true:=decide_eq_true (by have:=of_decide_eq_true h;omega)
  rw[e,Bool.true_or] at q
  exact q
 have e:decide (z.a.s.today<z.x.opened+180)=false:=decide_eq_false λy=>h (decide_eq_true (by omega))
 rw[e,Bool.false_or] at q
 refine⟨_,rfl,nY T hi ⟨_,_,rfl,rfl,_,rfl,ite2 (λh=>?_) λh=>?_⟩⟩
 ·rw[h,Bool.true_and] at q
  refine⟨_,rfl,fJ T hc ⟨_,rfl,tW T hi ⟨_,_,rfl,rfl,_,_,rfl,rfl,?_⟩⟩⟩
  have e2:decide (z.a.s.today<z.x.last+30)=decide (z.a.s.today - z.x.last<30):=by
   rw[Bool.eq_iff_iff,decide_eq_true_eq,decide_eq_true_eq]
   omega
  rw[e2] at q
  exact q
 ·rw[show decide (0<z.x.comments)=false by simpa using h,Bool.false_and] at q
  exact q
abbrev mY:Stmt:=top 107
theorem pY:FnScope ["court", "case", "member"] ["court", "case"] (defScope mY):=mkSc
theorem VY(F:Fun Z.K "all_have_voted" "all_have_voted" mY f fd)(T:Tx Z Cc Ck Cf):OkZ Z 1 f fd ["court", "case"] (spVoted Cc Ck):=by
 refine F.ok pY (λvs H Q E h=>?_) (λcdv A outer s H vs Q E hr h=>?_)
 ·obtain⟨a,rfl,_⟩:=h
  rfl
 ·obtain⟨z,rfl,B,q⟩:=h
  have hu:=dY hr
  refine⟨_,(aQ
   (aU (cX (adV rfl) (by rfl) T.n_all boot_all (aJ (UJ (kU (own:=[("member",2)]) rfl pY.nd (rZ (bX (pv 0) rfl)) (eK (by show blkC ["court", "case", "member"] (defScope mY) _ _=true;decide +kernel)) (λ_ _ _ _ _=>by exact cK (i:=2) pY.nd rfl (Or.inl rfl)) (λ_ _ _ _ _=>jQ) (λ_ _ _ _ _=>by exact(bfK (xQ hu (pv 2) (IY Z.K (pv 1) (by rfl))) rfl)))) pa_nil)))),?_⟩
  obtain⟨dx,hc⟩:=B.ct.at_.ins
  obtain⟨dk,hi⟩:=B.case.ins
  have A:=B.ct.at_
  refine⟨z.a.L.ld,_,A.ld,trivial,λod=>?_⟩
  have nd:=fX A.o0 A.o1 (by intro y;cases y)
  have ni:=fX B.case.o1 A.o1 (by intro y;cases y)
  have nb:=fX B.case.o2 A.o1 (by intro y;cases y)
  have k0:But z.a.L.ld H (upd H z.a.L.ld (.frz od (.dK (kvM z.a.s.members)))):=But.lock
  generalize hH1:upd H z.a.L.ld (.frz od (.dK (kvM z.a.s.members)))=H1 at k0 ⊢
  have hl:H1 z.a.L.ld=some (.frz od (.dK (kvM z.a.s.members))):=by rw[<-hH1,upd_same]
  refine⟨_,rfl,cY T (k0 _ _ hc nd) ⟨_,od,rfl,.inl ⟨_,hl,λD hD=>?_⟩⟩⟩
  refine lck (λi=>(z.a.s.members.take i).map λm=>V.bl (z.x.ballots.any λb=>b.1==m.key)) hD hl rfl (λi _=>small1000 (by rw[List.length_map];have:=B.ct.good.mem;have:=fK i z.a.s.members;omega)) ?_ ?_
  ·intro i k v H2 hk s2 k' nx h1 h2
   obtain⟨m,hm,e⟩:=gmap hk
   cases e
   refine⟨rfl,_,rfl,_,rfl,jU T (s2 _ _ (k0 _ _ hi ni)) ⟨_,_,rfl,DGet.k (k:=Sum.inl m.key) (s2 _ _ (k0 _ _ B.case.bal nb)),?_⟩⟩
   rw[CK]
   exact h1 _ _ (Same.refl _) (by rw[bU hm,List.map_append];rfl)
  ·intro H2 s2 hD2
   rw[List.length_map,List.take_length] at hD2
   refine⟨s2 _ _ hl,_,z.a.s.members.map (λm=>z.x.ballots.any λb=>b.1==m.key),rfl,SqL.of ?_,?_⟩
   ·have:D≠z.a.L.ld:=(aX hl hD).symm
    rw[aV this,hD2,List.map_map]
    rfl
   ·have e:(z.a.s.members.map (λm=>z.x.ballots.any λb=>b.1==m.key)).all id=Vbnlal.allVoted z.a.s z.x:=by
     unfold Vbnlal.allVoted Vbnlal.serving
     rw[List.filter_eq_self.mpr λm hm=>decide_eq_true (B.ct.good.srv m hm),List.all_map]
     rfl
    rw[e]
    exact q _ ((k0.same s2).back A.ld)
abbrev pJ:Stmt:=top 108
theorem sV:FnScope ["case", "v", "member"] ["case", "v"] (defScope pJ):=mkSc
theorem aeX(F:Fun Z.K "ballots_cast" "ballots_cast" pJ f fd)(T:Tx Z Cc Ck Cf):OkZ Z 1 f fd ["case", "v"] (spCast Cc Ck):=by
 refine okS F sV λs H Q E hr h=>?_
 obtain⟨⟨z,v⟩,rfl,B,q⟩:=h
 have hu:=dY hr
 refine⟨_,(aQ
  (aU (cX eZ (by rfl) T.n_len PySem.boot_len (aJ (UJ (kU (own:=[("member",2)]) rfl sV.nd (rZ (bX (pv 0) rfl)) (eK (by show blkC ["case", "v", "member"] (defScope pJ) _ _=true;decide +kernel)) (λ_ _ _ _ _=>by exact cK (i:=2) sV.nd rfl (Or.inl rfl)) (λ_ _ _ _ _=>by exact(rY (bZ eQ (gU hu (IY Z.K (pv 0) (by rfl)) (pv 2) (λ_ _=>rfl)) (pv 1) (nomark _)))) (λ_ _ _ _ _=>by exact(pv 2)))) pa_nil)))),?_⟩
 dsimp only at B q
 obtain⟨dk,hi⟩:=B.case.ins
 refine⟨z.q.2.1,_,B.case.bal,trivial,λod=>?_⟩
 have ni:=fX B.case.o1 B.case.o2 (by intro y;cases y)
 have k0:But z.q.2.1 H (upd H z.q.2.1 (.frz od (.dK (kvI z.x.ballots)))):=But.lock
 generalize hH1:upd H z.q.2.1 (.frz od (.dK (kvI z.x.ballots)))=H1 at k0 ⊢
 have hl:H1 z.q.2.1=some (.frz od (.dK (kvI z.x.ballots))):=by rw[<-hH1,upd_same]
 have b400:=(B.ct.good.ok _ B.mem).bal
 have few:=B.ct.few
 refine⟨_,rfl,jU T (k0 _ _ hi ni) ⟨_,od,rfl,.inl ⟨_,hl,λD hD=>?_⟩⟩⟩
 refine lck (λi=>((z.x.ballots.take i).filter λb=>b.2==v).map λb=>V.int b.1) hD hl rfl (λi _=>small1000 ?_) ?_ ?_
 ·rw[List.length_map]
  have h1:=List.length_filter_le (λb:Int×Int=>b.2==v) (z.x.ballots.take i)
  have h2:=fK i z.x.ballots
  omega
 ·intro i k w H2 hk s2 k' nx h1 h2
  obtain⟨b,hb,e⟩:=gmap hk
  cases e
  have hv:valV (kvI z.x.ballots) (Sum.inl b.1)=some (.int b.2):=by
   rw[AV,(wW (B.ct.bal _ B.mem).nd (k:=b.1) (v:=b.2)).mpr (List.mem_of_getElem? hb)]
   rfl
  refine⟨rfl,_,rfl,jU T (s2 _ _ (k0 _ _ hi ni)) ⟨_,rfl,_,_,rfl,.inl ⟨_,Sum.inl b.1,.inr ⟨od,s2 _ _ hl⟩,rfl,hv.symm⟩,_,rfl,rfl,_,rfl,ite2 (λh=>?_) λh=>?_⟩⟩
  ·have e:(b.2==v)=true:=by simpa using h
   refine⟨_,rfl,h1 _ _ (Same.refl _) ?_⟩
   rw[bU hb,List.filter_append,List.map_append,List.filter_cons,if_pos e]
   rfl
  ·have e:¬(b.2==v)=true:=by simpa using h
   refine h2 _ (Same.refl _) ?_
   rw[bU hb,List.filter_append,List.filter_cons,if_neg e,List.filter_nil,List.append_nil]
 ·intro H2 s2 hD2
  rw[List.length_map,List.take_length] at hD2
  have hne:D≠z.q.2.1:=(aX hl hD).symm
  refine⟨s2 _ _ hl,_,_,rfl,.inl (SqL.of (by rw[aV hne,hD2])),?_⟩
  rw[List.length_map]
  exact q _ ((k0.same s2).back B.case.bal)
abbrev RU:Stmt:=top 109
theorem LU:FnScope ["court", "case", "f", "a"] ["court", "case"] (defScope RU):=mkSc
theorem aLK(F:Fun Z.K "outcome" "outcome" RU f fd)(T:Tx Z Cc Ck Cf)(D_ballots_cast:DefOk Z 1 "ballots_cast" ["case", "v"] (spCast Cc Ck))(D_first_outcome:DefOk Z 1 "first_outcome" ["f", "a"] (spFirst)):OkZ Z 2 f fd ["court", "case"] (spOut Cc Ck):=by
 refine okS F LU λs H Q E hr h=>?_
 obtain⟨z,rfl,B,q⟩:=h
 have hu:=dY hr
 refine⟨_,(aK
  (bQ (i:=2) LU.nd rfl (Or.inl rfl) (cJ D_ballots_cast (hr.mono (by decide)) rfl (aJ (pv 1) (aJ (bK T.g_FOR rfl) pa_nil))))
  (aK
  (bQ (i:=3) LU.nd rfl (Or.inl rfl) (cJ D_ballots_cast (hr.mono (by decide)) rfl (aJ (pv 1) (aJ (bK T.g_AGAINST rfl) pa_nil))))
  (aK
  (bY (bZ wJ (gY wY (pv 2) (pv 3)) (bK T.g_FEWEST_BALLOTS rfl) (nomark _))
   (aQ
    (aU (bK T.g_REJECTED rfl)))
   aZ)
  (aK
  (bY (bZ eQ (bX (pv 1) rfl) (bK T.g_FIRST_VOTE rfl) (nomark _))
   (aQ
    (aU (cJ D_first_outcome (hr.mono (by decide)) rfl (aJ (pv 2) (aJ (pv 3) pa_nil)))))
   aZ)
  (aK
  (bY (bZ TV (pv 2) (pv 3) (nomark _))
   (aQ
    (aU (bK T.g_ADOPTED rfl)))
   aZ)
  (aK
  (bY (PW.pt (qJ (bZ eQ (pv 2) (pv 3) (nomark _)) (nV (bZ eQ (aVW hu (bX (pv 1) rfl) (bX (pv 0) rfl) aY ⟨rfl,rfl,rfl,rfl⟩) (bK T.g_FOR rfl) (nomark _)))))
   (aQ
    (aU (bK T.g_ADOPTED rfl)))
   aZ)
  (aQ
  (aU (bK T.g_REJECTED rfl))))))))),?_⟩
 unfold Vbnlal.outcome at q
 dsimp only at q
 have few:=B.ct.few
 have b400:=(B.ct.good.ok _ B.mem).bal
 refine⟨_,rfl,⟨z,1⟩,rfl,B,λH1 s1=>?_⟩
 refine⟨_,rfl,⟨z,2⟩,rfl,B.same s1,λH2 s2=>?_⟩
 have s12:=s1.trans s2
 have B2:=B.same s12
 obtain⟨dx,hc⟩:=B2.ct.at_.ins
 obtain⟨dk,hi⟩:=B2.case.ins
 refine⟨_,rfl,_,rfl,_,_,rfl,rfl,_,_,rfl,rfl,_,rfl,ite2 (λh=>?_) λh=>?_⟩
 ·rw[if_pos (by simpa using h)] at q
  exact q _ s12
 rw[if_neg (by simpa using h)] at q
 refine⟨_,rfl,dZ T hi ⟨rfl,_,rfl,ite2 (λh=>?_) λh=>?_⟩⟩
 ·rw[if_pos (by simpa using h)] at q
  exact⟨_,rfl,_,rfl,⟨_,_⟩,rfl,q _ s12⟩
 rw[if_neg (by simpa using h)] at q
 refine⟨_,rfl,_,rfl,_,_,rfl,rfl,_,rfl,ite2 (λh=>?_) λh=>?_⟩
 ·rw[if_pos (by simpa using h)] at q
  exact q _ s12
 rw[if_neg (by simpa using h)] at q
 have hp:=aAZ B.ct.good (B.ct.bal _ B.mem)
 refine⟨_,rfl,_,rfl,rfl,_,rfl,ite2 (λh=>?_) λh=>?_⟩
 ·have h:Vbnlal.votes z.x 1=Vbnlal.votes z.x 2:=by simpa using h
  refine⟨_,rfl,jU T hi ⟨_,rfl,.inl ⟨_,.inl B2.case.bal⟩,_,rfl,pX T hc ⟨_,DGet.k (k:=Sum.inl z.a.s.president) B2.case.bal,?_⟩⟩⟩
  rw[AV]
  cases e:valI z.x.ballots z.a.s.president with
  |none=>
   refine⟨rfl,_,rfl,iteF ?_⟩
   rw[if_neg (λy=>by rw[hp.mp y.2] at e;cases e)] at q
   exact q _ s12
  |some w=>
   refine⟨rfl,_,rfl,ite2 (λh2=>?_) λh2=>?_⟩
   ·have e2:w=1:=by simpa using h2
    rw[if_pos ⟨h,hp.mpr (by rw[e,e2])⟩] at q
    exact q _ s12
   ·have e2:¬w=1:=by simpa using h2
    rw[if_neg (λy=>e2 (Option.some.inj (e.symm.trans (hp.mp y.2))))] at q
    exact q _ s12
 ·have h:¬Vbnlal.votes z.x 1=Vbnlal.votes z.x 2:=by simpa using h
  rw[if_neg (λy=>h y.1)] at q
  exact iteF (q _ s12)
abbrev GV:Stmt:=top 105
theorem RV:FnScope ["court", "key", "case"] ["court", "key"] (defScope GV):=mkSc
theorem avY(F:Fun Z.K "open_vote" "open_vote" GV f fd)(T:Tx Z Cc Ck Cf)(D_is_too_early:DefOk Z 1 "is_too_early" ["court", "case"] (spEarly Cc Ck)):OkZ Z 2 f fd ["court", "key"] (spM1 Cc Ck λs k=>Vbnlal.step s (.openVote k)):=by
 refine okS F RV λs H Q E hr h=>?_
 obtain⟨⟨a,k⟩,rfl,B,q⟩:=h
 have hu:=dY hr
 refine⟨_,(aK
  (bQ (i:=2) RV.nd rfl (Or.inl rfl) (kJ hu (bX (pv 0) rfl) (pv 1) ⟨rfl,rfl,rfl,rfl⟩))
  (aK
  (bY (dW (jZ (pv 2)))
   (aQ
    (aU (bJ (aJ (bK T.g_NOT_THERE rfl) pa_nil))))
   aZ)
  (aK
  (bY (bZ lW (bX (pv 2) rfl) (gQ (aJ (bK T.g_COMMENTS rfl) (aJ (bK T.g_BEFORE_SECOND_VOTE rfl) pa_nil))) rfl)
   (aQ
    (aU (bJ (aJ (bK T.g_WRONG_PHASE rfl) pa_nil))))
   aZ)
  (aK
  (bY (PW.pt (qJ (bZ eQ (bX (pv 2) rfl) (bK T.g_COMMENTS rfl) (nomark _)) (nV (fQ (cJ D_is_too_early (hr.mono (by decide)) rfl (aJ (pv 0) (aJ (pv 2) pa_nil)))))))
   (aQ
    (aU (bJ (aJ (bK T.g_WRONG_TIME rfl) pa_nil))))
   aZ)
  (aK
  (eX (pv 2) (BK (bZ eQ (bX (pv 2) rfl) (bK T.g_COMMENTS rfl) (nomark _)) (bK T.g_FIRST_VOTE rfl) (bK T.g_SECOND_VOTE rfl)) rfl)
  (aK
  (eX (pv 2) (gY wY (bX (pv 0) rfl) (bK T.g_VOTE_DAYS rfl)) rfl)
  (aK
  (eX (pv 2) oQ rfl)
  (aQ
  (aU (bJ (aJ (bX (pv 2) rfl) pa_nil))))))))))),?_⟩
 dsimp only at B q
 rw[iX] at q
 obtain⟨dx,hc⟩:=B.at_.ins
 refine⟨_,rfl,cW T hc ⟨_,rfl,.inl ⟨_,.inl B.at_.cs⟩,_,rfl,_,DGet.k (k:=Sum.inl k) B.at_.cs,?_⟩⟩
 rcases B.seek k with ⟨e,hv⟩ | ⟨i,p,x,hx,e,hk,hv⟩
 ·rw[hv]
  rw[e] at q
  exact⟨_,rfl,_,rfl,iteT ⟨by decide,(q.stay B.at_).now (Same.refl _) rfl⟩⟩
 rw[hv]
 rw[e] at q
 dsimp only at q
 obtain⟨dk,hi⟩:=hx.case.ins
 dsimp only at hi
 refine⟨_,rfl,_,rfl,iteF ?_⟩
 refine⟨_,rfl,dZ T hi ⟨by decide,λt ht=>⟨t,_,rfl,.inr (SqT.of upd_same),rfl,rfl,_,rfl,ite2 (λh=>?_) λh=>?_⟩⟩⟩
 ·have hp:x.phase≠1/\x.phase≠3:=by
   simp[inV,eqV] at h
   omega
  rw[if_pos hp] at q
  exact⟨by decide,(q.stay B.at_).now (Same.new ht) rfl⟩
 have hp:x.phase=1\/x.phase=3:=by
  simp[inV,eqV] at h
  omega
 rw[if_neg (by omega)] at q
 have s1:Same H (upd H t (.tup [.int 1,.int 3])):=Same.new ht
 have e2:(x.phase=1/\(a.s.today<x.opened+Vbnlal.WAIT\/(0<x.comments/\a.s.today<x.last+Vbnlal.AFTER)))↔(x.phase=1/\early a.s x=true):=by
  unfold early Vbnlal.WAIT Vbnlal.AFTER
  simp
 refine⟨_,rfl,dZ T (s1 _ _ hi) ⟨rfl,_,rfl,ite2 (λh1=>⟨_,rfl,_,rfl,⟨a,i,p,x⟩,rfl,hx.same s1,_,rfl,ite2 (λh2=>?_) λh2=>?_⟩) λh1=>iteF ?_⟩⟩
 ·rw[if_pos (e2.mpr ⟨by simpa using h1,h2⟩)] at q
  exact⟨by decide,(q.stay B.at_).now s1 rfl⟩
 ·rw[if_neg (λy=>h2 (e2.mp y).2)] at q
  have hph:x.phase+1=2:=by
   have:x.phase=1:=by simpa using h1
   omega
  refine⟨_,rfl,dZ T (s1 _ _ hi) ⟨rfl,_,rfl,ifY h1 ⟨_,rfl,lX T (s1 _ _ hi) ?_⟩⟩⟩
  generalize hH1:upd H t (.tup [.int 1,.int 3])=H1 at s1 ⊢
  have c1:=s1 _ _ hc
  have nci:a.c≠p.1:=fX B.at_.o0 hx.case.o1 (by intro y;cases y)
  refine⟨_,rfl,fJ T (by rw[aV nci];exact c1) ⟨_,_,rfl,rfl,_,rfl,JK T upd_same ?_⟩⟩
  intro b hb
  have hb0:H1 b=none:=aW (aW hb)
  have nbp:p.1≠b:=aX (s1 _ _ hi) hb0
  refine⟨_,rfl,JQ T (by rw[aV nbp,upd_same]) ?_⟩
  refine⟨_,rfl,lY T upd_same ⟨l1,?_⟩⟩
  have hx1:=hx.same s1
  obtain⟨ow',B3,k3⟩:=hx1.ct.at_.upCase (x':={ x with phase:=x.phase+1,closing:=a.s.today+Vbnlal.VOTE,ballots:=[] }) hx1.hq hx1.hx b (.inr hb0) (H':=upd (upd (upd (upd H1 p.1 (.ins Ck dk (caseF (.ref p.2.2) (.int 2) (.int x.opened) (.int x.comments) (.int x.last) (.int x.closing) (.ref p.2.1) (.int x.published)))) p.1 (.ins Ck dk (caseF (.ref p.2.2) (.int 2) (.int x.opened) (.int x.comments) (.int x.last) (.int (a.s.today+90)) (.ref p.2.1) (.int x.published)))) b (.dK [])) p.1 (.ins Ck dk (caseF (.ref p.2.2) (.int 2) (.int x.opened) (.int x.comments) (.int x.last) (.int (a.s.today+90)) (.ref b) (.int x.published))))
   (λy o hy h1 h2=>by rw[aV h1,aV (aX hy hb0),aV h1,aV h1];exact hy) ⟨dk,by rw[upd_same];dsimp only;rw[hph];rfl⟩ (by rw[aV nbp.symm,upd_same];rfl) rfl rfl (λy h=>aW (aW (aW (aW h))))
  rw[<-kX B.good.cnd hx.hx (x':={ x with phase:=x.phase+1,closing:=a.s.today+Vbnlal.VOTE,ballots:=[] }) rfl] at B3
  exact(q.up s1).now B3 k3 rfl
 ·have h1':¬x.phase=1:=by simpa using h1
  rw[if_neg (λy=>h1' (e2.mp y).1)] at q
  have hph:x.phase+1=4:=by omega
  refine⟨_,rfl,dZ T (s1 _ _ hi) ⟨rfl,_,rfl,ifN h1 ⟨_,rfl,lX T (s1 _ _ hi) ?_⟩⟩⟩
  generalize hH1:upd H t (.tup [.int 1,.int 3])=H1 at s1 ⊢
  have c1:=s1 _ _ hc
  have nci:a.c≠p.1:=fX B.at_.o0 hx.case.o1 (by intro y;cases y)
  refine⟨_,rfl,fJ T (by rw[aV nci];exact c1) ⟨_,_,rfl,rfl,_,rfl,JK T upd_same ?_⟩⟩
  intro b hb
  have hb0:H1 b=none:=aW (aW hb)
  have nbp:p.1≠b:=aX (s1 _ _ hi) hb0
  refine⟨_,rfl,JQ T (by rw[aV nbp,upd_same]) ?_⟩
  refine⟨_,rfl,lY T upd_same ⟨l1,?_⟩⟩
  have hx1:=hx.same s1
  obtain⟨ow',B3,k3⟩:=hx1.ct.at_.upCase (x':={ x with phase:=x.phase+1,closing:=a.s.today+Vbnlal.VOTE,ballots:=[] }) hx1.hq hx1.hx b (.inr hb0) (H':=upd (upd (upd (upd H1 p.1 (.ins Ck dk (caseF (.ref p.2.2) (.int 4) (.int x.opened) (.int x.comments) (.int x.last) (.int x.closing) (.ref p.2.1) (.int x.published)))) p.1 (.ins Ck dk (caseF (.ref p.2.2) (.int 4) (.int x.opened) (.int x.comments) (.int x.last) (.int (a.s.today+90)) (.ref p.2.1) (.int x.published)))) b (.dK [])) p.1 (.ins Ck dk (caseF (.ref p.2.2) (.int 4) (.int x.opened) (.int x.comments) (.int x.last) (.int (a.s.today+90)) (.ref b) (.int x.published))))
   (λy o hy h1 h2=>by rw[aV h1,aV (aX hy hb0),aV h1,aV h1];exact hy) ⟨dk,by rw[upd_same];dsimp only;rw[hph];rfl⟩ (by rw[aV nbp.symm,upd_same];rfl) rfl rfl (λy h=>aW (aW (aW (aW h))))
  rw[<-kX B.good.cnd hx.hx (x':={ x with phase:=x.phase+1,closing:=a.s.today+Vbnlal.VOTE,ballots:=[] }) rfl] at B3
  exact(q.up s1).now B3 k3 rfl
abbrev abU:Stmt:=top 106
theorem anK:FnScope ["court", "key", "member", "v", "case"] ["court", "key", "member", "v"] (defScope abU):=mkSc
theorem aRX(F:Fun Z.K "ballot" "ballot" abU f fd)(T:Tx Z Cc Ck Cf):OkZ Z 1 f fd ["court", "key", "member", "v"] (spM3 Cc Ck λs k m v=>Vbnlal.step s (.ballot k m v)):=by
 refine okS F anK λs H Q E hr h=>?_
 obtain⟨⟨a,k,m,v⟩,rfl,B,q⟩:=h
 have hu:=dY hr
 refine⟨_,(aK
  (bQ (i:=4) anK.nd rfl (Or.inl rfl) (kJ hu (bX (pv 0) rfl) (pv 1) ⟨rfl,rfl,rfl,rfl⟩))
  (aK
  (bY (dW (jZ (pv 4)))
   (aQ
    (aU (bJ (aJ (bK T.g_NOT_THERE rfl) pa_nil))))
   aZ)
  (aK
  (bY (bZ lW (bX (pv 4) rfl) (gQ (aJ (bK T.g_FIRST_VOTE rfl) (aJ (bK T.g_SECOND_VOTE rfl) pa_nil))) rfl)
   (aQ
    (aU (bJ (aJ (bK T.g_WRONG_PHASE rfl) pa_nil))))
   aZ)
  (aK
  (bY (bZ TV (bX (pv 0) rfl) (bX (pv 4) rfl) (nomark _))
   (aQ
    (aU (bJ (aJ (bK T.g_WRONG_TIME rfl) pa_nil))))
   aZ)
  (aK
  (bY (dW (kW hu (pv 2) (bX (pv 0) rfl)) rfl)
   (aQ
    (aU (bJ (aJ (bK T.g_NOT_THERE rfl) pa_nil))))
   aZ)
  (aK
  (bY (bZ lW (pv 3) (gQ (aJ (bK T.g_FOR rfl) (aJ (bK T.g_AGAINST rfl) (aJ (bK T.g_NEITHER rfl) pa_nil)))) rfl)
   (aQ
    (aU (bJ (aJ (bK T.g_OUT_OF_RANGE rfl) pa_nil))))
   aZ)
  (aK
  (bY (dW (xQ hu (pv 2) (bX (pv 4) rfl)) rfl)
   (aQ
    (aU (bJ (aJ (bK T.g_THERE_ALREADY rfl) pa_nil))))
   aZ)
  (aK
  (oZ hu (bX (pv 4) rfl) (pv 2) (pv 3) rfl)
  (aQ
  (aU (bJ (aJ aY pa_nil)))))))))))),?_⟩
 dsimp only at B q
 rw[lK] at q
 obtain⟨dx,hc⟩:=B.at_.ins
 refine⟨_,rfl,cW T hc ⟨_,rfl,.inl ⟨_,.inl B.at_.cs⟩,_,rfl,_,DGet.k (k:=Sum.inl k) B.at_.cs,?_⟩⟩
 rcases B.seek k with ⟨e,hv⟩ | ⟨i,p,x,hx,e,hk,hv⟩
 ·rw[hv]
  rw[e] at q
  exact⟨_,rfl,_,rfl,iteT ⟨by decide,(q.stay B.at_).now (Same.refl _) rfl⟩⟩
 rw[hv]
 rw[e] at q
 dsimp only at q
 obtain⟨dk,hi⟩:=hx.case.ins
 dsimp only at hi
 refine⟨_,rfl,_,rfl,iteF ?_⟩
 refine⟨_,rfl,dZ T hi ⟨by decide,λt ht=>⟨t,_,rfl,.inr (SqT.of upd_same),rfl,rfl,_,rfl,ite2 (λh=>?_) λh=>?_⟩⟩⟩
 ·have hp:¬Vbnlal.voting x=true:=by
   rw[zY]
   simp[inV,eqV] at h
   omega
  rw[if_pos (by simpa using hp)] at q
  exact⟨by decide,(q.stay B.at_).now (Same.new ht) rfl⟩
 have hp:Vbnlal.voting x=true:=by
  rw[zY]
  simp[inV,eqV] at h
  omega
 rw[if_neg (by rw[hp];exact Bool.noConfusion)] at q
 have s1:Same H (upd H t (.tup [.int 2,.int 4])):=Same.new ht
 refine⟨_,rfl,fJ T (s1 _ _ hc) ⟨_,rfl,lY T (s1 _ _ hi) ⟨_,_,rfl,rfl,_,rfl,ite2 (λh=>?_) λh=>?_⟩⟩⟩
 ·rw[if_pos (by simpa using h)] at q
  exact⟨by decide,(q.stay B.at_).now s1 rfl⟩
 rw[if_neg (by simpa using h)] at q
 rw[B.good.office] at q
 refine⟨_,rfl,_,rfl,cY T (s1 _ _ hc) ⟨_,_,rfl,DGet.k (k:=Sum.inl m) (s1 _ _ B.at_.ld),_,rfl,ite2 (λh=>?_) λh=>?_⟩⟩
 ·rw[oU] at h
  rw[if_pos (by simpa using h)] at q
  exact⟨by decide,(q.stay B.at_).now s1 rfl⟩
 rw[oU] at h
 rw[if_neg (by simpa using h)] at q
 refine⟨_,rfl,by decide,λt2 ht2=>⟨t2,_,rfl,.inr (SqT.of upd_same),rfl,rfl,_,rfl,ite2 (λh=>?_) λh=>?_⟩⟩
 ·have hv3:Vbnlal.within v 1 3=false:=by
   unfold Vbnlal.within
   simp[inV,eqV] at h
   simp
   omega
  rw[if_pos hv3] at q
  exact⟨by decide,(q.stay B.at_).now (s1.trans (Same.new ht2)) rfl⟩
 have hv3:¬Vbnlal.within v 1 3=false:=by
  unfold Vbnlal.within
  simp[inV,eqV] at h
  simp
  omega
 rw[if_neg hv3] at q
 have s2:=s1.trans (Same.new (o:=.tup [.int 1,.int 2,.int 3]) ht2)
 generalize hH2:upd (upd H t (.tup [.int 2,.int 4])) t2 (.tup [.int 1,.int 2,.int 3])=H2 at s2 ⊢
 refine⟨_,rfl,_,rfl,jU T (s2 _ _ hi) ⟨_,_,rfl,DGet.k (k:=Sum.inl m) (s2 _ _ hx.case.bal),_,rfl,ite2 (λh=>?_) λh=>?_⟩⟩
 ·rw[CK] at h
  rw[if_pos h] at q
  exact⟨by decide,(q.stay B.at_).now s2 rfl⟩
 have hn:valV (kvI x.ballots) (Sum.inl m)=none:=by
  cases z:valV (kvI x.ballots) (Sum.inl m) with
  |none=>rfl
  |some v=>rw[z] at h;exact absurd rfl h
 rw[CK] at h
 rw[if_neg h] at q
 have few:=B.few
 have b400:=(B.good.ok _ hx.mem).bal
 refine⟨_,rfl,_,rfl,jU T (s2 _ _ hi) ⟨_,rfl,_,_,rfl,DPut.k (k:=Sum.inl m) (s2 _ _ hx.case.bal) (small1000 (by rw[List.length_map];dsimp only at b400 ⊢;omega)),?_⟩⟩
 have hx2:=hx.same s2
 have nip:p.1≠p.2.1:=fX hx.case.o1 hx.case.o2 (by intro y;cases y)
 obtain⟨ow',B3,k3⟩:=hx2.ct.at_.upCase (x':={ x with ballots:=x.ballots++[(m,v)] }) hx2.hq hx2.hx p.2.1 (.inl rfl) (H':=upd H2 p.2.1 (.dK (putK (kvI x.ballots) (Sum.inl m) (V.int v))))
  (λy o hy h1 h2=>by rw[aV h2];exact hy) ⟨dk,by rw[aV nip];exact s2 _ _ hi⟩ (by rw[upd_same,uK _ hn];exact congrArg (λl=>some (HO.dK l)) (avV x.ballots (m,v)).symm) rfl rfl (λy h=>aW h)
 rw[<-kX B.good.cnd hx.hx (x':={ x with ballots:=x.ballots++[(m,v)] }) rfl] at B3
 exact⟨by decide,(q.up s2).now B3 k3 rfl⟩
abbrev ajK:Stmt:=top 111
theorem avZ:FnScope ["court", "key", "case"] ["court", "key"] (defScope ajK):=mkSc
theorem aWX(F:Fun Z.K "close" "close" ajK f fd)(T:Tx Z Cc Ck Cf)(D_all_have_voted:DefOk Z 1 "all_have_voted" ["court", "case"] (spVoted Cc Ck))(D_outcome:DefOk Z 2 "outcome" ["court", "case"] (spOut Cc Ck)):OkZ Z 3 f fd ["court", "key"] (spM1 Cc Ck λs k=>Vbnlal.step s (.close k)):=by
 refine okS F avZ λs H Q E hr h=>?_
 obtain⟨⟨a,k⟩,rfl,B,q⟩:=h
 have hu:=dY hr
 refine⟨_,(aK
  (bQ (i:=2) avZ.nd rfl (Or.inl rfl) (kJ hu (bX (pv 0) rfl) (pv 1) ⟨rfl,rfl,rfl,rfl⟩))
  (aK
  (bY (dW (jZ (pv 2)))
   (aQ
    (aU (bJ (aJ (bK T.g_NOT_THERE rfl) pa_nil))))
   aZ)
  (aK
  (bY (bZ lW (bX (pv 2) rfl) (gQ (aJ (bK T.g_FIRST_VOTE rfl) (aJ (bK T.g_SECOND_VOTE rfl) pa_nil))) rfl)
   (aQ
    (aU (bJ (aJ (bK T.g_WRONG_PHASE rfl) pa_nil))))
   aZ)
  (aK
  (bY (PW.pt (qJ (bZ oY (bX (pv 0) rfl) (bX (pv 2) rfl) (nomark _)) (nV (iU (fQ (cJ D_all_have_voted (hr.mono (by decide)) rfl (aJ (pv 0) (aJ (pv 2) pa_nil))))))))
   (aQ
    (aU (bJ (aJ (bK T.g_WRONG_TIME rfl) pa_nil))))
   aZ)
  (aK
  (eX (pv 2) (cJ D_outcome (hr.mono (by decide)) rfl (aJ (pv 0) (aJ (pv 2) pa_nil))) rfl)
  (aQ
  (aU (bJ (aJ (bX (pv 2) rfl) pa_nil))))))))),?_⟩
 dsimp only at B q
 rw[mU] at q
 obtain⟨dx,hc⟩:=B.at_.ins
 refine⟨_,rfl,cW T hc ⟨_,rfl,.inl ⟨_,.inl B.at_.cs⟩,_,rfl,_,DGet.k (k:=Sum.inl k) B.at_.cs,?_⟩⟩
 rcases B.seek k with ⟨e,hv⟩ | ⟨i,p,x,hx,e,hk,hv⟩
 ·rw[hv]
  rw[e] at q
  exact⟨_,rfl,_,rfl,iteT ⟨by decide,(q.stay B.at_).now (Same.refl _) rfl⟩⟩
 rw[hv]
 rw[e] at q
 dsimp only at q
 obtain⟨dk,hi⟩:=hx.case.ins
 dsimp only at hi
 refine⟨_,rfl,_,rfl,iteF ?_⟩
 refine⟨_,rfl,dZ T hi ⟨by decide,λt ht=>⟨t,_,rfl,.inr (SqT.of upd_same),rfl,rfl,_,rfl,ite2 (λh=>?_) λh=>?_⟩⟩⟩
 ·have hp:¬Vbnlal.voting x=true:=by
   rw[zY]
   simp[inV,eqV] at h
   omega
  rw[if_pos (by simpa using hp)] at q
  exact⟨by decide,(q.stay B.at_).now (Same.new ht) rfl⟩
 have hp:Vbnlal.voting x=true:=by
  rw[zY]
  simp[inV,eqV] at h
  omega
 rw[if_neg (by rw[hp];exact Bool.noConfusion)] at q
 have s1:Same H (upd H t (.tup [.int 2,.int 4])):=Same.new ht
 refine⟨_,rfl,fJ T (s1 _ _ hc) ⟨_,rfl,lY T (s1 _ _ hi) ⟨_,_,rfl,rfl,_,rfl,ite2 (λh1=>⟨_,rfl,_,rfl,⟨a,i,p,x⟩,rfl,hx.same s1,λH2 s2=>⟨_,rfl,ite2 (λh2=>?_) λh2=>?_⟩⟩) λh1=>iteF ?_⟩⟩⟩
 ·rw[if_pos ⟨by simpa using h1,by simpa using h2⟩] at q
  exact⟨by decide,(q.stay B.at_).now (s1.trans s2) rfl⟩
 ·rw[if_neg (λy=>h2 (by rw[y.2];rfl))] at q
  have s2:=s1.trans s2
  refine⟨_,rfl,_,rfl,⟨a,i,p,x⟩,rfl,hx.same s2,λH3 s3=>⟨_,rfl,lX T (s3 _ _ (s2 _ _ hi)) ?_⟩⟩
  have s4:=s2.trans s3
  have hx4:=hx.same s4
  refine⟨_,rfl,dZ T upd_same ⟨l1,?_⟩⟩
  obtain⟨ow',B3,k3⟩:=hx4.ct.at_.upCase (x':={ x with phase:=Vbnlal.outcome a.s x }) hx4.hq hx4.hx p.2.1 (.inl rfl) (H':=upd H3 p.1 (.ins Ck dk (caseF (.ref p.2.2) (.int (Vbnlal.outcome a.s x)) (.int x.opened) (.int x.comments) (.int x.last) (.int x.closing) (.ref p.2.1) (.int x.published))))
   (λy o hy h1 h2=>by rw[aV h1];exact hy) ⟨dk,upd_same⟩ (by rw[aV (fX hx.case.o2 hx.case.o1 (by intro y;cases y))];exact hx4.case.bal) rfl rfl (λy h=>aW h)
  rw[<-kX B.good.cnd hx.hx (x':={ x with phase:=Vbnlal.outcome a.s x }) rfl] at B3
  exact(q.up s4).now B3 k3 rfl
 ·rw[if_neg (λy=>h1 (decide_eq_true y.1))] at q
  have s2:=s1
  refine⟨_,rfl,_,rfl,⟨a,i,p,x⟩,rfl,hx.same s2,λH3 s3=>⟨_,rfl,lX T (s3 _ _ (s2 _ _ hi)) ?_⟩⟩
  have s4:=s2.trans s3
  have hx4:=hx.same s4
  refine⟨_,rfl,dZ T upd_same ⟨l1,?_⟩⟩
  obtain⟨ow',B3,k3⟩:=hx4.ct.at_.upCase (x':={ x with phase:=Vbnlal.outcome a.s x }) hx4.hq hx4.hx p.2.1 (.inl rfl) (H':=upd H3 p.1 (.ins Ck dk (caseF (.ref p.2.2) (.int (Vbnlal.outcome a.s x)) (.int x.opened) (.int x.comments) (.int x.last) (.int x.closing) (.ref p.2.1) (.int x.published))))
   (λy o hy h1 h2=>by rw[aV h1];exact hy) ⟨dk,upd_same⟩ (by rw[aV (fX hx.case.o2 hx.case.o1 (by intro y;cases y))];exact hx4.case.bal) rfl rfl (λy h=>aW h)
  rw[<-kX B.good.cnd hx.hx (x':={ x with phase:=Vbnlal.outcome a.s x }) rfl] at B3
  exact(q.up s4).now B3 k3 rfl
abbrev UU:Stmt:=top 112
theorem LV:FnScope ["court", "key", "case", "v"] ["court", "key"] (defScope UU):=mkSc
theorem aWY(F:Fun Z.K "tally" "tally" UU f fd)(T:Tx Z Cc Ck Cf)(D_ballots_cast:DefOk Z 1 "ballots_cast" ["case", "v"] (spCast Cc Ck)):OkZ Z 2 f fd ["court", "key"] (spR1 Cc Ck λs k=>(Vbnlal.step s (.tally k)).2):=by
 refine okS F LV λs H Q E hr h=>?_
 obtain⟨⟨a,k⟩,rfl,B,q⟩:=h
 have hu:=dY hr
 refine⟨_,(aK
  (bQ (i:=2) LV.nd rfl (Or.inr rfl) (kJ hu (bX (pv 0) rfl) (pv 1) ⟨rfl,rfl,rfl,rfl⟩))
  (aK
  (bY (dW (jZ (pv 2)))
   (aQ
    (aU (bJ (aJ (bK T.g_NOT_THERE rfl) pa_nil))))
   aZ)
  (aQ
  (aU (gY QK (bJ (aJ aY pa_nil)) (kU (own:=[("v",3)]) rfl LV.nd (bfQ (gQ (aJ (bK T.g_FOR rfl) (aJ (bK T.g_AGAINST rfl) (aJ (bK T.g_NEITHER rfl) pa_nil))))) (eK (by show blkC ["court", "key", "case", "v"] (defScope UU) _ _=true;decide +kernel)) (λ_ _ _ _ _=>by exact cK (i:=3) LV.nd rfl (Or.inl rfl)) (λ_ _ _ _ _=>jQ) (λ_ _ _ _ _=>by exact(cJ D_ballots_cast (hr.mono (by decide)) rfl (aJ (pv 2) (aJ (pv 3) pa_nil)))))))))),?_⟩
 dsimp only at B q
 have q0:RetL H Q ((match Vbnlal.caseOf a.s k with | none=>(a.s,[-6]) | some c=>(a.s,[0,Vbnlal.votes c 1,Vbnlal.votes c 2,Vbnlal.votes c 3]):State×List Int)).2:=q
 clear q
 have q:=q0
 obtain⟨dx,hc⟩:=B.at_.ins
 refine⟨_,rfl,cW T hc ⟨_,rfl,.inl ⟨_,.inl B.at_.cs⟩,_,rfl,_,DGet.k (k:=Sum.inl k) B.at_.cs,?_⟩⟩
 rcases B.seek k with ⟨e,hv⟩ | ⟨i,p,x,hx,e,hk,hv⟩
 ·rw[hv]
  rw[e] at q
  exact⟨_,rfl,_,rfl,iteT ⟨by decide,(q).now (Same.refl _) rfl⟩⟩
 rw[hv]
 rw[e] at q
 dsimp only at q
 obtain⟨dk,hi⟩:=hx.case.ins
 dsimp only at hi
 refine⟨_,rfl,_,rfl,iteF ?_⟩
 refine⟨by decide,λl hl=>⟨by decide,λt ht=>?_⟩⟩
 have s1:Same H (upd (upd H l (.lst [.int 0])) t (.tup [.int 1,.int 2,.int 3])):=(Same.new hl).trans (Same.new ht)
 refine⟨t,rfl,⟨_,SqT.of upd_same⟩,λD hD=>?_⟩
 generalize hH1:upd (upd H l (.lst [.int 0])) t (.tup [.int 1,.int 2,.int 3])=H1 at s1 hD ⊢
 have ht1:H1 t=some (.tup [.int 1,.int 2,.int 3]):=by rw[<-hH1,upd_same]
 have hl1:H1 l=some (.lst [.int 0]):=by rw[<-hH1,aV (aX upd_same ht),upd_same]
 refine lct (K:=Z.K) (xs:=[.int 1,.int 2,.int 3]) (λi=>(([1,2,3]:List Int).take i).map λw=>V.int (Vbnlal.votes x w)) hD (SqT.of ht1) rfl (λi _=>small1000 (by rw[List.length_map];have:=fK i ([1,2,3]:List Int);simp at this ⊢;omega)) ?_ ?_
 ·intro j y H2 hy s2 k' nx h1 h2
  obtain⟨w,hw,rfl⟩:=gmap (f:=V.int) (l:=[1,2,3]) hy
  refine⟨rfl,_,rfl,_,rfl,⟨⟨a,i,p,x⟩,w⟩,rfl,hx.same (s1.trans s2),λH3 s3=>h1 _ _ s3 (by rw[bU hw,List.map_append];rfl)⟩
 ·intro H2 s2 hD2
  refine⟨l,D,_,_,rfl,rfl,s2 _ _ hl1,hD2,(by show 4<=sizeLine;decide),?_⟩
  exact q.now (s1.trans s2) rfl
end
def spInitCase(Ck:Addr):Sp:=mkSp (λp:Addr×Addr×Int=>[.ref p.1,.ref p.2.1,.int p.2.2]) λp H Q=>∃dx,H p.1=some (.ins Ck dx [])/\
 ∀H' b,But p.1 H H'->H' p.1=some (.ins Ck dx (caseF (.ref p.2.1) (.int 1) (.int p.2.2) (.int 0) (.int p.2.2) (.int 0) (.ref b) (.int 0)))->H b=none->H' b=some (.dK [])->(∀y,H' y=none->H y=none)->Q .non H'
def spNoRuling(Cc Ck:Addr):Sp:=mkSp (λp:Ct×Addr×List Addr×List Effect=>[.ref p.1.c,.ref p.2.1]) λp H Q=>CtOk Cc Ck H p.1/\PropsAt H p.2.1 p.2.2.1 p.2.2.2/\p.2.2.2.length<=6/\Q (.bl (!Vbnlal.targetsOk p.1.s p.2.2.2)) H
def spProps(K:PySem.W.Frag):Sp:=mkSp (λp:Addr×List Int=>[.ref p.1]) λp H Q=>SqL K H p.1 (p.2.map V.int)/\Vbnlal.textOk p.2=true/\
 ∀H',Same H H'->(props p.2=none->Q .non H')/\∀es pa ts,props p.2=some es->H pa=none->PropsAt H' pa ts es->Q (.ref pa) H'
def refus:Option (List Effect)->Int
 |none=>-1
 |some es=>if Vbnlal.CLAUSES<es.length then -3 else if es.all Vbnlal.numbersOk=false then -2 else if es.any (λe=>e.kind==3&&e.a==e.b)=true then -10 else 0
theorem aeY(t:List Int):Vbnlal.read t=match props t with
 |none=>.error (-1)
 |some es=>if refus (some es)<0 then .error (refus (some es)) else .ok es:=by
 rw[aFV]
 cases props t with
 |none=>rfl
 |some es=>
  dsimp only[refus]
  repeat' split
  all_goals first | rfl | omega
theorem anQ{es:List Effect}(h:¬refus (some es)<0):es.length<=6:=by
 unfold refus at h
 dsimp only at h
 by_cases z:Vbnlal.CLAUSES<es.length
 ·rw[if_pos z] at h
  omega
 ·unfold Vbnlal.CLAUSES at z
  omega
theorem qQ:∀ts:List Vbnlal.Token,(Vbnlal.clauses ts).length<=ts.length+1
 |[]=>by simp[Vbnlal.clauses]
 |.semi::r=>by
  have:=qQ r
  show(Vbnlal.clauses r).length+1<=r.length+1+1
  omega
 |.word w::r=>by
  have ih:=qQ r
  have hne:=iZ r
  cases e:Vbnlal.clauses r with
  |nil=>exact absurd e hne
  |cons f fs=>
   rw[nQ (t:=.word w) (λq=>nomatch q) e]
   rw[e] at ih
   simp at ih ⊢
   omega
 |.num w::r=>by
  have ih:=qQ r
  have hne:=iZ r
  cases e:Vbnlal.clauses r with
  |nil=>exact absurd e hne
  |cons f fs=>
   rw[nQ (t:=.num w) (λq=>nomatch q) e]
   rw[e] at ih
   simp at ih ⊢
   omega
theorem uW:∀(n:Nat)(l:List Int),l.length<=n->∀ts,tok l=some ts->ts.length<=l.length
 |_,[],_,ts,h=>by
  rw[ahW] at h
  cases h
  exact Nat.le_refl _
 |0,c::r,hn,_,_=>by simp at hn
 |n+1,c::r,hn,ts,h=>by
  have hr:r.length<=n:=Nat.le_of_succ_le_succ hn
  rw[YQ] at h
  by_cases h1:c=32
  ·rw[if_pos h1] at h
   exact Nat.le_trans (uW n r hr ts h) (Nat.le_succ _)
  rw[if_neg h1] at h
  by_cases h2:c=59
  ·rw[if_pos h2] at h
   obtain⟨l,hl,rfl⟩:=Option.map_eq_some_iff.mp h
   exact Nat.succ_le_succ (uW n r hr l hl)
  rw[if_neg h2] at h
  by_cases h3:Vbnlal.isLetter c=true
  ·rw[if_pos h3] at h
   obtain⟨l,hl,rfl⟩:=Option.map_eq_some_iff.mp h
   have q:=iQ (l:=r) h3
   have q2:((c::r).dropWhile Vbnlal.isLetter).length<=n:=by simp at q hn ⊢;omega
   have:=uW n _ q2 l hl
   show l.length+1<=_
   omega
  rw[if_neg h3] at h
  by_cases h4:Vbnlal.isDigit c=true
  ·rw[if_pos h4] at h
   obtain⟨l,hl,rfl⟩:=Option.map_eq_some_iff.mp h
   have q:=iQ (l:=r) h4
   have q2:((c::r).dropWhile Vbnlal.isDigit).length<=n:=by simp at q hn ⊢;omega
   have:=uW n _ q2 l hl
   show l.length+1<=_
   omega
  rw[if_neg h4] at h
  cases h
theorem aeZ{t:List Int}(h:Vbnlal.textOk t=true):t.length<=300:=by
 unfold Vbnlal.textOk at h
 rw[Bool.and_eq_true] at h
 exact of_decide_eq_true h.1
theorem anU{t:List Int}{es:List Effect}(h:Vbnlal.textOk t=true)(e:props t=some es):es.length<=301:=by
 unfold props at e
 cases et:tok t with
 |none=>rw[et] at e;cases e
 |some ts=>
  rw[et] at e
  have h1:=(PJ (show(Vbnlal.clauses ts).mapM Vbnlal.clause=some es from e)).1
  have h2:=qQ ts
  have h3:=uW _ t (Nat.le_refl _) ts et
  have h4:=aeZ h
  omega
abbrev PArg:=Option (Addr×List Addr×List Effect)
def pv1:PArg->V
 |none=>.non
 |some x=>.ref x.1
def spRefusal:Sp:=mkSp (λp:PArg=>[pv1 p]) λp H Q=>(∀x,p=some x->PropsAt H x.1 x.2.1 x.2.2/\x.2.2.length<=301)/\∀H',Same H H'->Q (.int (refus (p.map λx=>x.2.2))) H'
def spPetition(Cc Ck:Addr)(K:PySem.W.Frag):Sp:=mkSp (λp:Ct×Int×Addr×List Int=>[.ref p.1.c,.int p.2.1,.ref p.2.2.1]) λp H Q=>CtOk Cc Ck H p.1/\SqL K H p.2.2.1 (p.2.2.2.map V.int)/\Vbnlal.textOk p.2.2.2=true/\RetM Cc Ck H p.1 Q (petitionM p.1.s p.2.1 p.2.2.2)
def spForm:Sp:=mkSp (λp:Addr×List Addr×List Effect=>[.ref p.1]) λp H Q=>PropsAt H p.1 p.2.1 p.2.2/\p.2.2≠[]/\p.2.2.length<=6/\(∀e∈p.2.2,EffOk e)/\((Vbnlal.written p.2.2).length<=1000->RetL H Q (Vbnlal.written p.2.2))
def about(e:Effect)(n:Int):Bool:=(decide (e.kind<=4)&&e.a==n) || (e.kind==3&&e.b==n)
def spAbout:Sp:=mkSp (λp:Addr×Effect×Int=>[.ref p.1,.int p.2.2]) λp H Q=>TupAt H p.1 p.2.1/\Q (.bl (about p.2.1 p.2.2)) H
def spPending(Cc Ck:Addr):Sp:=mkSp (λz:Cs×Int=>[.ref z.1.q.1,.int z.2]) λz H Q=>CsOk Cc Ck H z.1/\∀H',Same H H'->Q (.bl (decide (z.1.x.phase<=5)&&Vbnlal.speaks z.1.x z.2)) H'
theorem PropsAt.at{H:Hp}{p:Addr}{ts:List Addr}{es:List Effect}(P:PropsAt H p ts es){i:Nat}{y:V}(h:(ts.map V.ref)[i]? = some y):∃t e,y = .ref t/\es[i]? = some e/\H t=some (.tup [.int e.kind,.int e.a,.int e.b]):=by
 obtain⟨t,ht,rfl⟩:=gmap h
 have hl:=(List.getElem?_eq_some_iff.mp ht).1
 have he:i<es.length:=by rw[<-P.len];exact hl
 exact⟨t,es[i],rfl,List.getElem?_eq_getElem he,P.tup i t _ ht (List.getElem?_eq_getElem he)⟩
theorem in_ints(n:Int)(l:List Int):inV (.int n) (l.map V.int)=l.contains n:=by
 unfold inV
 rw[List.any_map,List.contains_eq_any_beq,Bool.eq_iff_iff,List.any_eq_true,List.any_eq_true]
 exact⟨λ⟨x,hx,h⟩=>⟨x,hx,by have:(x==n)=true:=h;rw[beq_iff_eq] at this ⊢;exact this.symm⟩,λ⟨x,hx,h⟩=>⟨x,hx,by show(x==n)=true;rw[beq_iff_eq] at h ⊢;exact h.symm⟩⟩
theorem EW(l:List Int):(l.map V.int).all flatV=true:=by
 rw[List.all_map]
 exact List.all_eq_true.mpr λ_ _=>rfl
section
variable{Z:Wd}{Cc Ck Cf f:Addr}{fd:FuncData}
abbrev LW:Stmt:=top 55
theorem XJ:FnScope ["court", "key", "case"] ["court", "key"] (defScope LW):=mkSc
theorem aCX(F:Fun Z.K "withdraw" "withdraw" LW f fd)(T:Tx Z Cc Ck Cf):OkZ Z 1 f fd ["court", "key"] (spM1 Cc Ck λs k=>Vbnlal.step s (.withdraw k)):=by
 refine okS F XJ λs H Q E hr h=>?_
 obtain⟨⟨a,k⟩,rfl,B,q⟩:=h
 have hu:=dY hr
 refine⟨_,(aK
  (bQ (i:=2) XJ.nd rfl (Or.inl rfl) (kJ hu (bX (pv 0) rfl) (pv 1) ⟨rfl,rfl,rfl,rfl⟩))
  (aK
  (bY (dW (jZ (pv 2)))
   (aQ
    (aU (bJ (aJ (bK T.g_NOT_THERE rfl) pa_nil))))
   aZ)
  (aK
  (bY (bZ lW (bX (pv 2) rfl) (gQ (aJ (bK T.g_COMMENTS rfl) (aJ (bK T.g_BEFORE_SECOND_VOTE rfl) pa_nil))) rfl)
   (aQ
    (aU (bJ (aJ (bK T.g_WRONG_PHASE rfl) pa_nil))))
   aZ)
  (aK
  (eX (pv 2) (bK T.g_WITHDRAWN rfl) rfl)
  (aQ
  (aU (bJ (aJ aY pa_nil)))))))),?_⟩
 dsimp only at B q
 rw[iW] at q
 obtain⟨dx,hc⟩:=B.at_.ins
 refine⟨_,rfl,cW T hc ⟨_,rfl,.inl ⟨_,.inl B.at_.cs⟩,_,rfl,_,DGet.k (k:=Sum.inl k) B.at_.cs,?_⟩⟩
 rcases B.seek k with ⟨e,hv⟩ | ⟨i,p,x,hx,e,hk,hv⟩
 ·rw[hv]
  rw[e] at q
  exact⟨_,rfl,_,rfl,iteT ⟨by decide,(q.stay B.at_).now (Same.refl _) rfl⟩⟩
 rw[hv]
 rw[e] at q
 dsimp only at q
 obtain⟨dk,hi⟩:=hx.case.ins
 dsimp only at hi
 refine⟨_,rfl,_,rfl,iteF ?_⟩
 refine⟨_,rfl,dZ T hi ⟨by decide,λt ht=>⟨t,_,rfl,.inr (SqT.of upd_same),rfl,rfl,_,rfl,ite2 (λh=>?_) λh=>?_⟩⟩⟩
 ·rw[if_neg (by simp[inV,eqV] at h;omega)] at q
  exact⟨by decide,(q.stay B.at_).now (Same.new ht) rfl⟩
 rw[if_pos (by simp[inV,eqV] at h;omega)] at q
 have s1:Same H (upd H t (.tup [.int 1,.int 3])):=Same.new ht
 generalize hH1:upd H t (.tup [.int 1,.int 3])=H1 at s1 ⊢
 refine⟨_,rfl,lX T (s1 _ _ hi) ?_⟩
 have hx4:=hx.same s1
 obtain⟨ow',B3,k3⟩:=hx4.ct.at_.upCase (x':={ x with phase:=7 }) hx4.hq hx4.hx p.2.1 (.inl rfl) (H':=upd H1 p.1 (.ins Ck dk (caseF (.ref p.2.2) (.int 7) (.int x.opened) (.int x.comments) (.int x.last) (.int x.closing) (.ref p.2.1) (.int x.published))))
  (λy o hy h1 h2=>by rw[aV h1];exact hy) ⟨dk,upd_same⟩ (by rw[aV (fX hx.case.o2 hx.case.o1 (by intro y;cases y))];exact hx4.case.bal) rfl rfl (λy h=>aW h)
 rw[<-kX B.good.cnd hx.hx (x':={ x with phase:=7 }) rfl] at B3
 exact⟨by decide,(q.up s1).now B3 k3 rfl⟩
abbrev RW:Stmt:=top 56
theorem afJ:FnScope ["court", "key", "case"] ["court", "key"] (defScope RW):=mkSc
theorem aLQ(F:Fun Z.K "comment" "comment" RW f fd)(T:Tx Z Cc Ck Cf):OkZ Z 1 f fd ["court", "key"] (spM1 Cc Ck λs k=>Vbnlal.step s (.comment k)):=by
 refine okS F afJ λs H Q E hr h=>?_
 obtain⟨⟨a,k⟩,rfl,B,q⟩:=h
 have hu:=dY hr
 refine⟨_,(aK
  (bQ (i:=2) afJ.nd rfl (Or.inl rfl) (kJ hu (bX (pv 0) rfl) (pv 1) ⟨rfl,rfl,rfl,rfl⟩))
  (aK
  (bY (dW (jZ (pv 2)))
   (aQ
    (aU (bJ (aJ (bK T.g_NOT_THERE rfl) pa_nil))))
   aZ)
  (aK
  (bY (bZ acY (bX (pv 2) rfl) (bK T.g_COMMENTS rfl) (nomark _))
   (aQ
    (aU (bJ (aJ (bK T.g_WRONG_PHASE rfl) pa_nil))))
   aZ)
  (aK
  (bY (bZ acZ (bX (pv 2) rfl) (bK T.g_MOST_COMMENTS rfl) (nomark _))
   (aQ
    (aU (bJ (aJ (bK T.g_FULL rfl) pa_nil))))
   aZ)
  (aK
  (QJ (pv 2) aY atW)
  (aK
  (eX (pv 2) (bX (pv 0) rfl) rfl)
  (aQ
  (aU (bJ (aJ (bX (pv 2) rfl) pa_nil)))))))))),?_⟩
 dsimp only at B q
 rw[jX] at q
 obtain⟨dx,hc⟩:=B.at_.ins
 refine⟨_,rfl,cW T hc ⟨_,rfl,.inl ⟨_,.inl B.at_.cs⟩,_,rfl,_,DGet.k (k:=Sum.inl k) B.at_.cs,?_⟩⟩
 rcases B.seek k with ⟨e,hv⟩ | ⟨i,p,x,hx,e,hk,hv⟩
 ·rw[hv]
  rw[e] at q
  exact⟨_,rfl,_,rfl,iteT ⟨by decide,(q.stay B.at_).now (Same.refl _) rfl⟩⟩
 rw[hv]
 rw[e] at q
 dsimp only at q
 obtain⟨dk,hi⟩:=hx.case.ins
 dsimp only at hi
 refine⟨_,rfl,_,rfl,iteF ?_⟩
 refine⟨_,rfl,dZ T hi ⟨rfl,_,rfl,ite2 (λh=>?_) λh=>?_⟩⟩
 ·rw[if_pos (by simpa using h)] at q
  exact⟨by decide,(q.stay B.at_).now (Same.refl _) rfl⟩
 rw[if_neg (by simpa using h)] at q
 refine⟨_,rfl,nY T hi ⟨_,_,rfl,rfl,_,rfl,ite2 (λh=>?_) λh=>?_⟩⟩
 ·rw[if_pos (by unfold Vbnlal.COMMENTS;simpa using h)] at q
  exact⟨by decide,(q.stay B.at_).now (Same.refl _) rfl⟩
 rw[if_neg (by unfold Vbnlal.COMMENTS;simpa using h)] at q
 have nci:a.c≠p.1:=fX B.at_.o0 hx.case.o1 (by intro y;cases y)
 refine⟨_,rfl,p.1,Ck,dk,_,_,rfl,hi,T.c_Case,T.a_case_comments,JJ _ _ _ _ _ _ _ _,_,_,rfl,rfl,dk,_,hi,(by show 8<1000;decide),?_⟩
 rw[QZ]
 refine⟨_,rfl,fJ T (by rw[aV nci];exact hc) ⟨_,rfl,OV T upd_same ?_⟩⟩
 refine⟨_,rfl,nY T upd_same ⟨l1,?_⟩⟩
 obtain⟨ow',B3,k3⟩:=hx.ct.at_.upCase (x':={ x with comments:=x.comments+1,last:=a.s.today }) hx.hq hx.hx p.2.1 (.inl rfl) (H':=upd (upd H p.1 (.ins Ck dk (caseF (.ref p.2.2) (.int x.phase) (.int x.opened) (.int (x.comments+1)) (.int x.last) (.int x.closing) (.ref p.2.1) (.int x.published)))) p.1 (.ins Ck dk (caseF (.ref p.2.2) (.int x.phase) (.int x.opened) (.int (x.comments+1)) (.int a.s.today) (.int x.closing) (.ref p.2.1) (.int x.published))))
  (λy o hy h1 h2=>by rw[aV h1,aV h1];exact hy) ⟨dk,upd_same⟩ (by have n:=fX hx.case.o2 hx.case.o1 (by intro y;cases y);rw[aV n,aV n];exact hx.case.bal) rfl rfl (λy h=>aW (aW h))
 rw[<-kX B.good.cnd hx.hx (x':={ x with comments:=x.comments+1,last:=a.s.today }) rfl] at B3
 exact q.now B3 k3 rfl
abbrev RX:Stmt:=top 57
theorem afK:FnScope ["court", "key", "case"] ["court", "key"] (defScope RX):=mkSc
theorem aLU(F:Fun Z.K "publish" "publish" RX f fd)(T:Tx Z Cc Ck Cf):OkZ Z 1 f fd ["court", "key"] (spM1 Cc Ck λs k=>Vbnlal.step s (.publish k)):=by
 refine okS F afK λs H Q E hr h=>?_
 obtain⟨⟨a,k⟩,rfl,B,q⟩:=h
 have hu:=dY hr
 refine⟨_,(aK
  (bQ (i:=2) afK.nd rfl (Or.inl rfl) (kJ hu (bX (pv 0) rfl) (pv 1) ⟨rfl,rfl,rfl,rfl⟩))
  (aK
  (bY (dW (jZ (pv 2)))
   (aQ
    (aU (bJ (aJ (bK T.g_NOT_THERE rfl) pa_nil))))
   aZ)
  (aK
  (bY (bZ acY (bX (pv 2) rfl) (bK T.g_ADOPTED rfl) (nomark _))
   (aQ
    (aU (bJ (aJ (bK T.g_WRONG_PHASE rfl) pa_nil))))
   aZ)
  (aK
  (eX (pv 2) (bK T.g_PUBLISHED rfl) rfl)
  (aK
  (eX (pv 2) (bX (pv 0) rfl) rfl)
  (aK
  (gJ (mW PySem.F.plainAttrs_list PySem.F.slot_list_append PySem.F.type_list_append mK (bX (pv 0) rfl) (aJ (pv 1) pa_nil)))
  (aQ
  (aU (bJ (aJ (cX eZ (by rfl) T.n_len PySem.boot_len (aJ (bX (pv 0) rfl) pa_nil)) pa_nil)))))))))),?_⟩
 dsimp only at B q
 rw[jY] at q
 obtain⟨dx,hc⟩:=B.at_.ins
 refine⟨_,rfl,cW T hc ⟨_,rfl,.inl ⟨_,.inl B.at_.cs⟩,_,rfl,_,DGet.k (k:=Sum.inl k) B.at_.cs,?_⟩⟩
 rcases B.seek k with ⟨e,hv⟩ | ⟨i,p,x,hx,e,hk,hv⟩
 ·rw[hv]
  rw[e] at q
  exact⟨_,rfl,_,rfl,iteT ⟨by decide,(q.stay B.at_).now (Same.refl _) rfl⟩⟩
 rw[hv]
 rw[e] at q
 dsimp only at q
 obtain⟨dk,hi⟩:=hx.case.ins
 dsimp only at hi
 refine⟨_,rfl,_,rfl,iteF ?_⟩
 refine⟨_,rfl,dZ T hi ⟨rfl,_,rfl,ite2 (λh=>?_) λh=>?_⟩⟩
 ·rw[if_pos (by simpa using h)] at q
  exact⟨by decide,(q.stay B.at_).now (Same.refl _) rfl⟩
 rw[if_neg (by simpa using h)] at q
 have nci:a.c≠p.1:=fX B.at_.o0 hx.case.o1 (by intro y;cases y)
 refine⟨_,rfl,lX T hi ?_⟩
 refine⟨_,rfl,fJ T (by rw[aV nci];exact hc) ⟨_,rfl,aaX T upd_same ?_⟩⟩
 obtain⟨ow',B3,k3⟩:=hx.ct.at_.upCase (x':={ x with phase:=8,published:=a.s.today }) hx.hq hx.hx p.2.1 (.inl rfl) (H':=upd (upd H p.1 (.ins Ck dk (caseF (.ref p.2.2) (.int 8) (.int x.opened) (.int x.comments) (.int x.last) (.int x.closing) (.ref p.2.1) (.int x.published)))) p.1 (.ins Ck dk (caseF (.ref p.2.2) (.int 8) (.int x.opened) (.int x.comments) (.int x.last) (.int x.closing) (.ref p.2.1) (.int a.s.today))))
  (λy o hy h1 h2=>by rw[aV h1,aV h1];exact hy) ⟨dk,upd_same⟩ (by have n:=fX hx.case.o2 hx.case.o1 (by intro y;cases y);rw[aV n,aV n];exact hx.case.bal) rfl rfl (λy h=>aW (aW h))
 generalize upd (upd H p.1 (.ins Ck dk (caseF (.ref p.2.2) (.int 8) (.int x.opened) (.int x.comments) (.int x.last) (.int x.closing) (.ref p.2.1) (.int x.published)))) p.1 (.ins Ck dk (caseF (.ref p.2.2) (.int 8) (.int x.opened) (.int x.comments) (.int x.last) (.int x.closing) (.ref p.2.1) (.int a.s.today)))=H3 at B3 k3 ⊢
 rw[<-kX B.good.cnd hx.hx (x':={ x with phase:=8,published:=a.s.today }) rfl] at B3
 obtain⟨dx3,hc3⟩:=B3.ins
 have r32:=B.ord.len B.good
 refine⟨_,rfl,nZ T hc3 ⟨.inl ⟨rfl,_,SqL.of B3.ru⟩,_,rfl,a.L.ru,_,_,rfl,rfl,B3.ru,small1000 (by rw[List.length_map];exact Nat.le_trans r32 (by decide)),?_⟩⟩
 obtain⟨B4,k4⟩:=B3.upRul (H':=upd H3 a.L.ru (.lst (a.s.rulings.map V.int++[.int k]))) (rs:=a.s.rulings++[k]) (λy o hy h1=>by rw[aV h1];exact hy) (by rw[upd_same,List.map_append];rfl) (λy h=>aW h)
 obtain⟨dx4,hc4⟩:=B4.ins
 refine⟨_,rfl,nZ T hc4 ⟨_,_,rfl,.inl (SqL.of B4.ru),l1,?_⟩⟩
 refine q.now B4 (k3.trans k4) ?_
 rw[List.length_map]
 show [V.int ((a.s.rulings++[k]).length:Nat)]=[V.int ((a.s.rulings.length:Int)+1)]
 rw[List.length_append]
 rfl
abbrev CQ:Stmt:=top 59
theorem OJ:FnScope ["court", "key", "case"] ["court", "key"] (defScope CQ):=mkSc
theorem apX(F:Fun Z.K "tell_phase" "tell_phase" CQ f fd)(T:Tx Z Cc Ck Cf):OkZ Z 1 f fd ["court", "key"] (spR1 Cc Ck λs k=>(Vbnlal.step s (.phase k)).2):=by
 refine okS F OJ λs H Q E hr h=>?_
 obtain⟨⟨a,k⟩,rfl,B,q⟩:=h
 have hu:=dY hr
 refine⟨_,(aK
  (bQ (i:=2) OJ.nd rfl (Or.inl rfl) (kJ hu (bX (pv 0) rfl) (pv 1) ⟨rfl,rfl,rfl,rfl⟩))
  (aK
  (bY (dW (jZ (pv 2)))
   (aQ
    (aU (bJ (aJ (bK T.g_NOT_THERE rfl) pa_nil))))
   aZ)
  (aQ
  (aU (bJ (aJ (bX (pv 2) rfl) (aJ (bX (pv 2) rfl) (aJ (bX (pv 2) rfl) (aJ (bX (pv 2) rfl) (aJ (bX (pv 2) rfl) (aJ (bX (pv 2) rfl) pa_nil))))))))))),?_⟩
 dsimp only at B q
 have q0:RetL H Q ((match Vbnlal.caseOf a.s k with | none=>(a.s,[-6]) | some c=>(a.s,[c.phase,c.opened,c.comments,c.last,c.closing,c.published]):State×List Int)).2:=q
 clear q
 have q:=q0
 obtain⟨dx,hc⟩:=B.at_.ins
 refine⟨_,rfl,cW T hc ⟨_,rfl,.inl ⟨_,.inl B.at_.cs⟩,_,rfl,_,DGet.k (k:=Sum.inl k) B.at_.cs,?_⟩⟩
 rcases B.seek k with ⟨e,hv⟩ | ⟨i,p,x,hx,e,hk,hv⟩
 ·rw[hv]
  rw[e] at q
  exact⟨_,rfl,_,rfl,iteT ⟨by decide,(q).now (Same.refl _) rfl⟩⟩
 rw[hv]
 rw[e] at q
 dsimp only at q
 obtain⟨dk,hi⟩:=hx.case.ins
 dsimp only at hi
 refine⟨_,rfl,_,rfl,iteF ?_⟩
 exact⟨_,rfl,dZ T hi ⟨_,rfl,NZ T hi ⟨_,rfl,nY T hi ⟨_,rfl,tW T hi ⟨_,rfl,lY T hi ⟨_,rfl,BY T hi ⟨l6,q.now (Same.refl _) rfl⟩⟩⟩⟩⟩⟩⟩
abbrev awJ:Stmt:=top 58
theorem aGW:FnScope ["court", "key", "case"] ["court", "key"] (defScope awJ):=mkSc
theorem bcW(F:Fun Z.K "show" "show" awJ f fd)(T:Tx Z Cc Ck Cf)(D_one_form:DefOk Z 3 "one_form" ["proposals"] (spForm)):OkZ Z 4 f fd ["court", "key"] (spR1 Cc Ck λs k=>(Vbnlal.step s (.show_ k)).2):=by
 refine okS F aGW λs H Q E hr h=>?_
 obtain⟨⟨a,k⟩,rfl,B,q⟩:=h
 have hu:=dY hr
 refine⟨_,(aK
  (bQ (i:=2) aGW.nd rfl (Or.inl rfl) (kJ hu (bX (pv 0) rfl) (pv 1) ⟨rfl,rfl,rfl,rfl⟩))
  (aK
  (bY (dW (jZ (pv 2)))
   (aQ
    (aU (bJ (aJ (bK T.g_NOT_THERE rfl) pa_nil))))
   aZ)
  (aQ
  (aU (gY QK (bJ (aJ aY pa_nil)) (cJ D_one_form (hr.mono (by decide)) rfl (aJ (bX (pv 2) rfl) pa_nil))))))),?_⟩
 dsimp only at B q
 have q0:RetL H Q ((match Vbnlal.caseOf a.s k with | none=>(a.s,[-6]) | some c=>(a.s,0::Vbnlal.written c.effects):State×List Int)).2:=q
 clear q
 have q:=q0
 obtain⟨dx,hc⟩:=B.at_.ins
 refine⟨_,rfl,cW T hc ⟨_,rfl,.inl ⟨_,.inl B.at_.cs⟩,_,rfl,_,DGet.k (k:=Sum.inl k) B.at_.cs,?_⟩⟩
 rcases B.seek k with ⟨e,hv⟩ | ⟨i,p,x,hx,e,hk,hv⟩
 ·rw[hv]
  rw[e] at q
  exact⟨_,rfl,_,rfl,iteT ⟨by decide,(q).now (Same.refl _) rfl⟩⟩
 rw[hv]
 rw[e] at q
 dsimp only at q
 obtain⟨dk,hi⟩:=hx.case.ins
 dsimp only at hi
 refine⟨_,rfl,_,rfl,iteF ?_⟩
 refine⟨by decide,λl hl=>?_⟩
 have s1:Same H (upd H l (.lst [.int 0])):=Same.new hl
 have ok:=B.good.ok _ hx.mem
 obtain⟨ts,P⟩:=hx.case.pro
 refine⟨_,rfl,mX T (s1 _ _ hi) ⟨⟨p.2.2,ts,x.effects⟩,rfl,P.same s1,ok.ne,ok.six,ok.eff,λhw H2 b s2 hb h2=>?_⟩⟩
 refine⟨l,b,_,_,rfl,rfl,s2 _ _ upd_same,h2,Nat.le_of_lt (smallS ?_),?_⟩
 ·rw[List.length_map]
  show 1+_<=100000
  omega
 ·exact q.now (s1.trans s2) rfl
abbrev LX:Stmt:=top 60
theorem XQ:FnScope ["proposal", "n", "kind"] ["proposal", "n"] (defScope LX):=mkSc
theorem aCY(F:Fun Z.K "is_about" "is_about" LX f fd)(T:Tx Z Cc Ck Cf):OkZ Z 1 f fd ["proposal", "n"] (spAbout):=by
 refine okS F XQ λs H Q E hr h=>?_
 obtain⟨⟨t,e,n⟩,rfl,P,q⟩:=h
 refine⟨_,(aK
  (bQ (i:=2) XQ.nd rfl (Or.inl rfl) (cZ eY (pv 0) aY (λ_ _=>rfl)))
  (aK
  (bY (bZ TV (pv 2) (bK T.g_FIX rfl) (nomark _))
   (aQ
    (aU zX))
   aZ)
  (aQ
  (aU (biZ (nW eQ (cZ eY (pv 0) aY (λ_ _=>rfl)) (pv 1) (nomark _)) (PX (acW (nW eQ (pv 2) (bK T.g_CONSERVE rfl) (nomark _)) (PX (nW eQ (cZ eY (pv 0) aY (λ_ _=>rfl)) (pv 1) (nomark _)))))))))),?_⟩
 dsimp only at P q
 have P':H t=some (.tup [.int e.kind,.int e.a,.int e.b]):=P
 unfold about at q
 refine⟨_,rfl,t,_,_,_,rfl,rfl,SqT.of P',rfl,?_⟩
 refine⟨_,rfl,_,_,rfl,rfl,_,rfl,ite2 (λh=>?_) λh=>?_⟩
 ·have h:4<e.kind:=of_decide_eq_true h
  rw[decide_eq_false (by omega),show(e.kind==3)=false from beq_eq_false_iff_ne.mpr (by omega)] at q
  exact q
 have h:e.kind<=4:=by
  have:¬4<e.kind:=λz=>h (decide_eq_true z)
  omega
 rw[decide_eq_true h,Bool.true_and] at q
 refine⟨_,rfl,t,_,_,_,rfl,rfl,SqT.of P',rfl,_,rfl,rfl,_,rfl,ite2 (λh=>?_) λh=>?_⟩
 ·rw[show(e.a==n)=true by simpa using h,Bool.true_or] at q
  exact q
 rw[show(e.a==n)=false by simpa using h,Bool.false_or] at q
 refine⟨_,rfl,rfl,_,rfl,ite2 (λh=>?_) λh=>?_⟩
 ·rw[show(e.kind==3)=true by simpa using h,Bool.true_and] at q
  refine⟨_,rfl,t,_,_,_,rfl,rfl,SqT.of P',rfl,_,rfl,rfl,?_⟩
  rw[show decide (V.int e.b=V.int n)=(e.b==n) by rw[Bool.eq_iff_iff];simp]
  exact q
 ·rw[show(e.kind==3)=false by simpa using h,Bool.false_and] at q
  exact q
abbrev oJ:Stmt:=top 61
theorem rW:FnScope ["case", "n", "proposal"] ["case", "n"] (defScope oJ):=mkSc
theorem abV(F:Fun Z.K "is_pending_on" "is_pending_on" oJ f fd)(T:Tx Z Cc Ck Cf)(D_is_about:DefOk Z 1 "is_about" ["proposal", "n"] (spAbout)):OkZ Z 2 f fd ["case", "n"] (spPending Cc Ck):=by
 refine okS F rW λs H Q E hr h=>?_
 obtain⟨⟨z,n⟩,rfl,B,q⟩:=h
 refine⟨_,(aQ
  (aU (acW (nW oY (bX (pv 0) rfl) (bK T.g_ADOPTED rfl) (nomark _)) (PX (cX (bfY rfl) (by rfl) T.n_any boot_any (aJ (kU (own:=[("proposal",2)]) rfl rW.nd (dQ (bX (pv 0) rfl)) (eK (by show blkC ["case", "n", "proposal"] (defScope oJ) _ _=true;decide +kernel)) (λ_ _ _ _ _=>by exact cK (i:=2) rW.nd rfl (Or.inl rfl)) (λ_ _ _ _ _=>jQ) (λ_ _ _ _ _=>by exact(cJ D_is_about (hr.mono (by decide)) rfl (aJ (pv 2) (aJ (pv 1) pa_nil))))) pa_nil)))))),?_⟩
 dsimp only at B q
 obtain⟨dk,hi⟩:=B.case.ins
 obtain⟨ts,P⟩:=B.case.pro
 have ok:=B.ct.good.ok _ B.mem
 refine⟨_,rfl,dZ T hi ⟨_,_,rfl,rfl,_,rfl,ite2 (λh=>?_) λh=>?_⟩⟩
 ·rw[h,Bool.true_and] at q
  refine⟨_,rfl,mX T hi ⟨z.q.2.2,rfl,⟨_,SqL.of P.lst⟩,λD hD=>?_⟩⟩
  refine lcl (K:=Z.K) (xs:=ts.map V.ref) (λi=>(z.x.effects.take i).map λe=>V.bl (about e n)) hD (SqL.of P.lst) rfl (λi _=>small1000 (by rw[List.length_map];have:=ok.six;have:=fK i z.x.effects;omega)) ?_ ?_
  ·intro i y H2 hy s2 k' nx h1 h2
   obtain⟨t,e,rfl,he,ht⟩:=P.at hy
   exact⟨rfl,_,rfl,_,rfl,⟨t,e,n⟩,rfl,s2 _ _ ht,h1 _ _ (Same.refl _) (by rw[bU he,List.map_append];rfl)⟩
  ·intro H2 s2 hD2
   rw[List.length_map,P.len,List.take_length] at hD2
   refine⟨_,z.x.effects.map (λe=>about e n),rfl,SqL.of (by rw[hD2,List.map_map];rfl),?_⟩
   have e:(z.x.effects.map (λe=>about e n)).any id=Vbnlal.speaks z.x n:=by
    rw[List.any_map]
    rfl
   rw[e]
   exact q _ s2
 ·rw[show decide (z.x.phase<=5)=false by simpa using h,Bool.false_and] at q
  exact q _ (Same.refl _)
abbrev UV:Stmt:=top 62
theorem abW:FnScope ["court", "n", "key"] ["court", "n"] (defScope UV):=mkSc
theorem aWZ(F:Fun Z.K "stays" "stays" UV f fd)(T:Tx Z Cc Ck Cf)(D_is_pending_on:DefOk Z 2 "is_pending_on" ["case", "n"] (spPending Cc Ck)):OkZ Z 3 f fd ["court", "n"] (spR1 Cc Ck λs n=>(stepM s (.stays n)).2):=by
 refine okS F abW λs H Q E hr h=>?_
 obtain⟨⟨a,n⟩,rfl,B,q⟩:=h
 have hu:=dY hr
 refine⟨_,(aQ
  (aU (gY QK (bJ (aJ aY pa_nil)) (kU (own:=[("key",2)]) rfl abW.nd (dQ (cX (BX rfl) (by rfl) T.n_sorted boot_sorted (aJ (bX (pv 0) rfl) pa_nil))) (eK (by show blkC ["court", "n", "key"] (defScope UV) _ _=true;decide +kernel)) (λ_ _ _ _ _=>by exact cK (i:=2) abW.nd rfl (Or.inl rfl)) (λ_ _ _ _ _=>by exact(rY (fQ (cJ D_is_pending_on (hr.mono (by decide)) rfl (aJ (gU hu (IY Z.K (pv 0) (by rfl)) (pv 2) (λ_ _=>rfl)) (aJ (pv 1) pa_nil)))))) (λ_ _ _ _ _=>by exact(pv 2)))))),?_⟩
 dsimp only at B q
 obtain⟨dx,hc⟩:=B.at_.ins
 refine⟨by decide,λl hl=>?_⟩
 have s1:Same H (upd H l (.lst [.int 0])):=Same.new hl
 have hkeys:(kvC a.L.cas a.s.cases).map (·.1)=(a.s.cases.map (·.key)).map Sum.inl:=by
  have:∀(qs:List (Addr×Addr×Addr))(cs:List Case),qs.length=cs.length->(kvC qs cs).map (·.1)=(cs.map (·.key)).map Sum.inl:=by
   intro qs
   induction qs with
   |nil=>intro cs h;cases cs with
    |nil=>rfl
    |cons c cs=>simp at h
   |cons x qs ih=>intro cs h;cases cs with
    |nil=>simp at h
    |cons c cs=>
     have:=ih cs (by simpa using h)
     simp only[kvC,List.zipWith_cons_cons,List.map_cons] at this ⊢
     rw[this]
  exact this _ _ B.at_.len
 refine⟨_,rfl,cW T (s1 _ _ hc) ⟨_,_,a.s.cases.map (·.key),rfl,.inl (s1 _ _ B.at_.cs),hkeys,λks p hp hs hn=>?_⟩⟩
 have s2:=s1.trans (Same.new (o:=.lst (ks.map V.int)) hn)
 have hlp:l≠p:=aX upd_same hn
 refine⟨p,rfl,⟨_,SqL.of upd_same⟩,λD hD=>?_⟩
 have hl2:(upd (upd H l (.lst [.int 0])) p (.lst (ks.map V.int))) l=some (.lst [.int 0]):=by rw[aV hlp,upd_same]
 have hp2:(upd (upd H l (.lst [.int 0])) p (.lst (ks.map V.int))) p=some (.lst (ks.map V.int)):=upd_same
 generalize upd (upd H l (.lst [.int 0])) p (.lst (ks.map V.int))=H2 at s2 hD hl2 hp2 ⊢
 have len32:ks.length<=32:=by rw[hp.length_eq,List.length_map];exact B.good.cas
 refine lcl (K:=Z.K) (xs:=ks.map V.int) (λi=>((ks.take i).filter (pend a.s n)).map V.int) hD (SqL.of hp2) rfl (λi _=>small1000 ?_) ?_ ?_
 ·rw[List.length_map]
  have h1:=List.length_filter_le (pend a.s n) (ks.take i)
  have h2:=fK i ks
  omega
 ·intro i y H3 hy s3 k' nx h1 h2
  obtain⟨k,hk,rfl⟩:=gmap hy
  have B3:=B.same (s2.trans s3)
  obtain⟨dx3,hc3⟩:=B3.at_.ins
  have hmem:k∈a.s.cases.map (·.key):=hp.mem_iff.mp (List.mem_of_getElem? hk)
  obtain⟨c,hcm,ek⟩:=List.mem_map.mp hmem
  have hco:=oX B.good.cnd hcm
  rw[ek] at hco
  rcases B3.seek k with ⟨e,_⟩ | ⟨j,p3,x,hx,e,hkx,hv⟩
  ·rw[e] at hco
   cases hco
  refine⟨rfl,_,rfl,cW T hc3 ⟨_,rfl,_,_,rfl,dgetI B3.at_.cs (hv),_,rfl,⟨⟨a,j,p3,x⟩,n⟩,rfl,hx,λH4 s4=>⟨_,rfl,?_⟩⟩⟩
  have ep:pend a.s n k=(decide (x.phase<=5)&&Vbnlal.speaks x n):=by
   unfold pend
   rw[e]
  dsimp only
  rw[<-ep]
  refine ite2 (λh=>⟨_,rfl,h1 _ _ s4 ?_⟩) λh=>h2 _ s4 ?_
  ·rw[bU hk,List.filter_append,List.map_append,List.filter_cons,if_pos h]
   rfl
  ·rw[bU hk,List.filter_append,List.filter_cons,if_neg h,List.filter_nil,List.append_nil]
 ·intro H3 s3 hD3
  rw[List.length_map,List.take_length,asZ B.good.cnd hp hs] at hD3
  refine⟨l,D,_,_,rfl,rfl,s3 _ _ hl2,hD3,Nat.le_of_lt (small1000 ?_),q.now (s2.trans s3) rfl⟩
  rw[<-asZ B.good.cnd hp hs n,List.length_map]
  have h1:=List.length_filter_le (pend a.s n) ks
  show 1+_<=1000
  omega
abbrev oV:Stmt:=top 53
theorem tX:FnScope ["court", "proposals", "proposal"] ["court", "proposals"] (defScope oV):=mkSc
theorem OW(F:Fun Z.K "annuls_no_ruling" "annuls_no_ruling" oV f fd)(T:Tx Z Cc Ck Cf):OkZ Z 1 f fd ["court", "proposals"] (spNoRuling Cc Ck):=by
 refine okS F tX λs H Q E hr h=>?_
 obtain⟨⟨a,pa,ts,es⟩,rfl,B,P,h6,q⟩:=h
 refine⟨_,(aK
  (fV PassesOwn.never rfl (dQ (pv 1)) (cK (i:=2) tX.nd rfl (Or.inl rfl))
   (aQ
    (bY (PW.pt (qJ (bZ eQ (cZ eY (pv 2) aY (λ_ _=>rfl)) (bK T.g_ANNUL rfl) (nomark _)) (nV (bZ lW (cZ eY (pv 2) aY (λ_ _=>rfl)) (bX (pv 0) rfl) rfl))))
     (aQ
      (aU zX))
     aZ)))
  (aQ
  (aU zX))),?_⟩
 dsimp only at B P h6 q
 obtain⟨dx,hc⟩:=B.at_.ins
 refine⟨_,rfl,pa,rfl,⟨_,SqL.of P.lst⟩,iK (K:=Z.K) (a:=pa) (xs:=ts.map V.ref) (λi σ H'=>∃v:Option V,σ=[some (.ref a.c),some (.ref pa),v]/\H'=H/\Vbnlal.targetsOk a.s (es.take i)=true)
  ⟨none,rfl,rfl,rfl⟩ (λi σ H' _ ⟨_,_,e,_⟩=>by rw[e];exact SqL.of P.lst) ?_ ?_⟩
 ·rintro i y σ H' hy ⟨v,rfl,rfl,hT⟩
  obtain⟨t,e,rfl,he,ht⟩:=P.at hy
  have e1:Vbnlal.targetsOk a.s (es.take (i+1))=(e.kind != 6 || a.s.rulings.contains e.a):=by
   rw[bU he]
   unfold Vbnlal.targetsOk at hT ⊢
   rw[List.all_append,hT,Bool.true_and,List.all_cons,List.all_nil,Bool.and_true]
  refine⟨_,rfl,t,_,_,_,rfl,rfl,SqT.of ht,rfl,rfl,_,rfl,ite2 (λh=>?_) λh=>iteF ⟨_,rfl,rfl,?_⟩⟩
  ·have h:e.kind=6:=by simpa using h
   refine⟨_,rfl,t,_,_,_,rfl,rfl,SqT.of ht,rfl,_,rfl,nZ T hc ⟨_,_,rfl,.inl (SqL.of B.at_.ru),rfl,EW _,_,rfl,ite2 (λh2=>?_) λh2=>⟨_,rfl,rfl,?_⟩⟩⟩
   ·have h2:(!inV (.int e.a) (a.s.rulings.map V.int))=true:=h2
    rw[in_ints] at h2
    have e2:Vbnlal.targetsOk a.s es=false:=by
     rw[Bool.eq_false_iff]
     intro z
     have:=List.all_eq_true.mp z e (List.mem_of_getElem? he)
     rw[h] at this
     simp at this h2
     exact h2 this
    rw[e2] at q
    exact q
   ·have h2:¬(!inV (.int e.a) (a.s.rulings.map V.int))=true:=h2
    rw[in_ints] at h2
    rw[e1,h,show a.s.rulings.contains e.a=true by simpa using h2]
    rfl
  ·have h:¬e.kind=6:=by simpa using h
   rw[e1,show(e.kind != 6)=true by simpa using h]
   rfl
 ·rintro σ H' ⟨v,rfl,rfl,hT⟩
  rw[List.length_map,P.len,List.take_length] at hT
  rw[hT] at q
  exact q
abbrev XU:Stmt:=inClass (top 10) 0
theorem awK:FnScope ["self", "proposals", "opened"] ["self", "proposals", "opened"] (defScope XU):=mkSc
theorem awQ(F:Fun Z.K "__init__" "Case.__init__" XU f fd)(T:Tx Z Cc Ck Cf):OkZ Z 1 f fd ["self", "proposals", "opened"] (spInitCase Ck):=by
 refine okS F awK λs H Q E hr h=>?_
 obtain⟨⟨x,pa,o⟩,rfl,dx,hx,q⟩:=h
 refine⟨_,(aK
  (eX (pv 0) (pv 1) rfl)
  (aK
  (eX (pv 0) (bK T.g_COMMENTS rfl) rfl)
  (aK
  (eX (pv 0) (pv 2) rfl)
  (aK
  (eX (pv 0) aY rfl)
  (aK
  (eX (pv 0) (pv 2) rfl)
  (aK
  (eX (pv 0) aY rfl)
  (aK
  (eX (pv 0) oQ rfl)
  (aQ
  (eX (pv 0) aY rfl))))))))),?_⟩
 dsimp only at hx q
 refine⟨_,rfl,_,rfl,x,Ck,dx,_,rfl,hx,T.c_Case,T.a_case_proposals,(by show 0<1000;decide),?_⟩
 rw[aJX]
 refine⟨_,rfl,x,Ck,dx,_,rfl,upd_same,T.c_Case,T.a_case_phase,(by show 1<1000;decide),?_⟩
 rw[aJY]
 refine⟨_,rfl,_,rfl,x,Ck,dx,_,rfl,upd_same,T.c_Case,T.a_case_opened,(by show 2<1000;decide),?_⟩
 rw[aJZ]
 refine⟨_,rfl,x,Ck,dx,_,rfl,upd_same,T.c_Case,T.a_case_comments,(by show 3<1000;decide),?_⟩
 rw[aKJ]
 refine⟨_,rfl,_,rfl,x,Ck,dx,_,rfl,upd_same,T.c_Case,T.a_case_last_comment,(by show 4<1000;decide),?_⟩
 rw[aKK]
 refine⟨_,rfl,x,Ck,dx,_,rfl,upd_same,T.c_Case,T.a_case_closing,(by show 5<1000;decide),?_⟩
 rw[aKQ]
 intro b hb
 have hb0:H b=none:=aW (aW (aW (aW (aW (aW hb)))))
 have nxb:x≠b:=aX hx hb0
 refine⟨_,rfl,x,Ck,dx,_,rfl,(by rw[aV nxb];exact upd_same),T.c_Case,T.a_case_ballots,(by show 6<1000;decide),?_⟩
 rw[aKU]
 refine⟨_,rfl,x,Ck,dx,_,rfl,upd_same,T.c_Case,T.a_case_published,(by show 7<1000;decide),?_⟩
 rw[aKV]
 refine q _ b (λy w hy hn=>?_) upd_same hb0 (by rw[aV nxb.symm,aV nxb.symm,upd_same]) λy hy=>aW (aW (aW (aW (aW (aW (aW (aW (aW hy))))))))
 rw[aV hn,aV hn,aV (aX hy hb0),aV hn,aV hn,aV hn,aV hn,aV hn,aV hn]
 exact hy
abbrev LY:Stmt:=top 54
theorem GW:FnScope ["court", "key", "text", "proposals", "refusal"] ["court", "key", "text"] (defScope LY):=mkSc
theorem aCZ(F:Fun Z.K "petition" "petition" LY f fd)(T:Tx Z Cc Ck Cf)(D_is_key:DefOk Z 1 "is_key" ["number"] (spB1 Vbnlal.keyOk))(D_proposals_of:DefOk Z 4 "proposals_of" ["text"] (spProps Z.K))(D_text_refusal:DefOk Z 2 "text_refusal" ["proposals"] (spRefusal))(D_annuls_no_ruling:DefOk Z 1 "annuls_no_ruling" ["court", "proposals"] (spNoRuling Cc Ck))(D_Case:MakeOk Z Ck 1 "Case" ["self", "proposals", "opened"] (spInitCase Ck)):OkZ Z 5 f fd ["court", "key", "text"] (spPetition Cc Ck Z.K):=by
 refine okS F GW λs H Q E hr h=>?_
 obtain⟨⟨a,k,ta,t⟩,rfl,B,hS,hT,q⟩:=h
 have hu:=dY hr
 refine⟨_,(aK
  (bY (iU (fQ (cJ D_is_key (hr.mono (by decide)) rfl (aJ (pv 1) pa_nil))))
   (aQ
    (aU (bJ (aJ (bK T.g_WRONG_KEY rfl) pa_nil))))
   aZ)
  (aK
  (bQ (i:=3) GW.nd rfl (Or.inl rfl) (cJ D_proposals_of (hr.mono (by decide)) rfl (aJ (pv 2) pa_nil)))
  (aK
  (bQ (i:=4) GW.nd rfl (Or.inl rfl) (cJ D_text_refusal (hr.mono (by decide)) rfl (aJ (pv 3) pa_nil)))
  (aK
  (bY (bZ wJ (pv 4) aY (nomark _))
   (aQ
    (aU (bJ (aJ (pv 4) pa_nil))))
   aZ)
  (aK
  (bY (dW (xQ hu (pv 1) (bX (pv 0) rfl)) rfl)
   (aQ
    (aU (bJ (aJ (bK T.g_THERE_ALREADY rfl) pa_nil))))
   aZ)
  (aK
  (bY (fQ (cJ D_annuls_no_ruling (hr.mono (by decide)) rfl (aJ (pv 0) (aJ (pv 3) pa_nil))))
   (aQ
    (aU (bJ (aJ (bK T.g_NOT_THERE rfl) pa_nil))))
   aZ)
  (aK
  (bY (bZ acZ (cX amZ (by rfl) T.n_len PySem.boot_len (aJ (bX (pv 0) rfl) pa_nil)) (bK T.g_MOST_CASES rfl) (nomark _))
   (aQ
    (aU (bJ (aJ (bK T.g_FULL rfl) pa_nil))))
   aZ)
  (aK
  (oZ hu (bX (pv 0) rfl) (pv 1) (aYQ D_Case (hr.mono (by decide)) rfl (aJ (pv 3) (aJ (bX (pv 0) rfl) pa_nil))) rfl)
  (aQ
  (aU (bJ (aJ (cX eZ (by rfl) T.n_len PySem.boot_len (aJ (pv 3) pa_nil)) pa_nil)))))))))))),?_⟩
 dsimp only at B hS hT q
 unfold petitionM at q
 rw[aeY] at q
 refine⟨_,rfl,_,rfl,_,rfl,ite2 (λh=>?_) λh=>?_⟩
 ·rw[if_pos (by simpa using h)] at q
  exact⟨by decide,(q.stay B.at_).now (Same.refl _) rfl⟩
 rw[if_neg (by simpa using h)] at q
 refine⟨_,rfl,⟨ta,t⟩,rfl,hS,hT,λH1 s1=>⟨λe=>?_,λes pa ts e hpa P=>?_⟩⟩
 ·dsimp only at e
  rw[e] at q
  refine⟨_,rfl,none,rfl,(λx y=>by cases y),λH2 s2=>?_⟩
  refine⟨_,rfl,_,_,rfl,rfl,_,rfl,iteT ⟨_,rfl,l1,(q.stay B.at_).now (s1.trans s2) rfl⟩⟩
 dsimp only at e
 have hes:=anU hT e
 rw[e] at q
 refine⟨_,rfl,some ⟨pa,ts,es⟩,rfl,(λx y=>by cases y;exact⟨P,hes⟩),λH2 s2=>?_⟩
 have s12:=s1.trans s2
 have B2:=B.same s12
 have P2:=P.same s2
 obtain⟨dx,hc⟩:=B2.at_.ins
 refine⟨_,rfl,_,_,rfl,rfl,_,rfl,ite2 (λh=>?_) λh=>?_⟩
 ·have h:refus (some es)<0:=of_decide_eq_true h
  dsimp only at q
  rw[if_pos h] at q
  exact⟨_,rfl,l1,(q.stay B.at_).now s12 rfl⟩
 have hge:¬refus (some es)<0:=λz=>h (decide_eq_true z)
 dsimp only at q
 rw[if_neg hge] at q
 dsimp only at q
 have six:=anQ hge
 refine⟨_,rfl,_,rfl,cW T hc ⟨_,_,rfl,DGet.k (k:=Sum.inl k) B2.at_.cs,_,rfl,?_⟩⟩
 rcases B2.seek k with ⟨e3,hv⟩ | ⟨i,p,x,hx,e3,hk,hv⟩
 rotate_left
 ·rw[hv]
  rw[if_pos (by rw[e3];rfl)] at q
  exact iteT ⟨l1,(q.stay B.at_).now s12 rfl⟩
 have hv0:=hv
 rw[hv]
 rw[if_neg (by rw[e3];exact Bool.noConfusion)] at q
 refine iteF ⟨_,rfl,_,rfl,⟨a,pa,ts,es⟩,rfl,B2,P2,six,_,rfl,ite2 (λh=>?_) λh=>?_⟩
 ·rw[if_pos (by simpa using h)] at q
  exact⟨l1,(q.stay B.at_).now s12 rfl⟩
 rw[if_neg (by simpa using h)] at q
 have clen:(kvC a.L.cas a.s.cases).length=a.s.cases.length:=by
  unfold kvC
  rw[List.length_zipWith,B.at_.len,Nat.min_self]
 refine⟨_,rfl,cW T hc ⟨_,_,rfl,B2.at_.cs,_,_,rfl,rfl,_,rfl,ite2 (λh=>?_) λh=>?_⟩⟩
 ·rw[clen] at h
  rw[if_pos (show Vbnlal.CASES<=a.s.cases.length by unfold Vbnlal.CASES;have:=of_decide_eq_true h;omega)] at q
  exact⟨l1,(q.stay B.at_).now s12 rfl⟩
 rw[clen] at h
 have hlt:¬Vbnlal.CASES<=a.s.cases.length:=λz=>h (decide_eq_true (by unfold Vbnlal.CASES at z;omega))
 rw[if_neg hlt] at q
 refine⟨_,rfl,_,rfl,fJ T hc ?_⟩
 intro x dy hx hdy hne
 refine⟨⟨x,pa,a.s.today⟩,rfl,dy,upd_same,λH3 b k3 i3 hb b3 gr3=>⟨rfl,?_⟩⟩
 have s3:Same H2 H3:=Same.made hx hdy k3
 have gr23:∀y,H3 y=none->H2 y=none:=λy hy=>aW (aW (gr3 y hy))
 have hb2:H2 b=none:=aW (aW hb)
 have hxb:x≠b:=aX upd_same hb
 have c3:=s3 _ _ B2.at_.cs
 refine⟨_,rfl,cW T (s3 _ _ hc) ⟨_,rfl,_,_,rfl,DPut.k (k:=Sum.inl k) c3 (small1000 (by rw[clen];have:=B.good.cas;omega)),?_⟩⟩
 have opa:a.ow pa=none:=B.at_.dom pa hpa
 obtain⟨ow',B4,k4⟩:=B2.at_.upNew (a:=x) (ba:=b) (pa:=pa) (x:={ key:=k,effects:=es,opened:=a.s.today,last:=a.s.today }) hx hb2 opa hxb (H':=upd H3 a.L.cs (.dK (putK (kvC a.L.cas a.s.cases) (Sum.inl k) (V.ref x))))
  (λy o hy hn=>by rw[aV hn];exact s3 _ _ hy) (by rw[upd_same,uK _ hv0]) ⟨dy,by rw[aV (aX B2.at_.cs hx).symm];exact i3⟩ (by rw[aV (aX B2.at_.cs hb2).symm];exact b3) ⟨ts,P2⟩ (λy hy=>gr23 y (aW hy))
 have kk:Keep a.ow H ow' (upd H3 a.L.cs (.dK (putK (kvC a.L.cas a.s.cases) (Sum.inl k) (V.ref x)))):=
  ⟨λy o hy ho=>k4 y o (s12 _ _ hy) ho (aX hy hpa),λy hy=>s12.free (gr23 y (aW hy))⟩
 have P4:(upd H3 a.L.cs (.dK (putK (kvC a.L.cas a.s.cases) (Sum.inl k) (V.ref x)))) pa=some (.lst (ts.map V.ref)):=by
  rw[aV (eW P2.lst B2.at_.cs (by intro z;cases z))]
  exact s3 _ _ P2.lst
 refine⟨_,rfl,_,_,rfl,.inl (SqL.of P4),l1,q.now B4 kk ?_⟩
 rw[List.length_map,P.len]
 rfl
end
abbrev RB:=Vbnlal.rulingsBy
abbrev kvF(l:List Case):List (Key×V):=l.map λc=>(Sum.inl c.key,V.int (fo l c))
def tgts(x:Case):List Int:=(x.effects.filter λe=>e.kind==6).map (·.a)
theorem tgts_has(x:Case)(k:Int):(tgts x).contains k=Vbnlal.annuls x k:=by
 unfold tgts
 rw[Bool.eq_iff_iff,List.contains_iff_mem,annuls_iff,List.mem_map]
 constructor
 ·rintro⟨e,he,h⟩
  have:=List.mem_filter.mp he
  exact⟨e,this.1,beq_iff_eq.mp this.2,h⟩
 ·rintro⟨e,he,h6,h⟩
  exact⟨e,List.mem_filter.mpr ⟨he,beq_iff_eq.mpr h6⟩,h⟩
theorem UW{β:Type}(f:Case->V){l:List Case}(nd:(keysOf l).Nodup){c:Case}(h:c∈l):valV (l.map λc=>((Sum.inl c.key:Key),f c)) (Sum.inl c.key)=some (f c):=by
 induction l with
 |nil=>cases h
 |cons a l ih=>
  obtain⟨h1,h2⟩:=HY nd
  rw[List.map_cons]
  rcases List.mem_cons.mp h with rfl | h
  ·exact fY rfl
  ·rw[fZ (p:=((Sum.inl a.key:Key),f a)) (λe=>h1 ((Sum.inl.inj e:a.key=c.key)▸List.mem_map_of_mem h))]
   exact ih h2 h
theorem lU(f:Case->V)(l:List Case)(k:Int):(valV (l.map λc=>((Sum.inl c.key:Key),f c)) (Sum.inl k)).isSome=l.any λc=>c.key==k:=by
 rw[<-lQ,List.any_map]
 congr 1
 funext m
 rw[Bool.eq_iff_iff]
 simp
section
variable{n:Nat}{s:State}
theorem CtOk.later{Cc Ck:Addr}{H:Hp}{a:Ct}(B:CtOk Cc Ck H a)(d:Int):Later (RB a.s d):=B.ord.later B.good.cnd d
theorem CtOk.len{Cc Ck:Addr}{H:Hp}{a:Ct}(B:CtOk Cc Ck H a)(d:Int):(RB a.s d).length<=32:=Nat.le_trans (qX _ _) (B.ord.len B.good)
theorem CtOk.ruling{Cc Ck:Addr}{H:Hp}{a:Ct}(B:CtOk Cc Ck H a){d:Int}{c:Case}(h:c∈RB a.s d):∃i q,CsOk Cc Ck H ⟨a,i,q,c⟩/\valV (kvC a.L.cas a.s.cases) (Sum.inl c.key)=some (.ref q.1):=by
 have e:=ZK B.good.cnd h
 rcases B.seek c.key with ⟨e2,_⟩ | ⟨i,q,x,hx,e2,_,hv⟩
 ·rw[e] at e2;cases e2
 ·rw[e] at e2
  cases e2
  exact⟨i,q,hx,hv⟩
end
def spAnnulled(Cc Ck:Addr):Sp:=mkSp (λz:Cs=>[.ref z.a.c,.int z.x.key]) λz H Q=>CsOk Cc Ck H z/\RetL H Q (tgts z.x)
def spForces(Cc Ck:Addr):Sp:=mkSp (λa:Ct×Int=>[.ref a.1.c,.int a.2]) λa H Q=>CtOk Cc Ck H a.1/\∀H' p,Same H H'->H p=none->H' p=some (.dK (kvF (RB a.1.s a.2)))->Q (.ref p) H'
structure Cg where
 a:Ct
 d:Int
 fa:Addr
structure CgOk(Cc Ck:Addr)(H:Hp)(z:Cg):Prop where
 ct:CtOk Cc Ck H z.a
 fa:Rd H z.fa (.dK (kvF (RB z.a.s z.d)))
 ow:z.a.ow z.fa=none
theorem CtOk.but{Cc Ck:Addr}{H H':Hp}{a:Ct}(B:CtOk Cc Ck H a){f:Addr}{o:HO}(hf:H f=some o)(ho:∀xs,o≠.tup xs)(hw:a.ow f=none)(kp:But f H H')(gr:∀b,H' b=none->H b=none):CtOk Cc Ck H' a:=
 ⟨B.at_.but hf ho hw kp gr,B.good,B.ord,B.few,B.bal⟩
def spThose(Cc Ck:Addr):Sp:=mkSp (λz:Cg×Int=>[.ref z.1.a.c,.ref z.1.fa,.int z.2]) λz H Q=>CgOk Cc Ck H z.1/\RetL H Q (keysOf (anns (RB z.1.a.s z.1.d) z.2))
def spReasons(Cc Ck:Addr):Sp:=mkSp (λz:Cg×Case=>[.ref z.1.a.c,.ref z.1.fa,.int z.2.key]) λz H Q=>CgOk Cc Ck H z.1/\z.2∈RB z.1.a.s z.1.d/\RetL H Q (keysOf (reasons (RB z.1.a.s z.1.d) z.2))
def spTold:Sp:=mkSp (λz:Addr×List Case×Addr×List (Key×V)=>[.ref z.1,.ref z.2.2.1]) λz H Q=>H z.1=some (.dK (kvF z.2.1))/\H z.2.2.1=some (.dK z.2.2.2)/\(keysOf z.2.1).Nodup/\z.2.1.length<=32/\
 RetL H Q (told2 z.2.1 λx=>(valV z.2.2.2 (Sum.inl x)).isSome)
def spClaims(K:PySem.W.Frag):Sp:=mkSp (λp:Addr×List Int=>[.ref p.1]) λp H Q=>SqL K H p.1 (p.2.map V.int)/\p.2.length<=80/\
 ∀H',Same H H'->(¬(p.2.length % 2=0/\((Vbnlal.ballotsOf p.2).map (·.1)).Nodup)->Q .non H')/\∀b,p.2.length % 2=0->((Vbnlal.ballotsOf p.2).map (·.1)).Nodup->H b=none->H' b=some (.dK (kvI (Vbnlal.ballotsOf p.2)))->Q (.ref b) H'
def spBorne(Cc Ck:Addr):Sp:=mkSp (λz:Cg×Addr×List (Int×Int)×Int×Int=>[.ref z.1.a.c,.ref z.1.fa,.ref z.2.1,.int z.2.2.2.1]) λz H Q=>CgOk Cc Ck H z.1/\Rd H z.2.1 (.dK (kvI z.2.2.1))/\(z.2.2.1.map (·.1)).Nodup/\z.2.2.2∈z.2.2.1/\
 ∀H',Same H H'->Q (.bl (borne (RB z.1.a.s z.1.d) z.2.2.1 z.2.2.2)) H'
def spCheck(Cc Ck:Addr)(K:PySem.W.Frag):Sp:=mkSp (λz:Ct×Int×Int×Int×Addr×List Int=>[.ref z.1.c,.int z.2.1,.int z.2.2.1,.int z.2.2.2.1,.ref z.2.2.2.2.1]) λz H Q=>CtOk Cc Ck H z.1/\SqL K H z.2.2.2.2.1 (z.2.2.2.2.2.map V.int)/\z.2.2.2.2.2.length<=80/\
 RetL H Q (Vbnlal.step z.1.s (.check z.2.1 z.2.2.1 z.2.2.2.1 z.2.2.2.2.2)).2
section
variable{Z:Wd}{Cc Ck Cf f:Addr}{fd:FuncData}
abbrev pK:Stmt:=top 74
theorem sW:FnScope ["court", "d", "key"] ["court", "d"] (defScope pK):=mkSc
theorem afQ(F:Fun Z.K "published_by" "published_by" pK f fd)(T:Tx Z Cc Ck Cf):OkZ Z 1 f fd ["court", "d"] (spR1 Cc Ck λs d=>keysOf (Vbnlal.rulingsBy s d)):=by
 refine okS F sW λs H Q E hr h=>?_
 obtain⟨⟨a,d⟩,rfl,B,q⟩:=h
 have hu:=dY hr
 refine⟨_,(aQ
  (aU (kU (own:=[("key",2)]) rfl sW.nd (dQ (bX (pv 0) rfl)) (eK (by show blkC ["court", "d", "key"] (defScope pK) _ _=true;decide +kernel)) (λ_ _ _ _ _=>by exact cK (i:=2) sW.nd rfl (Or.inl rfl)) (λ_ _ _ _ _=>by exact(rY (bZ oY (IY Z.K (gU hu (IY Z.K (pv 0) (by rfl)) (pv 2) (λ_ _=>rfl)) (by rfl)) (pv 1) (nomark _)))) (λ_ _ _ _ _=>by exact(pv 2))))),?_⟩
 dsimp only at B q
 obtain⟨dx,hc⟩:=B.at_.ins
 have r32:=B.ord.len B.good
 refine⟨_,rfl,nZ T hc ⟨a.L.ru,rfl,⟨_,SqL.of B.at_.ru⟩,λD hD=>?_⟩⟩
 refine lcl (K:=Z.K) (xs:=a.s.rulings.map V.int) (λi=>((a.s.rulings.take i).filter (pubBy a.s d)).map V.int) hD (SqL.of B.at_.ru) rfl (λi _=>small1000 ?_) ?_ ?_
 ·rw[List.length_map]
  have h1:=List.length_filter_le (pubBy a.s d) (a.s.rulings.take i)
  have h2:=fK i a.s.rulings
  omega
 ·intro i y H2 hy s2 k' nx h1 h2
  obtain⟨k,hk,rfl⟩:=gmap hy
  have B2:=B.same s2
  obtain⟨dx2,hc2⟩:=B2.at_.ins
  obtain⟨c,hco,_,_⟩:=B.ord.case B.good.cnd (List.mem_of_getElem? hk)
  rcases B2.seek k with ⟨e,_⟩ | ⟨j,p,x,hx,e,hkx,hv⟩
  ·rw[e] at hco;cases hco
  obtain⟨dk,hi⟩:=hx.case.ins
  have ep:pubBy a.s d k=decide (x.published<=d):=by
   unfold pubBy
   rw[e]
  refine⟨rfl,_,rfl,cW T hc2 ⟨_,rfl,_,_,rfl,dgetI B2.at_.cs (hv),BY T hi ⟨_,rfl,_,_,rfl,rfl,_,rfl,?_⟩⟩⟩
  rw[<-ep]
  refine ite2 (λh=>⟨_,rfl,h1 _ _ (Same.refl _) ?_⟩) λh=>h2 _ (Same.refl _) ?_
  ·rw[bU hk,List.filter_append,List.map_append,List.filter_cons,if_pos h]
   rfl
  ·rw[bU hk,List.filter_append,List.filter_cons,if_neg h,List.filter_nil,List.append_nil]
 ·intro H2 s2 hD2
  rw[List.length_map,List.take_length,<-ahX] at hD2
  exact q _ _ s2 hD hD2
abbrev qZ:Stmt:=top 75
theorem uX:FnScope ["court", "key", "proposal"] ["court", "key"] (defScope qZ):=mkSc
theorem ajQ(F:Fun Z.K "annulled_by" "annulled_by" qZ f fd)(T:Tx Z Cc Ck Cf):OkZ Z 1 f fd ["court", "key"] (spAnnulled Cc Ck):=by
 refine okS F uX λs H Q E hr h=>?_
 obtain⟨z,rfl,B,q⟩:=h
 have hu:=dY hr
 refine⟨_,(aQ
  (aU (kU (own:=[("proposal",2)]) rfl uX.nd (dQ (bX (gU hu (bX (pv 0) rfl) (pv 1) (λ_ _=>rfl)) rfl)) (eK (by show blkC ["court", "key", "proposal"] (defScope qZ) _ _=true;decide +kernel)) (λ_ _ _ _ _=>by exact cK (i:=2) uX.nd rfl (Or.inl rfl)) (λ_ _ _ _ _=>by exact(rY (bZ eQ (cZ (aGU Z.K) (pv 2) aY (λ_ _=>rfl)) (bK T.g_ANNUL rfl) (nomark _)))) (λ_ _ _ _ _=>by exact(cZ (aGU Z.K) (pv 2) aY (λ_ _=>rfl)))))),?_⟩
 obtain⟨dx,hc⟩:=B.ct.at_.ins
 obtain⟨dk,hi⟩:=B.case.ins
 obtain⟨ts,P⟩:=B.case.pro
 have ok:=B.ct.good.ok _ B.mem
 have hco:=oX B.ct.good.cnd B.mem
 have hv:valV (kvC z.a.L.cas z.a.s.cases) (Sum.inl z.x.key)=some (.ref z.q.1):=by
  obtain⟨i,q2,h1,h2,h3,h4⟩:=(B.ct.at_.seek z.x.key).2 z.x hco
  have e1:(z.a.s.cases.map (·.key))[i]? = some z.x.key:=by rw[List.getElem?_map,h2];rfl
  have e2:(z.a.s.cases.map (·.key))[z.i]? = some z.x.key:=by rw[List.getElem?_map,B.hx];rfl
  have:=aJW B.ct.good.cnd e1 e2
  subst this
  rw[B.hq] at h1
  cases h1
  exact h4
 refine⟨_,rfl,cW T hc ⟨_,rfl,_,_,rfl,dgetI B.ct.at_.cs (hv),mX T hi ⟨z.q.2.2,rfl,⟨_,SqL.of P.lst⟩,λD hD=>?_⟩⟩⟩
 refine lcl (K:=Z.K) (xs:=ts.map V.ref) (λi=>((z.x.effects.take i).filter λe=>e.kind==6).map λe=>V.int e.a) hD (SqL.of P.lst) rfl (λi _=>small1000 ?_) ?_ ?_
 ·rw[List.length_map]
  have h1:=List.length_filter_le (λe:Effect=>e.kind==6) (z.x.effects.take i)
  have h2:=fK i z.x.effects
  have:=ok.six
  omega
 ·intro i y H2 hy s2 k' nx h1 h2
  obtain⟨t,e,rfl,he,ht⟩:=P.at hy
  refine⟨rfl,_,rfl,t,_,_,_,rfl,rfl,SqT.of (s2 _ _ ht),rfl,rfl,_,rfl,ite2 (λh=>?_) λh=>?_⟩
  ·refine⟨_,rfl,t,_,_,_,rfl,rfl,SqT.of (s2 _ _ ht),rfl,h1 _ _ (Same.refl _) ?_⟩
   rw[bU he,List.filter_append,List.map_append,List.filter_cons,if_pos (by simpa using h)]
   rfl
  ·refine h2 _ (Same.refl _) ?_
   rw[bU he,List.filter_append,List.filter_cons,if_neg (by simpa using h),List.filter_nil,List.append_nil]
 ·intro H2 s2 hD2
  rw[List.length_map,P.len,List.take_length] at hD2
  refine q _ _ s2 hD (hD2.trans ?_)
  unfold tgts
  rw[List.map_map]
  rfl
abbrev GX:Stmt:=top 76
theorem kK:FnScope ["court", "d", "published", "annulled", "key", "earlier", "forces"] ["court", "d"] (defScope GX):=mkSc
theorem awU(F:Fun Z.K "forces_at" "forces_at" GX f fd)(T:Tx Z Cc Ck Cf)(D_published_by:DefOk Z 1 "published_by" ["court", "d"] (spR1 Cc Ck λs d=>keysOf (Vbnlal.rulingsBy s d)))(D_annulled_by:DefOk Z 1 "annulled_by" ["court", "key"] (spAnnulled Cc Ck)):OkZ Z 2 f fd ["court", "d"] (spForces Cc Ck):=by
 refine okS F kK λs H Q E hr h=>?_
 obtain⟨⟨a,d⟩,rfl,B,q⟩:=h
 have hu:=dY hr
 refine⟨_,(aK
  (bQ (i:=2) kK.nd rfl (Or.inl rfl) (cJ D_published_by (hr.mono (by decide)) rfl (aJ (pv 0) (aJ (pv 1) pa_nil))))
  (aK
  (bQ (i:=3) kK.nd rfl (Or.inl rfl) oQ)
  (aK
  (fV PassesOwn.never rfl (qK rfl T.n_reversed (aJ (pv 2) pa_nil)) (cK (i:=4) kK.nd rfl (Or.inl rfl))
   (aQ
    (bY (dW (kW hu (pv 4) (pv 3)) rfl)
     (aQ
      (fV PassesOwn.never rfl (dQ (cJ D_annulled_by (hr.mono (by decide)) rfl (aJ (pv 0) (aJ (pv 4) pa_nil)))) (cK (i:=5) kK.nd rfl (Or.inl rfl))
       (aQ
        (oZ hu (pv 3) (pv 5) zX rfl))))
     aZ)))
  (aK
  (bQ (i:=6) kK.nd rfl (Or.inl rfl) oQ)
  (aK
  (fV PassesOwn.never rfl (dQ (pv 2)) (cK (i:=4) kK.nd rfl (Or.inl rfl))
   (aQ
    (oZ hu (pv 6) (pv 4) (BK (dW (xQ hu (pv 4) (pv 3)) rfl) aY aY) rfl)))
  (aQ
  (aU (pv 6)))))))),?_⟩
 dsimp only at B q
 have lat:=B.later d
 have len:=B.len d
 generalize hl:RB a.s d=l at q lat len
 refine⟨_,rfl,_,rfl,⟨a,d⟩,rfl,B,λH1 p s1 hp h1=>?_⟩
 dsimp only at h1
 rw[show keysOf (Vbnlal.rulingsBy a.s d)=keysOf l from congrArg keysOf hl] at h1
 intro m hm
 have B1:=B.same s1
 have s2:Same H1 (upd H1 m (.dK [])):=Same.new hm
 refine⟨_,rfl,p,_,rfl,SqL.of (s2 _ _ h1),IZ (K:=Z.K) (a:=p) (xs:=(keysOf l).map V.int) (λi σ H'=>∃v w:Option V,σ=[some (.ref a.c),some (.int d),some (.ref p),some (.ref m),v,w,none]/\Same H1 H'/\
   ∃kvs,H' m=some (.dK kvs)/\kvs.length<=6*i/\∀x,(valV kvs (Sum.inl x)).isSome=marks (l.drop (l.length - i)) x)
  ⟨none,none,rfl,s2,[],upd_same,Nat.zero_le _,λx=>by rw[Nat.sub_zero,List.drop_length];rfl⟩ (λi σ H' _ ⟨_,_,_,h,_⟩=>SqL.of (h _ _ h1)) ?_ ?_⟩
 ·rintro i y σ H' hi hy ⟨v,w,rfl,s3,kvs,hk,hkl,hkm⟩
  rw[List.length_map,List.length_map] at hi hy
  obtain⟨k,hy2,rfl⟩:=gmap hy
  obtain⟨c,hcl,rfl⟩:=gmap hy2
  have ed:l.drop (l.length - (i+1))=c::l.drop (l.length - i):=by
   rw[show l.length - (i+1)=l.length - 1 - i by omega,nU hcl,show l.length - 1 - i+1=l.length - i by omega]
  refine⟨_,rfl,_,rfl,_,_,rfl,DGet.k (k:=Sum.inl c.key) hk,_,rfl,ite2 (λh=>?_) λh=>?_⟩
  ·have hmk:¬marks (l.drop (l.length - i)) c.key=true:=by
    rw[<-hkm]
    simpa using h
   have B3:=B1.same s3
   obtain⟨j,p3,hx,hv⟩:=B3.ruling (hl▸List.mem_of_getElem? hcl)
   refine⟨_,rfl,_,rfl,⟨a,j,p3,c⟩,rfl,hx,λH4 t s4 ht h4=>?_⟩
   have ok:=B.good.ok _ hx.mem
   have t6:(tgts c).length<=6:=by
    unfold tgts
    rw[List.length_map]
    exact Nat.le_trans (List.length_filter_le _ _) ok.six
   refine⟨t,rfl,⟨_,SqL.of h4⟩,iK (K:=Z.K) (a:=t) (xs:=(tgts c).map V.int) (λj σ H'=>∃w:Option V,σ=[some (.ref a.c),some (.int d),some (.ref p),some (.ref m),some (.int c.key),w,none]/\But m H4 H'/\
     ∃kvs',H' m=some (.dK kvs')/\kvs'.length<=6*i+j/\∀x,(valV kvs' (Sum.inl x)).isSome=(marks (l.drop (l.length - i)) x || ((tgts c).take j).contains x))
    ⟨w,rfl,But.refl _ _,kvs,s4 _ _ hk,hkl,λx=>by rw[hkm];simp⟩ (λj σ H' _ ⟨_,_,h,_⟩=>SqL.of (h _ _ h4 (eW h4 (s4 _ _ hk) (by intro z;cases z)))) ?_ ?_⟩
   ·rintro j y σ H' hy ⟨w,rfl,k5,kvs',hk',hkl',hkm'⟩
    obtain⟨x,hx2,rfl⟩:=gmap hy
    have hj:=(List.getElem?_eq_some_iff.mp hx2).1
    refine⟨_,rfl,_,rfl,_,_,rfl,DPut.k (k:=Sum.inl x) hk' (smallS (by omega)),_,rfl,k5.upd,_,upd_same,?_,λy=>?_⟩
    ·have:=nX kvs' (Sum.inl x) (V.bl true)
     omega
    ·rw[BU,bU hx2,List.contains_eq_mem]
     by_cases e:y=x
     ·subst e
      rw[if_pos rfl]
      simp
     ·rw[if_neg (λz=>e (Sum.inl.inj z)),hkm',List.contains_eq_mem]
      simp[e]
   ·rintro σ H' ⟨w,rfl,k5,kvs',hk',hkl',hkm'⟩
    rw[List.length_map] at hkl' hkm'
    rw[List.take_length] at hkm'
    refine⟨_,_,rfl,?_,kvs',hk',by omega,λx=>?_⟩
    ·exact λb o hb=>k5 _ _ (s4 _ _ (s3 _ _ hb)) (aX hb hm)
    ·rw[hkm',tgts_has,ed,marks_cons,if_neg hmk]
  ·have hmk:marks (l.drop (l.length - i)) c.key=true:=by
    rw[<-hkm]
    cases z:(valV kvs (Sum.inl c.key)).isSome with
    |true=>rfl
    |false=>rw[z] at h;exact absurd rfl h
   refine⟨_,_,rfl,s3,kvs,hk,by omega,λx=>?_⟩
   rw[hkm,ed,marks_cons,if_pos hmk]
 ·rintro σ H3 ⟨v,w,rfl,s3,kvs,hk,hkl,hkm⟩
  rw[List.length_map,List.length_map] at hkl hkm
  rw[Nat.sub_self,List.drop_zero] at hkm
  intro f hf
  have s4:Same H3 (upd H3 f (.dK [])):=Same.new hf
  refine⟨_,rfl,p,rfl,⟨_,SqL.of (s4 _ _ (s3 _ _ h1))⟩,iK (K:=Z.K) (a:=p) (xs:=(keysOf l).map V.int) (λi σ H'=>∃v:Option V,σ=[some (.ref a.c),some (.int d),some (.ref p),some (.ref m),v,w,some (.ref f)]/\Same H3 H'/\H' f=some (.dK ((l.take i).map λc=>(Sum.inl c.key,V.int (fo l c)))))
   ⟨v,rfl,s4,upd_same⟩ (λi σ H' _ ⟨_,_,h,_⟩=>SqL.of (h _ _ (s3 _ _ h1))) ?_ ?_⟩
  ·rintro i y σ H' hy ⟨v,rfl,s5,h5⟩
   obtain⟨k,hy2,rfl⟩:=gmap hy
   obtain⟨c,hcl,rfl⟩:=gmap hy2
   have hcm:=List.mem_of_getElem? hcl
   have hil:=(List.getElem?_eq_some_iff.mp hcl).1
   have hvn:valV ((l.take i).map λc=>((Sum.inl c.key:Key),V.int (fo l c))) (Sum.inl c.key)=none:=by
    cases z:valV ((l.take i).map λc=>((Sum.inl c.key:Key),V.int (fo l c))) (Sum.inl c.key) with
    |none=>rfl
    |some u=>
     have z2:(valV ((l.take i).map λc=>((Sum.inl c.key:Key),V.int (fo l c))) (Sum.inl c.key)).isSome=true:=by rw[z];rfl
     rw[lU (λc=>V.int (fo l c))] at z2
     obtain⟨x,hx,ex⟩:=List.any_eq_true.mp z2
     obtain⟨j,hj⟩:=List.mem_iff_getElem?.mp hx
     have hjl:=(List.getElem?_eq_some_iff.mp hj).1
     rw[List.length_take] at hjl
     rw[List.getElem?_take_of_lt (by omega)] at hj
     have e1:(keysOf l)[j]? = some c.key:=by rw[List.getElem?_map,hj];exact congrArg some (beq_iff_eq.mp ex)
     have e2:(keysOf l)[i]? = some c.key:=by rw[List.getElem?_map,hcl];rfl
     have:=aJW lat.nd e1 e2
     omega
   have hput:DPut H' f (kV (Sum.inl c.key)) (.int (fo l c)) (upd H' f (.dK (putK ((l.take i).map λc=>(Sum.inl c.key,V.int (fo l c))) (Sum.inl c.key) (.int (fo l c))))):=DPut.k h5 (small1000 (by rw[List.length_map];have:=fK i l;omega))
   have fin:Same H3 (upd H' f (.dK (putK ((l.take i).map λc=>(Sum.inl c.key,V.int (fo l c))) (Sum.inl c.key) (.int (fo l c)))))/\(upd H' f (.dK (putK ((l.take i).map λc=>(Sum.inl c.key,V.int (fo l c))) (Sum.inl c.key) (.int (fo l c))))) f=some (.dK ((l.take (i+1)).map λc=>(Sum.inl c.key,V.int (fo l c)))):=
    ⟨s5.upd hf,by rw[upd_same,uK _ hvn,bU hcl,List.map_append];rfl⟩
   have hfo:=biY lat hcm
   refine⟨_,rfl,_,rfl,_,_,rfl,DGet.k (k:=Sum.inl c.key) (s5 _ _ hk),_,rfl,ite2 (λh=>?_) λh=>?_⟩
   ·rw[hkm] at h
    rw[if_pos h] at hfo
    rw[hfo] at hput fin
    exact⟨_,rfl,_,rfl,_,_,rfl,hput,_,rfl,fin.1,fin.2⟩
   ·rw[hkm] at h
    rw[if_neg h] at hfo
    rw[hfo] at hput fin
    exact⟨_,rfl,_,rfl,_,_,rfl,hput,_,rfl,fin.1,fin.2⟩
  ·rintro σ H' ⟨v,rfl,s5,h5⟩
   rw[List.length_map,List.length_map,List.take_length] at h5
   exact⟨_,rfl,q _ _ ((s1.trans s3).trans s5) ((s1.trans s3).free hf) h5⟩
abbrev iV:Stmt:=top 77
theorem hX:FnScope ["court", "forces", "key", "later"] ["court", "forces", "key"] (defScope iV):=mkSc
theorem OX(F:Fun Z.K "those_that_annul" "those_that_annul" iV f fd)(T:Tx Z Cc Ck Cf)(D_annulled_by:DefOk Z 1 "annulled_by" ["court", "key"] (spAnnulled Cc Ck)):OkZ Z 2 f fd ["court", "forces", "key"] (spThose Cc Ck):=by
 refine okS F hX λs H Q E hr h=>?_
 obtain⟨⟨z,k⟩,rfl,B,q⟩:=h
 dsimp only at B q
 have len:=B.ct.len z.d
 have hfa:=B.fa
 have B1:=B.ct
 generalize hl:RB z.a.s z.d=l at q len hfa
 rcases hfa with hfa | ⟨od,hfz⟩
 ·refine⟨_,(aQ
  (aU (UJ (kU (own:=[("later",3)]) rfl hX.nd (rZ (pv 1)) (eK (by show blkC ["court", "forces", "key", "later"] (defScope iV) _ _=true;decide +kernel)) (λ_ _ _ _ _=>by exact cK (i:=3) hX.nd rfl (Or.inl rfl)) (λ_ _ _ _ _=>by exact(rY (bZ (aeJ Z.K) (pv 2) (cJ D_annulled_by (hr.mono (by decide)) rfl (aJ (pv 0) (aJ (pv 3) pa_nil))) rfl))) (λ_ _ _ _ _=>by exact(pv 3)))))),?_⟩
  refine⟨z.fa,_,hfa,trivial,λod=>?_⟩
  have k0:But z.fa H (upd H z.fa (.frz od (.dK (kvF l)))):=But.lock
  have gr0:∀b,upd H z.fa (.frz od (.dK (kvF l))) b=none->H b=none:=λb h=>aW h
  have B1:=B.ct.but hfa (by intro xs y;cases y) B.ow k0 gr0
  generalize hH1:upd H z.fa (.frz od (.dK (kvF l)))=H1 at k0 gr0 B1 ⊢
  have hfz:H1 z.fa=some (.frz od (.dK (kvF l))):=by rw[<-hH1,upd_same]
  refine⟨_,rfl,_,od,rfl,.inl ⟨_,hfz,λD hD=>?_⟩⟩
  refine lck (λi=>((l.take i).filter λc=>Vbnlal.annuls c k).map λc=>V.int c.key) hD hfz rfl (λi _=>small1000 ?_) ?_ ?_
  ·rw[List.length_map]
   have h1:=List.length_filter_le (λc=>Vbnlal.annuls c k) (l.take i)
   have h2:=fK i l
   omega
  ·intro i y w H2 hy s2 k' nx h1 h2
   obtain⟨c,hcl,e⟩:=gmap hy
   cases e
   have B2:=B1.same s2
   obtain⟨j,p3,hx,hv⟩:=B2.ruling (hl▸List.mem_of_getElem? hcl)
   refine⟨rfl,_,rfl,_,rfl,_,rfl,⟨z.a,j,p3,c⟩,rfl,hx,λH4 t s4 ht h4=>⟨_,_,rfl,.inl (SqL.of h4),rfl,EW _,_,rfl,?_⟩⟩
   have e2:(if false=true then !inV (V.int k) ((tgts c).map V.int) else inV (V.int k) ((tgts c).map V.int))=Vbnlal.annuls c k:=by
    rw[if_neg Bool.false_ne_true,in_ints,tgts_has]
   dsimp only
   rw[e2]
   refine ite2 (λh=>⟨_,rfl,h1 _ _ s4 ?_⟩) λh=>h2 _ s4 ?_
   ·rw[bU hcl,List.filter_append,List.map_append,List.filter_cons,if_pos h]
    rfl
   ·rw[bU hcl,List.filter_append,List.filter_cons,if_neg h,List.filter_nil,List.append_nil]
  ·intro H2 s2 hD2
   rw[List.length_map,List.take_length] at hD2
   have hne:D≠z.fa:=(aX hfz hD).symm
   refine⟨s2 _ _ hfz,q _ _ ((k0.same s2).back hfa) (gr0 _ hD) ?_⟩
   rw[aV hne,hD2]
   unfold keysOf anns
   rw[List.map_map]
   rfl
 ·refine⟨_,(aQ
  (aU (kU (own:=[("later",3)]) rfl hX.nd (rZ (pv 1)) (eK (by show blkC ["court", "forces", "key", "later"] (defScope iV) _ _=true;decide +kernel)) (λ_ _ _ _ _=>by exact cK (i:=3) hX.nd rfl (Or.inl rfl)) (λ_ _ _ _ _=>by exact(rY (bZ (aeJ Z.K) (pv 2) (cJ D_annulled_by (hr.mono (by decide)) rfl (aJ (pv 0) (aJ (pv 3) pa_nil))) rfl))) (λ_ _ _ _ _=>by exact(pv 3))))),?_⟩
  refine⟨_,rfl,_,od,rfl,.inl ⟨_,hfz,λD hD=>?_⟩⟩
  refine lck (λi=>((l.take i).filter λc=>Vbnlal.annuls c k).map λc=>V.int c.key) hD hfz rfl (λi _=>small1000 ?_) ?_ ?_
  ·rw[List.length_map]
   have h1:=List.length_filter_le (λc=>Vbnlal.annuls c k) (l.take i)
   have h2:=fK i l
   omega
  ·intro i y w H2 hy s2 k' nx h1 h2
   obtain⟨c,hcl,e⟩:=gmap hy
   cases e
   have B2:=B1.same s2
   obtain⟨j,p3,hx,hv⟩:=B2.ruling (hl▸List.mem_of_getElem? hcl)
   refine⟨rfl,_,rfl,_,rfl,_,rfl,⟨z.a,j,p3,c⟩,rfl,hx,λH4 t s4 ht h4=>⟨_,_,rfl,.inl (SqL.of h4),rfl,EW _,_,rfl,?_⟩⟩
   have e2:(if false=true then !inV (V.int k) ((tgts c).map V.int) else inV (V.int k) ((tgts c).map V.int))=Vbnlal.annuls c k:=by
    rw[if_neg Bool.false_ne_true,in_ints,tgts_has]
   dsimp only
   rw[e2]
   refine ite2 (λh=>⟨_,rfl,h1 _ _ s4 ?_⟩) λh=>h2 _ s4 ?_
   ·rw[bU hcl,List.filter_append,List.map_append,List.filter_cons,if_pos h]
    rfl
   ·rw[bU hcl,List.filter_append,List.filter_cons,if_neg h,List.filter_nil,List.append_nil]
  ·intro H2 s2 hD2
   rw[List.length_map,List.take_length] at hD2
   refine q _ _ s2 hD (hD2.trans ?_)
   unfold keysOf anns
   rw[List.map_map]
   rfl
end
theorem anV(l:List Case)(R:Int->Bool):(told2 l R).length<=2*l.length:=by
 unfold told2
 refine Nat.le_trans (eJ (k:=2) λx _=>Nat.le_refl _) (Nat.mul_le_mul_left _ (List.length_filter_le _ _))
theorem afU(l0:List Case)(f:Case->Int)(l:List Case)(c:Case)(R:Int->Bool):(((l++[c]).filter λc=>R c.key).flatMap λc=>[c.key,f c])=((l.filter λc=>R c.key).flatMap λc=>[c.key,f c])++if R c.key=true then [c.key,f c] else []:=by
 rw[List.filter_append,List.flatMap_append,List.filter_cons]
 by_cases h:R c.key=true
 ·rw[if_pos h,if_pos h]
  rfl
 ·rw[if_neg h,if_neg h]
  rfl
theorem cut_last(xs:List V):cutV xs (some (-1)) none=lastL xs:=by
 unfold cutV lastL
 have e:HT.sIx xs.length 0 (some (-1))=xs.length - 1:=by
  show(if(-1:Int)<0 then((-1:Int)+(xs.length:Int)).toNat else min (-1:Int).toNat xs.length)=_
  rw[if_pos (by decide)]
  omega
 rw[e,HT.aVJ,List.take_of_length_le (by rw[List.length_drop];exact Nat.le_refl _)]
def stepR(l:List Case)(R:Int->Bool)(c:Case):Int->Bool:=if R c.key=true then(λx=>R x || (keysOf (reasons l c)).contains x) else R
theorem bcX{l:List Case}{R:Int->Bool}{c:Case}(h:R c.key=true)(x:Int):stepR l R c x=(R x || (keysOf (reasons l c)).contains x):=by
 unfold stepR
 rw[if_pos h]
theorem bcY{l:List Case}{R:Int->Bool}{c:Case}(h:¬R c.key=true)(x:Int):stepR l R c x=R x:=by
 unfold stepR
 rw[if_neg h]
theorem afV(l:List Case):∀(r:List Case)(R:Int->Bool),reach l r R=r.foldl (stepR l) R
 |[],R=>rfl
 |c::r,R=>afV l r _
section
variable{Z:Wd}{Cc Ck Cf f:Addr}{fd:FuncData}
abbrev CU:Stmt:=top 78
theorem yK:FnScope ["forces", "wanted", "told", "key"] ["forces", "wanted"] (defScope CU):=mkSc
theorem apY(F:Fun Z.K "told_pairs" "told_pairs" CU f fd)(T:Tx Z Cc Ck Cf):OkZ Z 1 f fd ["forces", "wanted"] (spTold):=by
 refine okS F yK λs H Q E hr h=>?_
 obtain⟨⟨fa,l,wa,kvs⟩,rfl,hf,hw,nd,len,q⟩:=h
 have hu:=dY hr
 refine⟨_,(aK
  (bQ (i:=2) yK.nd rfl (Or.inl rfl) (bJ pa_nil))
  (aK
  (aiQ (fV PassesOwn.never rfl (rZ (pv 0)) (cK (i:=3) yK.nd rfl (Or.inl rfl))
   (aQ
    (bY (dW (xQ hu (pv 3) (pv 1)) rfl)
     (aQ
      (gJ (mW PySem.F.plainAttrs_list PySem.F.slot_list_extend PySem.F.type_list_extend xJ (pv 2) (aJ (bJ (aJ (pv 3) (aJ (gU hu (pv 0) (pv 3) (λ_ _=>rfl)) pa_nil))) pa_nil hJ))))
     aZ))))
  (aQ
  (aU (pv 2))))),?_⟩
 dsimp only at hf hw nd len q
 refine⟨by decide,λt ht=>?_⟩
 have s1:Same H (upd H t (.lst [])):=Same.new ht
 have t1:(upd H t (.lst [])) t=some (.lst []):=upd_same
 generalize upd H t (.lst [])=H1 at s1 t1 ⊢
 have hf1:=s1 _ _ hf
 refine⟨fa,_,hf1,trivial,λod=>?_⟩
 have htf:t≠fa:=λe=>by rw[e,hf] at ht;cases ht
 have k0:But fa H (upd H1 fa (.frz od (.dK (kvF l)))):=λb o hb hn=>by rw[aV hn];exact s1 _ _ hb
 have t2:(upd H1 fa (.frz od (.dK (kvF l)))) t=some (.lst []):=by rw[aV htf];exact t1
 have f2:(upd H1 fa (.frz od (.dK (kvF l)))) fa=some (.frz od (.dK (kvF l))):=upd_same
 generalize upd H1 fa (.frz od (.dK (kvF l)))=H2 at k0 t2 f2 ⊢
 refine⟨_,rfl,_,od,rfl,.inl ⟨_,f2,aaK (d:=fa) (o:=od) (kvs:=kvF l) (λi σ H'=>∃v:Option V,σ=[some (.ref fa),some (.ref wa),some (.ref t),v]/\But fa H H'/\H' fa=some (.frz od (.dK (kvF l)))/\
   H' t=some (.lst ((((l.take i).filter λc=>(valV kvs (Sum.inl c.key)).isSome).flatMap λc=>[c.key,fo l c]).map V.int)))
  ⟨none,rfl,k0,f2,t2⟩ (λi σ H' _ ⟨_,_,_,h,_⟩=>h) ?_ ?_⟩⟩
 ·rintro i k v σ H3 hk ⟨v0,rfl,k3,f3,t3⟩
  obtain⟨c,hcl,e⟩:=gmap hk
  cases e
  have hcm:=List.mem_of_getElem? hcl
  have hw3:Rd H3 wa (.dK kvs):=by
   by_cases e:wa=fa
   ·rw[e] at hw ⊢
    rw[hf] at hw
    cases hw
    exact .inr ⟨od,f3⟩
   ·exact .inl (k3 _ _ hw e)
  refine⟨_,rfl,_,rfl,_,_,rfl,.inl ⟨kvs,Sum.inl c.key,hw3,rfl,rfl⟩,_,rfl,ite2 (λh=>?_) λh=>?_⟩
  ·have hv:valV (kvF l) (Sum.inl c.key)=some (.int (fo l c)):=UW (β:=Unit) (λc=>V.int (fo l c)) nd hcm
   refine⟨_,rfl,.inl ⟨rfl,_,SqL.of t3⟩,_,rfl,_,rfl,_,rfl,_,_,rfl,.inl ⟨_,Sum.inl c.key,.inr ⟨od,f3⟩,rfl,hv.symm⟩,l2,λb hb=>?_⟩
   have s4:Same H3 (upd H3 b (.lst [.int c.key,.int (fo l c)])):=Same.new hb
   have nbf:fa≠b:=aX f3 hb
   refine⟨t,b,_,_,rfl,rfl,s4 _ _ t3,upd_same,Nat.le_of_lt (small1000 ?_),_,rfl,?_,?_,?_⟩
   ·rw[List.length_map]
    have h1:=eJ (f:=λc=>[c.key,fo l c]) (k:=2) (l:=(l.take i).filter λc=>(valV kvs (Sum.inl c.key)).isSome) λx _=>Nat.le_refl _
    have h2:=List.length_filter_le (λc:Case=>(valV kvs (Sum.inl c.key)).isSome) (l.take i)
    have h3:=fK i l
    show _+2<=1000
    omega
   ·exact(k3.same s4).new ht
   ·rw[aV htf.symm]
    exact s4 _ _ f3
   ·rw[upd_same,bU hcl,afU l (fo l) _ c λx=>(valV kvs (Sum.inl x)).isSome,if_pos h,List.map_append]
    rfl
  ·refine⟨_,rfl,k3,f3,?_⟩
   rw[bU hcl,afU l (fo l) _ c λx=>(valV kvs (Sum.inl x)).isSome,if_neg h,List.append_nil]
   exact t3
 ·rintro σ H3 ⟨v0,rfl,k3,f3,t3⟩
  rw[List.length_map,List.take_length] at t3
  refine⟨f3,_,rfl,q _ _ (k3.back hf) ht ?_⟩
  rw[aV htf]
  exact t3
abbrev uY:Stmt:=top 79
theorem EX:FnScope ["court", "d", "forces"] ["court", "d"] (defScope uY):=mkSc
theorem afW(F:Fun Z.K "tell_rulings" "tell_rulings" uY f fd)(T:Tx Z Cc Ck Cf)(D_is_day:DefOk Z 1 "is_day" ["number"] (spB1 Vbnlal.dayOk))(D_forces_at:DefOk Z 2 "forces_at" ["court", "d"] (spForces Cc Ck))(D_told_pairs:DefOk Z 1 "told_pairs" ["forces", "wanted"] (spTold)):OkZ Z 3 f fd ["court", "d"] (spR1 Cc Ck λs d=>(Vbnlal.step s (.rulings d)).2):=by
 refine okS F EX λs H Q E hr h=>?_
 obtain⟨⟨a,d⟩,rfl,B,q⟩:=h
 refine⟨_,(aK
  (bY (iU (fQ (cJ D_is_day (hr.mono (by decide)) rfl (aJ (pv 1) pa_nil))))
   (aQ
    (aU (bJ (aJ (bK T.g_OUT_OF_RANGE rfl) pa_nil))))
   aZ)
  (aK
  (bQ (i:=2) EX.nd rfl (Or.inl rfl) (cJ D_forces_at (hr.mono (by decide)) rfl (aJ (pv 0) (aJ (pv 1) pa_nil))))
  (aQ
  (aU (gY QK (bJ (aJ aY pa_nil)) (cJ D_told_pairs (hr.mono (by decide)) rfl (aJ (pv 2) (aJ (pv 2) pa_nil)))))))),?_⟩
 dsimp only at B q
 have q0:RetL H Q (if Vbnlal.dayOk d=false then(a.s,[-9]) else(a.s,0::(RB a.s d).flatMap λc=>[c.key,Vbnlal.truth ((Vbnlal.kernel (RB a.s d)).contains c.key)]):State×List Int).2:=q
 clear q
 have q:=q0
 refine⟨_,rfl,_,rfl,_,rfl,ite2 (λh=>?_) λh=>?_⟩
 ·rw[if_pos (by simpa using h)] at q
  exact⟨by decide,q.now (Same.refl _) rfl⟩
 rw[if_neg (by simpa using h)] at q
 refine⟨_,rfl,_,rfl,⟨a,d⟩,rfl,B,λH1 f s1 hf h1=>?_⟩
 dsimp only at h1
 have B1:=B.same s1
 have of1:=B.at_.dom f hf
 refine⟨by decide,λl hl=>?_⟩
 have s2:Same H1 (upd H1 l (.lst [.int 0])):=Same.new hl
 refine⟨_,rfl,_,rfl,⟨f,RB a.s d,f,kvF (RB a.s d)⟩,rfl,s2 _ _ h1,s2 _ _ h1,(B.later d).nd,B.len d,λH3 t s3 ht h3=>?_⟩
 have e:told2 (RB a.s d) (λx=>(valV (kvF (RB a.s d)) (Sum.inl x)).isSome)=(RB a.s d).flatMap λc=>[c.key,Vbnlal.truth ((Vbnlal.kernel (RB a.s d)).contains c.key)]:=by
  unfold told2
  rw[List.filter_eq_self.mpr λc hc=>by show(valV (kvF (RB a.s d)) (Sum.inl c.key)).isSome=true;rw[lU (λc=>V.int (fo (RB a.s d) c))];exact List.any_eq_true.mpr ⟨c,hc,beq_self_eq_true _⟩]
  rfl
 dsimp only at h3
 have hlen:=anV (RB a.s d) λx=>(valV (kvF (RB a.s d)) (Sum.inl x)).isSome
 have:=B.len d
 refine⟨l,t,_,_,rfl,rfl,s3 _ _ upd_same,h3,Nat.le_of_lt (small1000 (by rw[List.length_map];show 1+_<=1000;omega)),?_⟩
 rw[e]
 exact q.now ((s1.trans s2).trans s3) rfl
abbrev LZ:Stmt:=top 80
theorem XV:FnScope ["court", "d", "key", "forces"] ["court", "d", "key"] (defScope LZ):=mkSc
theorem aDJ(F:Fun Z.K "in_force" "in_force" LZ f fd)(T:Tx Z Cc Ck Cf)(D_is_day:DefOk Z 1 "is_day" ["number"] (spB1 Vbnlal.dayOk))(D_forces_at:DefOk Z 2 "forces_at" ["court", "d"] (spForces Cc Ck)):OkZ Z 3 f fd ["court", "d", "key"] (spR2 Cc Ck λs d k=>(Vbnlal.step s (.inForce d k)).2):=by
 refine okS F XV λs H Q E hr h=>?_
 obtain⟨⟨a,d,k⟩,rfl,B,q⟩:=h
 have hu:=dY hr
 refine⟨_,(aK
  (bY (iU (fQ (cJ D_is_day (hr.mono (by decide)) rfl (aJ (pv 1) pa_nil))))
   (aQ
    (aU (bJ (aJ (bK T.g_OUT_OF_RANGE rfl) pa_nil))))
   aZ)
  (aK
  (bQ (i:=3) XV.nd rfl (Or.inl rfl) (cJ D_forces_at (hr.mono (by decide)) rfl (aJ (pv 0) (aJ (pv 1) pa_nil))))
  (aK
  (bY (dW (kW hu (pv 2) (pv 3)) rfl)
   (aQ
    (aU (bJ (aJ (bK T.g_NOT_THERE rfl) pa_nil))))
   aZ)
  (aQ
  (aU (bJ (aJ (gU hu (pv 3) (pv 2) (λ_ _=>rfl)) pa_nil))))))),?_⟩
 dsimp only at B q
 have q0:RetL H Q (Vbnlal.askRuling a.s d k [Vbnlal.truth ((Vbnlal.kernel (RB a.s d)).contains k)]).2:=q
 clear q
 have q:=q0
 unfold Vbnlal.askRuling at q
 refine⟨_,rfl,_,rfl,_,rfl,ite2 (λh=>?_) λh=>?_⟩
 ·rw[if_pos (by simpa using h)] at q
  exact⟨by decide,q.now (Same.refl _) rfl⟩
 rw[if_neg (by simpa using h)] at q
 refine⟨_,rfl,_,rfl,⟨a,d⟩,rfl,B,λH1 f s1 hf h1=>?_⟩
 dsimp only at h1
 have B1:=B.same s1
 have of1:=B.at_.dom f hf
 refine⟨_,rfl,_,rfl,_,_,rfl,DGet.k (k:=Sum.inl k) h1,_,rfl,ite2 (λh=>?_) λh=>?_⟩
 ·rw[lU (λc=>V.int (fo (RB a.s d) c))] at h
  rw[if_neg (by simpa using h)] at q
  exact⟨by decide,q.now s1 rfl⟩
 rw[lU (λc=>V.int (fo (RB a.s d) c))] at h
 have h:((RB a.s d).any λc=>c.key==k)=true:=by simpa using h
 rw[if_pos h] at q
 obtain⟨c,hcm,e⟩:=List.any_eq_true.mp h
 have e:=beq_iff_eq.mp e
 have hv:valV (kvF (RB a.s d)) (Sum.inl k)=some (.int (fo (RB a.s d) c)):=by
  rw[<-e]
  exact UW (β:=Unit) (λc=>V.int (fo (RB a.s d) c)) (B.later d).nd hcm
 refine⟨_,rfl,_,rfl,_,_,rfl,dgetI h1 hv,l1,q.now s1 ?_⟩
 unfold fo
 rw[e]
 rfl
abbrev sX:Stmt:=top 81
theorem rJ:FnScope ["court", "forces", "key", "annulling", "later"] ["court", "forces", "key"] (defScope sX):=mkSc
theorem apZ(F:Fun Z.K "reasons_of" "reasons_of" sX f fd)(T:Tx Z Cc Ck Cf)(D_those_that_annul:DefOk Z 2 "those_that_annul" ["court", "forces", "key"] (spThose Cc Ck)):OkZ Z 3 f fd ["court", "forces", "key"] (spReasons Cc Ck):=by
 refine F.ok rJ (λvs H Q E h=>?_) (λcdv A outer s H vs Q E hr h=>?_)
 ·obtain⟨a,rfl,_⟩:=h
  rfl
 ·obtain⟨⟨z,c⟩,rfl,B,hc,q⟩:=h
  have hu:=dY hr
  refine⟨_,(aK
   (bQ (i:=3) rJ.nd rfl (Or.inl rfl) (cJ D_those_that_annul (hr.mono (by decide)) rfl (aJ (pv 0) (aJ (pv 1) (aJ (pv 2) pa_nil)))))
   (aK
   (bY (bZ eQ (gU hu (pv 1) (pv 2) (λ_ _=>rfl)) aY (nomark _))
    (aQ
     (aU (pv 3)))
    aZ)
   (aQ
   (aU (KZ TX (kU (own:=[("later",4)]) rfl rJ.nd (dQ (pv 3)) (eK (by show blkC ["court", "forces", "key", "annulling", "later"] (defScope sX) _ _=true;decide +kernel)) (λ_ _ _ _ _=>by exact cK (i:=4) rJ.nd rfl (Or.inl rfl)) (λ_ _ _ _ _=>by exact(rY (bZ eQ (gU hu (pv 1) (pv 4) (λ_ _=>rfl)) aY (nomark _)))) (λ_ _ _ _ _=>by exact(pv 4))) (uJ (aIX atQ aY)) baZ))))),?_⟩
  dsimp only at B hc q
  have lat:=B.ct.later z.d
  have len:=B.ct.len z.d
  have hfa:=B.fa
  have hv:∀x∈RB z.a.s z.d,valV (kvF (RB z.a.s z.d)) (Sum.inl x.key)=some (.int (fo (RB z.a.s z.d) x)):=λx hx=>UW (β:=Unit) (λc=>V.int (fo (RB z.a.s z.d) c)) lat.nd hx
  refine⟨_,rfl,_,rfl,_,rfl,⟨z,c.key⟩,rfl,B,λH1 t s1 ht h1=>?_⟩
  dsimp only at h1
  unfold reasons at q
  refine⟨_,rfl,_,rfl,_,_,rfl,.inl ⟨_,Sum.inl c.key,s1.rd hfa,rfl,(hv c hc).symm⟩,rfl,_,rfl,ite2 (λh=>?_) λh=>?_⟩
  ·rw[if_pos (by simpa using h)] at q
   exact⟨_,rfl,q _ _ s1 ht h1⟩
  rw[if_neg (by simpa using h)] at q
  have asub:∀x∈anns (RB z.a.s z.d) c.key,x∈RB z.a.s z.d:=ZJ
  have alen:(anns (RB z.a.s z.d) c.key).length<=32:=Nat.le_trans (List.length_filter_le _ _) len
  generalize anns (RB z.a.s z.d) c.key=A at h1 q asub alen
  refine⟨_,rfl,t,rfl,⟨_,SqL.of h1⟩,λD hD=>?_⟩
  refine lcl (K:=Z.K) (xs:=(keysOf A).map V.int) (λi=>((A.take i).filter λx=>decide (fo (RB z.a.s z.d) x=1)).map λx=>V.int x.key) hD (SqL.of h1) rfl (λi _=>small1000 ?_) ?_ ?_
  ·rw[List.length_map]
   have h1:=List.length_filter_le (λx=>decide (fo (RB z.a.s z.d) x=1)) (A.take i)
   have h2:=fK i A
   omega
  ·intro i y H2 hy s2 k' nx g1 g2
   obtain⟨k,hy2,rfl⟩:=gmap hy
   obtain⟨x,hx,rfl⟩:=gmap hy2
   refine⟨rfl,_,rfl,_,rfl,_,_,rfl,.inl ⟨_,Sum.inl x.key,(s1.trans s2).rd hfa,rfl,(hv x (asub x (List.mem_of_getElem? hx))).symm⟩,rfl,_,rfl,ite2 (λh=>⟨_,rfl,g1 _ _ (Same.refl _) ?_⟩) λh=>g2 _ (Same.refl _) ?_⟩
   ·rw[bU hx,List.filter_append,List.map_append,List.filter_cons,if_pos (by simpa using h)]
    rfl
   ·rw[bU hx,List.filter_append,List.filter_cons,if_neg (by simpa using h),List.filter_nil,List.append_nil]
  ·intro H2 s2 hD2
   rw[List.length_map,List.length_map,List.take_length] at hD2
   generalize (A.filter λx=>decide (fo (RB z.a.s z.d) x=1))=F at hD2 q
   refine⟨_,rfl,_,rfl,_,_,rfl,SqL.of hD2,λb hb=>q _ _ ((s1.trans s2).trans (Same.new hb)) ((s1.trans s2).free hb) ?_⟩
   rw[upd_same,cut_last,lastL,lastL,List.length_map,<-List.map_drop,List.map_map]
   rfl
abbrev RY:Stmt:=top 82
theorem sY:FnScope ["court", "d", "key", "forces", "reached", "ruling", "reason"] ["court", "d", "key"] (defScope RY):=mkSc
theorem aLV(F:Fun Z.K "because" "because" RY f fd)(T:Tx Z Cc Ck Cf)(D_is_day:DefOk Z 1 "is_day" ["number"] (spB1 Vbnlal.dayOk))(D_forces_at:DefOk Z 2 "forces_at" ["court", "d"] (spForces Cc Ck))(D_reasons_of:DefOk Z 3 "reasons_of" ["court", "forces", "key"] (spReasons Cc Ck))(D_told_pairs:DefOk Z 1 "told_pairs" ["forces", "wanted"] (spTold)):OkZ Z 4 f fd ["court", "d", "key"] (spR2 Cc Ck λs d k=>(Vbnlal.step s (.because d k)).2):=by
 refine okS F sY λs H Q E hr h=>?_
 obtain⟨⟨a,d,k⟩,rfl,B,q⟩:=h
 have hu:=dY hr
 refine⟨_,(aK
  (bY (iU (fQ (cJ D_is_day (hr.mono (by decide)) rfl (aJ (pv 1) pa_nil))))
   (aQ
    (aU (bJ (aJ (bK T.g_OUT_OF_RANGE rfl) pa_nil))))
   aZ)
  (aK
  (bQ (i:=3) sY.nd rfl (Or.inl rfl) (cJ D_forces_at (hr.mono (by decide)) rfl (aJ (pv 0) (aJ (pv 1) pa_nil))))
  (aK
  (bY (dW (kW hu (pv 2) (pv 3)) rfl)
   (aQ
    (aU (bJ (aJ (bK T.g_NOT_THERE rfl) pa_nil))))
   aZ)
  (aK
  (bQ (i:=4) sY.nd rfl (Or.inl rfl) (bbW (aVV (pv 2) zX bbV) rfl rfl (by decide) (by decide)))
  (aK
  (aiQ (fV PassesOwn.never rfl (rZ (pv 3)) (cK (i:=5) sY.nd rfl (Or.inl rfl))
   (aQ
    (bY (dW (xQ hu (pv 5) (pv 4)) rfl)
     (aQ
      (fV PassesOwn.never rfl (dQ (cJ D_reasons_of (hr.mono (by decide)) rfl (aJ (pv 0) (aJ (pv 3) (aJ (pv 5) pa_nil))))) (cK (i:=6) sY.nd rfl (Or.inl rfl))
       (aQ
        (oZ hu (pv 4) (pv 6) zX rfl))))
     aZ))))
  (aQ
  (aU (gY QK (bJ (aJ aY pa_nil)) (cJ D_told_pairs (hr.mono (by decide)) rfl (aJ (pv 3) (aJ (pv 4) pa_nil))))))))))),?_⟩
 dsimp only at B q
 have q0:RetL H Q (Vbnlal.askRuling a.s d k (0::(Vbnlal.because a.s d k).flatMap λp=>[p.1,p.2])).2:=q
 clear q
 have q:=q0
 unfold Vbnlal.askRuling at q
 refine⟨_,rfl,_,rfl,_,rfl,ite2 (λh=>?_) λh=>?_⟩
 ·rw[if_pos (by simpa using h)] at q
  exact⟨by decide,q.now (Same.refl _) rfl⟩
 rw[if_neg (by simpa using h)] at q
 refine⟨_,rfl,_,rfl,⟨a,d⟩,rfl,B,λH1 f s1 hf h1=>?_⟩
 dsimp only at h1
 have B1:=B.same s1
 have of1:=B.at_.dom f hf
 refine⟨_,rfl,_,rfl,_,_,rfl,DGet.k (k:=Sum.inl k) h1,_,rfl,ite2 (λh=>?_) λh=>?_⟩
 ·rw[lU (λc=>V.int (fo (RB a.s d) c))] at h
  rw[if_neg (by simpa using h)] at q
  exact⟨by decide,q.now s1 rfl⟩
 rw[lU (λc=>V.int (fo (RB a.s d) c))] at h
 have h:((RB a.s d).any λc=>c.key==k)=true:=by simpa using h
 rw[if_pos h] at q
 have hmem:k∈keysOf (RB a.s d):=by
  obtain⟨c,hcm,e⟩:=List.any_eq_true.mp h
  exact beq_iff_eq.mp e▸List.mem_map_of_mem hcm
 have lat:=B.later d
 have len:=B.len d
 rw[<-aIJ lat hmem] at q
 intro r hr
 have hr0:H1 r=none:=hr
 refine⟨_,rfl,by rw[upd_same],[(Sum.inl k,.bl true)],rfl,(by show 1<=15;decide),?_⟩
 have nrf:f≠r:=aX h1 hr
 have R1:(upd (upd H1 r (.dK [])) r (.dK (mergeK [] [(Sum.inl k,V.bl true)]))) r=some (.dK [(Sum.inl k,.bl true)]):=by rw[upd_same];rfl
 have s2:Same H1 (upd (upd H1 r (.dK [])) r (.dK (mergeK [] [(Sum.inl k,V.bl true)]))):=(Same.new hr).upd hr
 generalize upd (upd H1 r (.dK [])) r (.dK (mergeK [] [(Sum.inl k,V.bl true)]))=H2 at R1 s2 ⊢
 have h2:=s2 _ _ h1
 refine⟨f,_,h2,trivial,λod=>?_⟩
 have f3:(upd H2 f (.frz od (.dK (kvF (RB a.s d))))) f=some (.frz od (.dK (kvF (RB a.s d)))):=upd_same
 have R3:(upd H2 f (.frz od (.dK (kvF (RB a.s d))))) r=some (.dK [(Sum.inl k,.bl true)]):=by rw[aV (Ne.symm nrf)];exact R1
 have s3:Same H (upd H2 f (.frz od (.dK (kvF (RB a.s d))))):=(s1.trans s2).upd hf
 generalize upd H2 f (.frz od (.dK (kvF (RB a.s d))))=H3 at f3 R3 s3 ⊢
 have hrH:H r=none:=s1.free hr
 refine⟨_,rfl,_,od,rfl,.inl ⟨_,f3,aaK (d:=f) (o:=od) (kvs:=kvF (RB a.s d)) (λi σ H'=>∃v w:Option V,σ=[some (.ref a.c),some (.int d),some (.int k),some (.ref f),some (.ref r),v,w]/\Same H H'/\H' f=some (.frz od (.dK (kvF (RB a.s d))))/\
   ∃kvs,H' r=some (.dK kvs)/\kvs.length<=1+32*i/\∀x,(valV kvs (Sum.inl x)).isSome=((RB a.s d).take i).foldl (stepR (RB a.s d)) (λy=>y==k) x)
  ⟨none,none,rfl,s3,f3,_,R3,(by show 1<=1;decide),λx=>?_⟩ (λi σ H' _ ⟨_,_,_,_,h,_⟩=>h) ?_ ?_⟩⟩
 ·show(valV [((Sum.inl k:Key),V.bl true)] (Sum.inl x)).isSome=(x==k)
  by_cases e:k=x
  ·rw[fY (p:=((Sum.inl k:Key),V.bl true)) (congrArg Sum.inl e),e]
   simp
  ·rw[fZ (p:=((Sum.inl k:Key),V.bl true)) (λz=>e (Sum.inl.inj z))]
   rw[show(x==k)=false from beq_eq_false_iff_ne.mpr (Ne.symm e)]
   rfl
 ·rintro i k2 v2 σ H4 hk ⟨v,w,rfl,s4,f4,kvs,hkv,hkl,hkm⟩
  obtain⟨c,hcl,e⟩:=gmap hk
  cases e
  have hcm:=List.mem_of_getElem? hcl
  have hil:=(List.getElem?_eq_some_iff.mp hcl).1
  have efold:((RB a.s d).take (i+1)).foldl (stepR (RB a.s d)) (λy=>y==k)=stepR (RB a.s d) (((RB a.s d).take i).foldl (stepR (RB a.s d)) (λy=>y==k)) c:=by
   rw[bU hcl,List.foldl_append]
   rfl
  refine⟨_,rfl,_,rfl,_,_,rfl,DGet.k (k:=Sum.inl c.key) hkv,_,rfl,ite2 (λh=>?_) λh=>?_⟩
  ·rw[hkm] at h
   have B4:=B.same s4
   refine⟨_,rfl,_,rfl,_,rfl,⟨⟨a,d,f⟩,c⟩,rfl,⟨B4,.inr ⟨od,f4⟩,of1⟩,hcm,λH5 t s5 ht h5=>?_⟩
   dsimp only at h5
   have rlen:(keysOf (reasons (RB a.s d) c)).length<=32:=by
    rw[List.length_map]
    unfold reasons
    split
    ·exact Nat.le_trans (List.length_filter_le _ _) len
    ·exact Nat.le_trans (by unfold lastL;rw[List.length_drop];exact Nat.sub_le _ _) (Nat.le_trans (List.length_filter_le _ _) (Nat.le_trans (List.length_filter_le _ _) len))
   generalize hR:keysOf (reasons (RB a.s d) c)=rs at h5 rlen
   refine⟨t,rfl,⟨_,SqL.of h5⟩,iK (K:=Z.K) (a:=t) (xs:=rs.map V.int) (λj σ H'=>∃w:Option V,σ=[some (.ref a.c),some (.int d),some (.int k),some (.ref f),some (.ref r),some (.int c.key),w]/\But r H5 H'/\
     ∃kvs',H' r=some (.dK kvs')/\kvs'.length<=1+32*i+j/\∀x,(valV kvs' (Sum.inl x)).isSome=(((RB a.s d).take i).foldl (stepR (RB a.s d)) (λy=>y==k) x || (rs.take j).contains x))
    ⟨w,rfl,But.refl _ _,kvs,s5 _ _ hkv,hkl,λx=>by rw[hkm];simp⟩ (λj σ H' _ ⟨_,_,h,_⟩=>SqL.of (h _ _ h5 (eW h5 (s5 _ _ hkv) (by intro z;cases z)))) ?_ ?_⟩
   ·rintro j y σ H' hy ⟨w,rfl,k6,kvs',hk',hkl',hkm'⟩
    obtain⟨x,hx2,rfl⟩:=gmap hy
    have hj:=(List.getElem?_eq_some_iff.mp hx2).1
    refine⟨_,rfl,_,rfl,_,_,rfl,DPut.k (k:=Sum.inl x) hk' (smallS (by omega)),_,rfl,k6.upd,_,upd_same,?_,λy=>?_⟩
    ·have:=nX kvs' (Sum.inl x) (V.bl true)
     omega
    ·rw[BU,bU hx2,List.contains_eq_mem]
     by_cases e:y=x
     ·subst e
      rw[if_pos rfl]
      simp
     ·rw[if_neg (λz=>e (Sum.inl.inj z)),hkm',List.contains_eq_mem]
      simp[e]
   ·rintro σ H' ⟨w,rfl,k6,kvs',hk',hkl',hkm'⟩
    rw[List.length_map] at hkl' hkm'
    rw[List.take_length] at hkm'
    refine⟨_,_,rfl,λb o hb=>k6 _ _ (s5 _ _ (s4 _ _ hb)) (aX hb hrH),k6 _ _ (s5 _ _ f4) nrf,kvs',hk',by omega,λx=>?_⟩
    rw[hkm',efold,bcX h,hR]
  ·rw[hkm] at h
   refine⟨_,_,rfl,s4,f4,kvs,hkv,by omega,λx=>?_⟩
   rw[hkm,efold,bcY h]
 ·rintro σ H4 ⟨v,w,rfl,s4,f4,kvs,hkv,hkl,hkm⟩
  rw[List.length_map] at hkl hkm
  rw[List.take_length] at hkm
  refine⟨f4,by decide,λl hl=>?_⟩
  have nfl:f≠l:=aX upd_same hl
  have s5:Same H (upd H4 f (.dK (kvF (RB a.s d)))):=s4.upd hf
  have f5:(upd H4 f (.dK (kvF (RB a.s d)))) f=some (.dK (kvF (RB a.s d))):=upd_same
  have r5:(upd H4 f (.dK (kvF (RB a.s d)))) r=some (.dK kvs):=by rw[aV (Ne.symm nrf)];exact hkv
  generalize upd H4 f (.dK (kvF (RB a.s d)))=H5 at hl s5 f5 r5 ⊢
  have s6:Same H5 (upd H5 l (.lst [.int 0])):=Same.new hl
  refine⟨_,rfl,_,rfl,⟨f,RB a.s d,r,kvs⟩,rfl,s6 _ _ f5,s6 _ _ r5,lat.nd,len,λH7 t s7 ht h7=>?_⟩
  dsimp only at h7
  have e:told2 (RB a.s d) (λx=>(valV kvs (Sum.inl x)).isSome)=becauseL (RB a.s d) k:=by
   unfold becauseL
   rw[afV]
   congr 1
   funext x
   exact hkm x
  have hlen:=anV (RB a.s d) λx=>(valV kvs (Sum.inl x)).isSome
  refine⟨l,t,_,_,rfl,rfl,s7 _ _ upd_same,h7,Nat.le_of_lt (small1000 (by rw[List.length_map];show 1+_<=1000;omega)),?_⟩
  rw[e]
  exact q.now ((s5.trans s6).trans s7) rfl
end
theorem small80:∀m:Fin 81,Builtin.Range.small 0 (m.val:Int) 2=true:=by decide +kernel
theorem rg80{m:Nat}(h:m<=80)(he:m % 2=0):RgC 0 (m:Int) 2 (m / 2):=by
 refine⟨by decide,by decide,small80 ⟨m,by omega⟩,?_⟩
 unfold Builtin.Range.rangeSize
 rw[if_pos (by decide)]
 split <;> omega
theorem afX{l:List (Int×Int)}{i:Nat}{x:Int×Int}(h:l[i]? = some x)(nd:((l.take i).map (·.1)).Nodup):((l.take (i+1)).map (·.1)).Nodup↔x.1∉(l.take i).map (·.1):=by
 rw[bU h,List.map_append]
 constructor
 ·intro z y
  exact(List.nodup_append.mp z).2.2 _ y _ (by simp) rfl
 ·intro z
  exact aiW nd z
section
variable{Z:Wd}{Cc Ck Cf f:Addr}{fd:FuncData}
abbrev GY:Stmt:=top 83
theorem CV:FnScope ["row", "claims", "place"] ["row"] (defScope GY):=mkSc
theorem awV(F:Fun Z.K "claims_of" "claims_of" GY f fd)(T:Tx Z Cc Ck Cf):OkZ Z 1 f fd ["row"] (spClaims Z.K):=by
 refine okS F CV λs H Q E hr h=>?_
 obtain⟨⟨ra,row⟩,rfl,hS,h80,q⟩:=h
 have hu:=dY hr
 refine⟨_,(aK
  (bY (bZ acY (gY bfU (cX eZ (by rfl) T.n_len PySem.boot_len (aJ (pv 0) pa_nil)) aY) aY (nomark _))
   (aQ
    (aU wX))
   aZ)
  (aK
  (bQ (i:=1) CV.nd rfl (Or.inl rfl) oQ)
  (aK
  (fV PassesOwn.never rfl (aQU rfl T.n_range (aJ aY (aJ (cX eZ (by rfl) T.n_len PySem.boot_len (aJ (pv 0) pa_nil)) (aJ aY pa_nil)))) (cK (i:=2) CV.nd rfl (Or.inl rfl))
   (aK
    (bY (dW (xQ hu (cZ jK (pv 0) (pv 2) (λ_ _=>rfl)) (pv 1)) rfl)
     (aQ
      (aU wX))
     aZ)
    (aQ
    (oZ hu (pv 1) (cZ jK (pv 0) (pv 2) (λ_ _=>rfl)) (cZ jK (pv 0) (gY wY (pv 2) aY) (λ_ _=>rfl)) rfl))))
  (aQ
  (aU (pv 1)))))),?_⟩
 dsimp only at hS h80 q
 refine⟨_,rfl,_,_,rfl,.inl hS,_,_,rfl,rfl,(by show(0:Int)<2;decide),rfl,_,rfl,ite2 (λh=>?_) λh=>?_⟩
 ·refine(q H (Same.refl _)).1 λz=>?_
  simp at h
  have:=z.1
  omega
 have hev:row.length % 2=0:=by
  simp at h
  omega
 intro p hp
 have s1:Same H (upd H p (.dK [])):=Same.new hp
 have hSz:=λ{H'} (s:Same H H')=>s.seq hS
 have blen:=FV row
 refine⟨_,rfl,_,_,rfl,.inl (s1.seq hS),0,(row.length:Int),2,row.length / 2,(by rw[List.length_map]),rg80 h80 hev,aJQ (λi σ H'=>∃v:Option V,σ=[some (.ref ra),some (.ref p),v]/\Same H H'/\(((Vbnlal.ballotsOf row).take i).map (·.1)).Nodup/\H' p=some (.dK (kvI ((Vbnlal.ballotsOf row).take i))))
  ⟨none,rfl,s1,by simp,upd_same⟩ ?_ ?_⟩
 ·rintro i σ H' hi ⟨v,rfl,s2,nd,h2⟩
  have i1:2*i<row.length:=by omega
  have i2:2*i+1<row.length:=by omega
  have e1:(row.map V.int)[2*i]? = some (.int row[2*i]):=by rw[List.getElem?_map,List.getElem?_eq_getElem i1];rfl
  have e2:(row.map V.int)[2*i+1]? = some (.int row[2*i+1]):=by rw[List.getElem?_map,List.getElem?_eq_getElem i2];rfl
  have eb:=WV row i row[2*i] row[2*i+1] (List.getElem?_eq_getElem i1) (List.getElem?_eq_getElem i2)
  have il:((Vbnlal.ballotsOf row).take i).length<=40:=by
   have:=fK i (Vbnlal.ballotsOf row)
   omega
  refine⟨_,rfl,_,rfl,_,_,_,_,rfl,rfl,s2.seq hS,qY (j:=2*i) (by omega) e1,_,rfl,_,_,rfl,DGet.k (k:=Sum.inl row[2*i]) h2,_,rfl,ite2 (λh=>?_) λh=>?_⟩
  ·refine(q H' s2).1 λz=>?_
   rw[CK] at h
   have z2:(((Vbnlal.ballotsOf row).take (i+1)).map (·.1)).Nodup:=List.Nodup.sublist (List.Sublist.map _ (List.take_sublist _ _)) z.2
   rw[afX eb nd] at z2
   obtain⟨b,hb,e⟩:=List.any_eq_true.mp h
   exact z2 (List.mem_map.mpr ⟨b,hb,beq_iff_eq.mp e⟩)
  ·have hn:valV (kvI ((Vbnlal.ballotsOf row).take i)) (Sum.inl row[2*i])=none:=by
    cases z:valV (kvI ((Vbnlal.ballotsOf row).take i)) (Sum.inl row[2*i]) with
    |none=>rfl
    |some v=>rw[z] at h;exact absurd rfl h
   rw[CK] at h
   have nin:row[2*i]∉((Vbnlal.ballotsOf row).take i).map (·.1):=λz=>h (by
    obtain⟨b,hb,e⟩:=List.mem_map.mp z
    exact List.any_eq_true.mpr ⟨b,hb,beq_iff_eq.mpr e⟩)
   refine⟨_,rfl,_,rfl,_,_,rfl,rfl,_,_,_,_,rfl,rfl,s2.seq hS,qY (j:=2*i+1) (by omega) e2,_,rfl,_,rfl,_,rfl,_,_,_,_,rfl,rfl,s2.seq hS,qY (j:=2*i) (by omega) e1,_,_,rfl,DPut.k (k:=Sum.inl row[2*i]) h2 (small1000 (by rw[List.length_map];omega)),_,rfl,s2.upd hp,(afX eb nd).mpr nin,?_⟩
   rw[upd_same,uK _ hn,bU eb,avV]
 ·rintro σ H' ⟨v,rfl,s2,nd,h2⟩
  rw[<-blen,List.take_length] at nd h2
  exact⟨_,rfl,(q H' s2).2 p hev nd hp h2⟩
abbrev lZ:Stmt:=top 84
theorem kY:FnScope ["court", "forces", "claims", "key", "against", "later", "claim"] ["court", "forces", "claims", "key"] (defScope lZ):=mkSc
theorem afY(F:Fun Z.K "is_borne_out" "is_borne_out" lZ f fd)(T:Tx Z Cc Ck Cf)(D_those_that_annul:DefOk Z 2 "those_that_annul" ["court", "forces", "key"] (spThose Cc Ck)):OkZ Z 3 f fd ["court", "forces", "claims", "key"] (spBorne Cc Ck):=by
 refine F.ok kY (λvs H Q E h=>?_) (λcdv A outer s H vs Q E hr h=>?_)
 ·obtain⟨a,rfl,_⟩:=h
  rfl
 ·obtain⟨⟨z,ca,m,k,v⟩,rfl,B,hC,nd,hm,q⟩:=h
  have hu:=dY hr
  refine⟨_,(aK
   (bY (dW (kW hu (pv 3) (pv 1)) rfl)
    (aQ
     (aU zX))
    aZ)
   (aK
   (LK (own:=[("later",5)]) (i:=4) rfl kY.nd rfl rfl (TY rfl rfl rfl (by decide +kernel)) (dQ (cJ D_those_that_annul (hr.mono (by decide)) rfl (aJ (pv 0) (aJ (pv 1) (aJ (pv 3) pa_nil))))) (eK (by show blkC ["court", "forces", "claims", "key", "against", "later", "claim"] (defScope lZ) _ _=true;decide +kernel)) (λ_ _ _ _ _=>by exact cK (i:=5) kY.nd rfl (Or.inl rfl)) (λ_ _ _ _ _=>jQ) (λ_ _ _ _ _=>by exact(kJ hu (pv 2) (pv 5) ⟨rfl,rfl,rfl,rfl⟩)))
   (aK
   (bY (bZ eQ (gU hu (pv 2) (pv 3) (λ_ _=>rfl)) aY (nomark _))
    (aQ
     (aU (cX (adV rfl) (by rfl) T.n_all boot_all (aJ (kU (own:=[("claim",6)]) rfl kY.nd (dQ (pv 4)) (eK (by show blkC ["court", "forces", "claims", "key", "against", "later", "claim"] (defScope lZ) _ _=true;decide +kernel)) (λ_ _ _ _ _=>by exact cK (i:=6) kY.nd rfl (Or.inl rfl)) (λ_ _ _ _ _=>jQ) (λ_ _ _ _ _=>by exact(nW eQ (pv 6) aY (nomark _)))) pa_nil))))
    aZ)
   (aQ
   (aU (acW (nW eQ (gU hu (pv 2) (pv 3) (λ_ _=>rfl)) aY (nomark _)) (PX (nW wZ aY (pv 4) rfl)))))))),?_⟩
  dsimp only at B hC nd hm q
  have hfa:=B.fa
  have len:=B.ct.len z.d
  have hval:valV (kvI m) (Sum.inl k)=some (.int v):=by
   rw[AV,(wW nd (k:=k) (v:=v)).mpr hm]
   rfl
  unfold borne at q
  dsimp only at q
  refine⟨_,rfl,_,rfl,_,_,rfl,dgetR hfa rfl,_,rfl,ite2 (λh=>?_) λh=>?_⟩
  ·rw[lU (λc=>V.int (fo (RB z.a.s z.d) c))] at h
   rw[show((RB z.a.s z.d).any λc=>c.key==k)=false by simpa using h,Bool.false_and] at q
   exact q _ (Same.refl _)
  rw[lU (λc=>V.int (fo (RB z.a.s z.d) c))] at h
  rw[show((RB z.a.s z.d).any λc=>c.key==k)=true by simpa using h,Bool.true_and] at q
  refine⟨_,rfl,_,rfl,_,rfl,⟨z,k⟩,rfl,B,λH1 t s1 ht h1=>?_⟩
  dsimp only at h1
  have alen:(anns (RB z.a.s z.d) k).length<=32:=Nat.le_trans (List.length_filter_le _ _) len
  generalize anns (RB z.a.s z.d) k=A at h1 q alen
  refine⟨t,rfl,⟨_,SqL.of h1⟩,λD hD=>?_⟩
  refine lcl (K:=Z.K) (xs:=(keysOf A).map V.int) (λi=>(A.take i).map λx=>((valI m x.key).map V.int).getD .non) hD (SqL.of h1) rfl (λi _=>small1000 (by rw[List.length_map];have:=fK i A;omega)) ?_ ?_
  ·intro i y H2 hy s2 k' nx g1 g2
   obtain⟨kk,hy2,rfl⟩:=gmap hy
   obtain⟨x,hx,rfl⟩:=gmap hy2
   refine⟨rfl,_,rfl,_,rfl,.inl ⟨_,(s1.trans s2).rd hC⟩,_,rfl,_,dgetR ((s1.trans s2).rd hC) (AV m x.key),g1 _ _ (Same.refl _) ?_⟩
   rw[bU hx,List.map_append]
   rfl
  intro H2 s2 hD2
  rw[List.length_map,List.length_map,List.take_length] at hD2
  have s12:=s1.trans s2
  refine⟨_,rfl,_,rfl,_,_,rfl,dgetR (s12.rd hC) hval,rfl,_,rfl,ite2 (λh=>?_) λh=>?_⟩
  ·rw[if_pos (by simpa using h)] at q
   refine⟨_,rfl,D,rfl,⟨_,SqL.of hD2⟩,λD2 hD3=>?_⟩
   refine lcl (K:=Z.K) (xs:=A.map λx=>((valI m x.key).map V.int).getD .non) (λi=>(A.take i).map λx=>V.bl (decide (valI m x.key=some 0))) hD3 (SqL.of hD2) rfl (λi _=>small1000 (by rw[List.length_map];have:=fK i A;omega)) ?_ ?_
   ·intro i y H3 hy s3 k' nx g1 g2
    obtain⟨x,hx,rfl⟩:=gmap hy
    refine⟨rfl,_,rfl,?_⟩
    cases e:valI m x.key with
    |none=>exact⟨rfl,g1 _ _ (Same.refl _) (by rw[bU hx,List.map_append,List.map_cons,List.map_nil,e];rfl)⟩
    |some w=>
     refine⟨rfl,g1 _ _ (Same.refl _) ?_⟩
     rw[bU hx,List.map_append,List.map_cons,List.map_nil,e]
     show _=_++[V.bl (decide (V.int w=V.int 0))]
     congr 3
     rw[Bool.eq_iff_iff]
     simp
   ·intro H3 s3 hD4
    rw[List.length_map,List.take_length] at hD4
    refine⟨_,A.map (λx=>decide (valI m x.key=some 0)),rfl,SqL.of (by rw[hD4,List.map_map];rfl),?_⟩
    rw[List.all_map]
    exact q _ (s12.trans s3)
  ·have hv1:¬v=1:=by simpa using h
   rw[if_neg hv1] at q
   refine⟨_,rfl,_,rfl,_,_,rfl,dgetR (s12.rd hC) hval,rfl,_,rfl,ite2 (λh=>?_) λh=>?_⟩
   ·have hv0:v=0:=by simpa using h
    rw[show(v==0)=true by simpa using hv0,Bool.true_and] at q
    refine⟨_,rfl,_,_,rfl,.inl (SqL.of hD2),rfl,?_,?_⟩
    ·rw[List.all_map]
     refine List.all_eq_true.mpr λx _=>?_
     show flatV (((valI m x.key).map V.int).getD .non)=true
     cases valI m x.key <;> rfl
    ·have e:(if false=true then !inV (V.int 1) (A.map λx=>((valI m x.key).map V.int).getD .non) else inV (V.int 1) (A.map λx=>((valI m x.key).map V.int).getD .non))=A.any λc=>decide (valI m c.key=some 1):=by
      rw[if_neg Bool.false_ne_true]
      unfold inV
      rw[List.any_map]
      congr 1
      funext x
      show eqV (((valI m x.key).map V.int).getD .non) (V.int 1)=_
      cases valI m x.key with
      |none=>rfl
      |some w=>
       show(w==1)=decide (some w=some 1)
       rw[Bool.eq_iff_iff]
       simp
     rw[e]
     exact q _ s12
   ·have hv0:¬v=0:=by simpa using h
    rw[show(v==0)=false by simpa using hv0,Bool.false_and] at q
    exact q _ s12
abbrev UX:Stmt:=top 85
theorem CW:FnScope ["court", "d", "key", "v", "row", "forces", "claims", "claimed"] ["court", "d", "key", "v", "row"] (defScope UX):=mkSc
theorem aXJ(F:Fun Z.K "check" "check" UX f fd)(T:Tx Z Cc Ck Cf)(D_is_day:DefOk Z 1 "is_day" ["number"] (spB1 Vbnlal.dayOk))(D_forces_at:DefOk Z 2 "forces_at" ["court", "d"] (spForces Cc Ck))(D_claims_of:DefOk Z 1 "claims_of" ["row"] (spClaims Z.K))(D_is_borne_out:DefOk Z 3 "is_borne_out" ["court", "forces", "claims", "key"] (spBorne Cc Ck)):OkZ Z 4 f fd ["court", "d", "key", "v", "row"] (spCheck Cc Ck Z.K):=by
 refine okS F CW λs H Q E hr h=>?_
 obtain⟨⟨a,d,k,v,ra,row⟩,rfl,B,hS,h80,q⟩:=h
 have hu:=dY hr
 refine⟨_,(aK
  (bY (iU (fQ (cJ D_is_day (hr.mono (by decide)) rfl (aJ (pv 1) pa_nil))))
   (aQ
    (aU (bJ (aJ (bK T.g_OUT_OF_RANGE rfl) pa_nil))))
   aZ)
  (aK
  (bQ (i:=5) CW.nd rfl (Or.inr rfl) (cJ D_forces_at (hr.mono (by decide)) rfl (aJ (pv 0) (aJ (pv 1) pa_nil))))
  (aK
  (bY (dW (kW hu (pv 2) (pv 5)) rfl)
   (aQ
    (aU (bJ (aJ (bK T.g_NOT_THERE rfl) pa_nil))))
   aZ)
  (aK
  (bQ (i:=6) CW.nd rfl (Or.inr rfl) (cJ D_claims_of (hr.mono (by decide)) rfl (aJ (pv 4) pa_nil)))
  (aK
  (bY (PW.pt (aYJ (dW (jZ (pv 6))) (aOY (bZ acY (kJ hu (pv 6) (pv 2) ⟨rfl,rfl,rfl,rfl⟩) (pv 3) (nomark _)))))
   (aQ
    (aU (bJ (aJ aY pa_nil))))
   aZ)
  (aQ
  (aU (bJ (aJ (BK (fQ (cX (adV rfl) (by rfl) T.n_all boot_all (aJ (UJ (kU (own:=[("claimed",7)]) rfl CW.nd (rZ (pv 6)) (eK (by show blkC ["court", "d", "key", "v", "row", "forces", "claims", "claimed"] (defScope UX) _ _=true;decide +kernel)) (λ_ _ _ _ _=>by exact cK (i:=7) CW.nd rfl (Or.inl rfl)) (λ_ _ _ _ _=>jQ) (λ_ _ _ _ _=>by exact(cJ D_is_borne_out (hr.mono (by decide)) rfl (aJ (pv 0) (aJ (pv 5) (aJ (pv 6) (aJ (pv 7) pa_nil)))))))) pa_nil))) aY aY) pa_nil))))))))),?_⟩
 dsimp only at B hS h80 q
 have q0:RetL H Q (Vbnlal.askRuling a.s d k [Vbnlal.truth (row.length % 2==0&&Vbnlal.check a.s d k v (Vbnlal.ballotsOf row))]).2:=q
 clear q
 have q:=q0
 rw[<-aOJ] at q
 unfold Vbnlal.askRuling at q
 refine⟨_,rfl,_,rfl,_,rfl,ite2 (λh=>?_) λh=>?_⟩
 ·rw[if_pos (by simpa using h)] at q
  exact⟨by decide,q.now (Same.refl _) rfl⟩
 rw[if_neg (by simpa using h)] at q
 refine⟨_,rfl,_,rfl,⟨a,d⟩,rfl,B,λH1 f s1 hf h1=>?_⟩
 dsimp only at h1
 have B1:=B.same s1
 have of1:=B.at_.dom f hf
 refine⟨_,rfl,_,rfl,_,_,rfl,DGet.k (k:=Sum.inl k) h1,_,rfl,ite2 (λh=>?_) λh=>?_⟩
 ·rw[lU (λc=>V.int (fo (RB a.s d) c))] at h
  rw[if_neg (by simpa using h)] at q
  exact⟨by decide,q.now s1 rfl⟩
 rw[lU (λc=>V.int (fo (RB a.s d) c))] at h
 have h:((RB a.s d).any λc=>c.key==k)=true:=by simpa using h
 rw[if_pos h] at q
 unfold checkL at q
 have lat:=B.later d
 have len:=B.len d
 refine⟨_,rfl,⟨ra,row⟩,rfl,s1.seq hS,h80,λH2 s2=>⟨λhno=>?_,λb hev hnd hb h2=>?_⟩⟩
 ·dsimp only at hno
  have e:(row.length % 2==0&&(decide ((Vbnlal.ballotsOf row).map (·.1)).Nodup&&(decide (valI (Vbnlal.ballotsOf row) k=some v)&&(Vbnlal.ballotsOf row).all (borne (Vbnlal.rulingsBy a.s d) (Vbnlal.ballotsOf row)))))=false:=by
   rw[Bool.eq_false_iff]
   intro z
   rw[Bool.and_eq_true,Bool.and_eq_true] at z
   exact hno ⟨beq_iff_eq.mp z.1,of_decide_eq_true z.2.1⟩
  rw[e] at q
  exact⟨_,rfl,_,rfl,iteT ⟨by decide,q.now (s1.trans s2) rfl⟩⟩
 dsimp only at hev hnd h2
 rw[show(row.length % 2==0)=true from beq_iff_eq.mpr hev,Bool.true_and,decide_eq_true hnd,Bool.true_and] at q
 have blen:=FV row
 generalize Vbnlal.ballotsOf row=m at q hnd h2 blen
 have s12:=s1.trans s2
 have nfb:f≠b:=aX h1 hb
 refine⟨_,rfl,_,rfl,iteF ⟨_,rfl,_,rfl,.inl ⟨_,.inl h2⟩,_,rfl,_,dgetI h2 (AV m k),_,rfl,?_⟩⟩
 have B2:=B.same s12
 cases e:valI m k with
 |none=>
  rw[e] at q
  exact⟨rfl,_,rfl,iteT ⟨by decide,q.now s12 rfl⟩⟩
 |some w=>
  rw[e] at q
  refine⟨rfl,_,rfl,ite2 (λhw=>?_) λhw=>?_⟩
  ·have hw:¬w=v:=by simpa using hw
   rw[show decide (some w=some v)=false by simpa using hw,Bool.false_and] at q
   exact⟨by decide,q.now s12 rfl⟩
  have hw:w=v:=by simpa using hw
  rw[show decide (some w=some v)=true by simpa using hw,Bool.true_and] at q
  refine⟨b,_,h2,trivial,λod=>?_⟩
  have of2:a.ow b=none:=B.at_.dom b (s1.free hb)
  have s3:Same H (upd H2 b (.frz od (.dK (kvI m)))):=s12.upd (s1.free hb)
  have f3:(upd H2 b (.frz od (.dK (kvI m)))) f=some (.dK (kvF (RB a.s d))):=by rw[aV nfb];exact s2 _ _ h1
  have b3:(upd H2 b (.frz od (.dK (kvI m)))) b=some (.frz od (.dK (kvI m))):=upd_same
  generalize upd H2 b (.frz od (.dK (kvI m)))=H3 at s3 f3 b3 ⊢
  refine⟨_,rfl,_,od,rfl,.inl ⟨_,b3,λD hD=>?_⟩⟩
  refine lck (λi=>(m.take i).map λp=>V.bl (borne (RB a.s d) m p)) hD b3 rfl (λi _=>small1000 (by rw[List.length_map];have:=fK i m;omega)) ?_ ?_
  ·intro i y u H4 hy s4 k' nx g1 g2
   obtain⟨p,hp,ep⟩:=gmap hy
   cases ep
   refine⟨rfl,_,rfl,_,rfl,_,rfl,_,rfl,⟨⟨a,d,f⟩,b,m,p⟩,rfl,⟨B.same (s3.trans s4),.inl (s4 _ _ f3),of1⟩,.inr ⟨od,s4 _ _ b3⟩,hnd,List.mem_of_getElem? hp,λH5 s5=>g1 _ _ s5 ?_⟩
   rw[bU hp,List.map_append]
   rfl
  ·intro H4 s4 hD4
   rw[List.length_map,List.take_length] at hD4
   have hDb:D≠b:=(aX b3 hD).symm
   refine⟨s4 _ _ b3,_,m.map (borne (RB a.s d) m),rfl,SqL.of (by rw[aV hDb,hD4,List.map_map];rfl),_,rfl,?_⟩
   rw[List.all_map]
   have s5:Same H (upd H4 b (.dK (kvI m))):=(s3.trans s4).upd (s1.free hb)
   refine ite2 (λhh=>?_) λhh=>?_
   ·rw[show m.all (borne (Vbnlal.rulingsBy a.s d) m)=true from hh] at q
    exact⟨by decide,q.now s5 rfl⟩
   ·rw[show m.all (borne (Vbnlal.rulingsBy a.s d) m)=false from by rw[Bool.eq_false_iff];exact hh] at q
    exact⟨by decide,q.now s5 rfl⟩
end
abbrev EK:=Effect×Int
abbrev EA:=Vbnlal.effectsAt
abbrev tup4(x:EK):HO:=.tup [.int x.1.kind,.int x.1.a,.int x.1.b,.int x.2]
def TupsAt{α:Type}(f:α->HO)(H:Hp)(p:Addr)(xs:List α):Prop:=∃ts:List Addr,H p=some (.lst (ts.map V.ref))/\ts.length=xs.length/\∀(i:Nat) t x,ts[i]? = some t->xs[i]? = some x->H t=some (f x)
theorem TupsAt.same{α:Type}{f:α->HO}{H H':Hp}{p:Addr}{xs:List α}(h:TupsAt f H p xs)(s:Same H H'):TupsAt f H' p xs:=by
 obtain⟨ts,h1,h2,h3⟩:=h
 exact⟨ts,s _ _ h1,h2,λi t x a b=>s _ _ (h3 i t x a b)⟩
theorem asJ{Cc Ck:Addr}{H:Hp}{a:Ct}(B:CtOk Cc Ck H a){d:Int}{x:EK}(h:x∈EA a.s d):EffOk x.1:=by
 unfold EA Vbnlal.effectsAt at h
 obtain⟨c,hc,hx⟩:=List.mem_flatMap.mp h
 obtain⟨e,he,rfl⟩:=List.mem_map.mp hx
 have hc2:=(List.mem_filter.mp hc).1
 exact(B.good.ok c (xY hc2)).eff e he
theorem awW{Cc Ck:Addr}{H:Hp}{a:Ct}(B:CtOk Cc Ck H a)(d:Int):(EA a.s d).length<=2400:=Nat.le_trans (xZ B.good d) (by have:=B.few;omega)
theorem zZ{α:Type}{p q:α->Bool}:∀{l:List α},(∀x∈l,p x=q x)->l.find? p=l.find? q
 |[],_=>rfl
 |a::l,h=>by
  rw[List.find?_cons,List.find?_cons,h a List.mem_cons_self,zZ λx hx=>h x (List.mem_cons_of_mem _ hx)]
def spEffs(Cc Ck:Addr):Sp:=mkSp (λa:Ct×Int=>[.ref a.1.c,.int a.2]) λa H Q=>CtOk Cc Ck H a.1/\∀H' p,Same H H'->H p=none->TupsAt tup4 H' p (EA a.1.s a.2)->Q (.ref p) H'
def aboutK(ks:List Int)(n:Int)(x:EK):Bool:=ks.contains x.1.kind&&x.1.a==n
def spLast(Cc Ck:Addr):Sp:=mkSp (λa:Ct×Int×Addr×List Int×Int=>[.ref a.1.c,.int a.2.1,.ref a.2.2.1,.int a.2.2.2.2]) λa H Q=>CtOk Cc Ck H a.1/\H a.2.2.1=some (.tup (a.2.2.2.1.map V.int))/\
 ∀H',Same H H'->((EA a.1.s a.2.1).reverse.find? (aboutK a.2.2.2.1 a.2.2.2.2)=none->Q .non H')/\∀x t,(EA a.1.s a.2.1).reverse.find? (aboutK a.2.2.2.1 a.2.2.2.2)=some x->H' t=some (tup4 x)->Q (.ref t) H'
section
variable{Z:Wd}{Cc Ck Cf f:Addr}{fd:FuncData}
abbrev sZ:Stmt:=top 87
theorem hU:FnScope ["court", "d", "forces", "effects", "key", "kind", "n", "m"] ["court", "d"] (defScope sZ):=mkSc
theorem aqJ(F:Fun Z.K "effects_at" "effects_at" sZ f fd)(T:Tx Z Cc Ck Cf)(D_forces_at:DefOk Z 2 "forces_at" ["court", "d"] (spForces Cc Ck)):OkZ Z 3 f fd ["court", "d"] (spEffs Cc Ck):=by
 refine okS F hU λs H Q E hr h=>?_
 obtain⟨⟨a,d⟩,rfl,B,q⟩:=h
 have hu:=dY hr
 refine⟨_,(aK
  (bQ (i:=2) hU.nd rfl (Or.inl rfl) (cJ D_forces_at (hr.mono (by decide)) rfl (aJ (pv 0) (aJ (pv 1) pa_nil))))
  (aK
  (bQ (i:=3) hU.nd rfl (Or.inl rfl) (bJ pa_nil))
  (aK
  (aiQ (fV PassesOwn.never rfl (rZ (pv 2)) (cK (i:=4) hU.nd rfl (Or.inr rfl))
   (aQ
    (bY (bZ eQ (gU hu (pv 2) (pv 4) (λ_ _=>rfl)) aY (nomark _))
     (aQ
      (gJ (mW PySem.F.plainAttrs_list PySem.F.slot_list_extend PySem.F.type_list_extend xJ (pv 3) (aJ (kU (own:=[("kind",5),("n",6),("m",7)]) rfl hU.nd (dQ (bX (gU hu (bX (pv 0) rfl) (pv 4) (λ_ _=>rfl)) rfl)) (eK (by show blkC ["court", "d", "forces", "effects", "key", "kind", "n", "m"] (defScope sZ) _ _=true;decide +kernel)) (λ_ _ _ _ _=>by exact(bcK Z.K 3 rfl (fU (cK (i:=5) hU.nd rfl (Or.inl rfl)) (fU (cK (i:=6) hU.nd rfl (Or.inl rfl)) (fU (cK (i:=7) hU.nd rfl (Or.inl rfl)) IU))))) (λ_ _ _ _ _=>jQ) (λ_ _ _ _ _=>by exact(gQ (aJ (pv 5) (aJ (pv 6) (aJ (pv 7) (aJ (pv 4) pa_nil))))))) pa_nil))))
     aZ))))
  (aQ
  (aU (pv 3)))))),?_⟩
 dsimp only at B q
 refine⟨_,rfl,_,rfl,⟨a,d⟩,rfl,B,λH1 f s1 hf h1=>?_⟩
 dsimp only at h1
 have B1:=B.same s1
 have of1:=B.at_.dom f hf
 have lat:=B.later d
 have len:=B.len d
 refine⟨by decide,λe he=>?_⟩
 have heH:H e=none:=s1.free he
 have nfe:f≠e:=aX h1 he
 have s2:Same H (upd H1 e (.lst [])):=s1.upd heH
 have e2:(upd H1 e (.lst [])) e=some (.lst []):=upd_same
 have f2:(upd H1 e (.lst [])) f=some (.dK (kvF (RB a.s d))):=by rw[aV nfe];exact h1
 generalize upd H1 e (.lst [])=H2 at s2 e2 f2 ⊢
 refine⟨f,_,f2,trivial,λod=>?_⟩
 have s3:Same H (upd H2 f (.frz od (.dK (kvF (RB a.s d))))):=s2.upd hf
 have e3:(upd H2 f (.frz od (.dK (kvF (RB a.s d))))) e=some (.lst []):=by rw[aV nfe.symm];exact e2
 have f3:(upd H2 f (.frz od (.dK (kvF (RB a.s d))))) f=some (.frz od (.dK (kvF (RB a.s d)))):=upd_same
 generalize upd H2 f (.frz od (.dK (kvF (RB a.s d))))=H3 at s3 e3 f3 ⊢
 refine⟨_,rfl,_,od,rfl,.inl ⟨_,f3,aaK (d:=f) (o:=od) (kvs:=kvF (RB a.s d)) (λi σ H'=>∃v:Option V,σ=[some (.ref a.c),some (.int d),some (.ref f),some (.ref e),v,none,none,none]/\Same H H'/\H' f=some (.frz od (.dK (kvF (RB a.s d))))/\
   TupsAt tup4 H' e ((((RB a.s d).take i).filter λc=>decide (fo (RB a.s d) c=1)).flatMap effsOf)/\((((RB a.s d).take i).filter λc=>decide (fo (RB a.s d) c=1)).flatMap effsOf).length<=6*i)
  ⟨none,rfl,s3,f3,⟨[],e3,rfl,λi t x h=>by simp at h⟩,Nat.le_refl _⟩ (λi σ H' _ ⟨_,_,_,h,_⟩=>h) ?_ ?_⟩⟩
 ·rintro i k0 v0 σ H4 hk ⟨v,rfl,s4,f4,⟨ts,t1,t2,t3⟩,tl⟩
  obtain⟨c,hcl,ec⟩:=gmap hk
  cases ec
  have hcm:=List.mem_of_getElem? hcl
  have hil:=(List.getElem?_eq_some_iff.mp hcl).1
  have hv:valV (kvF (RB a.s d)) (Sum.inl c.key)=some (.int (fo (RB a.s d) c)):=UW (β:=Unit) (λc=>V.int (fo (RB a.s d) c)) lat.nd hcm
  refine⟨_,rfl,_,rfl,_,_,rfl,dgetR (.inr ⟨od,f4⟩) hv,rfl,_,rfl,ite2 (λh=>?_) λh=>?_⟩
  ·have B4:=B.same s4
   obtain⟨dx,hc4⟩:=B4.at_.ins
   obtain⟨j,p3,hx,hvc⟩:=B4.ruling hcm
   obtain⟨dk,hi⟩:=hx.case.ins
   obtain⟨us,P⟩:=hx.case.pro
   dsimp only at hi P
   have six:=(B.good.ok _ hx.mem).six
   dsimp only at six
   refine⟨_,rfl,.inl ⟨rfl,_,SqL.of t1⟩,_,rfl,cW T hc4 ⟨_,rfl,_,_,rfl,dgetI B4.at_.cs hvc,mX T hi ⟨p3.2.2,rfl,⟨_,SqL.of P.lst⟩,λD hD=>?_⟩⟩⟩
   refine TZ (K:=Z.K) (xs:=us.map V.ref) (λi H=>Same H4 H/\TupsAt tup4 H D ((c.effects.take i).map λx=>(x,c.key))) ⟨Same.new hD,[],upd_same,rfl,λi t x h=>by simp at h⟩ (λi H _ p=>SqL.of (p.1 _ _ P.lst)) (λi y H5 hy p=>?_) λH5 p=>?_
   ·obtain⟨s5,ts5,u1,u2,u3⟩:=p
    obtain⟨t,x,rfl,hx5,ht⟩:=P.at hy
    have hi5:=(List.getElem?_eq_some_iff.mp hx5).1
    refine⟨t,_,rfl,SqT.of (s5 _ _ ht),rfl,_,_,rfl,_,_,rfl,_,_,rfl,rfl,rfl,_,rfl,_,rfl,_,rfl,_,rfl,l4,λr hr=>?_⟩
    have s6:Same H5 (upd H5 r (.tup [.int x.kind,.int x.a,.int x.b,.int c.key])):=Same.new hr
    refine⟨_,s6 _ _ u1,small1000 ?_,(s5.trans s6).upd hD,ts5++[r],?_,?_,?_⟩
    ·rw[List.length_map,u2,List.length_map]
     have:=fK i c.effects
     omega
    ·rw[upd_same,List.map_append]
     rfl
    ·rw[bU hx5,List.map_append,List.length_append,List.length_append,u2]
     rfl
    ·have hl5:ts5.length=i:=by
      rw[u2,List.length_map,List.length_take]
      omega
     intro j t' x' h1 h2
     rw[bU hx5,List.map_append] at h2
     by_cases hj:j<i
     ·rw[List.getElem?_append_left (by omega)] at h1
      rw[List.getElem?_append_left (by rw[List.length_map,List.length_take];omega)] at h2
      have:=s6 _ _ (u3 j t' x' h1 h2)
      rw[aV (eW this (s6 _ _ u1) (by intro z;cases z))]
      exact this
     ·have hj2:j=i:=by
       have:=(List.getElem?_eq_some_iff.mp h1).1
       rw[List.length_append,List.length_singleton] at this
       omega
      subst hj2
      rw[List.getElem?_append_right (by omega),hl5,Nat.sub_self] at h1
      rw[List.getElem?_append_right (by rw[List.length_map,List.length_take];omega),List.length_map,List.length_take,Nat.min_eq_left (by omega),Nat.sub_self] at h2
      cases h1
      cases h2
      rw[aV (aX u1 hr).symm,upd_same]
      rfl
   ·have hus:(us.map V.ref).length=c.effects.length:=by rw[List.length_map,P.len]
    rw[hus,List.take_length] at p
    obtain⟨s5,ts5,u1,u2,u3⟩:=p
    have ef:((((RB a.s d).take (i+1)).filter λc=>decide (fo (RB a.s d) c=1)).flatMap effsOf)=((((RB a.s d).take i).filter λc=>decide (fo (RB a.s d) c=1)).flatMap effsOf)++effsOf c:=by
     rw[bU hcl,List.filter_append,List.flatMap_append,List.filter_cons,if_pos (by simpa using h)]
     simp
    have hDe:D≠e:=(aX t1 hD).symm
    refine⟨e,D,_,_,rfl,rfl,s5 _ _ t1,u1,Nat.le_of_lt (smallS ?_),_,rfl,?_,?_,?_,?_⟩
    ·rw[List.length_map,List.length_map,t2,u2,List.length_map]
     omega
    ·exact(s4.trans s5).upd heH
    ·rw[aV nfe]
     exact s5 _ _ f4
    ·refine⟨ts++ts5,by rw[upd_same,List.map_append],?_,?_⟩
     ·rw[ef,List.length_append,List.length_append,t2,u2]
      rfl
     ·intro j t' x' h1 h2
      rw[ef] at h2
      have w:H5 t'=some (tup4 x'):=by
       by_cases hj:j<ts.length
       ·rw[List.getElem?_append_left hj] at h1
        rw[List.getElem?_append_left (by rw[<-t2];exact hj)] at h2
        exact s5 _ _ (t3 j t' x' h1 h2)
       ·rw[List.getElem?_append_right (by omega)] at h1
        rw[List.getElem?_append_right (by rw[<-t2];omega),<-t2] at h2
        exact u3 _ t' x' h1 h2
      rw[aV (eW w (s5 _ _ t1) (by intro z;cases z))]
      exact w
    ·rw[ef,List.length_append]
     show _+(c.effects.map _).length<=_
     rw[List.length_map]
     omega
  ·refine⟨_,rfl,s4,f4,?_,?_⟩
   ·rw[bU hcl,List.filter_append,List.filter_cons,if_neg (by simpa using h),List.filter_nil,List.append_nil]
    exact⟨ts,t1,t2,t3⟩
   ·rw[bU hcl,List.filter_append,List.filter_cons,if_neg (by simpa using h),List.filter_nil,List.append_nil]
    omega
 ·rintro σ H4 ⟨v,rfl,s4,f4,tt,tl⟩
  rw[List.length_map,List.take_length] at tt
  refine⟨f4,_,rfl,q _ _ (s4.upd hf) heH ?_⟩
  rw[show EA a.s d=_ from asX a.s d]
  obtain⟨ts,t1,t2,t3⟩:=tt
  refine⟨ts,by rw[aV nfe.symm];exact t1,t2,λj t x h1 h2=>?_⟩
  have:=t3 j t x h1 h2
  rw[aV (eW this f4 (by intro z;cases z))]
  exact this
end
theorem awX{α:Type}{l:List α}{i:Nat}{x:α}(hi:i<l.length)(h:l[l.length - 1 - i]? = some x):l.drop (l.length - (i+1))=x::l.drop (l.length - i):=by
 rw[show l.length - (i+1)=l.length - 1 - i by omega,nU h,show l.length - 1 - i+1=l.length - i by omega]
theorem yQ{α:Type}{p:α->Bool}{l:List α}(h:∀x∈l,¬p x=true):l.reverse.find? p=none:=List.find?_eq_none.mpr λx hx=>h x (List.mem_reverse.mp hx)
theorem yU{α:Type}{p:α->Bool}{l r:List α}{x:α}{n:Nat}(e:l.drop n=x::r)(hx:p x=true)(h:∀y∈r,¬p y=true):l.reverse.find? p=some x:=by
 have:l=l.take n++x::r:=by rw[<-e,List.take_append_drop]
 rw[this,List.reverse_append,List.reverse_cons,List.append_assoc,List.find?_append,yQ h]
 simp[hx]
theorem lastE(s:State)(d:Int)(p:Effect->Bool):Vbnlal.lastEffect s d p=(EA s d).reverse.find? λx=>p x.1:=aOK _ _
theorem TupsAt.get{α:Type}{f:α->HO}{H:Hp}{p:Addr}{xs:List α}{ts:List Addr}(hl:ts.length=xs.length)(h:∀(i:Nat) t x,ts[i]? = some t->xs[i]? = some x->H t=some (f x)){i:Nat}{y:V}(hy:(ts.map V.ref)[i]? = some y):∃t x,y = .ref t/\xs[i]? = some x/\H t=some (f x):=by
 obtain⟨t,ht,rfl⟩:=gmap hy
 have hi:=(List.getElem?_eq_some_iff.mp ht).1
 have hx:i<xs.length:=by omega
 exact⟨t,xs[i],rfl,List.getElem?_eq_getElem hx,h i t _ ht (List.getElem?_eq_getElem hx)⟩
section
variable{Z:Wd}{Cc Ck Cf f:Addr}{fd:FuncData}
abbrev CY:Stmt:=top 88
theorem OQ:FnScope ["court", "d", "kinds", "n", "effect"] ["court", "d", "kinds", "n"] (defScope CY):=mkSc
theorem aqK(F:Fun Z.K "last_about" "last_about" CY f fd)(T:Tx Z Cc Ck Cf)(D_effects_at:DefOk Z 3 "effects_at" ["court", "d"] (spEffs Cc Ck)):OkZ Z 4 f fd ["court", "d", "kinds", "n"] (spLast Cc Ck):=by
 refine okS F OQ λs H Q E hr h=>?_
 obtain⟨⟨a,d,ka,ks,n⟩,rfl,B,hK,q⟩:=h
 refine⟨_,(aK
  (fV PassesOwn.never rfl (qK rfl T.n_reversed (aJ (cJ D_effects_at (hr.mono (by decide)) rfl (aJ (pv 0) (aJ (pv 1) pa_nil))) pa_nil)) (cK (i:=4) OQ.nd rfl (Or.inl rfl))
   (aQ
    (bY (PW.pt (qJ (bZ wZ (cZ eY (pv 4) aY (λ_ _=>rfl)) (pv 2) rfl) (nV (bZ eQ (cZ eY (pv 4) aY (λ_ _=>rfl)) (pv 3) (nomark _)))))
     (aQ
      (aU (pv 4)))
     aZ)))
  (aQ
  (aU wX))),?_⟩
 dsimp only at B hK q
 refine⟨_,rfl,_,rfl,⟨a,d⟩,rfl,B,λH1 p s1 hp ht=>?_⟩
 dsimp only at ht
 generalize EA a.s d=es at ht q
 obtain⟨ts,t1,t2,t3⟩:=ht
 refine⟨p,_,rfl,SqL.of t1,IZ (K:=Z.K) (a:=p) (xs:=ts.map V.ref) (λi σ H'=>∃v:Option V,σ=[some (.ref a.c),some (.int d),some (.ref ka),some (.int n),v]/\H'=H1/\∀x∈es.drop (es.length - i),¬aboutK ks n x=true)
  ⟨none,rfl,rfl,λx hx=>by rw[Nat.sub_zero,List.drop_length] at hx;cases hx⟩ (λi σ H' _ ⟨_,_,e,_⟩=>by rw[e];exact SqL.of t1) ?_ ?_⟩
 ·rintro i y σ H' hi hy ⟨v,rfl,rfl,hno⟩
  rw[List.length_map,t2] at hi hy
  obtain⟨t,x,rfl,hx,ht⟩:=TupsAt.get (f:=tup4) (p:=p) t2 t3 hy
  have ed:=awX hi hx
  refine⟨_,rfl,t,_,_,_,rfl,rfl,SqT.of ht,rfl,_,rfl,_,_,rfl,.inr (SqT.of (s1 _ _ hK)),rfl,EW _,_,rfl,?_⟩
  have e1:(if false=true then !inV (V.int x.1.kind) (ks.map V.int) else inV (V.int x.1.kind) (ks.map V.int))=ks.contains x.1.kind:=by rw[if_neg Bool.false_ne_true,in_ints]
  rw[e1]
  refine ite2 (λh1=>?_) λh1=>iteF ⟨_,rfl,rfl,?_⟩
  ·refine⟨_,rfl,t,_,_,_,rfl,rfl,SqT.of ht,rfl,_,rfl,rfl,_,rfl,ite2 (λh2=>?_) λh2=>⟨_,rfl,rfl,?_⟩⟩
   ·have hh:aboutK ks n x=true:=by
     unfold aboutK
     rw[h1,Bool.true_and]
     simpa using h2
    exact⟨_,rfl,(q H' s1).2 x t (yU ed hh hno) ht⟩
   ·rw[ed]
    intro y hy
    rcases List.mem_cons.mp hy with rfl | hy
    ·unfold aboutK
     rw[Bool.and_eq_true]
     exact λz=>h2 (by simpa using z.2)
    ·exact hno y hy
  ·rw[ed]
   intro y hy
   rcases List.mem_cons.mp hy with rfl | hy
   ·unfold aboutK
    rw[Bool.and_eq_true]
    exact λz=>h1 z.1
   ·exact hno y hy
 ·rintro σ H' ⟨v,rfl,rfl,hno⟩
  rw[List.length_map,t2,Nat.sub_self,List.drop_zero] at hno
  exact(q H' s1).1 (yQ hno)
abbrev abX:Stmt:=top 89
theorem anW:FnScope ["court", "d", "n", "effect"] ["court", "d", "n"] (defScope abX):=mkSc
theorem aRY(F:Fun Z.K "status" "status" abX f fd)(T:Tx Z Cc Ck Cf)(D_is_day:DefOk Z 1 "is_day" ["number"] (spB1 Vbnlal.dayOk))(D_last_about:DefOk Z 4 "last_about" ["court", "d", "kinds", "n"] (spLast Cc Ck)):OkZ Z 5 f fd ["court", "d", "n"] (spR2 Cc Ck λs d n=>(Vbnlal.step s (.status d n)).2):=by
 refine okS F anW λs H Q E hr h=>?_
 obtain⟨⟨a,d,n⟩,rfl,B,q⟩:=h
 refine⟨_,(aK
  (bY (iU (fQ (cJ D_is_day (hr.mono (by decide)) rfl (aJ (pv 1) pa_nil))))
   (aQ
    (aU (bJ (aJ (bK T.g_OUT_OF_RANGE rfl) pa_nil))))
   aZ)
  (aK
  (bQ (i:=3) anW.nd rfl (Or.inl rfl) (cJ D_last_about (hr.mono (by decide)) rfl (aJ (pv 0) (aJ (pv 1) (aJ (gQ (aJ (bK T.g_RESTORE rfl) (aJ (bK T.g_SUPPRESS rfl) (aJ (bK T.g_SUPPRESS_WHOLLY rfl) pa_nil)))) (aJ (pv 2) pa_nil))))))
  (aK
  (bY (dW (jZ (pv 3)))
   (aQ
    (aU (bJ (aJ aY (aJ aY (aJ aY pa_nil))))))
   aZ)
  (aQ
  (aU (bJ (aJ aY (aJ (cZ eY (pv 3) aY (λ_ _=>rfl)) (aJ (cZ eY (pv 3) aY (λ_ _=>rfl)) pa_nil))))))))),?_⟩
 dsimp only at B q
 have q0:RetL H Q (if Vbnlal.dayOk d=false then(a.s,[-9]) else(a.s,[0,(Vbnlal.statusOf a.s d n).1,(Vbnlal.statusOf a.s d n).2]):State×List Int).2:=q
 clear q
 have q:=q0
 refine⟨_,rfl,_,rfl,_,rfl,ite2 (λh=>?_) λh=>?_⟩
 ·rw[if_pos (by simpa using h)] at q
  exact⟨by decide,q.now (Same.refl _) rfl⟩
 rw[if_neg (by simpa using h)] at q
 have e0:Vbnlal.lastEffect a.s d (λe=>decide (e.kind<=2)&&e.a==n)=(EA a.s d).reverse.find? (aboutK [0,1,2] n):=by
  rw[lastE]
  refine zZ λx hx=>?_
  have ok:=asJ B (List.mem_reverse.mp hx)
  have:=ok.k0
  unfold aboutK
  congr 1
  rw[Bool.eq_iff_iff]
  simp
  try omega
 unfold Vbnlal.statusOf at q
 rw[e0] at q
 refine⟨_,rfl,_,rfl,l3,λt ht=>⟨_,rfl,⟨a,d,t,[0,1,2],n⟩,rfl,B.same (Same.new ht),upd_same,λH1 s1=>⟨λe=>?_,λx r e hr=>?_⟩⟩⟩
 ·dsimp only at e
  rw[e] at q
  exact⟨_,rfl,_,rfl,iteT ⟨by decide,q.now ((Same.new ht).trans s1) rfl⟩⟩
 ·dsimp only at e
  rw[e] at q
  exact⟨_,rfl,_,rfl,iteF ⟨_,rfl,r,_,_,_,rfl,rfl,SqT.of hr,rfl,_,rfl,r,_,_,_,rfl,rfl,SqT.of hr,rfl,l3,q.now ((Same.new ht).trans s1) rfl⟩⟩
abbrev MJ:Stmt:=top 91
theorem XW:FnScope ["court", "d", "n", "effect"] ["court", "d", "n"] (defScope MJ):=mkSc
theorem aDK(F:Fun Z.K "fixed_at" "fixed_at" MJ f fd)(T:Tx Z Cc Ck Cf)(D_is_day:DefOk Z 1 "is_day" ["number"] (spB1 Vbnlal.dayOk))(D_last_about:DefOk Z 4 "last_about" ["court", "d", "kinds", "n"] (spLast Cc Ck)):OkZ Z 5 f fd ["court", "d", "n"] (spR2 Cc Ck λs d n=>(Vbnlal.step s (.typeAt d n)).2):=by
 refine okS F XW λs H Q E hr h=>?_
 obtain⟨⟨a,d,n⟩,rfl,B,q⟩:=h
 refine⟨_,(aK
  (bY (iU (fQ (cJ D_is_day (hr.mono (by decide)) rfl (aJ (pv 1) pa_nil))))
   (aQ
    (aU (bJ (aJ (bK T.g_OUT_OF_RANGE rfl) pa_nil))))
   aZ)
  (aK
  (bQ (i:=3) XW.nd rfl (Or.inl rfl) (cJ D_last_about (hr.mono (by decide)) rfl (aJ (pv 0) (aJ (pv 1) (aJ (gQ (aJ (bK T.g_FIX rfl) pa_nil)) (aJ (pv 2) pa_nil))))))
  (aK
  (bY (dW (jZ (pv 3)))
   (aQ
    (aU (bJ (aJ aY (aJ aY (aJ aY pa_nil))))))
   aZ)
  (aQ
  (aU (bJ (aJ aY (aJ (cZ eY (pv 3) aY (λ_ _=>rfl)) (aJ (cZ eY (pv 3) aY (λ_ _=>rfl)) pa_nil))))))))),?_⟩
 dsimp only at B q
 have q0:RetL H Q (if Vbnlal.dayOk d=false then(a.s,[-9]) else(a.s,[0,(Vbnlal.typeOf a.s d n).1,(Vbnlal.typeOf a.s d n).2]):State×List Int).2:=q
 clear q
 have q:=q0
 refine⟨_,rfl,_,rfl,_,rfl,ite2 (λh=>?_) λh=>?_⟩
 ·rw[if_pos (by simpa using h)] at q
  exact⟨by decide,q.now (Same.refl _) rfl⟩
 rw[if_neg (by simpa using h)] at q
 have e0:Vbnlal.lastEffect a.s d (λe=>e.kind==4&&e.a==n)=(EA a.s d).reverse.find? (aboutK [4] n):=by
  rw[lastE]
  refine zZ λx hx=>?_
  have ok:=asJ B (List.mem_reverse.mp hx)
  have:=ok.k0
  unfold aboutK
  congr 1
  rw[Bool.eq_iff_iff]
  simp
  try omega
 unfold Vbnlal.typeOf at q
 rw[e0] at q
 refine⟨_,rfl,_,rfl,l1,λt ht=>⟨_,rfl,⟨a,d,t,[4],n⟩,rfl,B.same (Same.new ht),upd_same,λH1 s1=>⟨λe=>?_,λx r e hr=>?_⟩⟩⟩
 ·dsimp only at e
  rw[e] at q
  exact⟨_,rfl,_,rfl,iteT ⟨by decide,q.now ((Same.new ht).trans s1) rfl⟩⟩
 ·dsimp only at e
  rw[e] at q
  exact⟨_,rfl,_,rfl,iteF ⟨_,rfl,r,_,_,_,rfl,rfl,SqT.of hr,rfl,_,rfl,r,_,_,_,rfl,rfl,SqT.of hr,rfl,l3,q.now ((Same.new ht).trans s1) rfl⟩⟩
abbrev MK:Stmt:=top 92
theorem XX:FnScope ["court", "d", "w", "effect"] ["court", "d", "w"] (defScope MK):=mkSc
theorem aDQ(F:Fun Z.K "rejected" "rejected" MK f fd)(T:Tx Z Cc Ck Cf)(D_is_day:DefOk Z 1 "is_day" ["number"] (spB1 Vbnlal.dayOk))(D_last_about:DefOk Z 4 "last_about" ["court", "d", "kinds", "n"] (spLast Cc Ck)):OkZ Z 5 f fd ["court", "d", "w"] (spR2 Cc Ck λs d w=>(Vbnlal.step s (.rejected d w)).2):=by
 refine okS F XX λs H Q E hr h=>?_
 obtain⟨⟨a,d,n⟩,rfl,B,q⟩:=h
 refine⟨_,(aK
  (bY (iU (fQ (cJ D_is_day (hr.mono (by decide)) rfl (aJ (pv 1) pa_nil))))
   (aQ
    (aU (bJ (aJ (bK T.g_OUT_OF_RANGE rfl) pa_nil))))
   aZ)
  (aK
  (bQ (i:=3) XX.nd rfl (Or.inl rfl) (cJ D_last_about (hr.mono (by decide)) rfl (aJ (pv 0) (aJ (pv 1) (aJ (gQ (aJ (bK T.g_REJECT rfl) pa_nil)) (aJ (pv 2) pa_nil))))))
  (aK
  (bY (dW (jZ (pv 3)))
   (aQ
    (aU (bJ (aJ aY (aJ aY pa_nil)))))
   aZ)
  (aQ
  (aU (bJ (aJ aY (aJ (cZ eY (pv 3) aY (λ_ _=>rfl)) pa_nil)))))))),?_⟩
 dsimp only at B q
 have q0:RetL H Q (if Vbnlal.dayOk d=false then(a.s,[-9]) else(a.s,[0,Vbnlal.rejectedBy a.s d n]):State×List Int).2:=q
 clear q
 have q:=q0
 refine⟨_,rfl,_,rfl,_,rfl,ite2 (λh=>?_) λh=>?_⟩
 ·rw[if_pos (by simpa using h)] at q
  exact⟨by decide,q.now (Same.refl _) rfl⟩
 rw[if_neg (by simpa using h)] at q
 have e0:Vbnlal.lastEffect a.s d (λe=>e.kind==5&&e.a==n)=(EA a.s d).reverse.find? (aboutK [5] n):=by
  rw[lastE]
  refine zZ λx hx=>?_
  have ok:=asJ B (List.mem_reverse.mp hx)
  have:=ok.k0
  unfold aboutK
  congr 1
  rw[Bool.eq_iff_iff]
  simp
  try omega
 unfold Vbnlal.rejectedBy at q
 rw[e0] at q
 refine⟨_,rfl,_,rfl,l1,λt ht=>⟨_,rfl,⟨a,d,t,[5],n⟩,rfl,B.same (Same.new ht),upd_same,λH1 s1=>⟨λe=>?_,λx r e hr=>?_⟩⟩⟩
 ·dsimp only at e
  rw[e] at q
  exact⟨_,rfl,_,rfl,iteT ⟨by decide,q.now ((Same.new ht).trans s1) rfl⟩⟩
 ·dsimp only at e
  rw[e] at q
  exact⟨_,rfl,_,rfl,iteF ⟨_,rfl,r,_,_,_,rfl,rfl,SqT.of hr,rfl,l2,q.now ((Same.new ht).trans s1) rfl⟩⟩
end
theorem eqv2(a b c d:Int):PyData.eqv (.tuple [.int a,.int b]) (.tuple [.int c,.int d])=(a==c&&b==d):=by
 simp[PyData.eqv,PyData.eqvAll]
theorem dp2{K:PySem.W.Frag}{H:Hp}{t:Addr}{a b:Int}(h:H t=some (.tup [.int a,.int b])):Dp K H (.ref t) (.tuple [.int a,.int b]):=.tup (SqT.of h) (.cons (.int a) (.cons (.int b) .nil))
def overP(n m:Int)(x:EK):Bool:=x.1.kind==3&&((x.1.a==n&&x.1.b==m) || (x.1.a==m&&x.1.b==n))
section
variable{Z:Wd}{Cc Ck Cf f:Addr}{fd:FuncData}
abbrev awY:Stmt:=top 90
theorem JU:FnScope ["court", "d", "n", "m", "kind", "winner", "loser", "key"] ["court", "d", "n", "m"] (defScope awY):=mkSc
theorem bcZ(F:Fun Z.K "over" "over" awY f fd)(T:Tx Z Cc Ck Cf)(D_is_day:DefOk Z 1 "is_day" ["number"] (spB1 Vbnlal.dayOk))(D_effects_at:DefOk Z 3 "effects_at" ["court", "d"] (spEffs Cc Ck)):OkZ Z 4 f fd ["court", "d", "n", "m"] (spR3 Cc Ck λs d n m=>(Vbnlal.step s (.over d n m)).2):=by
 refine okS F JU λs H Q E hr h=>?_
 obtain⟨⟨a,d,n,m⟩,rfl,B,q⟩:=h
 have hu64:=hr.units
 refine⟨_,(aK
  (bY (iU (fQ (cJ D_is_day (hr.mono (by decide)) rfl (aJ (pv 1) pa_nil))))
   (aQ
    (aU (bJ (aJ (bK T.g_OUT_OF_RANGE rfl) pa_nil))))
   aZ)
  (aK
  (bY (bZ eQ (pv 2) (pv 3) (nomark _))
   (aQ
    (aU (bJ (aJ (bK T.g_OVER_ITSELF rfl) pa_nil))))
   aZ)
  (aK
  (fV PassesOwn.never rfl (qK rfl T.n_reversed (aJ (cJ D_effects_at (hr.mono (by decide)) rfl (aJ (pv 0) (aJ (pv 1) pa_nil))) pa_nil)) (PY rfl (fU (cK (i:=4) JU.nd rfl (Or.inl rfl)) (fU (cK (i:=5) JU.nd rfl (Or.inl rfl)) (fU (cK (i:=6) JU.nd rfl (Or.inl rfl)) (fU (cK (i:=7) JU.nd rfl (Or.inl rfl)) IU)))))
   (aK
    (bY (PW.pt (qJ (bZ eQ (pv 4) (bK T.g_CONSERVE rfl) (nomark _)) (nV (bZ (auK hu64) (gQ (aJ (pv 5) (aJ (pv 6) pa_nil))) (gQ (aJ (pv 2) (aJ (pv 3) pa_nil))) (nomark _)))))
     (aQ
      (aU (bJ (aJ aY (aJ aY (aJ (pv 7) pa_nil))))))
     aZ)
    (aQ
    (bY (PW.pt (qJ (bZ eQ (pv 4) (bK T.g_CONSERVE rfl) (nomark _)) (nV (bZ (auK hu64) (gQ (aJ (pv 5) (aJ (pv 6) pa_nil))) (gQ (aJ (pv 3) (aJ (pv 2) pa_nil))) (nomark _)))))
     (aQ
      (aU (bJ (aJ aY (aJ aY (aJ (pv 7) pa_nil))))))
     aZ))))
  (aQ
  (aU (bJ (aJ aY (aJ aY (aJ aY pa_nil))))))))),?_⟩
 dsimp only at B q
 have q0:RetL H Q (if Vbnlal.dayOk d=false then(a.s,[-9]) else if n=m then(a.s,[-10]) else(a.s,[0,(Vbnlal.overOf a.s d n m).1,(Vbnlal.overOf a.s d n m).2]):State×List Int).2:=q
 clear q
 have q:=q0
 refine⟨_,rfl,_,rfl,_,rfl,ite2 (λh=>?_) λh=>?_⟩
 ·rw[if_pos (by simpa using h)] at q
  exact⟨by decide,q.now (Same.refl _) rfl⟩
 rw[if_neg (by simpa using h)] at q
 refine⟨_,rfl,_,rfl,rfl,_,rfl,ite2 (λh=>?_) λh=>?_⟩
 ·rw[if_pos (by simpa using h)] at q
  exact⟨by decide,q.now (Same.refl _) rfl⟩
 have hnm:¬n=m:=by simpa using h
 rw[if_neg hnm] at q
 unfold Vbnlal.overOf at q
 rw[lastE] at q
 refine⟨_,rfl,_,rfl,⟨a,d⟩,rfl,B,λH1 p s1 hp ht=>?_⟩
 dsimp only at ht
 generalize EA a.s d=es at ht q
 obtain⟨ts,t1,t2,t3⟩:=ht
 have q:∀r,es.reverse.find? (overP n m)=r->RetL H Q [0,(match r with | some x=>((if x.1.a=n then 1 else 2:Int),x.2) | none=>(0,0)).1,(match r with | some x=>((if x.1.a=n then 1 else 2:Int),x.2) | none=>(0,0)).2]:=λr e=>by subst e;exact q
 refine⟨p,_,rfl,SqL.of t1,IZ (K:=Z.K) (a:=p) (xs:=ts.map V.ref) (λi σ H'=>∃v4 v5 v6 v7:Option V,σ=[some (.ref a.c),some (.int d),some (.int n),some (.int m),v4,v5,v6,v7]/\Same H1 H'/\∀x∈es.drop (es.length - i),¬overP n m x=true)
  ⟨none,none,none,none,rfl,Same.refl _,λx hx=>by rw[Nat.sub_zero,List.drop_length] at hx;cases hx⟩ (λi σ H' _ ⟨_,_,_,_,_,e,_⟩=>SqL.of (e _ _ t1)) ?_ ?_⟩
 ·rintro i y σ H' hi hy ⟨v4,v5,v6,v7,rfl,s2,hno⟩
  rw[List.length_map,t2] at hi hy
  obtain⟨t,x,rfl,hx,ht⟩:=TupsAt.get (f:=tup4) (p:=p) t2 t3 hy
  have ed:=awX hi hx
  have nxt:(¬overP n m x=true)->∀y∈es.drop (es.length - (i+1)),¬overP n m y=true:=λh y hy=>by
   rw[ed] at hy
   rcases List.mem_cons.mp hy with rfl | hy
   ·exact h
   ·exact hno y hy
  refine⟨t,_,rfl,SqT.of (s2 _ _ ht),rfl,_,_,rfl,_,_,rfl,_,_,rfl,_,_,rfl,rfl,?_⟩
  by_cases h3:x.1.kind=3
  ·refine⟨_,rfl,rfl,_,rfl,ifY (by simpa using h3) ?_⟩
   refine⟨_,rfl,_,rfl,l2,λu1 hu1=>⟨_,rfl,_,rfl,l2,λu2 hu2=>⟨_,_,dp2 (Same.new hu2 _ _ upd_same),dp2 upd_same,rfl,rfl,_,rfl,?_⟩⟩⟩
   rw[eqv2]
   have s3:Same H1 (upd (upd H' u1 (.tup [.int x.1.a,.int x.1.b])) u2 (.tup [.int n,.int m])):=s2.trans ((Same.new hu1).trans (Same.new hu2))
   generalize upd (upd H' u1 (.tup [.int x.1.a,.int x.1.b])) u2 (.tup [.int n,.int m])=H2 at s3 ⊢
   refine ite2 (λh=>?_) λh=>?_
   ·rw[Bool.and_eq_true,beq_iff_eq,beq_iff_eq] at h
    have hp:overP n m x=true:=by
     unfold overP
     rw[h3,h.1,h.2]
     simp
    have q:=q _ (yU ed hp hno)
    dsimp only at q
    rw[if_pos h.1] at q
    exact⟨_,rfl,l3,q.now (s1.trans s3) rfl⟩
   refine⟨_,rfl,rfl,_,rfl,ifY (by simpa using h3) ?_⟩
   refine⟨_,rfl,_,rfl,l2,λu3 hu3=>⟨_,rfl,_,rfl,l2,λu4 hu4=>⟨_,_,dp2 (Same.new hu4 _ _ upd_same),dp2 upd_same,rfl,rfl,_,rfl,?_⟩⟩⟩
   rw[eqv2]
   have s4:Same H1 (upd (upd H2 u3 (.tup [.int x.1.a,.int x.1.b])) u4 (.tup [.int m,.int n])):=s3.trans ((Same.new hu3).trans (Same.new hu4))
   generalize upd (upd H2 u3 (.tup [.int x.1.a,.int x.1.b])) u4 (.tup [.int m,.int n])=H4 at s4 ⊢
   refine ite2 (λh2=>?_) λh2=>?_
   ·rw[Bool.and_eq_true,beq_iff_eq,beq_iff_eq] at h2
    have hp:overP n m x=true:=by
     unfold overP
     rw[h3,h2.1,h2.2]
     simp
    have q:=q _ (yU ed hp hno)
    dsimp only at q
    rw[if_neg (λz=>hnm (z.symm.trans h2.1))] at q
    exact⟨_,rfl,l3,q.now (s1.trans s4) rfl⟩
   ·refine⟨_,_,_,_,rfl,s4,nxt λz=>?_⟩
    unfold overP at z
    rw[Bool.and_eq_true,Bool.or_eq_true] at z
    rcases z.2 with z | z
    ·exact h z
    ·exact h2 z
  ·refine⟨_,rfl,rfl,_,rfl,ifN (by simpa using h3) (iteF ?_)⟩
   refine⟨_,rfl,rfl,_,rfl,ifN (by simpa using h3) (iteF ?_)⟩
   refine⟨_,_,_,_,rfl,s2,nxt λz=>?_⟩
   unfold overP at z
   rw[Bool.and_eq_true,beq_iff_eq] at z
   exact h3 z.1
 ·rintro σ H' ⟨v4,v5,v6,v7,rfl,s2,hno⟩
  rw[List.length_map,t2,Nat.sub_self,List.drop_zero] at hno
  exact⟨by decide,(q _ (yQ hno)).now (s1.trans s2) rfl⟩
end
structure StAt(H:Hp)(p:Addr)(l:List EK)(kvs:List (Key×V))(ks:List Int):Prop where
 at_:H p=some (.dK kvs)
 keys:kvs.map (·.1)=ks.map Sum.inl
 nd:ks.Nodup
 mem:∀x,x∈ks↔∃e∈l,e.1.kind<=2/\e.1.a=x
 len:ks.length<=l.length
 val:∀x∈ks,∃t e,valV kvs (Sum.inl x)=some (.ref t)/\lastSt l x=some e/\H t=some (.tup [.int e.1.kind,.int e.2])
theorem StAt.same{H H':Hp}{p:Addr}{l:List EK}{kvs:List (Key×V)}{ks:List Int}(h:StAt H p l kvs ks)(s:Same H H'):StAt H' p l kvs ks:=
 ⟨s _ _ h.at_,h.keys,h.nd,h.mem,h.len,λx hx=>let ⟨t,e,h1,h2,h3⟩:=h.val x hx;⟨t,e,h1,h2,s _ _ h3⟩⟩
theorem StAt.skip{H:Hp}{p:Addr}{l:List EK}{kvs:List (Key×V)}{ks:List Int}(h:StAt H p l kvs ks){x:EK}(hx:¬x.1.kind<=2):StAt H p (l++[x]) kvs ks:=by
 refine⟨h.at_,h.keys,h.nd,λy=>?_,?_,λy hy=>?_⟩
 ·rw[h.mem]
  constructor
  ·rintro⟨e,he,h1⟩
   exact⟨e,List.mem_append_left _ he,h1⟩
  ·rintro⟨e,he,h1⟩
   rcases List.mem_append.mp he with he | he
   ·exact⟨e,he,h1⟩
   ·have:e=x:=by simpa using he
    subst this
    exact absurd h1.1 hx
 ·rw[List.length_append]
  have:=h.len
  omega
 ·obtain⟨t,e,h1,h2,h3⟩:=h.val y hy
  exact⟨t,e,h1,by rw[FW,if_neg λz=>hx z.1];exact h2,h3⟩
theorem aRZ{kvs:List (Key×V)}{k:Key}{v:V}(h:(valV kvs k).isSome=true):(putK kvs k v).map (·.1)=kvs.map (·.1):=by
 unfold putK
 rw[lQ,if_pos h,List.map_map]
 apply List.map_congr_left
 intro p _
 show(if p.1=k then(p.1,v) else p).1=p.1
 split <;> rfl
theorem awZ{kvs:List (Key×V)}{ks:List Int}(h:kvs.map (·.1)=ks.map Sum.inl)(x:Int):(valV kvs (Sum.inl x)).isSome=true↔x∈ks:=by
 rw[<-lQ,List.any_eq_true]
 constructor
 ·rintro⟨p,hp,e⟩
  have:p.1∈ks.map Sum.inl:=h▸List.mem_map_of_mem hp
  obtain⟨y,hy,e2⟩:=List.mem_map.mp this
  rw[of_decide_eq_true e] at e2
  exact Sum.inl.inj e2▸hy
 ·intro hx
  have:(Sum.inl x:Key)∈kvs.map (·.1):=h▸List.mem_map_of_mem hx
  obtain⟨p,hp,e⟩:=List.mem_map.mp this
  exact⟨p,hp,decide_eq_true e⟩
theorem StAt.put{H:Hp}{p t:Addr}{l:List EK}{kvs:List (Key×V)}{ks:List Int}(h:StAt H p l kvs ks){x:EK}(hx:x.1.kind<=2)(ht:H t=some (.tup [.int x.1.kind,.int x.2])) :
  ∃ks',StAt (upd H p (.dK (putK kvs (Sum.inl x.1.a) (.ref t)))) p (l++[x]) (putK kvs (Sum.inl x.1.a) (.ref t)) ks':=by
 have hval:∀ks':List Int,(∀y,y∈ks'->y=x.1.a\/y∈ks)->∀y∈ks',∃t' e,valV (putK kvs (Sum.inl x.1.a) (.ref t)) (Sum.inl y)=some (.ref t')/\lastSt (l++[x]) y=some e/\(upd H p (.dK (putK kvs (Sum.inl x.1.a) (.ref t)))) t'=some (.tup [.int e.1.kind,.int e.2]):=by
  intro ks' hk y hy
  by_cases e:y=x.1.a
  ·refine⟨t,x,by rw[BU,if_pos (congrArg Sum.inl e)],by rw[FW,if_pos ⟨hx,e.symm⟩],?_⟩
   rw[aV (eW ht h.at_ (by intro z;cases z))]
   exact ht
  ·obtain⟨t',e',h1,h2,h3⟩:=h.val y ((hk y hy).resolve_left e)
   refine⟨t',e',by rw[BU,if_neg λz=>e (Sum.inl.inj z)];exact h1,by rw[FW,if_neg λz=>e z.2.symm];exact h2,?_⟩
   rw[aV (eW h3 h.at_ (by intro z;cases z))]
   exact h3
 have hmem:∀y,(y=x.1.a\/y∈ks)↔∃e∈l++[x],e.1.kind<=2/\e.1.a=y:=by
  intro y
  rw[h.mem]
  constructor
  ·rintro(e | ⟨e,he,h1⟩)
   ·exact⟨x,by simp,hx,e.symm⟩
   ·exact⟨e,List.mem_append_left _ he,h1⟩
  ·rintro⟨e,he,h1⟩
   rcases List.mem_append.mp he with he | he
   ·exact .inr ⟨e,he,h1⟩
   ·have:e=x:=by simpa using he
    subst this
    exact .inl h1.2.symm
 by_cases hin:x.1.a∈ks
 ·refine⟨ks,upd_same,by rw[aRZ ((awZ h.keys _).mpr hin)];exact h.keys,h.nd,λy=>?_,by rw[List.length_append];have:=h.len;omega,hval ks λy hy=>.inr hy⟩
  rw[<-hmem y]
  exact⟨.inr,λz=>z.elim (λe=>e▸hin) id⟩
 ·have hn:valV kvs (Sum.inl x.1.a)=none:=by
   cases z:valV kvs (Sum.inl x.1.a) with
   |none=>rfl
   |some v=>exact absurd ((awZ h.keys x.1.a).mp (by rw[z];rfl)) hin
  refine⟨ks++[x.1.a],upd_same,by rw[uK _ hn,List.map_append,List.map_append,h.keys];rfl,aiW h.nd hin,λy=>?_,by rw[List.length_append,List.length_append];have:=h.len;simp;omega,hval _ λy hy=>?_⟩
  ·rw[<-hmem y,List.mem_append]
   simp[or_comm]
  ·rcases List.mem_append.mp hy with hy | hy
   ·exact .inr hy
   ·exact .inl (by simpa using hy)
def spStats(Cc Ck:Addr):Sp:=mkSp (λa:Ct×Int=>[.ref a.1.c,.int a.2]) λa H Q=>CtOk Cc Ck H a.1/\∀H' p kvs ks,Same H H'->H p=none->StAt H' p (EA a.1.s a.2) kvs ks->Q (.ref p) H'
section
variable{Z:Wd}{Cc Ck Cf f:Addr}{fd:FuncData}
abbrev yV:Stmt:=top 93
theorem jV:FnScope ["court", "d", "statuses", "kind", "n", "m", "key"] ["court", "d"] (defScope yV):=mkSc
theorem ajU(F:Fun Z.K "statuses_at" "statuses_at" yV f fd)(T:Tx Z Cc Ck Cf)(D_effects_at:DefOk Z 3 "effects_at" ["court", "d"] (spEffs Cc Ck)):OkZ Z 4 f fd ["court", "d"] (spStats Cc Ck):=by
 refine okS F jV λs H Q E hr h=>?_
 obtain⟨⟨a,d⟩,rfl,B,q⟩:=h
 have hu:=dY hr
 refine⟨_,(aK
  (bQ (i:=2) jV.nd rfl (Or.inl rfl) oQ)
  (aK
  (fV PassesOwn.never rfl (dQ (cJ D_effects_at (hr.mono (by decide)) rfl (aJ (pv 0) (aJ (pv 1) pa_nil)))) (PY rfl (fU (cK (i:=3) jV.nd rfl (Or.inl rfl)) (fU (cK (i:=4) jV.nd rfl (Or.inl rfl)) (fU (cK (i:=5) jV.nd rfl (Or.inl rfl)) (fU (cK (i:=6) jV.nd rfl (Or.inl rfl)) IU)))))
   (aQ
    (bY (bZ wZ (pv 3) (gQ (aJ (bK T.g_RESTORE rfl) (aJ (bK T.g_SUPPRESS rfl) (aJ (bK T.g_SUPPRESS_WHOLLY rfl) pa_nil)))) rfl)
     (aQ
      (oZ hu (pv 2) (pv 4) (gQ (aJ (pv 3) (aJ (pv 6) pa_nil))) rfl))
     aZ)))
  (aQ
  (aU (pv 2))))),?_⟩
 dsimp only at B q
 intro p hp
 have s1:Same H (upd H p (.dK [])):=Same.new hp
 have p1:(upd H p (.dK [])) p=some (.dK []):=upd_same
 generalize upd H p (.dK [])=H1 at s1 p1 ⊢
 refine⟨_,rfl,_,rfl,⟨a,d⟩,rfl,B.same s1,λH2 e s2 he ht=>?_⟩
 dsimp only at ht
 have hlen:=awW B d
 have hok:=λx=>asJ B (d:=d) (x:=x)
 generalize EA a.s d=es at ht q hlen hok
 obtain⟨ts,t1,t2,t3⟩:=ht
 refine⟨e,rfl,⟨_,SqL.of t1⟩,iK (K:=Z.K) (a:=e) (xs:=ts.map V.ref) (λi σ H'=>∃v3 v4 v5 v6:Option V,σ=[some (.ref a.c),some (.int d),some (.ref p),v3,v4,v5,v6]/\But p H2 H'/\∃kvs ks,StAt H' p (es.take i) kvs ks)
  ⟨none,none,none,none,rfl,But.refl _ _,[],[],s2 _ _ p1,rfl,List.nodup_nil,λx=>by simp,Nat.zero_le _,λx hx=>by cases hx⟩ (λi σ H' _ ⟨_,_,_,_,_,h,_⟩=>SqL.of (h _ _ t1 (eW t1 (s2 _ _ p1) (by intro z;cases z)))) ?_ ?_⟩
 ·rintro i y σ H' hy ⟨v3,v4,v5,v6,rfl,k3,kvs,ks,S⟩
  obtain⟨t,x,rfl,hx,ht⟩:=TupsAt.get (f:=tup4) (p:=e) t2 t3 hy
  have hi:=(List.getElem?_eq_some_iff.mp hx).1
  have ht':=k3 _ _ ht (eW ht (s2 _ _ p1) (by intro z;cases z))
  have ok:=hok x (List.mem_of_getElem? hx)
  have k0:=ok.k0
  refine⟨t,_,rfl,SqT.of ht',rfl,_,_,rfl,_,_,rfl,_,_,rfl,_,_,rfl,rfl,?_⟩
  refine⟨_,rfl,l3,λu hu=>⟨u,_,rfl,.inr (SqT.of upd_same),rfl,rfl,_,rfl,?_⟩⟩
  have s4:Same H' (upd H' u (.tup [.int 0,.int 1,.int 2])):=Same.new hu
  generalize upd H' u (.tup [.int 0,.int 1,.int 2])=H4 at s4 ⊢
  have S4:=S.same s4
  refine ite2 (λh=>?_) λh=>?_
  ·have h2:x.1.kind<=2:=by
    simp[inV,eqV] at h
    omega
   have klen:kvs.length<=2400:=by
    have h1:=congrArg List.length S.keys
    rw[List.length_map,List.length_map] at h1
    have h2:=S.len
    have h3:=fK i es
    omega
   refine⟨_,rfl,_,rfl,l2,λr hr=>⟨_,rfl,_,rfl,_,_,rfl,DPut.k (k:=Sum.inl x.1.a) (Same.new hr _ _ S4.at_) (smallS (by omega)),?_⟩⟩
   have s5:Same H4 (upd H4 r (.tup [.int x.1.kind,.int x.2])):=Same.new hr
   obtain⟨ks',S5⟩:=(S4.same s5).put h2 upd_same
   rw[<-bU hx] at S5
   exact⟨_,_,_,_,rfl,((k3.same s4).same s5).upd,_,ks',S5⟩
  ·have h2:¬x.1.kind<=2:=by
    simp[inV,eqV] at h
    omega
   have S5:=S4.skip h2
   rw[<-bU hx] at S5
   exact⟨_,_,_,_,rfl,k3.same s4,kvs,ks,S5⟩
 ·rintro σ H' ⟨v3,v4,v5,v6,rfl,k3,kvs,ks,S⟩
  rw[List.length_map,t2,List.take_length] at S
  refine⟨_,rfl,q _ _ kvs ks (λb o hb=>k3 _ _ (s2 _ _ (s1 _ _ hb)) (aX hb hp)) hp S⟩
abbrev CZ:Stmt:=top 94
theorem rK:FnScope ["court", "d", "statuses", "told", "name"] ["court", "d"] (defScope CZ):=mkSc
theorem aqQ(F:Fun Z.K "tell_index" "tell_index" CZ f fd)(T:Tx Z Cc Ck Cf)(D_is_day:DefOk Z 1 "is_day" ["number"] (spB1 Vbnlal.dayOk))(D_statuses_at:DefOk Z 4 "statuses_at" ["court", "d"] (spStats Cc Ck)):OkZ Z 5 f fd ["court", "d"] (spR1 Cc Ck λs d=>(Vbnlal.step s (.index d)).2):=by
 refine okS F rK λs H Q E hr h=>?_
 obtain⟨⟨a,d⟩,rfl,B,q⟩:=h
 have hu:=dY hr
 refine⟨_,(aK
  (bY (iU (fQ (cJ D_is_day (hr.mono (by decide)) rfl (aJ (pv 1) pa_nil))))
   (aQ
    (aU (bJ (aJ (bK T.g_OUT_OF_RANGE rfl) pa_nil))))
   aZ)
  (aK
  (bQ (i:=2) rK.nd rfl (Or.inl rfl) (cJ D_statuses_at (hr.mono (by decide)) rfl (aJ (pv 0) (aJ (pv 1) pa_nil))))
  (aK
  (bQ (i:=3) rK.nd rfl (Or.inl rfl) (bJ (aJ aY pa_nil)))
  (aK
  (fV PassesOwn.never rfl (dQ (cX (BX rfl) (by rfl) T.n_sorted boot_sorted (aJ (pv 2) pa_nil))) (cK (i:=4) rK.nd rfl (Or.inl rfl))
   (aQ
    (bY (bZ acY (cZ eY (gU hu (pv 2) (pv 4) (λ_ _=>rfl)) aY (λ_ _=>rfl)) (bK T.g_RESTORE rfl) (nomark _))
     (aQ
      (gJ (mW PySem.F.plainAttrs_list PySem.F.slot_list_extend PySem.F.type_list_extend xJ (pv 3) (aJ (bJ (aJ (pv 4) (aJ (cZ eY (gU hu (pv 2) (pv 4) (λ_ _=>rfl)) aY (λ_ _=>rfl)) (aJ (cZ eY (gU hu (pv 2) (pv 4) (λ_ _=>rfl)) aY (λ_ _=>rfl)) pa_nil)))) pa_nil hJ))))
     aZ)))
  (aQ
  (aU (pv 3))))))),?_⟩
 dsimp only at B q
 have q0:RetL H Q (if Vbnlal.dayOk d=false then(a.s,[-9]) else(a.s,0::(Vbnlal.indexAt a.s d).flatMap λx=>[x,(Vbnlal.statusOf a.s d x).1,(Vbnlal.statusOf a.s d x).2]):State×List Int).2:=q
 clear q
 have q:=q0
 refine⟨_,rfl,_,rfl,_,rfl,ite2 (λh=>?_) λh=>?_⟩
 ·rw[if_pos (by simpa using h)] at q
  exact⟨by decide,q.now (Same.refl _) rfl⟩
 rw[if_neg (by simpa using h)] at q
 refine⟨_,rfl,_,rfl,⟨a,d⟩,rfl,B,λH1 p kvs ks s1 hp S=>?_⟩
 dsimp only at S
 have hlen:=awW B d
 refine⟨by decide,λt ht=>?_⟩
 have s2:Same H1 (upd H1 t (.lst [.int 0])):=Same.new ht
 have t2:(upd H1 t (.lst [.int 0])) t=some (.lst [.int 0]):=upd_same
 generalize upd H1 t (.lst [.int 0])=H2 at s2 t2 ⊢
 have S2:=S.same s2
 refine⟨_,rfl,_,kvs,ks,rfl,.inl S2.at_,S.keys,λns l hp2 hs hl=>?_⟩
 have s3:Same H2 (upd H2 l (.lst (ns.map V.int))):=Same.new hl
 have l3':(upd H2 l (.lst (ns.map V.int))) l=some (.lst (ns.map V.int)):=upd_same
 have t3:=s3 _ _ t2
 have htl:t≠l:=aX t2 hl
 generalize upd H2 l (.lst (ns.map V.int))=H3 at s3 l3' t3 ⊢
 have S3:=S2.same s3
 have htH1:H1 t=none:=ht
 have nlen:ns.length<=2400:=by
  rw[hp2.length_eq]
  have:=S.len
  omega
 have hmn:∀x,x∈ns↔∃e∈EA a.s d,e.1.kind<=2/\e.1.a=x:=λx=>by rw[hp2.mem_iff];exact S.mem x
 have hidx:=aUJ (s:=a.s) (d:=d) (ZV hs (hp2.nodup_iff.mpr S.nd)) hmn
 refine⟨l,rfl,⟨_,SqL.of l3'⟩,iK (K:=Z.K) (a:=l) (xs:=ns.map V.int) (λi σ H'=>∃v:Option V,σ=[some (.ref a.c),some (.int d),some (.ref p),some (.ref t),v]/\But t H3 H'/\
   H' t=some (.lst ((0::((ns.take i).filter λx=>(Vbnlal.statusOf a.s d x).1 != 0).flatMap λx=>[x,(Vbnlal.statusOf a.s d x).1,(Vbnlal.statusOf a.s d x).2]).map V.int)))
  ⟨none,rfl,But.refl _ _,t3⟩ (λi σ H' _ ⟨_,_,h,_⟩=>SqL.of (h _ _ l3' htl.symm)) ?_ ?_⟩
 ·rintro i y σ H' hy ⟨v,rfl,k4,t4⟩
  obtain⟨x,hx,rfl⟩:=gmap hy
  have hxk:x∈ks:=hp2.mem_iff.mp (List.mem_of_getElem? hx)
  obtain⟨r,e,hv,hl2,hr⟩:=S3.val x hxk
  have nr:r≠t:=eW hr t3 (by intro z;cases z)
  have hr4:=k4 _ _ hr nr
  have np:p≠t:=eW S3.at_ t3 (by intro z;cases z)
  have hp4:=k4 _ _ S3.at_ np
  have est:Vbnlal.statusOf a.s d x=(e.1.kind,e.2):=by
   rw[aAY]
   rw[show lastSt (Vbnlal.effectsAt a.s d) x=some e from hl2]
  refine⟨_,rfl,_,rfl,_,_,rfl,dgetI hp4 hv,r,_,_,_,rfl,rfl,SqT.of hr4,rfl,rfl,_,rfl,ite2 (λh=>?_) λh=>?_⟩
  ·have h0:(e.1.kind != 0)=true:=by simpa using h
   refine⟨_,rfl,.inl ⟨rfl,_,SqL.of t4⟩,_,rfl,_,rfl,_,rfl,_,_,rfl,dgetI hp4 hv,r,_,_,_,rfl,rfl,SqT.of hr4,rfl,_,rfl,_,rfl,_,_,rfl,dgetI hp4 hv,r,_,_,_,rfl,rfl,SqT.of hr4,rfl,l3,λb hb=>?_⟩
   have s5:Same H' (upd H' b (.lst [.int x,.int e.1.kind,.int e.2])):=Same.new hb
   refine⟨t,b,_,_,rfl,rfl,s5 _ _ t4,upd_same,Nat.le_of_lt (smallS ?_),_,rfl,(k4.same s5).upd,?_⟩
   ·rw[List.length_map,List.length_cons]
    have h1:=eJ (f:=λx=>[x,(Vbnlal.statusOf a.s d x).1,(Vbnlal.statusOf a.s d x).2]) (k:=3) (l:=(ns.take i).filter λx=>(Vbnlal.statusOf a.s d x).1 != 0) λx _=>Nat.le_refl _
    have h2:=List.length_filter_le (λx=>(Vbnlal.statusOf a.s d x).1 != 0) (ns.take i)
    have h3:=fK i ns
    show _+1+3<=100000
    omega
   ·rw[upd_same,bU hx,List.filter_append,List.flatMap_append,List.filter_cons,if_pos (by rw[est];exact h0)]
    simp[est]
  ·have h0:¬(e.1.kind != 0)=true:=by simpa using h
   refine⟨_,rfl,k4,?_⟩
   rw[bU hx,List.filter_append,List.filter_cons,if_neg (by rw[est];exact h0),List.filter_nil,List.append_nil]
   exact t4
 ·rintro σ H' ⟨v,rfl,k4,t4⟩
  rw[List.length_map,List.take_length,hidx] at t4
  exact⟨_,rfl,q _ _ (λb o hb=>k4 _ _ (s3 _ _ (s2 _ _ (s1 _ _ hb))) (aX hb (s1.free ht))) (s1.free ht) t4⟩
end
abbrev tup3(x:EK):HO:=.tup [.int x.1.a,.int x.1.b,.int x.2]
abbrev tupN(x:EK):HO:=.tup [.int (if x.1.b<x.1.a then x.1.b else x.1.a),.int (if x.1.b > x.1.a then x.1.b else x.1.a)]
abbrev keyN(x:EK):List Key:=[Sum.inl (pairOf x).1,Sum.inl (pairOf x).2]
theorem axJ(x y:EK):keyN x=keyN y↔pairOf x=pairOf y:=by
 constructor
 ·intro h
  injection h with h1 h2
  injection h2 with h2 h3
  exact Prod.ext (Sum.inl.inj h1) (Sum.inl.inj h2)
 ·intro h
  unfold keyN
  rw[h]
theorem keepL_cons(x:EK)(r:List EK):keepL (x::r)=if x.1.kind=3/\¬(∃y∈r,y.1.kind=3/\pairOf y=pairOf x) then x::keepL r else keepL r:=rfl
theorem RZ:∀l:List EK,(keepL l).length<=l.length
 |[]=>Nat.le_refl _
 |x::r=>by
  rw[keepL_cons]
  have:=RZ r
  split <;> simp <;> omega
theorem TupsAt.but{α:Type}{f:α->HO}{H H':Hp}{p b:Addr}{xs:List α}(hf:∀x,∃ys,f x = .tup ys){o:HO}(hb:H b=some o)(ho:∀ys,o≠.tup ys)(hpb:p≠b)(h:TupsAt f H p xs)(s:But b H H'):TupsAt f H' p xs:=by
 obtain⟨ts,h1,h2,h3⟩:=h
 refine⟨ts,s _ _ h1 hpb,h2,λi t x a c=>?_⟩
 have w:=h3 i t x a c
 refine s _ _ w λe=>?_
 rw[e,hb] at w
 obtain⟨ys,e2⟩:=hf x
 rw[e2] at w
 exact ho ys (Option.some.inj w)
theorem TupsAt.snoc{α:Type}{f:α->HO}{H:Hp}{p r:Addr}{xs:List α}{x:α}{ts:List Addr}(hf:∀x,∃ys,f x = .tup ys)(h1:H p=some (.lst (ts.map V.ref)))(h2:ts.length=xs.length)(h3:∀(i:Nat) t x,ts[i]? = some t->xs[i]? = some x->H t=some (f x))(hr:H r=some (f x)) :
  TupsAt f (upd H p (.lst (ts.map V.ref++[.ref r]))) p (xs++[x]):=by
 refine⟨ts++[r],by rw[upd_same,List.map_append];rfl,by rw[List.length_append,List.length_append,h2];rfl,λj t y a b=>?_⟩
 have w:H t=some (f y):=by
  by_cases hj:j<ts.length
  ·rw[List.getElem?_append_left hj] at a
   rw[List.getElem?_append_left (by omega)] at b
   exact h3 j t y a b
  ·have hj2:j=ts.length:=by
    have:=(List.getElem?_eq_some_iff.mp a).1
    rw[List.length_append,List.length_singleton] at this
    omega
   subst hj2
   rw[List.getElem?_append_right (Nat.le_refl _),Nat.sub_self] at a
   rw[List.getElem?_append_right (by omega),h2,Nat.sub_self] at b
   cases a
   cases b
   exact hr
 have:t≠p:=λe=>by
  rw[e,h1] at w
  obtain⟨ys,e2⟩:=hf y
  rw[e2] at w
  cases w
 rw[aV this]
 exact w
section
variable{Z:Wd}{Cc Ck Cf f:Addr}{fd:FuncData}
abbrev GZ:Stmt:=top 95
theorem gK:FnScope ["court", "d", "spoken_of", "kept", "kind", "n", "m", "key", "names", "told", "triple"] ["court", "d"] (defScope GZ):=mkSc
theorem axK(F:Fun Z.K "conserved" "conserved" GZ f fd)(T:Tx Z Cc Ck Cf)(D_is_day:DefOk Z 1 "is_day" ["number"] (spB1 Vbnlal.dayOk))(D_effects_at:DefOk Z 3 "effects_at" ["court", "d"] (spEffs Cc Ck)):OkZ Z 4 f fd ["court", "d"] (spR1 Cc Ck λs d=>(Vbnlal.step s (.conserved d)).2):=by
 refine okS F gK λs H Q E hr h=>?_
 obtain⟨⟨a,d⟩,rfl,B,q⟩:=h
 have hu:=dY hr
 refine⟨_,(aK
  (bY (iU (fQ (cJ D_is_day (hr.mono (by decide)) rfl (aJ (pv 1) pa_nil))))
   (aQ
    (aU (bJ (aJ (bK T.g_OUT_OF_RANGE rfl) pa_nil))))
   aZ)
  (aK
  (bQ (i:=2) gK.nd rfl (Or.inl rfl) aVU)
  (aK
  (bQ (i:=3) gK.nd rfl (Or.inl rfl) (bJ pa_nil))
  (aK
  (fV PassesOwn.never rfl (qK rfl T.n_reversed (aJ (cJ D_effects_at (hr.mono (by decide)) rfl (aJ (pv 0) (aJ (pv 1) pa_nil))) pa_nil)) (PY rfl (fU (cK (i:=4) gK.nd rfl (Or.inl rfl)) (fU (cK (i:=5) gK.nd rfl (Or.inl rfl)) (fU (cK (i:=6) gK.nd rfl (Or.inl rfl)) (fU (cK (i:=7) gK.nd rfl (Or.inl rfl)) IU)))))
   (aK
    (bQ (i:=8) gK.nd rfl (Or.inl rfl) (gQ (aJ (cX (aPW rfl) (by rfl) T.n_min boot_min (aJ (pv 5) (aJ (pv 6) pa_nil))) (aJ (cX (aPV rfl) (by rfl) T.n_max boot_max (aJ (pv 5) (aJ (pv 6) pa_nil))) pa_nil))))
    (aQ
    (bY (PW.pt (qJ (bZ eQ (pv 4) (bK T.g_CONSERVE rfl) (nomark _)) (nV (dW (kW hu (pv 8) (pv 2)) rfl))))
     (aK
      (oZ hu (pv 2) (pv 8) zX rfl)
      (aQ
      (gJ (mW PySem.F.plainAttrs_list PySem.F.slot_list_append PySem.F.type_list_append mK (pv 3) (aJ (gQ (aJ (pv 5) (aJ (pv 6) (aJ (pv 7) pa_nil)))) pa_nil)))))
     aZ))))
  (aK
  (bQ (i:=9) gK.nd rfl (Or.inl rfl) (bJ (aJ aY pa_nil)))
  (aK
  (fV PassesOwn.never rfl (qK rfl T.n_reversed (aJ (pv 3) pa_nil)) (cK (i:=10) gK.nd rfl (Or.inl rfl))
   (aQ
    (gJ (mW PySem.F.plainAttrs_list PySem.F.slot_list_extend PySem.F.type_list_extend adZ (pv 9) (aJ (pv 10) pa_nil)))))
  (aQ
  (aU (pv 9))))))))),?_⟩
 dsimp only at B q
 have q0:RetL H Q (if Vbnlal.dayOk d=false then(a.s,[-9]) else(a.s,0::(Vbnlal.edgesAt a.s d).flatMap λx=>[x.1.a,x.1.b,x.2]):State×List Int).2:=q
 clear q
 have q:=q0
 refine⟨_,rfl,_,rfl,_,rfl,ite2 (λh=>?_) λh=>?_⟩
 ·rw[if_pos (by simpa using h)] at q
  exact⟨by decide,q.now (Same.refl _) rfl⟩
 rw[if_neg (by simpa using h),aUK] at q
 intro b hb
 refine⟨by decide,λkl hkl=>?_⟩
 have nbk:b≠kl:=aX upd_same hkl
 have hkH:H kl=none:=aW hkl
 have s1:Same H (upd (upd H b (.dT [])) kl (.lst [])):=(Same.new hb).upd hkH
 have b1:(upd (upd H b (.dT [])) kl (.lst [])) b=some (.dT []):=by rw[aV nbk,upd_same]
 have k1:(upd (upd H b (.dT [])) kl (.lst [])) kl=some (.lst []):=upd_same
 generalize upd (upd H b (.dT [])) kl (.lst [])=H1 at s1 b1 k1 ⊢
 refine⟨_,rfl,_,rfl,⟨a,d⟩,rfl,B.same s1,λH2 e s2 he ht=>?_⟩
 dsimp only at ht
 have hlen:=awW B d
 have q:RetL H Q (0::(keepL (EA a.s d)).flatMap λx=>[x.1.a,x.1.b,x.2]):=q
 generalize EA a.s d=es at ht q hlen
 obtain⟨ts,t1,t2,t3⟩:=ht
 have b2:=s2 _ _ b1
 have k2:=s2 _ _ k1
 refine⟨e,_,rfl,SqL.of t1,IZ (K:=Z.K) (a:=e) (xs:=ts.map V.ref) (λi σ H'=>∃v4 v5 v6 v7 v8:Option V,σ=[some (.ref a.c),some (.int d),some (.ref b),some (.ref kl),v4,v5,v6,v7,v8,none,none]/\(∀y o,H2 y=some o->y≠b->y≠kl->H' y=some o)/\
   (∃kvs,H' b=some (.dT kvs)/\kvs.length<=i/\∀x:EK,(valV kvs (keyN x)).isSome=true↔∃y∈es.drop (es.length - i),y.1.kind=3/\pairOf y=pairOf x)/\TupsAt tup3 H' kl (keepL (es.drop (es.length - i))).reverse)
  ⟨none,none,none,none,none,rfl,λy o h _ _=>h,⟨[],b2,Nat.le_refl _,λx=>by rw[Nat.sub_zero,List.drop_length];simp[aVK]⟩,⟨[],k2,by rw[Nat.sub_zero,List.drop_length];rfl,λi t x h=>by simp at h⟩⟩
  (λi σ H' _ ⟨_,_,_,_,_,_,h,_⟩=>SqL.of (h _ _ t1 (eW t1 b2 (by intro z;cases z)) (aX k1 he).symm)) ?_ ?_⟩
 ·rintro i y σ H' hi hy ⟨v4,v5,v6,v7,v8,rfl,k3,⟨kvs,hkv,hkl3,hkm⟩,K3⟩
  rw[List.length_map,t2] at hi hy
  obtain⟨t,x,rfl,hx,ht⟩:=TupsAt.get (f:=tup4) (p:=e) t2 t3 hy
  have ed:=awX hi hx
  have ht':=k3 _ _ ht (eW ht b2 (by intro z;cases z)) (eW ht k2 (by intro z;cases z))
  refine⟨t,_,rfl,SqT.of ht',rfl,_,_,rfl,_,_,rfl,_,_,rfl,_,_,rfl,rfl,?_⟩
  refine⟨_,rfl,_,rfl,_,_,rfl,_,rfl,_,rfl,_,_,rfl,l2,λu hu=>?_⟩
  have s4:Same H' (upd H' u (tupN x)):=Same.new hu
  have u4:(upd H' u (tupN x)) u=some (tupN x):=upd_same
  generalize upd H' u (tupN x)=H4 at s4 u4 ⊢
  have b4:=s4 _ _ hkv
  have K4:=K3.same s4
  have skip:¬(x.1.kind=3/\¬(∃y∈es.drop (es.length - i),y.1.kind=3/\pairOf y=pairOf x))->∀σ,(∃v4 v5 v6 v7 v8:Option V,σ=[some (.ref a.c),some (.int d),some (.ref b),some (.ref kl),v4,v5,v6,v7,v8,none,none])->∃v4 v5 v6 v7 v8:Option V,σ=[some (.ref a.c),some (.int d),some (.ref b),some (.ref kl),v4,v5,v6,v7,v8,none,none]/\(∀y o,H2 y=some o->y≠b->y≠kl->H4 y=some o)/\
   (∃kvs,H4 b=some (.dT kvs)/\kvs.length<=i+1/\∀x:EK,(valV kvs (keyN x)).isSome=true↔∃y∈es.drop (es.length - (i+1)),y.1.kind=3/\pairOf y=pairOf x)/\TupsAt tup3 H4 kl (keepL (es.drop (es.length - (i+1)))).reverse:=by
   rintro hno σ ⟨w4,w5,w6,w7,w8,rfl⟩
   refine⟨w4,w5,w6,w7,w8,rfl,λy o h1 h2 h3=>s4 _ _ (k3 y o h1 h2 h3),⟨kvs,b4,by omega,λz=>?_⟩,?_⟩
   ·rw[hkm,ed]
    constructor
    ·rintro⟨y,hy,h⟩
     exact⟨y,List.mem_cons_of_mem _ hy,h⟩
    ·rintro⟨y,hy,h⟩
     rcases List.mem_cons.mp hy with rfl | hy
     ·by_cases hh:∃w∈es.drop (es.length - i),w.1.kind=3/\pairOf w=pairOf y
      ·obtain⟨w,hw,h1,h2⟩:=hh
       exact⟨w,hw,h1,h2.trans h.2⟩
      ·exact absurd ⟨h.1,hh⟩ hno
     ·exact⟨y,hy,h⟩
   ·rw[ed,keepL_cons,if_neg hno]
    exact K4
  refine⟨_,rfl,rfl,_,rfl,ite2 (λh3=>?_) λh3=>iteF ?_⟩
  ·have h3:x.1.kind=3:=by simpa using h3
   refine⟨_,rfl,_,rfl,_,_,rfl,DGet.t (k:=keyN x) b4 u4,_,rfl,ite2 (λh=>?_) λh=>?_⟩
   ·have hno:¬∃y∈es.drop (es.length - i),y.1.kind=3/\pairOf y=pairOf x:=by
     rw[<-hkm]
     simpa using h
    refine⟨_,rfl,_,rfl,_,_,rfl,DPut.t (k:=keyN x) b4 u4 (smallS (by omega)),?_⟩
    have k5:But b H4 (upd H4 b (.dT (putK kvs (keyN x) (.bl true)))):=But.lock
    have b5:(upd H4 b (.dT (putK kvs (keyN x) (.bl true)))) b=some (.dT (putK kvs (keyN x) (.bl true))):=upd_same
    have K5:=K4.but (λx=>⟨_,rfl⟩) b4 (by intro ys z;cases z) nbk.symm k5
    generalize upd H4 b (.dT (putK kvs (keyN x) (.bl true)))=H5 at k5 b5 K5 ⊢
    obtain⟨us,u1,u2,u3⟩:=K5
    have ulen:us.length<=2400:=by
     rw[u2,List.length_reverse]
     have h1:=RZ (es.drop (es.length - i))
     rw[List.length_drop] at h1
     omega
    refine⟨_,rfl,.inl ⟨rfl,_,SqL.of u1⟩,_,rfl,_,rfl,_,rfl,l3,λr hr=>?_⟩
    have s6:Same H5 (upd H5 r (tup3 x)):=Same.new hr
    have r6:(upd H5 r (tup3 x)) r=some (tup3 x):=upd_same
    generalize upd H5 r (tup3 x)=H6 at s6 r6 ⊢
    refine⟨kl,_,_,rfl,rfl,s6 _ _ u1,smallS (by rw[List.length_map];omega),_,_,_,_,_,rfl,?_,⟨putK kvs (keyN x) (.bl true),?_,?_,λz=>?_⟩,?_⟩
    ·intro y o h1 h2 h3
     rw[aV h3]
     exact s6 _ _ (k5 _ _ (s4 _ _ (k3 y o h1 h2 h3)) h2)
    ·rw[aV nbk]
     exact s6 _ _ b5
    ·have:=nX kvs (keyN x) (V.bl true)
     omega
    ·rw[BU,ed]
     by_cases e3:keyN z=keyN x
     ·rw[if_pos e3]
      exact⟨λ_=>⟨x,List.mem_cons_self,h3,((axJ z x).mp e3).symm⟩,λ_=>rfl⟩
     ·rw[if_neg e3,hkm]
      constructor
      ·rintro⟨y,hy,hz⟩
       exact⟨y,List.mem_cons_of_mem _ hy,hz⟩
      ·rintro⟨y,hy,hz⟩
       rcases List.mem_cons.mp hy with rfl | hy
       ·exact absurd ((axJ z y).mpr hz.2.symm) e3
       ·exact⟨y,hy,hz⟩
    ·rw[ed,keepL_cons,if_pos ⟨h3,hno⟩,List.reverse_cons]
     exact TupsAt.snoc (λx=>⟨_,rfl⟩) (s6 _ _ u1) u2 (λj t y h1 h2=>s6 _ _ (u3 j t y h1 h2)) r6
   ·refine skip (λz=>z.2 ?_) _ ⟨_,_,_,_,_,rfl⟩
    rw[<-hkm]
    cases z:(valV kvs (keyN x)).isSome with
    |true=>rfl
    |false=>rw[z] at h;exact absurd rfl h
  ·exact skip (λz=>h3 (by simpa using z.1)) _ ⟨_,_,_,_,_,rfl⟩
 ·rintro σ H3 ⟨v4,v5,v6,v7,v8,rfl,k3,_,K3⟩
  rw[List.length_map,t2,Nat.sub_self,List.drop_zero] at K3
  have flen:=RZ es
  generalize keepL es=F at K3 q flen
  refine⟨by decide,λt ht=>?_⟩
  have s4:Same H3 (upd H3 t (.lst [.int 0])):=Same.new ht
  have t4:(upd H3 t (.lst [.int 0])) t=some (.lst [.int 0]):=upd_same
  generalize upd H3 t (.lst [.int 0])=H4 at s4 t4 ⊢
  obtain⟨us,u1,u2,u3⟩:=K3
  rw[List.length_reverse] at u2
  have htH:H t=none:=by
   cases z:H t with
   |none=>rfl
   |some o=>
    have:=k3 _ _ (s2 _ _ (s1 _ _ z)) (aX z hb) (aX z hkH)
    rw[ht] at this
    cases this
  refine⟨_,rfl,kl,_,rfl,SqL.of (s4 _ _ u1),IZ (K:=Z.K) (a:=kl) (xs:=us.map V.ref) (λi σ H'=>∃v10:Option V,σ=[some (.ref a.c),some (.int d),some (.ref b),some (.ref kl),v4,v5,v6,v7,v8,some (.ref t),v10]/\But t H4 H'/\H' t=some (.lst ((0::(F.take i).flatMap λx=>[x.1.a,x.1.b,x.2]).map V.int)))
   ⟨none,rfl,But.refl _ _,t4⟩ (λi σ H' _ ⟨_,_,h,_⟩=>SqL.of (h _ _ (s4 _ _ u1) (aX u1 ht))) ?_ ?_⟩
  ·rintro i y σ H' hi hy ⟨v10,rfl,k5,t5⟩
   rw[List.length_map,u2] at hi hy
   obtain⟨r,x,rfl,hx,hr⟩:=TupsAt.get (f:=tup3) (p:=kl) (by rw[List.length_reverse];exact u2) u3 hy
   have hFi:F[i]? = some x:=by
    rw[List.getElem?_reverse (by omega)] at hx
    rw[<-hx]
    congr 1
    omega
   have hr5:=k5 _ _ (s4 _ _ hr) (aX hr ht)
   refine⟨_,rfl,.inl ⟨rfl,_,SqL.of t5⟩,_,rfl,t,r,_,_,rfl,rfl,t5,SqT.of hr5,Nat.le_of_lt (smallS ?_),_,rfl,k5.upd,?_⟩
   ·rw[List.length_map,List.length_cons]
    have h1:((F.take i).flatMap λx=>[x.1.a,x.1.b,x.2]).length<=3*(F.take i).length:=eJ λx _=>Nat.le_refl _
    have h2:=fK i F
    show _+1+3<=100000
    omega
   ·rw[upd_same,bU hFi,List.flatMap_append]
    simp
  ·rintro σ H' ⟨v10,rfl,k5,t5⟩
   rw[List.length_map,u2,List.take_length] at t5
   exact⟨_,rfl,q _ _ (λy o hy=>k5 _ _ (s4 _ _ (k3 _ _ (s2 _ _ (s1 _ _ hy)) (aX hy hb) (aX hy hkH))) (aX hy htH)) htH t5⟩
end
end Nc
end
section
set_option maxHeartbeats 4000000
namespace Nc
open PySem PySem.Spec PyProof.Rows L2
open Vbnlal (Case Member State Effect Call)
def NumsAt(K:PySem.W.Frag)(H:Hp)(ow:Own)(na:Addr)(xs:List V):Prop:=(Rd H na (.lst xs)/\ow na=none)\/∀H',SqL K H' na xs
theorem NumsAt.seq{K:PySem.W.Frag}{H:Hp}{ow:Own}{na:Addr}{xs:List V}(h:NumsAt K H ow na xs):SqL K H na xs:=by
 rcases h with ⟨h,_⟩ | h
 ·exact .inl h
 ·exact h H
structure FeedOk(Cf:Addr)(K:PySem.W.Frag)(H:Hp)(ow:Own)(f na:Addr)(ns:List Int)(i:Nat):Prop where
 ins:∃dx,H f=some (.ins Cf dx (feedF (.ref na) (.int (i:Int))))
 nums:NumsAt K H ow na (ns.map V.int)
 own:ow f=none
section
variable{Cc Ck Cf:Addr}{K:PySem.W.Frag}{H H':Hp}{ow ow':Own}{f na:Addr}{ns:List Int}{i j:Nat}
theorem FeedOk.keep(F:FeedOk Cf K H ow f na ns i)(k:Keep ow H ow' H'):FeedOk Cf K H' ow' f na ns i:=by
 obtain⟨dx,h⟩:=F.ins
 have w:=k.st _ _ h F.own
 refine⟨⟨dx,w.1⟩,?_,w.2⟩
 rcases F.nums with ⟨h | ⟨o,h⟩,e⟩ | h
 ·have w:=k.st _ _ h e
  exact .inl ⟨.inl w.1,w.2⟩
 ·have w:=k.st _ _ h e
  exact .inl ⟨.inr ⟨o,w.1⟩,w.2⟩
 ·exact .inr h
theorem FeedOk.go(F:FeedOk Cf K H ow f na ns i){dx:Addr}(hi:H f=some (.ins Cf dx (feedF (.ref na) (.int (i:Int)))))(kb:But f H H')(h':H' f=some (.ins Cf dx (feedF (.ref na) (.int (j:Int))))):FeedOk Cf K H' ow f na ns j:=by
 refine⟨⟨dx,h'⟩,?_,F.own⟩
 rcases F.nums with ⟨h | ⟨o,h⟩,e⟩ | h
 ·exact .inl ⟨.inl (kb _ _ h (eW h hi (by intro z;cases z))),e⟩
 ·exact .inl ⟨.inr ⟨o,kb _ _ h (eW h hi (by intro z;cases z))⟩,e⟩
 ·exact .inr h
end
structure Fz where
 f:Addr
 na:Addr
 ns:List Int
 ow:Own
 i:Nat
 v:Int
def spInitFeed(Cf:Addr):Sp:=mkSp (λp:Addr×Addr=>[.ref p.1,.ref p.2]) λp H Q=>∃dx,H p.1=some (.ins Cf dx [])/\
 ∀H',But p.1 H H'->H' p.1=some (.ins Cf dx (feedF (.ref p.2) (.int 0)))->(∀y,H' y=none->H y=none)->Q .non H'
def spInitCourt(Cc:Addr):Sp:=mkSp (λp:Addr=>[.ref p]) λp H Q=>∃dx,H p=some (.ins Cc dx [])/\
 ∀H' ld cs ru,But p H H'->H' p=some (.ins Cc dx (courtF (.int 0) (.ref ld) (.int 0) (.ref cs) (.ref ru)))->H ld=none->H cs=none->H ru=none->ld≠cs->H' ld=some (.dK [])->H' cs=some (.dK [])->H' ru=some (.lst [])->(∀y,H' y=none->H y=none)->Q .non H'
def spOver(Cf:Addr)(K:PySem.W.Frag):Sp:=mkSp (λz:Fz=>[.ref z.f]) λz H Q=>FeedOk Cf K H z.ow z.f z.na z.ns z.i/\Q (.bl (decide (z.ns.length<=z.i))) H
def spTake(Cf:Addr)(K:PySem.W.Frag):Sp:=mkSp (λz:Fz=>[.ref z.f]) λz H Q=>FeedOk Cf K H z.ow z.f z.na z.ns z.i/\z.ns[z.i]? = some z.v/\∀H',FeedOk Cf K H' z.ow z.f z.na z.ns (z.i+1)->But z.f H H'->(∀y,H' y=none->H y=none)->Q (.int z.v) H'
def spRow(Cf:Addr)(K:PySem.W.Frag):Sp:=mkSp (λz:Fz×List Int×List Int=>[.ref z.1.f]) λz H Q=>FeedOk Cf K H z.1.ow z.1.f z.1.na z.1.ns z.1.i/\z.1.ns.drop z.1.i=(z.2.1.length:Int)::(z.2.1++z.2.2)/\
 ∀H' p,FeedOk Cf K H' z.1.ow z.1.f z.1.na z.1.ns (z.1.i+1+z.2.1.length)->But z.1.f H H'->(∀y,H' y=none->H y=none)->H p=none->H' p=some (.lst (z.2.1.map V.int))->Q (.ref p) H'
structure Dz where
 a:Ct
 f:Addr
 na:Addr
 ns:List Int
 i:Nat
 x:Call
 r:List Int
def DoK(Cc Ck Cf:Addr)(K:PySem.W.Frag)(z:Dz)(H:Hp)(Q:VK):Prop:=∀(H':Hp)(p:Addr)(ow':Own)(L':Lay),CourtAt Cc Ck H' z.a.c ow' L' (stepM z.a.s z.x).1->FeedOk Cf K H' ow' z.f z.na z.ns (z.i+(enc z.x).tail.length)->
 (∀b o,H b=some o->z.a.ow b=none->b≠z.f->H' b=some o/\ow' b=none)->(∀y,H' y=none->H y=none)->H p=none->H' p=some (.lst ((stepM z.a.s z.x).2.map V.int))->Q (.ref p) H'
def spDo(Cc Ck Cf:Addr)(K:PySem.W.Frag)(sel:Call->Prop):Sp:=mkSp (λz:Dz=>[.ref z.a.c,.ref z.f]) λz H Q=>sel z.x/\CtOk Cc Ck H z.a/\FeedOk Cf K H z.a.ow z.f z.na z.ns z.i/\z.ns.drop z.i=(enc z.x).tail++z.r/\Vbnlal.askedOne z.x=true/\DoK Cc Ck Cf K z H Q
section
variable{Cc Ck Cf:Addr}{K:PySem.W.Frag}{z:Dz}{H H1:Hp}{Q:VK}
theorem doM(q:DoK Cc Ck Cf K z H Q){j:Nat}(F:FeedOk Cf K H1 z.a.ow z.f z.na z.ns j)(kb:But z.f H H1)(gr:∀y,H1 y=none->H y=none)(hj:j=z.i+(enc z.x).tail.length:=by rfl):RetM Cc Ck H1 z.a Q (stepM z.a.s z.x):=by
 subst hj
 exact λH' p ow' L' C k hp h=>q H' p ow' L' C (F.keep k) (λb o hb ho hn=>k.st b o (kb b o hb hn) ho) (λy hy=>gr y (k.gr y hy)) (gr p hp) h
theorem doL(q:DoK Cc Ck Cf K z H Q)(B:CourtAt Cc Ck H1 z.a.c z.a.ow z.a.L z.a.s){j:Nat}(F:FeedOk Cf K H1 z.a.ow z.f z.na z.ns j)(kb:But z.f H H1)(gr:∀y,H1 y=none->H y=none)(e:(stepM z.a.s z.x).1=z.a.s)(hj:j=z.i+(enc z.x).tail.length:=by rfl):RetL H1 Q (stepM z.a.s z.x).2:=by
 subst hj
 exact λH' p s hp h=>q H' p z.a.ow z.a.L (by rw[e];exact B.same s) (F.keep (Keep.same s)) (λb o hb ho hn=>⟨s _ _ (kb b o hb hn),ho⟩) (λy hy=>gr y (s.free hy)) (gr p hp) h
end
def isRead:Call->Prop
 |.day _ | .seat _ _ | .leave _ | .preside _ | .petition _ _ | .withdraw _ | .comment _ | .openVote _ | .ballot _ _ _ | .close _ | .publish _=>False
 |_=>True
theorem uZ{c:Prop}[Decidable c]{s:State}{a b:List Int}:(if c then(s,a) else(s,b):State×List Int).1=s:=by split <;> rfl
theorem abY{s:State}{o:Option Case}{a:List Int}{g:Case->List Int}:(match o with | none=>(s,a) | some c=>(s,g c):State×List Int).1=s:=by cases o <;> rfl
theorem ajV(s:State)(d k:Int)(a:List Int):(Vbnlal.askRuling s d k a).1=s:=by
 unfold Vbnlal.askRuling
 split
 ·rfl
 ·split <;> rfl
theorem iY(s:State):∀x:Call,isRead x->(stepM s x).1=s
 |.read t,_=>by
  show(match Vbnlal.read t with | .error r=>(s,[r]) | .ok es=>(s,(es.length:Int)::es.flatMap λ(e:Effect)=>[e.kind,e.a,e.b]):State×List Int).1=s
  cases Vbnlal.read t <;> rfl
 |.show_ k,_=>abY
 |.phase k,_=>abY
 |.tally k,_=>abY
 |.office,_=>rfl
 |.rulings d,_=>uZ
 |.inForce d k,_=>ajV _ _ _ _
 |.because d k,_=>ajV _ _ _ _
 |.check d k v m,_=>ajV _ _ _ _
 |.status d a,_=>uZ
 |.over d a b,_=>by
  show(if Vbnlal.dayOk d=false then(s,[-9]) else if a=b then(s,[-10]) else(s,[0,(Vbnlal.overOf s d a b).1,(Vbnlal.overOf s d a b).2]):State×List Int).1=s
  split
  ·rfl
  ·exact uZ
 |.typeAt d a,_=>uZ
 |.rejected d w,_=>uZ
 |.index d,_=>uZ
 |.conserved d,_=>uZ
 |.stays a,_=>rfl
theorem cV{l r:List Int}{i:Nat}{a:Int}(h:l.drop i=a::r):l[i+0]? = some a:=by
 have:=List.getElem?_drop (xs:=l) (i:=i) (j:=0)
 rw[h] at this
 exact this.symm
theorem kZ{l r:List Int}{i:Nat}{a b:Int}(h:l.drop i=a::b::r):l[i+1]? = some b:=by
 have:=List.getElem?_drop (xs:=l) (i:=i) (j:=1)
 rw[h] at this
 exact this.symm
theorem SJ{l r:List Int}{i:Nat}{a b c:Int}(h:l.drop i=a::b::c::r):l[i+2]? = some c:=by
 have:=List.getElem?_drop (xs:=l) (i:=i) (j:=2)
 rw[h] at this
 exact this.symm
section
variable{Z:Wd}{Cc Ck Cf f:Addr}{fd:FuncData}
abbrev XY:Stmt:=inClass (top 114) 0
theorem axQ:FnScope ["self", "numbers"] ["self", "numbers"] (defScope XY):=mkSc
theorem axU(F:Fun Z.K "__init__" "Feed.__init__" XY f fd)(T:Tx Z Cc Ck Cf):OkZ Z 1 f fd ["self", "numbers"] (spInitFeed Cf):=by
 refine okS F axQ λs H Q E hr h=>?_
 obtain⟨⟨x,na⟩,rfl,dx,hx,q⟩:=h
 refine⟨_,(aK
  (eX (pv 0) (pv 1) rfl)
  (aQ
  (eX (pv 0) aY rfl))),?_⟩
 dsimp only at hx q
 refine⟨_,rfl,_,rfl,x,Cf,dx,_,rfl,hx,T.c_Feed,T.a_feed_numbers,(by show 0<1000;decide),?_⟩
 rw[aKX]
 refine⟨_,rfl,x,Cf,dx,_,rfl,upd_same,T.c_Feed,T.a_feed_place,(by show 1<1000;decide),?_⟩
 rw[aKY]
 exact q _ (λy o hy hn=>by rw[aV hn,aV hn];exact hy) upd_same λy hy=>aW (aW hy)
abbrev SK:Stmt:=inClass (top 11) 0
theorem aqU:FnScope ["self"] ["self"] (defScope SK):=mkSc
theorem aqV(F:Fun Z.K "__init__" "Court.__init__" SK f fd)(T:Tx Z Cc Ck Cf):OkZ Z 1 f fd ["self"] (spInitCourt Cc):=by
 refine okS F aqU λs H Q E hr h=>?_
 obtain⟨x,rfl,dx,hx,q⟩:=h
 refine⟨_,(aK
  (eX (pv 0) aY rfl)
  (aK
  (eX (pv 0) oQ rfl)
  (aK
  (eX (pv 0) aY rfl)
  (aK
  (eX (pv 0) oQ rfl)
  (aQ
  (eX (pv 0) (bJ pa_nil) rfl)))))),?_⟩
 refine⟨_,rfl,x,Cc,dx,_,rfl,hx,T.c_Court,T.a_court_today,(by show 0<1000;decide),?_⟩
 rw[aCJ]
 intro ld hld
 have hld0:H ld=none:=aW hld
 have nx1:x≠ld:=aX hx hld0
 refine⟨_,rfl,x,Cc,dx,_,rfl,(by rw[aV nx1];exact upd_same),T.c_Court,T.a_court_last_days,(by show 1<1000;decide),?_⟩
 rw[aCK]
 refine⟨_,rfl,x,Cc,dx,_,rfl,upd_same,T.c_Court,T.a_court_presiding,(by show 2<1000;decide),?_⟩
 rw[aCQ]
 intro cs hcs
 have hcs0:H cs=none:=aW (aW (aW (aW hcs)))
 have nx2:x≠cs:=aX hx hcs0
 have nlc:ld≠cs:=λe=>by
  subst e
  have:=aW (aW hcs)
  rw[upd_same] at this
  cases this
 refine⟨_,rfl,x,Cc,dx,_,rfl,(by rw[aV nx2];exact upd_same),T.c_Court,T.a_court_cases,(by show 3<1000;decide),?_⟩
 rw[aCU]
 refine⟨by decide,λru hru=>?_⟩
 have hru0:H ru=none:=aW (aW (aW (aW (aW (aW hru)))))
 have nx3:x≠ru:=aX hx hru0
 have nlr:ld≠ru:=λe=>by
  subst e
  have:=aW (aW (aW (aW hru)))
  rw[upd_same] at this
  cases this
 have ncr:cs≠ru:=λe=>by
  subst e
  have:=aW hru
  rw[upd_same] at this
  cases this
 refine⟨_,rfl,x,Cc,dx,_,rfl,(by rw[aV nx3];exact upd_same),T.c_Court,T.a_court_rulings,(by show 4<1000;decide),?_⟩
 rw[aCV]
 refine q _ ld cs ru (λy o hy hn=>?_) upd_same hld0 hcs0 hru0 nlc ?_ ?_ ?_ λy hy=>aW (aW (aW (aW (aW (aW (aW (aW hy)))))))
 ·rw[aV hn,aV (aX hy hru0),aV hn,aV (aX hy hcs0),aV hn,aV hn,aV (aX hy hld0),aV hn]
  exact hy
 ·rw[aV nx1.symm,aV nlr,aV nx1.symm,aV nlc,aV nx1.symm,aV nx1.symm,upd_same]
 ·rw[aV nx2.symm,aV ncr,aV nx2.symm,upd_same]
 ·rw[aV nx3.symm,upd_same]
abbrev JV:Stmt:=inClass (top 114) 1
theorem afZ:FnScope ["self"] ["self"] (defScope JV):=mkSc
theorem agJ(F:Fun Z.K "is_over" "Feed.is_over" JV f fd)(T:Tx Z Cc Ck Cf):OkZ Z 1 f fd ["self"] (spOver Cf Z.K):=by
 refine okS F afZ λs H Q E hr h=>?_
 obtain⟨z,rfl,F,q⟩:=h
 refine⟨_,(aQ
  (aU (nW acZ (bX (pv 0) rfl) (cX eZ (by rfl) T.n_len PySem.boot_len (aJ (bX (pv 0) rfl) pa_nil)) (nomark _)))),?_⟩
 obtain⟨dx,hi⟩:=F.ins
 refine⟨_,rfl,BZ T hi ⟨_,rfl,uQ T hi ⟨_,_,rfl,.inl F.nums.seq,_,_,rfl,rfl,?_⟩⟩⟩
 rw[List.length_map]
 have e:decide ((z.ns.length:Int)<=(z.i:Int))=decide (z.ns.length<=z.i):=by
  rw[Bool.eq_iff_iff]
  simp
 show Q (.bl (decide ((z.ns.length:Int)<=(z.i:Int)))) H
 rw[e]
 exact q
abbrev XZ:Stmt:=inClass (top 114) 2
theorem SQ:FnScope ["self", "number"] ["self"] (defScope XZ):=mkSc
theorem axV(F:Fun Z.K "take" "Feed.take" XZ f fd)(T:Tx Z Cc Ck Cf):OkZ Z 1 f fd ["self"] (spTake Cf Z.K):=by
 refine okS F SQ λs H Q E hr h=>?_
 obtain⟨z,rfl,F,hv,q⟩:=h
 refine⟨_,(aK
  (bQ (i:=1) SQ.nd rfl (Or.inl rfl) (cZ jK (bX (pv 0) rfl) (bX (pv 0) rfl) (λ_ _=>rfl)))
  (aK
  (QJ (pv 0) aY atW)
  (aQ
  (aU (pv 1))))),?_⟩
 obtain⟨dx,hi⟩:=F.ins
 refine⟨_,rfl,uQ T hi ⟨_,rfl,BZ T hi ⟨_,_,_,_,rfl,rfl,F.nums.seq,qY (j:=z.i) rfl (by rw[List.getElem?_map,hv];rfl),?_⟩⟩⟩
 refine⟨_,rfl,z.f,Cf,dx,_,_,rfl,hi,T.c_Feed,T.a_feed_place,GQ _ _,_,_,rfl,rfl,dx,_,hi,(by show 2<1000;decide),?_⟩
 rw[EV]
 refine⟨_,rfl,q _ (F.go hi But.lock upd_same) But.lock λy hy=>aW hy⟩
abbrev EY:Stmt:=inClass (top 114) 3
theorem rX:FnScope ["self", "length", "start"] ["self"] (defScope EY):=mkSc
theorem abZ(F:Fun Z.K "take_row" "Feed.take_row" EY f fd)(T:Tx Z Cc Ck Cf)(D_take:MethOk Z Cf 1 "take" ["self"] (spTake Cf Z.K)):OkZ Z 2 f fd ["self"] (spRow Cf Z.K):=by
 refine okS F rX λs H Q E hr h=>?_
 obtain⟨⟨z,row,r⟩,rfl,F,hd,q⟩:=h
 refine⟨_,(aK
  (bQ (i:=1) rX.nd rfl (Or.inl rfl) (cQ (pv 0) T.c_Feed D_take (hr.mono (by decide))))
  (aK
  (bQ (i:=2) rX.nd rfl (Or.inl rfl) (bX (pv 0) rfl))
  (aK
  (QJ (pv 0) (pv 1) atW)
  (aQ
  (aU (KZ TX (bX (pv 0) rfl) (uJ (pv 2)) (uJ (gY wY (pv 2) (pv 1))))))))),?_⟩
 dsimp only at F hd q
 obtain⟨dx,hi⟩:=F.ins
 refine⟨_,rfl,z.f,dx,_,rfl,hi,bW _ _,⟨z.f,z.na,z.ns,z.ow,z.i,row.length⟩,rfl,F,cV hd,λH1 F1 k1 g1=>?_⟩
 dsimp only at F1 k1 g1
 obtain⟨dx1,hi1⟩:=F1.ins
 refine⟨_,rfl,BZ T hi1 ?_⟩
 refine⟨_,rfl,z.f,Cf,dx1,_,_,rfl,hi1,T.c_Feed,T.a_feed_place,GQ _ _,_,rfl,_,_,rfl,rfl,dx1,_,hi1,(by show 2<1000;decide),?_⟩
 rw[EV]
 have hi2:(upd H1 z.f (.ins Cf dx1 (feedF (.ref z.na) (.int (((z.i+1:Nat):Int)+(row.length:Int)))))) z.f=some (.ins Cf dx1 (feedF (.ref z.na) (.int ((z.i+1+row.length:Nat):Int)))):=by
  rw[upd_same]
  rfl
 have k2:But z.f H1 (upd H1 z.f (.ins Cf dx1 (feedF (.ref z.na) (.int (((z.i+1:Nat):Int)+(row.length:Int)))))):=But.lock
 have g2:∀y,upd H1 z.f (.ins Cf dx1 (feedF (.ref z.na) (.int (((z.i+1:Nat):Int)+(row.length:Int))))) y=none->H1 y=none:=λy hy=>aW hy
 generalize upd H1 z.f (.ins Cf dx1 (feedF (.ref z.na) (.int (((z.i+1:Nat):Int)+(row.length:Int)))))=H2 at hi2 k2 g2 ⊢
 have F2:=F1.go hi1 k2 hi2
 refine⟨_,rfl,uQ T hi2 ⟨_,rfl,_,rfl,_,rfl,_,rfl,_,_,rfl,rfl,_,rfl,_,_,rfl,F2.nums.seq,λp hp=>?_⟩⟩
 refine q _ p (F2.keep (Keep.same (Same.new hp))) (λy o hy hn=>Same.new hp _ _ (k2 _ _ (k1 _ _ hy hn) hn)) (λy hy=>g1 y (g2 y (aW hy))) (g1 p (g2 p hp)) ?_
 rw[upd_same]
 have hl:z.i+1+row.length<=z.ns.length:=by
  have:=congrArg List.length hd
  rw[List.length_drop,List.length_cons,List.length_append] at this
  omega
 have e:cutV (z.ns.map V.int) (some ((z.i+1:Nat):Int)) (some (((z.i+1:Nat):Int)+(row.length:Int)))=row.map V.int:=by
  unfold cutV
  rw[HT.TW,show((z.i+1:Nat):Int)+(row.length:Int)=((z.i+1+row.length:Nat):Int) by omega,HT.TW,List.length_map,Nat.min_eq_left hl,Nat.min_eq_left (show z.i+1<=z.ns.length by omega),Nat.add_sub_cancel_left,<-List.map_drop,<-List.map_take]
  congr 1
  have:z.ns.drop (z.i+1)=row++r:=by
   rw[<-List.drop_drop,hd]
   rfl
  rw[this,List.take_left]
 rw[e]
end
end Nc
end
section
set_option maxHeartbeats 4000000
namespace Nc
open PySem PySem.Spec PyProof.Rows L2
open Vbnlal (Case Member State Effect)
section
variable{Z:Wd}{Cc Ck Cf f:Addr}{fd:FuncData}
abbrev acJ:Stmt:=top 115
theorem aSJ:FnScope ["court", "feed"] ["court", "feed"] (defScope acJ):=mkSc
theorem aSK(F:Fun Z.K "do_day" "do_day" acJ f fd)(T:Tx Z Cc Ck Cf)(D_go_to_day:DefOk Z 2 "go_to_day" ["court", "d"] (spM1 Cc Ck dayM))(D_take:MethOk Z Cf 1 "take" ["self"] (spTake Cf Z.K)):OkZ Z 3 f fd ["court", "feed"] (spDo Cc Ck Cf Z.K λx=>∃x0,x = .day x0):=by
 refine okS F aSJ λs H Q E hr h=>?_
 obtain⟨z,rfl,⟨x0,ex⟩,B,F0,hd,ha,q⟩:=h
 refine⟨_,(aQ
  (aU (cJ D_go_to_day (hr.mono (by decide)) rfl (aJ (pv 0) (aJ (cQ (pv 1) T.c_Feed D_take (hr.mono (by decide))) pa_nil))))),?_⟩
 obtain⟨a,f,na,ns,i,x,r⟩:=z
 dsimp only at ex B F0 hd ha q
 subst ex
 replace hd:ns.drop i=x0::r:=hd
 obtain⟨dx0,hi0⟩:=F0.ins
 refine⟨_,rfl,_,rfl,f,dx0,_,rfl,hi0,bW _ _,⟨f,na,ns,a.ow,i+0,x0⟩,rfl,F0,cV hd,λH1 F1 k1 g1=>?_⟩
 have kb:But f H H1:=k1
 have gr:∀y,H1 y=none->H y=none:=λy hy=>g1 y hy
 have B1:=B.but hi0 (by intro xs w;cases w) F0.own kb gr
 refine⟨⟨a,x0⟩,rfl,B1,?_⟩
 exact doM q F1 kb gr
abbrev MQ:Stmt:=top 117
theorem aDU:FnScope ["court", "feed"] ["court", "feed"] (defScope MQ):=mkSc
theorem aDV(F:Fun Z.K "do_leave" "do_leave" MQ f fd)(T:Tx Z Cc Ck Cf)(D_leave:DefOk Z 2 "leave" ["court", "member"] (spM1 Cc Ck λs k=>Vbnlal.step s (.leave k)))(D_take:MethOk Z Cf 1 "take" ["self"] (spTake Cf Z.K)):OkZ Z 3 f fd ["court", "feed"] (spDo Cc Ck Cf Z.K λx=>∃x0,x = .leave x0):=by
 refine okS F aDU λs H Q E hr h=>?_
 obtain⟨z,rfl,⟨x0,ex⟩,B,F0,hd,ha,q⟩:=h
 refine⟨_,(aQ
  (aU (cJ D_leave (hr.mono (by decide)) rfl (aJ (pv 0) (aJ (cQ (pv 1) T.c_Feed D_take (hr.mono (by decide))) pa_nil))))),?_⟩
 obtain⟨a,f,na,ns,i,x,r⟩:=z
 dsimp only at ex B F0 hd ha q
 subst ex
 replace hd:ns.drop i=x0::r:=hd
 obtain⟨dx0,hi0⟩:=F0.ins
 refine⟨_,rfl,_,rfl,f,dx0,_,rfl,hi0,bW _ _,⟨f,na,ns,a.ow,i+0,x0⟩,rfl,F0,cV hd,λH1 F1 k1 g1=>?_⟩
 have kb:But f H H1:=k1
 have gr:∀y,H1 y=none->H y=none:=λy hy=>g1 y hy
 have B1:=B.but hi0 (by intro xs w;cases w) F0.own kb gr
 refine⟨⟨a,x0⟩,rfl,B1,?_⟩
 exact doM q F1 kb gr
abbrev DJ:Stmt:=top 118
theorem aqW:FnScope ["court", "feed"] ["court", "feed"] (defScope DJ):=mkSc
theorem aqX(F:Fun Z.K "do_preside" "do_preside" DJ f fd)(T:Tx Z Cc Ck Cf)(D_preside:DefOk Z 1 "preside" ["court", "member"] (spM1 Cc Ck λs k=>Vbnlal.step s (.preside k)))(D_take:MethOk Z Cf 1 "take" ["self"] (spTake Cf Z.K)):OkZ Z 3 f fd ["court", "feed"] (spDo Cc Ck Cf Z.K λx=>∃x0,x = .preside x0):=by
 refine okS F aqW λs H Q E hr h=>?_
 obtain⟨z,rfl,⟨x0,ex⟩,B,F0,hd,ha,q⟩:=h
 refine⟨_,(aQ
  (aU (cJ D_preside (hr.mono (by decide)) rfl (aJ (pv 0) (aJ (cQ (pv 1) T.c_Feed D_take (hr.mono (by decide))) pa_nil))))),?_⟩
 obtain⟨a,f,na,ns,i,x,r⟩:=z
 dsimp only at ex B F0 hd ha q
 subst ex
 replace hd:ns.drop i=x0::r:=hd
 obtain⟨dx0,hi0⟩:=F0.ins
 refine⟨_,rfl,_,rfl,f,dx0,_,rfl,hi0,bW _ _,⟨f,na,ns,a.ow,i+0,x0⟩,rfl,F0,cV hd,λH1 F1 k1 g1=>?_⟩
 have kb:But f H H1:=k1
 have gr:∀y,H1 y=none->H y=none:=λy hy=>g1 y hy
 have B1:=B.but hi0 (by intro xs w;cases w) F0.own kb gr
 refine⟨⟨a,x0⟩,rfl,B1,?_⟩
 exact doM q F1 kb gr
abbrev yW:Stmt:=top 120
theorem ajW:FnScope ["court", "feed"] ["court", "feed"] (defScope yW):=mkSc
theorem ajX(F:Fun Z.K "do_withdraw" "do_withdraw" yW f fd)(T:Tx Z Cc Ck Cf)(D_withdraw:DefOk Z 1 "withdraw" ["court", "key"] (spM1 Cc Ck λs k=>Vbnlal.step s (.withdraw k)))(D_take:MethOk Z Cf 1 "take" ["self"] (spTake Cf Z.K)):OkZ Z 3 f fd ["court", "feed"] (spDo Cc Ck Cf Z.K λx=>∃x0,x = .withdraw x0):=by
 refine okS F ajW λs H Q E hr h=>?_
 obtain⟨z,rfl,⟨x0,ex⟩,B,F0,hd,ha,q⟩:=h
 refine⟨_,(aQ
  (aU (cJ D_withdraw (hr.mono (by decide)) rfl (aJ (pv 0) (aJ (cQ (pv 1) T.c_Feed D_take (hr.mono (by decide))) pa_nil))))),?_⟩
 obtain⟨a,f,na,ns,i,x,r⟩:=z
 dsimp only at ex B F0 hd ha q
 subst ex
 replace hd:ns.drop i=x0::r:=hd
 obtain⟨dx0,hi0⟩:=F0.ins
 refine⟨_,rfl,_,rfl,f,dx0,_,rfl,hi0,bW _ _,⟨f,na,ns,a.ow,i+0,x0⟩,rfl,F0,cV hd,λH1 F1 k1 g1=>?_⟩
 have kb:But f H H1:=k1
 have gr:∀y,H1 y=none->H y=none:=λy hy=>g1 y hy
 have B1:=B.but hi0 (by intro xs w;cases w) F0.own kb gr
 refine⟨⟨a,x0⟩,rfl,B1,?_⟩
 exact doM q F1 kb gr
abbrev DK:Stmt:=top 121
theorem aqY:FnScope ["court", "feed"] ["court", "feed"] (defScope DK):=mkSc
theorem aqZ(F:Fun Z.K "do_comment" "do_comment" DK f fd)(T:Tx Z Cc Ck Cf)(D_comment:DefOk Z 1 "comment" ["court", "key"] (spM1 Cc Ck λs k=>Vbnlal.step s (.comment k)))(D_take:MethOk Z Cf 1 "take" ["self"] (spTake Cf Z.K)):OkZ Z 3 f fd ["court", "feed"] (spDo Cc Ck Cf Z.K λx=>∃x0,x = .comment x0):=by
 refine okS F aqY λs H Q E hr h=>?_
 obtain⟨z,rfl,⟨x0,ex⟩,B,F0,hd,ha,q⟩:=h
 refine⟨_,(aQ
  (aU (cJ D_comment (hr.mono (by decide)) rfl (aJ (pv 0) (aJ (cQ (pv 1) T.c_Feed D_take (hr.mono (by decide))) pa_nil))))),?_⟩
 obtain⟨a,f,na,ns,i,x,r⟩:=z
 dsimp only at ex B F0 hd ha q
 subst ex
 replace hd:ns.drop i=x0::r:=hd
 obtain⟨dx0,hi0⟩:=F0.ins
 refine⟨_,rfl,_,rfl,f,dx0,_,rfl,hi0,bW _ _,⟨f,na,ns,a.ow,i+0,x0⟩,rfl,F0,cV hd,λH1 F1 k1 g1=>?_⟩
 have kb:But f H H1:=k1
 have gr:∀y,H1 y=none->H y=none:=λy hy=>g1 y hy
 have B1:=B.but hi0 (by intro xs w;cases w) F0.own kb gr
 refine⟨⟨a,x0⟩,rfl,B1,?_⟩
 exact doM q F1 kb gr
abbrev vJ:Stmt:=top 122
theorem agK:FnScope ["court", "feed"] ["court", "feed"] (defScope vJ):=mkSc
theorem agQ(F:Fun Z.K "do_open_vote" "do_open_vote" vJ f fd)(T:Tx Z Cc Ck Cf)(D_open_vote:DefOk Z 2 "open_vote" ["court", "key"] (spM1 Cc Ck λs k=>Vbnlal.step s (.openVote k)))(D_take:MethOk Z Cf 1 "take" ["self"] (spTake Cf Z.K)):OkZ Z 3 f fd ["court", "feed"] (spDo Cc Ck Cf Z.K λx=>∃x0,x = .openVote x0):=by
 refine okS F agK λs H Q E hr h=>?_
 obtain⟨z,rfl,⟨x0,ex⟩,B,F0,hd,ha,q⟩:=h
 refine⟨_,(aQ
  (aU (cJ D_open_vote (hr.mono (by decide)) rfl (aJ (pv 0) (aJ (cQ (pv 1) T.c_Feed D_take (hr.mono (by decide))) pa_nil))))),?_⟩
 obtain⟨a,f,na,ns,i,x,r⟩:=z
 dsimp only at ex B F0 hd ha q
 subst ex
 replace hd:ns.drop i=x0::r:=hd
 obtain⟨dx0,hi0⟩:=F0.ins
 refine⟨_,rfl,_,rfl,f,dx0,_,rfl,hi0,bW _ _,⟨f,na,ns,a.ow,i+0,x0⟩,rfl,F0,cV hd,λH1 F1 k1 g1=>?_⟩
 have kb:But f H H1:=k1
 have gr:∀y,H1 y=none->H y=none:=λy hy=>g1 y hy
 have B1:=B.but hi0 (by intro xs w;cases w) F0.own kb gr
 refine⟨⟨a,x0⟩,rfl,B1,?_⟩
 exact doM q F1 kb gr
abbrev MU:Stmt:=top 124
theorem aDW:FnScope ["court", "feed"] ["court", "feed"] (defScope MU):=mkSc
theorem aDX(F:Fun Z.K "do_close" "do_close" MU f fd)(T:Tx Z Cc Ck Cf)(D_close:DefOk Z 3 "close" ["court", "key"] (spM1 Cc Ck λs k=>Vbnlal.step s (.close k)))(D_take:MethOk Z Cf 1 "take" ["self"] (spTake Cf Z.K)):OkZ Z 4 f fd ["court", "feed"] (spDo Cc Ck Cf Z.K λx=>∃x0,x = .close x0):=by
 refine okS F aDW λs H Q E hr h=>?_
 obtain⟨z,rfl,⟨x0,ex⟩,B,F0,hd,ha,q⟩:=h
 refine⟨_,(aQ
  (aU (cJ D_close (hr.mono (by decide)) rfl (aJ (pv 0) (aJ (cQ (pv 1) T.c_Feed D_take (hr.mono (by decide))) pa_nil))))),?_⟩
 obtain⟨a,f,na,ns,i,x,r⟩:=z
 dsimp only at ex B F0 hd ha q
 subst ex
 replace hd:ns.drop i=x0::r:=hd
 obtain⟨dx0,hi0⟩:=F0.ins
 refine⟨_,rfl,_,rfl,f,dx0,_,rfl,hi0,bW _ _,⟨f,na,ns,a.ow,i+0,x0⟩,rfl,F0,cV hd,λH1 F1 k1 g1=>?_⟩
 have kb:But f H H1:=k1
 have gr:∀y,H1 y=none->H y=none:=λy hy=>g1 y hy
 have B1:=B.but hi0 (by intro xs w;cases w) F0.own kb gr
 refine⟨⟨a,x0⟩,rfl,B1,?_⟩
 exact doM q F1 kb gr
abbrev DQ:Stmt:=top 125
theorem arJ:FnScope ["court", "feed"] ["court", "feed"] (defScope DQ):=mkSc
theorem arK(F:Fun Z.K "do_publish" "do_publish" DQ f fd)(T:Tx Z Cc Ck Cf)(D_publish:DefOk Z 1 "publish" ["court", "key"] (spM1 Cc Ck λs k=>Vbnlal.step s (.publish k)))(D_take:MethOk Z Cf 1 "take" ["self"] (spTake Cf Z.K)):OkZ Z 3 f fd ["court", "feed"] (spDo Cc Ck Cf Z.K λx=>∃x0,x = .publish x0):=by
 refine okS F arJ λs H Q E hr h=>?_
 obtain⟨z,rfl,⟨x0,ex⟩,B,F0,hd,ha,q⟩:=h
 refine⟨_,(aQ
  (aU (cJ D_publish (hr.mono (by decide)) rfl (aJ (pv 0) (aJ (cQ (pv 1) T.c_Feed D_take (hr.mono (by decide))) pa_nil))))),?_⟩
 obtain⟨a,f,na,ns,i,x,r⟩:=z
 dsimp only at ex B F0 hd ha q
 subst ex
 replace hd:ns.drop i=x0::r:=hd
 obtain⟨dx0,hi0⟩:=F0.ins
 refine⟨_,rfl,_,rfl,f,dx0,_,rfl,hi0,bW _ _,⟨f,na,ns,a.ow,i+0,x0⟩,rfl,F0,cV hd,λH1 F1 k1 g1=>?_⟩
 have kb:But f H H1:=k1
 have gr:∀y,H1 y=none->H y=none:=λy hy=>g1 y hy
 have B1:=B.but hi0 (by intro xs w;cases w) F0.own kb gr
 refine⟨⟨a,x0⟩,rfl,B1,?_⟩
 exact doM q F1 kb gr
abbrev SU:Stmt:=top 127
theorem aLW:FnScope ["court", "feed"] ["court", "feed"] (defScope SU):=mkSc
theorem aLX(F:Fun Z.K "do_show" "do_show" SU f fd)(T:Tx Z Cc Ck Cf)(D_show:DefOk Z 4 "show" ["court", "key"] (spR1 Cc Ck λs k=>(Vbnlal.step s (.show_ k)).2))(D_take:MethOk Z Cf 1 "take" ["self"] (spTake Cf Z.K)):OkZ Z 5 f fd ["court", "feed"] (spDo Cc Ck Cf Z.K λx=>∃x0,x = .show_ x0):=by
 refine okS F aLW λs H Q E hr h=>?_
 obtain⟨z,rfl,⟨x0,ex⟩,B,F0,hd,ha,q⟩:=h
 refine⟨_,(aQ
  (aU (cJ D_show (hr.mono (by decide)) rfl (aJ (pv 0) (aJ (cQ (pv 1) T.c_Feed D_take (hr.mono (by decide))) pa_nil))))),?_⟩
 obtain⟨a,f,na,ns,i,x,r⟩:=z
 dsimp only at ex B F0 hd ha q
 subst ex
 replace hd:ns.drop i=x0::r:=hd
 obtain⟨dx0,hi0⟩:=F0.ins
 refine⟨_,rfl,_,rfl,f,dx0,_,rfl,hi0,bW _ _,⟨f,na,ns,a.ow,i+0,x0⟩,rfl,F0,cV hd,λH1 F1 k1 g1=>?_⟩
 have kb:But f H H1:=k1
 have gr:∀y,H1 y=none->H y=none:=λy hy=>g1 y hy
 have B1:=B.but hi0 (by intro xs w;cases w) F0.own kb gr
 refine⟨⟨a,x0⟩,rfl,B1,?_⟩
 exact doL q B1.at_ F1 kb gr (iY _ _ trivial)
abbrev MV:Stmt:=top 128
theorem aDY:FnScope ["court", "feed"] ["court", "feed"] (defScope MV):=mkSc
theorem aDZ(F:Fun Z.K "do_phase" "do_phase" MV f fd)(T:Tx Z Cc Ck Cf)(D_tell_phase:DefOk Z 1 "tell_phase" ["court", "key"] (spR1 Cc Ck λs k=>(Vbnlal.step s (.phase k)).2))(D_take:MethOk Z Cf 1 "take" ["self"] (spTake Cf Z.K)):OkZ Z 3 f fd ["court", "feed"] (spDo Cc Ck Cf Z.K λx=>∃x0,x = .phase x0):=by
 refine okS F aDY λs H Q E hr h=>?_
 obtain⟨z,rfl,⟨x0,ex⟩,B,F0,hd,ha,q⟩:=h
 refine⟨_,(aQ
  (aU (cJ D_tell_phase (hr.mono (by decide)) rfl (aJ (pv 0) (aJ (cQ (pv 1) T.c_Feed D_take (hr.mono (by decide))) pa_nil))))),?_⟩
 obtain⟨a,f,na,ns,i,x,r⟩:=z
 dsimp only at ex B F0 hd ha q
 subst ex
 replace hd:ns.drop i=x0::r:=hd
 obtain⟨dx0,hi0⟩:=F0.ins
 refine⟨_,rfl,_,rfl,f,dx0,_,rfl,hi0,bW _ _,⟨f,na,ns,a.ow,i+0,x0⟩,rfl,F0,cV hd,λH1 F1 k1 g1=>?_⟩
 have kb:But f H H1:=k1
 have gr:∀y,H1 y=none->H y=none:=λy hy=>g1 y hy
 have B1:=B.but hi0 (by intro xs w;cases w) F0.own kb gr
 refine⟨⟨a,x0⟩,rfl,B1,?_⟩
 exact doL q B1.at_ F1 kb gr (iY _ _ trivial)
abbrev MW:Stmt:=top 129
theorem aEJ:FnScope ["court", "feed"] ["court", "feed"] (defScope MW):=mkSc
theorem aEK(F:Fun Z.K "do_tally" "do_tally" MW f fd)(T:Tx Z Cc Ck Cf)(D_tally:DefOk Z 2 "tally" ["court", "key"] (spR1 Cc Ck λs k=>(Vbnlal.step s (.tally k)).2))(D_take:MethOk Z Cf 1 "take" ["self"] (spTake Cf Z.K)):OkZ Z 3 f fd ["court", "feed"] (spDo Cc Ck Cf Z.K λx=>∃x0,x = .tally x0):=by
 refine okS F aEJ λs H Q E hr h=>?_
 obtain⟨z,rfl,⟨x0,ex⟩,B,F0,hd,ha,q⟩:=h
 refine⟨_,(aQ
  (aU (cJ D_tally (hr.mono (by decide)) rfl (aJ (pv 0) (aJ (cQ (pv 1) T.c_Feed D_take (hr.mono (by decide))) pa_nil))))),?_⟩
 obtain⟨a,f,na,ns,i,x,r⟩:=z
 dsimp only at ex B F0 hd ha q
 subst ex
 replace hd:ns.drop i=x0::r:=hd
 obtain⟨dx0,hi0⟩:=F0.ins
 refine⟨_,rfl,_,rfl,f,dx0,_,rfl,hi0,bW _ _,⟨f,na,ns,a.ow,i+0,x0⟩,rfl,F0,cV hd,λH1 F1 k1 g1=>?_⟩
 have kb:But f H H1:=k1
 have gr:∀y,H1 y=none->H y=none:=λy hy=>g1 y hy
 have B1:=B.but hi0 (by intro xs w;cases w) F0.own kb gr
 refine⟨⟨a,x0⟩,rfl,B1,?_⟩
 exact doL q B1.at_ F1 kb gr (iY _ _ trivial)
abbrev DU:Stmt:=top 131
theorem arQ:FnScope ["court", "feed"] ["court", "feed"] (defScope DU):=mkSc
theorem arU(F:Fun Z.K "do_rulings" "do_rulings" DU f fd)(T:Tx Z Cc Ck Cf)(D_tell_rulings:DefOk Z 3 "tell_rulings" ["court", "d"] (spR1 Cc Ck λs d=>(Vbnlal.step s (.rulings d)).2))(D_take:MethOk Z Cf 1 "take" ["self"] (spTake Cf Z.K)):OkZ Z 4 f fd ["court", "feed"] (spDo Cc Ck Cf Z.K λx=>∃x0,x = .rulings x0):=by
 refine okS F arQ λs H Q E hr h=>?_
 obtain⟨z,rfl,⟨x0,ex⟩,B,F0,hd,ha,q⟩:=h
 refine⟨_,(aQ
  (aU (cJ D_tell_rulings (hr.mono (by decide)) rfl (aJ (pv 0) (aJ (cQ (pv 1) T.c_Feed D_take (hr.mono (by decide))) pa_nil))))),?_⟩
 obtain⟨a,f,na,ns,i,x,r⟩:=z
 dsimp only at ex B F0 hd ha q
 subst ex
 replace hd:ns.drop i=x0::r:=hd
 obtain⟨dx0,hi0⟩:=F0.ins
 refine⟨_,rfl,_,rfl,f,dx0,_,rfl,hi0,bW _ _,⟨f,na,ns,a.ow,i+0,x0⟩,rfl,F0,cV hd,λH1 F1 k1 g1=>?_⟩
 have kb:But f H H1:=k1
 have gr:∀y,H1 y=none->H y=none:=λy hy=>g1 y hy
 have B1:=B.but hi0 (by intro xs w;cases w) F0.own kb gr
 refine⟨⟨a,x0⟩,rfl,B1,?_⟩
 exact doL q B1.at_ F1 kb gr (iY _ _ trivial)
abbrev MX:Stmt:=top 139
theorem aEQ:FnScope ["court", "feed"] ["court", "feed"] (defScope MX):=mkSc
theorem aEU(F:Fun Z.K "do_index" "do_index" MX f fd)(T:Tx Z Cc Ck Cf)(D_tell_index:DefOk Z 5 "tell_index" ["court", "d"] (spR1 Cc Ck λs d=>(Vbnlal.step s (.index d)).2))(D_take:MethOk Z Cf 1 "take" ["self"] (spTake Cf Z.K)):OkZ Z 6 f fd ["court", "feed"] (spDo Cc Ck Cf Z.K λx=>∃x0,x = .index x0):=by
 refine okS F aEQ λs H Q E hr h=>?_
 obtain⟨z,rfl,⟨x0,ex⟩,B,F0,hd,ha,q⟩:=h
 refine⟨_,(aQ
  (aU (cJ D_tell_index (hr.mono (by decide)) rfl (aJ (pv 0) (aJ (cQ (pv 1) T.c_Feed D_take (hr.mono (by decide))) pa_nil))))),?_⟩
 obtain⟨a,f,na,ns,i,x,r⟩:=z
 dsimp only at ex B F0 hd ha q
 subst ex
 replace hd:ns.drop i=x0::r:=hd
 obtain⟨dx0,hi0⟩:=F0.ins
 refine⟨_,rfl,_,rfl,f,dx0,_,rfl,hi0,bW _ _,⟨f,na,ns,a.ow,i+0,x0⟩,rfl,F0,cV hd,λH1 F1 k1 g1=>?_⟩
 have kb:But f H H1:=k1
 have gr:∀y,H1 y=none->H y=none:=λy hy=>g1 y hy
 have B1:=B.but hi0 (by intro xs w;cases w) F0.own kb gr
 refine⟨⟨a,x0⟩,rfl,B1,?_⟩
 exact doL q B1.at_ F1 kb gr (iY _ _ trivial)
abbrev vK:Stmt:=top 140
theorem agU:FnScope ["court", "feed"] ["court", "feed"] (defScope vK):=mkSc
theorem agV(F:Fun Z.K "do_conserved" "do_conserved" vK f fd)(T:Tx Z Cc Ck Cf)(D_conserved:DefOk Z 4 "conserved" ["court", "d"] (spR1 Cc Ck λs d=>(Vbnlal.step s (.conserved d)).2))(D_take:MethOk Z Cf 1 "take" ["self"] (spTake Cf Z.K)):OkZ Z 5 f fd ["court", "feed"] (spDo Cc Ck Cf Z.K λx=>∃x0,x = .conserved x0):=by
 refine okS F agU λs H Q E hr h=>?_
 obtain⟨z,rfl,⟨x0,ex⟩,B,F0,hd,ha,q⟩:=h
 refine⟨_,(aQ
  (aU (cJ D_conserved (hr.mono (by decide)) rfl (aJ (pv 0) (aJ (cQ (pv 1) T.c_Feed D_take (hr.mono (by decide))) pa_nil))))),?_⟩
 obtain⟨a,f,na,ns,i,x,r⟩:=z
 dsimp only at ex B F0 hd ha q
 subst ex
 replace hd:ns.drop i=x0::r:=hd
 obtain⟨dx0,hi0⟩:=F0.ins
 refine⟨_,rfl,_,rfl,f,dx0,_,rfl,hi0,bW _ _,⟨f,na,ns,a.ow,i+0,x0⟩,rfl,F0,cV hd,λH1 F1 k1 g1=>?_⟩
 have kb:But f H H1:=k1
 have gr:∀y,H1 y=none->H y=none:=λy hy=>g1 y hy
 have B1:=B.but hi0 (by intro xs w;cases w) F0.own kb gr
 refine⟨⟨a,x0⟩,rfl,B1,?_⟩
 exact doL q B1.at_ F1 kb gr (iY _ _ trivial)
abbrev MY:Stmt:=top 141
theorem aEV:FnScope ["court", "feed"] ["court", "feed"] (defScope MY):=mkSc
theorem aEW(F:Fun Z.K "do_stays" "do_stays" MY f fd)(T:Tx Z Cc Ck Cf)(D_stays:DefOk Z 3 "stays" ["court", "n"] (spR1 Cc Ck λs n=>(stepM s (.stays n)).2))(D_take:MethOk Z Cf 1 "take" ["self"] (spTake Cf Z.K)):OkZ Z 4 f fd ["court", "feed"] (spDo Cc Ck Cf Z.K λx=>∃x0,x = .stays x0):=by
 refine okS F aEV λs H Q E hr h=>?_
 obtain⟨z,rfl,⟨x0,ex⟩,B,F0,hd,ha,q⟩:=h
 refine⟨_,(aQ
  (aU (cJ D_stays (hr.mono (by decide)) rfl (aJ (pv 0) (aJ (cQ (pv 1) T.c_Feed D_take (hr.mono (by decide))) pa_nil))))),?_⟩
 obtain⟨a,f,na,ns,i,x,r⟩:=z
 dsimp only at ex B F0 hd ha q
 subst ex
 replace hd:ns.drop i=x0::r:=hd
 obtain⟨dx0,hi0⟩:=F0.ins
 refine⟨_,rfl,_,rfl,f,dx0,_,rfl,hi0,bW _ _,⟨f,na,ns,a.ow,i+0,x0⟩,rfl,F0,cV hd,λH1 F1 k1 g1=>?_⟩
 have kb:But f H H1:=k1
 have gr:∀y,H1 y=none->H y=none:=λy hy=>g1 y hy
 have B1:=B.but hi0 (by intro xs w;cases w) F0.own kb gr
 refine⟨⟨a,x0⟩,rfl,B1,?_⟩
 exact doL q B1.at_ F1 kb gr (iY _ _ trivial)
abbrev SV:Stmt:=top 116
theorem MZ:FnScope ["court", "feed", "member", "last"] ["court", "feed"] (defScope SV):=mkSc
theorem aLY(F:Fun Z.K "do_seat" "do_seat" SV f fd)(T:Tx Z Cc Ck Cf)(D_take:MethOk Z Cf 1 "take" ["self"] (spTake Cf Z.K))(D_seat:DefOk Z 2 "seat" ["court", "member", "last"] (spM2 Cc Ck seatM)):OkZ Z 3 f fd ["court", "feed"] (spDo Cc Ck Cf Z.K λx=>∃x0 x1,x = .seat x0 x1):=by
 refine okS F MZ λs H Q E hr h=>?_
 obtain⟨z,rfl,⟨x0,x1,ex⟩,B,F0,hd,ha,q⟩:=h
 refine⟨_,(aK
  (bQ (i:=2) MZ.nd rfl (Or.inl rfl) (cQ (pv 1) T.c_Feed D_take (hr.mono (by decide))))
  (aK
  (bQ (i:=3) MZ.nd rfl (Or.inl rfl) (cQ (pv 1) T.c_Feed D_take (hr.mono (by decide))))
  (aQ
  (aU (cJ D_seat (hr.mono (by decide)) rfl (aJ (pv 0) (aJ (pv 2) (aJ (pv 3) pa_nil)))))))),?_⟩
 obtain⟨a,f,na,ns,i,x,r⟩:=z
 dsimp only at ex B F0 hd ha q
 subst ex
 replace hd:ns.drop i=x0::x1::r:=hd
 obtain⟨dx0,hi0⟩:=F0.ins
 refine⟨_,rfl,f,dx0,_,rfl,hi0,bW _ _,⟨f,na,ns,a.ow,i+0,x0⟩,rfl,F0,cV hd,λH1 F1 k1 g1=>?_⟩
 obtain⟨dx1,hi1⟩:=F1.ins
 refine⟨_,rfl,f,dx1,_,rfl,hi1,bW _ _,⟨f,na,ns,a.ow,i+1,x1⟩,rfl,F1,kZ hd,λH2 F2 k2 g2=>?_⟩
 have kb:But f H H2:=(k1.trans k2)
 have gr:∀y,H2 y=none->H y=none:=λy hy=>(λy hy=>g1 y (g2 y hy)) y hy
 have B1:=B.but hi0 (by intro xs w;cases w) F0.own kb gr
 refine⟨_,rfl,_,rfl,_,rfl,⟨a,x0,x1⟩,rfl,B1,?_⟩
 exact doM q F2 kb gr
abbrev yX:Stmt:=top 132
theorem vQ:FnScope ["court", "feed", "d", "key"] ["court", "feed"] (defScope yX):=mkSc
theorem ajY(F:Fun Z.K "do_in_force" "do_in_force" yX f fd)(T:Tx Z Cc Ck Cf)(D_take:MethOk Z Cf 1 "take" ["self"] (spTake Cf Z.K))(D_in_force:DefOk Z 3 "in_force" ["court", "d", "key"] (spR2 Cc Ck λs d k=>(Vbnlal.step s (.inForce d k)).2)):OkZ Z 4 f fd ["court", "feed"] (spDo Cc Ck Cf Z.K λx=>∃x0 x1,x = .inForce x0 x1):=by
 refine okS F vQ λs H Q E hr h=>?_
 obtain⟨z,rfl,⟨x0,x1,ex⟩,B,F0,hd,ha,q⟩:=h
 refine⟨_,(aK
  (bQ (i:=2) vQ.nd rfl (Or.inl rfl) (cQ (pv 1) T.c_Feed D_take (hr.mono (by decide))))
  (aK
  (bQ (i:=3) vQ.nd rfl (Or.inl rfl) (cQ (pv 1) T.c_Feed D_take (hr.mono (by decide))))
  (aQ
  (aU (cJ D_in_force (hr.mono (by decide)) rfl (aJ (pv 0) (aJ (pv 2) (aJ (pv 3) pa_nil)))))))),?_⟩
 obtain⟨a,f,na,ns,i,x,r⟩:=z
 dsimp only at ex B F0 hd ha q
 subst ex
 replace hd:ns.drop i=x0::x1::r:=hd
 obtain⟨dx0,hi0⟩:=F0.ins
 refine⟨_,rfl,f,dx0,_,rfl,hi0,bW _ _,⟨f,na,ns,a.ow,i+0,x0⟩,rfl,F0,cV hd,λH1 F1 k1 g1=>?_⟩
 obtain⟨dx1,hi1⟩:=F1.ins
 refine⟨_,rfl,f,dx1,_,rfl,hi1,bW _ _,⟨f,na,ns,a.ow,i+1,x1⟩,rfl,F1,kZ hd,λH2 F2 k2 g2=>?_⟩
 have kb:But f H H2:=(k1.trans k2)
 have gr:∀y,H2 y=none->H y=none:=λy hy=>(λy hy=>g1 y (g2 y hy)) y hy
 have B1:=B.but hi0 (by intro xs w;cases w) F0.own kb gr
 refine⟨_,rfl,_,rfl,_,rfl,⟨a,x0,x1⟩,rfl,B1,?_⟩
 exact doL q B1.at_ F2 kb gr (iY _ _ trivial)
abbrev DV:Stmt:=top 133
theorem yY:FnScope ["court", "feed", "d", "key"] ["court", "feed"] (defScope DV):=mkSc
theorem arV(F:Fun Z.K "do_because" "do_because" DV f fd)(T:Tx Z Cc Ck Cf)(D_take:MethOk Z Cf 1 "take" ["self"] (spTake Cf Z.K))(D_because:DefOk Z 4 "because" ["court", "d", "key"] (spR2 Cc Ck λs d k=>(Vbnlal.step s (.because d k)).2)):OkZ Z 5 f fd ["court", "feed"] (spDo Cc Ck Cf Z.K λx=>∃x0 x1,x = .because x0 x1):=by
 refine okS F yY λs H Q E hr h=>?_
 obtain⟨z,rfl,⟨x0,x1,ex⟩,B,F0,hd,ha,q⟩:=h
 refine⟨_,(aK
  (bQ (i:=2) yY.nd rfl (Or.inl rfl) (cQ (pv 1) T.c_Feed D_take (hr.mono (by decide))))
  (aK
  (bQ (i:=3) yY.nd rfl (Or.inl rfl) (cQ (pv 1) T.c_Feed D_take (hr.mono (by decide))))
  (aQ
  (aU (cJ D_because (hr.mono (by decide)) rfl (aJ (pv 0) (aJ (pv 2) (aJ (pv 3) pa_nil)))))))),?_⟩
 obtain⟨a,f,na,ns,i,x,r⟩:=z
 dsimp only at ex B F0 hd ha q
 subst ex
 replace hd:ns.drop i=x0::x1::r:=hd
 obtain⟨dx0,hi0⟩:=F0.ins
 refine⟨_,rfl,f,dx0,_,rfl,hi0,bW _ _,⟨f,na,ns,a.ow,i+0,x0⟩,rfl,F0,cV hd,λH1 F1 k1 g1=>?_⟩
 obtain⟨dx1,hi1⟩:=F1.ins
 refine⟨_,rfl,f,dx1,_,rfl,hi1,bW _ _,⟨f,na,ns,a.ow,i+1,x1⟩,rfl,F1,kZ hd,λH2 F2 k2 g2=>?_⟩
 have kb:But f H H2:=(k1.trans k2)
 have gr:∀y,H2 y=none->H y=none:=λy hy=>(λy hy=>g1 y (g2 y hy)) y hy
 have B1:=B.but hi0 (by intro xs w;cases w) F0.own kb gr
 refine⟨_,rfl,_,rfl,_,rfl,⟨a,x0,x1⟩,rfl,B1,?_⟩
 exact doL q B1.at_ F2 kb gr (iY _ _ trivial)
abbrev HJ:Stmt:=top 135
theorem DW:FnScope ["court", "feed", "d", "n"] ["court", "feed"] (defScope HJ):=mkSc
theorem axW(F:Fun Z.K "do_status" "do_status" HJ f fd)(T:Tx Z Cc Ck Cf)(D_take:MethOk Z Cf 1 "take" ["self"] (spTake Cf Z.K))(D_status:DefOk Z 5 "status" ["court", "d", "n"] (spR2 Cc Ck λs d n=>(Vbnlal.step s (.status d n)).2)):OkZ Z 6 f fd ["court", "feed"] (spDo Cc Ck Cf Z.K λx=>∃x0 x1,x = .status x0 x1):=by
 refine okS F DW λs H Q E hr h=>?_
 obtain⟨z,rfl,⟨x0,x1,ex⟩,B,F0,hd,ha,q⟩:=h
 refine⟨_,(aK
  (bQ (i:=2) DW.nd rfl (Or.inl rfl) (cQ (pv 1) T.c_Feed D_take (hr.mono (by decide))))
  (aK
  (bQ (i:=3) DW.nd rfl (Or.inl rfl) (cQ (pv 1) T.c_Feed D_take (hr.mono (by decide))))
  (aQ
  (aU (cJ D_status (hr.mono (by decide)) rfl (aJ (pv 0) (aJ (pv 2) (aJ (pv 3) pa_nil)))))))),?_⟩
 obtain⟨a,f,na,ns,i,x,r⟩:=z
 dsimp only at ex B F0 hd ha q
 subst ex
 replace hd:ns.drop i=x0::x1::r:=hd
 obtain⟨dx0,hi0⟩:=F0.ins
 refine⟨_,rfl,f,dx0,_,rfl,hi0,bW _ _,⟨f,na,ns,a.ow,i+0,x0⟩,rfl,F0,cV hd,λH1 F1 k1 g1=>?_⟩
 obtain⟨dx1,hi1⟩:=F1.ins
 refine⟨_,rfl,f,dx1,_,rfl,hi1,bW _ _,⟨f,na,ns,a.ow,i+1,x1⟩,rfl,F1,kZ hd,λH2 F2 k2 g2=>?_⟩
 have kb:But f H H2:=(k1.trans k2)
 have gr:∀y,H2 y=none->H y=none:=λy hy=>(λy hy=>g1 y (g2 y hy)) y hy
 have B1:=B.but hi0 (by intro xs w;cases w) F0.own kb gr
 refine⟨_,rfl,_,rfl,_,rfl,⟨a,x0,x1⟩,rfl,B1,?_⟩
 exact doL q B1.at_ F2 kb gr (iY _ _ trivial)
abbrev yZ:Stmt:=top 137
theorem vU:FnScope ["court", "feed", "d", "n"] ["court", "feed"] (defScope yZ):=mkSc
theorem ajZ(F:Fun Z.K "do_fixed_at" "do_fixed_at" yZ f fd)(T:Tx Z Cc Ck Cf)(D_take:MethOk Z Cf 1 "take" ["self"] (spTake Cf Z.K))(D_fixed_at:DefOk Z 5 "fixed_at" ["court", "d", "n"] (spR2 Cc Ck λs d n=>(Vbnlal.step s (.typeAt d n)).2)):OkZ Z 6 f fd ["court", "feed"] (spDo Cc Ck Cf Z.K λx=>∃x0 x1,x = .typeAt x0 x1):=by
 refine okS F vU λs H Q E hr h=>?_
 obtain⟨z,rfl,⟨x0,x1,ex⟩,B,F0,hd,ha,q⟩:=h
 refine⟨_,(aK
  (bQ (i:=2) vU.nd rfl (Or.inl rfl) (cQ (pv 1) T.c_Feed D_take (hr.mono (by decide))))
  (aK
  (bQ (i:=3) vU.nd rfl (Or.inl rfl) (cQ (pv 1) T.c_Feed D_take (hr.mono (by decide))))
  (aQ
  (aU (cJ D_fixed_at (hr.mono (by decide)) rfl (aJ (pv 0) (aJ (pv 2) (aJ (pv 3) pa_nil)))))))),?_⟩
 obtain⟨a,f,na,ns,i,x,r⟩:=z
 dsimp only at ex B F0 hd ha q
 subst ex
 replace hd:ns.drop i=x0::x1::r:=hd
 obtain⟨dx0,hi0⟩:=F0.ins
 refine⟨_,rfl,f,dx0,_,rfl,hi0,bW _ _,⟨f,na,ns,a.ow,i+0,x0⟩,rfl,F0,cV hd,λH1 F1 k1 g1=>?_⟩
 obtain⟨dx1,hi1⟩:=F1.ins
 refine⟨_,rfl,f,dx1,_,rfl,hi1,bW _ _,⟨f,na,ns,a.ow,i+1,x1⟩,rfl,F1,kZ hd,λH2 F2 k2 g2=>?_⟩
 have kb:But f H H2:=(k1.trans k2)
 have gr:∀y,H2 y=none->H y=none:=λy hy=>(λy hy=>g1 y (g2 y hy)) y hy
 have B1:=B.but hi0 (by intro xs w;cases w) F0.own kb gr
 refine⟨_,rfl,_,rfl,_,rfl,⟨a,x0,x1⟩,rfl,B1,?_⟩
 exact doL q B1.at_ F2 kb gr (iY _ _ trivial)
abbrev zJ:Stmt:=top 138
theorem vV:FnScope ["court", "feed", "d", "w"] ["court", "feed"] (defScope zJ):=mkSc
theorem akJ(F:Fun Z.K "do_rejected" "do_rejected" zJ f fd)(T:Tx Z Cc Ck Cf)(D_take:MethOk Z Cf 1 "take" ["self"] (spTake Cf Z.K))(D_rejected:DefOk Z 5 "rejected" ["court", "d", "w"] (spR2 Cc Ck λs d w=>(Vbnlal.step s (.rejected d w)).2)):OkZ Z 6 f fd ["court", "feed"] (spDo Cc Ck Cf Z.K λx=>∃x0 x1,x = .rejected x0 x1):=by
 refine okS F vV λs H Q E hr h=>?_
 obtain⟨z,rfl,⟨x0,x1,ex⟩,B,F0,hd,ha,q⟩:=h
 refine⟨_,(aK
  (bQ (i:=2) vV.nd rfl (Or.inl rfl) (cQ (pv 1) T.c_Feed D_take (hr.mono (by decide))))
  (aK
  (bQ (i:=3) vV.nd rfl (Or.inl rfl) (cQ (pv 1) T.c_Feed D_take (hr.mono (by decide))))
  (aQ
  (aU (cJ D_rejected (hr.mono (by decide)) rfl (aJ (pv 0) (aJ (pv 2) (aJ (pv 3) pa_nil)))))))),?_⟩
 obtain⟨a,f,na,ns,i,x,r⟩:=z
 dsimp only at ex B F0 hd ha q
 subst ex
 replace hd:ns.drop i=x0::x1::r:=hd
 obtain⟨dx0,hi0⟩:=F0.ins
 refine⟨_,rfl,f,dx0,_,rfl,hi0,bW _ _,⟨f,na,ns,a.ow,i+0,x0⟩,rfl,F0,cV hd,λH1 F1 k1 g1=>?_⟩
 obtain⟨dx1,hi1⟩:=F1.ins
 refine⟨_,rfl,f,dx1,_,rfl,hi1,bW _ _,⟨f,na,ns,a.ow,i+1,x1⟩,rfl,F1,kZ hd,λH2 F2 k2 g2=>?_⟩
 have kb:But f H H2:=(k1.trans k2)
 have gr:∀y,H2 y=none->H y=none:=λy hy=>(λy hy=>g1 y (g2 y hy)) y hy
 have B1:=B.but hi0 (by intro xs w;cases w) F0.own kb gr
 refine⟨_,rfl,_,rfl,_,rfl,⟨a,x0,x1⟩,rfl,B1,?_⟩
 exact doL q B1.at_ F2 kb gr (iY _ _ trivial)
abbrev HK:Stmt:=top 123
theorem tJ:FnScope ["court", "feed", "key", "member", "v"] ["court", "feed"] (defScope HK):=mkSc
theorem axX(F:Fun Z.K "do_ballot" "do_ballot" HK f fd)(T:Tx Z Cc Ck Cf)(D_take:MethOk Z Cf 1 "take" ["self"] (spTake Cf Z.K))(D_ballot:DefOk Z 1 "ballot" ["court", "key", "member", "v"] (spM3 Cc Ck λs k m v=>Vbnlal.step s (.ballot k m v))):OkZ Z 3 f fd ["court", "feed"] (spDo Cc Ck Cf Z.K λx=>∃x0 x1 x2,x = .ballot x0 x1 x2):=by
 refine okS F tJ λs H Q E hr h=>?_
 obtain⟨z,rfl,⟨x0,x1,x2,ex⟩,B,F0,hd,ha,q⟩:=h
 refine⟨_,(aK
  (bQ (i:=2) tJ.nd rfl (Or.inl rfl) (cQ (pv 1) T.c_Feed D_take (hr.mono (by decide))))
  (aK
  (bQ (i:=3) tJ.nd rfl (Or.inl rfl) (cQ (pv 1) T.c_Feed D_take (hr.mono (by decide))))
  (aK
  (bQ (i:=4) tJ.nd rfl (Or.inl rfl) (cQ (pv 1) T.c_Feed D_take (hr.mono (by decide))))
  (aQ
  (aU (cJ D_ballot (hr.mono (by decide)) rfl (aJ (pv 0) (aJ (pv 2) (aJ (pv 3) (aJ (pv 4) pa_nil)))))))))),?_⟩
 obtain⟨a,f,na,ns,i,x,r⟩:=z
 dsimp only at ex B F0 hd ha q
 subst ex
 replace hd:ns.drop i=x0::x1::x2::r:=hd
 obtain⟨dx0,hi0⟩:=F0.ins
 refine⟨_,rfl,f,dx0,_,rfl,hi0,bW _ _,⟨f,na,ns,a.ow,i+0,x0⟩,rfl,F0,cV hd,λH1 F1 k1 g1=>?_⟩
 obtain⟨dx1,hi1⟩:=F1.ins
 refine⟨_,rfl,f,dx1,_,rfl,hi1,bW _ _,⟨f,na,ns,a.ow,i+1,x1⟩,rfl,F1,kZ hd,λH2 F2 k2 g2=>?_⟩
 obtain⟨dx2,hi2⟩:=F2.ins
 refine⟨_,rfl,f,dx2,_,rfl,hi2,bW _ _,⟨f,na,ns,a.ow,i+2,x2⟩,rfl,F2,SJ hd,λH3 F3 k3 g3=>?_⟩
 have kb:But f H H3:=((k1.trans k2).trans k3)
 have gr:∀y,H3 y=none->H y=none:=λy hy=>(λy hy=>(λy hy=>g1 y (g2 y hy)) y (g3 y hy)) y hy
 have B1:=B.but hi0 (by intro xs w;cases w) F0.own kb gr
 refine⟨_,rfl,_,rfl,_,rfl,_,rfl,⟨a,x0,x1,x2⟩,rfl,B1,?_⟩
 exact doM q F3 kb gr
abbrev SW:Stmt:=top 136
theorem AJ:FnScope ["court", "feed", "d", "n", "m"] ["court", "feed"] (defScope SW):=mkSc
theorem aLZ(F:Fun Z.K "do_over" "do_over" SW f fd)(T:Tx Z Cc Ck Cf)(D_take:MethOk Z Cf 1 "take" ["self"] (spTake Cf Z.K))(D_over:DefOk Z 4 "over" ["court", "d", "n", "m"] (spR3 Cc Ck λs d n m=>(Vbnlal.step s (.over d n m)).2)):OkZ Z 5 f fd ["court", "feed"] (spDo Cc Ck Cf Z.K λx=>∃x0 x1 x2,x = .over x0 x1 x2):=by
 refine okS F AJ λs H Q E hr h=>?_
 obtain⟨z,rfl,⟨x0,x1,x2,ex⟩,B,F0,hd,ha,q⟩:=h
 refine⟨_,(aK
  (bQ (i:=2) AJ.nd rfl (Or.inl rfl) (cQ (pv 1) T.c_Feed D_take (hr.mono (by decide))))
  (aK
  (bQ (i:=3) AJ.nd rfl (Or.inl rfl) (cQ (pv 1) T.c_Feed D_take (hr.mono (by decide))))
  (aK
  (bQ (i:=4) AJ.nd rfl (Or.inl rfl) (cQ (pv 1) T.c_Feed D_take (hr.mono (by decide))))
  (aQ
  (aU (cJ D_over (hr.mono (by decide)) rfl (aJ (pv 0) (aJ (pv 2) (aJ (pv 3) (aJ (pv 4) pa_nil)))))))))),?_⟩
 obtain⟨a,f,na,ns,i,x,r⟩:=z
 dsimp only at ex B F0 hd ha q
 subst ex
 replace hd:ns.drop i=x0::x1::x2::r:=hd
 obtain⟨dx0,hi0⟩:=F0.ins
 refine⟨_,rfl,f,dx0,_,rfl,hi0,bW _ _,⟨f,na,ns,a.ow,i+0,x0⟩,rfl,F0,cV hd,λH1 F1 k1 g1=>?_⟩
 obtain⟨dx1,hi1⟩:=F1.ins
 refine⟨_,rfl,f,dx1,_,rfl,hi1,bW _ _,⟨f,na,ns,a.ow,i+1,x1⟩,rfl,F1,kZ hd,λH2 F2 k2 g2=>?_⟩
 obtain⟨dx2,hi2⟩:=F2.ins
 refine⟨_,rfl,f,dx2,_,rfl,hi2,bW _ _,⟨f,na,ns,a.ow,i+2,x2⟩,rfl,F2,SJ hd,λH3 F3 k3 g3=>?_⟩
 have kb:But f H H3:=((k1.trans k2).trans k3)
 have gr:∀y,H3 y=none->H y=none:=λy hy=>(λy hy=>(λy hy=>g1 y (g2 y hy)) y (g3 y hy)) y hy
 have B1:=B.but hi0 (by intro xs w;cases w) F0.own kb gr
 refine⟨_,rfl,_,rfl,_,rfl,_,rfl,⟨a,x0,x1,x2⟩,rfl,B1,?_⟩
 exact doL q B1.at_ F3 kb gr (iY _ _ trivial)
end
end Nc
end
section
set_option maxHeartbeats 4000000
namespace Nc
open PySem PySem.Spec PyProof.Rows L2 TL
open Vbnlal (Case Member State Effect Call Token)
theorem agW{X:Cx}:CallR X (.builtin "isinstance") (λxs H Q=>∃x,xs=[x,.ty "int"]/\((∃i,x = .int i/\Q (.bl true) H)\/∃z,x = .str z/\Q (.bl false) H)):=by
 intro pins s σ H xs us Q I r h
 obtain⟨x,rfl,h⟩:=h
 cases r with
 |cons r1 rs=>
  cases rs with
  |cons r2 rs=>
   cases rs
   cases r2
   rcases h with ⟨i,rfl,q⟩ | ⟨z,rfl,q⟩
   ·obtain⟨t,rfl⟩:=r1
    exact IsiPair.int_int ⟨.bl true,H,I,rfl,q⟩
   ·obtain⟨t,rfl⟩:=r1
    exact IsiPair.str_int ⟨.bl false,H,I.tok _,rfl,q⟩
def MT(t:TT):Prop:=∀σ H Q Q',(∀b H1,Q b H1->Q' b H1)->t σ H Q->t σ H Q'
def ME(t:TE):Prop:=∀σ H (Q Q':VK),(∀b H1,Q b H1->Q' b H1)->t σ H Q->t σ H Q'
def MA(t:TA):Prop:=∀σ H Q Q',(∀b H1,Q b H1->Q' b H1)->t σ H Q->t σ H Q'
theorem DX{i:Nat}:ME (tVar i):=λσ H Q Q' m ⟨v,h,q⟩=>⟨v,h,m _ _ q⟩
theorem asK{r:R2}{ta tb:TE}(ha:ME ta)(hb:ME tb)(hr:∀x y H (Q Q':VK),(∀b H1,Q b H1->Q' b H1)->r x y H Q->r x y H Q'):ME (tOp r ta tb):=λσ H Q Q' m h=>ha σ H _ _ (λx H1 h=>hb σ H1 _ _ (λy H2 h=>hr x y H2 Q Q' m h) h) h
theorem aYU{r:List V->Hp->VK->Prop}{t:TA}(ha:MA t)(hr:∀x H (Q Q':VK),(∀b H1,Q b H1->Q' b H1)->r x H Q->r x H Q'):ME (tCB r t):=λσ H Q Q' m h=>ha σ H _ _ (λx H1 h=>hr x H1 Q Q' m h) h
theorem axY:MA tNil:=λσ H Q Q' m h=>m _ _ h
theorem akK{te:TE}{t:TA}(ha:ME te)(hb:MA t):MA (tCons te t):=λσ H Q Q' m h=>ha σ H _ _ (λx H1 h=>hb σ H1 _ _ (λy H2 h=>m _ _ h) h) h
theorem akQ{t:TE}(h:ME t):MT (tTest t):=λσ H Q Q' m q=>h σ H _ _ (λx H1 ⟨k,e,z⟩=>⟨k,e,m _ _ z⟩) q
theorem bgZ{t u:TT}(h:MT t)(h2:MT u):MT (tAnd t u):=λσ H Q Q' m q=>h σ H _ _ (λc H1 z=>by
 cases c with
 |true=>exact h2 σ H1 Q Q' m z
 |false=>exact m _ _ z) q
theorem bdJ{sp:Sp}{t:TA}(ht:MA t)(hs:∀vs H (Q Q':VK),(∀b H1,Q b H1->Q' b H1)->sp vs H Q E0->sp vs H Q' E0):ME (tCall sp [] E0 t):=λσ H Q Q' m q=>ht σ H _ _ (λvs H1 z=>hs _ H1 Q Q' m z) q
theorem aYV{g:Int->Int->V}:∀x y H (Q Q':VK),(∀b H1,Q b H1->Q' b H1)->rI0 g x y H Q->rI0 g x y H Q':=λx y H Q Q' m ⟨i,j,h1,h2,q⟩=>⟨i,j,h1,h2,m _ _ q⟩
theorem bjZ:∀x y H (Q Q':VK),(∀b H1,Q b H1->Q' b H1)->rEq x y H Q->rEq x y H Q':=λx y H Q Q' m ⟨h,q⟩=>⟨h,m _ _ q⟩
theorem bhJ{K:PySem.W.Frag}:∀x y H (Q Q':VK),(∀b H1,Q b H1->Q' b H1)->rIxL K x y H Q->rIxL K x y H Q':=λx y H Q Q' m ⟨p,xs,i,v,h1,h2,h3,h4,q⟩=>⟨p,xs,i,v,h1,h2,h3,h4,m _ _ q⟩
theorem aSQ{K:PySem.W.Frag}:∀x H (Q Q':VK),(∀b H1,Q b H1->Q' b H1)->(∃p ys,x=[V.ref p]/\(SqL K H p ys\/SqT K H p ys)/\Q (.int ys.length) H)->(∃p ys,x=[V.ref p]/\(SqL K H p ys\/SqT K H p ys)/\Q' (.int ys.length) H):=λx H Q Q' m ⟨p,ys,h1,h2,q⟩=>⟨p,ys,h1,h2,m _ _ q⟩
def gi(n:Int):Nat:=if n=32 then 0 else if n=59 then 1 else if Vbnlal.isLetter n=true then 2 else if Vbnlal.isDigit n=true then 3 else 4
def gs:Nat->Str
 |0 => "blank"
 |1 => "semicolon"
 |2 => "word"
 |3 => "number"
 |_ => "wrong"
theorem aMJ(n:Int):gi n<=4:=by
 unfold gi
 repeat' split
 all_goals omega
theorem bhK:∀i j:Fin 5,(gs i.val=gs j.val)↔i=j:=by decide +kernel
theorem bkJ{i j:Nat}(hi:i<=4)(hj:j<=4):decide (V.str (gs i)=V.str (gs j))=decide (i=j):=by
 rw[Bool.eq_iff_iff,decide_eq_true_eq,decide_eq_true_eq]
 have:=bhK ⟨i,by omega⟩ ⟨j,by omega⟩
 constructor
 ·intro h
  have:=this.mp (V.str.inj h)
  exact congrArg Fin.val this
 ·intro h
  rw[h]
def spGroup:Sp:=mkSp (λn:Int=>[.int n]) λn H Q=>Q (.str (gs (gi n))) H
theorem aMK:∀vs H (Q Q':VK),(∀b H1,Q b H1->Q' b H1)->spGroup vs H Q E0->spGroup vs H Q' E0:=λvs H Q Q' m ⟨n,h,q⟩=>⟨n,h,m _ _ q⟩
def runOf(t:List Int)(j:Nat)(c:Int):List Int:=(t.drop j).takeWhile λx=>gi x==gi c
theorem UY{t:List Int}{j:Nat}{c:Int}{k:Nat}(h:k<(runOf t j c).length):∃y,t[j+k]? = some y/\gi y=gi c:=by
 have h1:(runOf t j c)[k]? = some (runOf t j c)[k]:=List.getElem?_eq_getElem h
 have h2:gi (runOf t j c)[k]=gi c:=by
  have:=kQ (p:=λx=>gi x==gi c) (List.getElem_mem h)
  simpa using this
 refine⟨(runOf t j c)[k],?_,h2⟩
 have h3:(t.drop j)[k]? = some (runOf t j c)[k]:=by
  rw[<-List.takeWhile_append_dropWhile (p:=λx=>gi x==gi c) (l:=t.drop j)]
  exact(List.getElem?_append_left h).trans h1
 rw[List.getElem?_drop] at h3
 exact h3
theorem aXK{t:List Int}{j:Nat}{c y:Int}(h:t[j+(runOf t j c).length]? = some y):¬gi y=gi c:=by
 have h3:(t.drop j)[(runOf t j c).length]? = some y:=by
  rw[List.getElem?_drop]
  exact h
 rw[<-List.takeWhile_append_dropWhile (p:=λx=>gi x==gi c) (l:=t.drop j)] at h3
 rw[show((t.drop j).takeWhile λx=>gi x==gi c)=runOf t j c from rfl,List.getElem?_append_right (Nat.le_refl _),Nat.sub_self] at h3
 have h4:=List.head?_dropWhile_not (λx=>gi x==gi c) (t.drop j)
 rw[<-List.head?_eq_getElem?] at h3
 rw[h3] at h4
 simpa using h4
def spRunEnd(K:PySem.W.Frag):Sp:=mkSp (λp:Addr×List Int×Nat×Int=>[.ref p.1,.int (p.2.2.1:Int)]) λp H Q=>SqL K H p.1 (p.2.1.map V.int)/\p.2.1[p.2.2.1]? = some p.2.2.2/\Q (.int ((p.2.2.1+(runOf p.2.1 p.2.2.1 p.2.2.2).length:Nat):Int)) H
def strOf(l:List Int):Str:=⟨(l.map Int.toNat).toArray⟩
def spWord(K:PySem.W.Frag):Sp:=mkSp (λp:Addr×List Int=>[.ref p.1]) λp H Q=>SqL K H p.1 (p.2.map V.int)/\p.2.length<=300/\(∀c∈p.2,Vbnlal.isLetter c=true)/\∀H',Same H H'->Q (.str (strOf (p.2.map Vbnlal.small))) H'
def spNumber(K:PySem.W.Frag):Sp:=mkSp (λp:Addr×List Int=>[.ref p.1]) λp H Q=>SqL K H p.1 (p.2.map V.int)/\Q (.int (Vbnlal.valueOf p.2)) H
def numsE(e:Effect):List Int:=if e.kind=3\/e.kind=4 then [e.a,e.b] else [e.a]
def spNums:Sp:=mkSp (λp:Addr×Effect=>[.ref p.1]) λp H Q=>TupAt H p.1 p.2/\RetL H Q (numsE p.2)
theorem aMQ:∀c:Fin 128,Vbnlal.isLetter (c.val:Int)=true->Builtin.bitOr (c.val:Int) 32=Vbnlal.small (c.val:Int)/\atI (tl ("abcdefghijklmnopqrstuvwxyz" : Str)) (Vbnlal.small (c.val:Int) - 97)=some (Vbnlal.small (c.val:Int)).toNat:=by decide +kernel
theorem aSU{c:Int}(h:Vbnlal.isLetter c=true):Builtin.bitOr c 32=Vbnlal.small c/\atI (tl ("abcdefghijklmnopqrstuvwxyz" : Str)) (Vbnlal.small c - 97)=some (Vbnlal.small c).toNat:=by
 have hc:0<=c/\c<128:=by
  unfold Vbnlal.isLetter Vbnlal.within at h
  simp at h
  omega
 have:=aMQ ⟨c.toNat,by omega⟩
 rw[show((⟨c.toNat,by omega⟩:Fin 128).val:Int)=c by simp;omega] at this
 exact this h
theorem joinL_nil:∀l:List (List Nat),joinL [] l=l.flatten
 |[]=>rfl
 |[p]=>by simp[joinL]
 |p::q::r=>by
  show p++([]++joinL [] (q::r))=_
  rw[joinL_nil (q::r)]
  simp
theorem akU{a b:Str}(h:tl a=tl b):a=b:=by
 cases a
 cases b
 congr 1
 exact Array.toList_inj.mp h
section
variable{Z:Wd}{Cc Ck Cf f:Addr}{fd:FuncData}
abbrev NJ:Stmt:=top 38
theorem aEX:FnScope ["byte"] ["byte"] (defScope NJ):=mkSc
theorem aEY(F:Fun Z.K "group_of" "group_of" NJ f fd)(T:Tx Z Cc Ck Cf):OkZ Z 1 f fd ["byte"] (spGroup):=by
 refine okS F aEX λs H Q E hr h=>?_
 obtain⟨n,rfl,q⟩:=h
 refine⟨_,(aK
  (bY (bZ eQ (pv 0) (bK T.g_BLANK rfl) (nomark _))
   (aQ
    (aU pe_str))
   aZ)
  (aK
  (bY (bZ eQ (pv 0) (bK T.g_SEMICOLON rfl) (nomark _))
   (aQ
    (aU pe_str))
   aZ)
  (aK
  (bY (PW.pt (aYJ (ZZ oY oY aY (pv 0) aY) (aOY (ZZ oY oY aY (pv 0) aY))))
   (aQ
    (aU pe_str))
   aZ)
  (aK
  (bY (ZZ oY oY aY (pv 0) aY)
   (aQ
    (aU pe_str))
   aZ)
  (aQ
  (aU pe_str)))))),?_⟩
 unfold gi at q
 refine⟨_,rfl,rfl,_,rfl,ite2 (λh=>?_) λh=>?_⟩
 ·rw[if_pos (by simpa using h)] at q
  exact q
 rw[if_neg (by simpa using h)] at q
 refine⟨_,rfl,rfl,_,rfl,ite2 (λh=>?_) λh=>?_⟩
 ·rw[if_pos (by simpa using h)] at q
  exact q
 rw[if_neg (by simpa using h)] at q
 refine⟨_,rfl,_,_,rfl,rfl,_,rfl,?_⟩
 by_cases a1:65<=n
 ·refine ifY (decide_eq_true a1) ⟨_,_,rfl,rfl,_,rfl,?_⟩
  by_cases a2:n<=90
  ·rw[if_pos (by unfold Vbnlal.isLetter Vbnlal.within;simp;omega)] at q
   exact ifY (decide_eq_true a2) (iteT q)
  refine ifN (by simpa using a2) ?_
  refine⟨_,rfl,_,_,rfl,rfl,_,rfl,?_⟩
  by_cases a3:97<=n
  ·refine ifY (decide_eq_true a3) ⟨_,_,rfl,rfl,_,rfl,?_⟩
   by_cases a4:n<=122
   ·rw[if_pos (by unfold Vbnlal.isLetter Vbnlal.within;simp;omega)] at q
    exact ifY (decide_eq_true a4) q
   refine ifN (by simpa using a4) ?_
   rw[if_neg (by unfold Vbnlal.isLetter Vbnlal.within;simp;omega)] at q
   refine⟨_,rfl,_,_,rfl,rfl,_,rfl,?_⟩
   by_cases a5:48<=n
   ·refine ifY (decide_eq_true a5) ⟨_,_,rfl,rfl,_,rfl,?_⟩
    by_cases a6:n<=57
    ·rw[if_pos (by unfold Vbnlal.isDigit Vbnlal.within;simp;omega)] at q
     exact ifY (decide_eq_true a6) q
    rw[if_neg (by unfold Vbnlal.isDigit Vbnlal.within;simp;omega)] at q
    exact ifN (by simpa using a6) q
   ·rw[if_neg (by unfold Vbnlal.isDigit Vbnlal.within;simp;omega)] at q
    exact ifN (by simpa using a5) ⟨_,rfl,iteF q⟩
  ·refine ifN (by simpa using a3) ⟨_,rfl,iteF ?_⟩
   rw[if_neg (by unfold Vbnlal.isLetter Vbnlal.within;simp;omega)] at q
   refine⟨_,rfl,_,_,rfl,rfl,_,rfl,?_⟩
   by_cases a5:48<=n
   ·refine ifY (decide_eq_true a5) ⟨_,_,rfl,rfl,_,rfl,?_⟩
    by_cases a6:n<=57
    ·rw[if_pos (by unfold Vbnlal.isDigit Vbnlal.within;simp;omega)] at q
     exact ifY (decide_eq_true a6) q
    rw[if_neg (by unfold Vbnlal.isDigit Vbnlal.within;simp;omega)] at q
    exact ifN (by simpa using a6) q
   ·rw[if_neg (by unfold Vbnlal.isDigit Vbnlal.within;simp;omega)] at q
    exact ifN (by simpa using a5) ⟨_,rfl,iteF q⟩
 ·refine ifN (by simpa using a1) ⟨_,rfl,iteF ?_⟩
  refine⟨_,rfl,_,_,rfl,rfl,_,rfl,?_⟩
  by_cases a3:97<=n
  ·refine ifY (decide_eq_true a3) ⟨_,_,rfl,rfl,_,rfl,?_⟩
   by_cases a4:n<=122
   ·rw[if_pos (by unfold Vbnlal.isLetter Vbnlal.within;simp;omega)] at q
    exact ifY (decide_eq_true a4) q
   refine ifN (by simpa using a4) ?_
   rw[if_neg (by unfold Vbnlal.isLetter Vbnlal.within;simp;omega)] at q
   refine⟨_,rfl,_,_,rfl,rfl,_,rfl,?_⟩
   by_cases a5:48<=n
   ·refine ifY (decide_eq_true a5) ⟨_,_,rfl,rfl,_,rfl,?_⟩
    by_cases a6:n<=57
    ·rw[if_pos (by unfold Vbnlal.isDigit Vbnlal.within;simp;omega)] at q
     exact ifY (decide_eq_true a6) q
    rw[if_neg (by unfold Vbnlal.isDigit Vbnlal.within;simp;omega)] at q
    exact ifN (by simpa using a6) q
   ·rw[if_neg (by unfold Vbnlal.isDigit Vbnlal.within;simp;omega)] at q
    exact ifN (by simpa using a5) ⟨_,rfl,iteF q⟩
  ·refine ifN (by simpa using a3) ⟨_,rfl,iteF ?_⟩
   rw[if_neg (by unfold Vbnlal.isLetter Vbnlal.within;simp;omega)] at q
   refine⟨_,rfl,_,_,rfl,rfl,_,rfl,?_⟩
   by_cases a5:48<=n
   ·refine ifY (decide_eq_true a5) ⟨_,_,rfl,rfl,_,rfl,?_⟩
    by_cases a6:n<=57
    ·rw[if_pos (by unfold Vbnlal.isDigit Vbnlal.within;simp;omega)] at q
     exact ifY (decide_eq_true a6) q
    rw[if_neg (by unfold Vbnlal.isDigit Vbnlal.within;simp;omega)] at q
    exact ifN (by simpa using a6) q
   ·rw[if_neg (by unfold Vbnlal.isDigit Vbnlal.within;simp;omega)] at q
    exact ifN (by simpa using a5) ⟨_,rfl,iteF q⟩
abbrev SX:Stmt:=top 39
theorem AK:FnScope ["text", "start", "group", "end"] ["text", "start"] (defScope SX):=mkSc
theorem aMU(F:Fun Z.K "run_end" "run_end" SX f fd)(T:Tx Z Cc Ck Cf)(D_group_of:DefOk Z 1 "group_of" ["byte"] (spGroup)):OkZ Z 2 f fd ["text", "start"] (spRunEnd Z.K):=by
 refine okS F AK λs H Q E hr h=>?_
 obtain⟨⟨a,t,j,c⟩,rfl,hS,hj,q⟩:=h
 refine⟨_,(aK
  (bQ (i:=2) AK.nd rfl (Or.inl rfl) (cJ D_group_of (hr.mono (by decide)) rfl (aJ (cZ jK (pv 0) (pv 1) (λ_ _=>rfl)) pa_nil)))
  (aK
  (bQ (i:=3) AK.nd rfl (Or.inl rfl) (gY wY (pv 1) aY))
  (aK
  (ZY PassesOwn.never (PW.pt (qJ (bZ wJ (pv 3) (cX eZ (by rfl) T.n_len PySem.boot_len (aJ (pv 0) pa_nil)) (nomark _)) (nV (bZ eQ (cJ D_group_of (hr.mono (by decide)) rfl (aJ (cZ jK (pv 0) (pv 3) (λ_ _=>rfl)) pa_nil)) (pv 2) (nomark _)))))
   (aQ
    (aOZ (i:=3) AK.nd rfl (Or.inl rfl) aY aPJ)))
  (aQ
  (aU (pv 3)))))),?_⟩
 dsimp only at hS hj q
 have hjl:=(List.getElem?_eq_some_iff.mp hj).1
 refine⟨_,rfl,_,rfl,_,_,_,_,rfl,rfl,hS,qY (j:=j) rfl (by rw[List.getElem?_map,hj];rfl),_,rfl,?_⟩
 refine⟨_,rfl,_,_,rfl,rfl,?_⟩
 have hL0:0<(runOf t j c).length:=by
  unfold runOf
  rw[nU hj,List.takeWhile_cons,if_pos (by simp)]
  simp
 have hL1:j+(runOf t j c).length<=t.length:=by
  rcases Nat.lt_or_ge (j+(runOf t j c).length) (t.length+1) with h | h
  ·omega
  ·exfalso
   obtain⟨y,hy,_⟩:=UY (t:=t) (j:=j) (c:=c) (k:=(runOf t j c).length - 1) (by omega)
   have:=(List.getElem?_eq_some_iff.mp hy).1
   omega
 refine atJ (λσ H'=>∃e:Nat,σ=[some (.ref a),some (.int (j:Int)),some (.str (gs (gi c))),some (.int (e:Int))]/\H'=H/\j<e/\e<=j+(runOf t j c).length) (λσ H'=>match σ with | [_,_,_,some (.int e)]=>(t.length - e.toNat) | _=>0) ⟨j+1,rfl,rfl,by omega,by omega⟩ ?_ ?_
 ·rintro σ H' ⟨e,rfl,rfl,h1,h2⟩
  refine⟨_,rfl,_,rfl,_,_,rfl,.inl hS,_,_,rfl,rfl,_,rfl,?_⟩
  rw[List.length_map]
  refine ite2 (λh=>?_) λh=>iteF ?_
  ·have hel:e<t.length:=by
    have:=of_decide_eq_true h
    omega
   have he:t[e]? = some t[e]:=List.getElem?_eq_getElem hel
   refine⟨_,rfl,_,rfl,_,_,_,_,rfl,rfl,hS,qY (j:=e) rfl (by rw[List.getElem?_map,he];rfl),_,rfl,_,rfl,rfl,_,rfl,?_⟩
   rw[bkJ (aMJ _) (aMJ _)]
   refine ite2 (λh3=>?_) λh3=>?_
   ·have h3:gi t[e]=gi c:=of_decide_eq_true h3
    have hlt:e<j+(runOf t j c).length:=by
     rcases Nat.lt_or_ge e (j+(runOf t j c).length) with z | z
     ·exact z
     ·have:e=j+(runOf t j c).length:=by omega
      exact absurd h3 (aXK (by rw[<-this];exact he))
    refine⟨_,rfl,_,_,rfl,rfl,⟨e+1,rfl,rfl,by omega,by omega⟩,?_⟩
    show t.length - ((e:Int)+1).toNat<t.length - (e:Int).toNat
    omega
   ·have h3:¬gi t[e]=gi c:=λz=>h3 (decide_eq_true z)
    have:e=j+(runOf t j c).length:=by
     rcases Nat.lt_or_ge e (j+(runOf t j c).length) with z | z
     ·obtain⟨y,hy,hg⟩:=UY (t:=t) (j:=j) (c:=c) (k:=e - j) (by omega)
      rw[show j+(e - j)=e by omega,he] at hy
      cases hy
      exact absurd hg h3
     ·omega
    subst this
    exact⟨_,rfl,q⟩
  ·have:e=j+(runOf t j c).length:=by
    have:¬(e:Int)<(t.length:Int):=λz=>h (decide_eq_true z)
    omega
   subst this
   exact⟨_,rfl,q⟩
 ·exact bgZ (akQ (asK DX (aYU (akK DX axY) aSQ) aYV)) (akQ (asK (bdJ (akK (asK DX DX bhJ) axY) aMK) DX bjZ))
abbrev HQ:Stmt:=top 41
theorem tK:FnScope ["run", "value", "byte"] ["run"] (defScope HQ):=mkSc
theorem axZ(F:Fun Z.K "number_of" "number_of" HQ f fd)(T:Tx Z Cc Ck Cf):OkZ Z 1 f fd ["run"] (spNumber Z.K):=by
 refine okS F tK λs H Q E hr h=>?_
 obtain⟨⟨a,r⟩,rfl,hS,q⟩:=h
 refine⟨_,(aK
  (bQ (i:=1) tK.nd rfl (Or.inl rfl) aY)
  (aK
  (fV PassesOwn.never rfl (dQ (pv 0)) (cK (i:=2) tK.nd rfl (Or.inl rfl))
   (aQ
    (bQ (i:=1) tK.nd rfl (Or.inl rfl) (gY acX (gY wY (gY atK (pv 1) aY) (pv 2)) aY))))
  (aQ
  (aU (pv 1))))),?_⟩
 dsimp only at hS q
 refine⟨_,rfl,a,rfl,⟨_,hS⟩,iK (K:=Z.K) (a:=a) (xs:=r.map V.int) (λi σ H'=>∃v:Option V,σ=[some (.ref a),some (.int (Vbnlal.valueOf (r.take i))),v]/\H'=H)
  ⟨none,rfl,rfl⟩ (λi σ H' _ ⟨_,_,e⟩=>by rw[e];exact hS) ?_ ?_⟩
 ·rintro i y σ H' hy ⟨v,rfl,rfl⟩
  obtain⟨c,hc,rfl⟩:=gmap hy
  refine⟨_,rfl,_,_,rfl,rfl,.inr ⟨by decide,by decide⟩,_,rfl,_,_,rfl,rfl,_,_,rfl,rfl,some (.int c),?_,rfl⟩
  rw[bU hc]
  unfold Vbnlal.valueOf
  rw[List.foldl_append]
  show [some (V.ref a),some (V.int _),some (V.int c)]=[some (V.ref a),some (V.int _),some (V.int c)]
  congr 4
  show _=10*_+(c - 48)
  omega
 ·rintro σ H' ⟨v,rfl,rfl⟩
  rw[List.length_map,List.take_length]
  exact⟨_,rfl,q⟩
abbrev DY:Stmt:=top 45
theorem arW:FnScope ["proposal"] ["proposal"] (defScope DY):=mkSc
theorem arX(F:Fun Z.K "numbers_of" "numbers_of" DY f fd)(T:Tx Z Cc Ck Cf):OkZ Z 1 f fd ["proposal"] (spNums):=by
 refine okS F arW λs H Q E hr h=>?_
 obtain⟨⟨t,e⟩,rfl,P,q⟩:=h
 have hu:=dY hr
 refine⟨_,(aK
  (bY (bZ wZ (cZ eY (pv 0) aY (λ_ _=>rfl)) (gQ (aJ (bK T.g_CONSERVE rfl) (aJ (bK T.g_FIX rfl) pa_nil))) rfl)
   (aQ
    (aU (bJ (aJ (cZ eY (pv 0) aY (λ_ _=>rfl)) (aJ (cZ eY (pv 0) aY (λ_ _=>rfl)) pa_nil)))))
   aZ)
  (aQ
  (aU (bJ (aJ (cZ eY (pv 0) aY (λ_ _=>rfl)) pa_nil))))),?_⟩
 dsimp only at P q
 have P':H t=some (.tup [.int e.kind,.int e.a,.int e.b]):=P
 unfold numsE at q
 refine⟨_,rfl,t,_,_,_,rfl,rfl,SqT.of P',rfl,l2,λu hu=>⟨u,_,rfl,.inr (SqT.of upd_same),rfl,rfl,_,rfl,ite2 (λh=>?_) λh=>?_⟩⟩
 ·rw[if_pos (by simp[inV,eqV] at h;omega)] at q
  have P2:=Same.new (o:=.tup [.int 3,.int 4]) hu _ _ P'
  exact⟨_,rfl,t,_,_,_,rfl,rfl,SqT.of P2,rfl,_,rfl,t,_,_,_,rfl,rfl,SqT.of P2,rfl,l2,q.now (Same.new hu) rfl⟩
 ·rw[if_neg (by simp[inV,eqV] at h;omega)] at q
  have P2:=Same.new (o:=.tup [.int 3,.int 4]) hu _ _ P'
  exact⟨_,rfl,t,_,_,_,rfl,rfl,SqT.of P2,rfl,l1,q.now (Same.new hu) rfl⟩
abbrev EZ:Stmt:=top 40
theorem NK:FnScope ["run", "byte"] ["run"] (defScope EZ):=mkSc
theorem aMV(F:Fun Z.K "word_of" "word_of" EZ f fd)(T:Tx Z Cc Ck Cf):OkZ Z 1 f fd ["run"] (spWord Z.K):=by
 refine okS F NK λs H Q E hr h=>?_
 obtain⟨⟨a,r⟩,rfl,hS,h300,hL,q⟩:=h
 refine⟨_,(aQ
  (aU (aiV pe_str (kU (own:=[("byte",1)]) rfl NK.nd (dQ (pv 0)) (eK (by show blkC ["run", "byte"] (defScope EZ) _ _=true;decide +kernel)) (λ_ _ _ _ _=>by exact cK (i:=1) NK.nd rfl (Or.inl rfl)) (λ_ _ _ _ _=>jQ) (λ_ _ _ _ _=>by exact(cZ bfV (bjY T.g_LETTERS rfl) (gY acX (gY bjK (pv 1) aY) aY) (λ_ _=>rfl))))))),?_⟩
 dsimp only at hS h300 hL q
 refine⟨⟨_,rfl⟩,_,rfl,a,rfl,⟨_,hS⟩,λD hD=>?_⟩
 refine lcl (K:=Z.K) (xs:=r.map V.int) (λi=>((r.take i).map λc=>(⟨#[(Vbnlal.small c).toNat]⟩:Str)).map V.str) hD hS rfl (λi _=>small1000 (by rw[List.length_map,List.length_map];have:=fK i r;omega)) ?_ ?_
 ·intro i y H2 hy s2 k' nx h1 h2
  obtain⟨c,hc,rfl⟩:=gmap hy
  obtain⟨e1,e2⟩:=aSU (hL c (List.mem_of_getElem? hc))
  refine⟨rfl,_,rfl,_,_,rfl,rfl,_,_,rfl,rfl,_,_,_,rfl,rfl,(by decide +kernel),(by show atI (tl ("abcdefghijklmnopqrstuvwxyz" : Str)) (Builtin.bitOr c 32 - 97)=_;rw[e1];exact e2),h1 _ _ (Same.refl _) ?_⟩
  rw[bU hc,List.map_append,List.map_append]
  rfl
 ·intro H2 s2 hD2
  rw[List.length_map,List.take_length] at hD2
  refine⟨_,_,_,rfl,rfl,.inl (SqL.of hD2),?_,?_⟩
  ·have e:((r.map λc=>(⟨#[(Vbnlal.small c).toNat]⟩:Str)).map (·.length)).sum=r.length:=by
    rw[List.map_map]
    clear hS q hL h300 hD2
    induction r with
    |nil=>rfl
    |cons c r ih=>
     rw[List.map_cons,List.sum_cons,ih]
     show 1+r.length=r.length+1
     omega
   rw[e,List.length_map]
   show r.length+r.length*0<=16777216
   omega
  ·have e:Txt.join "" (r.map λc=>(⟨#[(Vbnlal.small c).toNat]⟩:Str))=strOf (r.map Vbnlal.small):=by
    rw[aiU]
    refine akU ?_
    rw[AU,show tl ("" : Str)=[] by decide +kernel,joinL_nil,List.map_map]
    show _=((r.map Vbnlal.small).map Int.toNat)
    clear hS q hL h300 hD2
    induction r with
    |nil=>rfl
    |cons c r ih=>
     rw[List.map_cons,List.flatten_cons,ih]
     rfl
   rw[e]
   exact q _ s2
end
def fmS(k:Nat):List Str:=(fm k).map strOf
theorem aYW:fmS 0=[("restore" : Str), "#"]:=by decide +kernel
theorem aYX:fmS 1=[("suppress" : Str), "#"]:=by decide +kernel
theorem aYY:fmS 2=[("suppress" : Str), "#", "wholly"]:=by decide +kernel
theorem aYZ:fmS 3=[("conserve" : Str), "#", "over", "#"]:=by decide +kernel
theorem aZJ:fmS 4=[("ty" : Str) ++ "pe", "#", "is", "#"]:=by decide +kernel
theorem aZK:fmS 5=[("reject" : Str), "work", "#"]:=by decide +kernel
theorem aZQ:fmS 6=[("annul" : Str), "#"]:=by decide +kernel
theorem l7{a b c d e f g:V}:[a,b,c,d,e,f,g].length<=sizeLine:=by show 7<=sizeLine;decide
def spForms:Sp:=mkSp (λ_:Unit=>[]) λ_ H Q=>∀(H':Hp)(p:Addr)(qs:List Addr),Same H H'->H p=none->H' p=some (.lst (qs.map V.ref))->qs.length=7->(∀(i:Nat) q,qs[i]? = some q->H' q=some (.lst ((fmS i).map V.str)))->Q (.ref p) H'
def pieceV:Token->V
 |.word w=>.str (strOf w)
 |.num n=>.int n
 |.semi=>.non
def PartsAt(H:Hp)(p:Addr)(cs:List (List Token)):Prop:=∃qs:List Addr,H p=some (.lst (qs.map V.ref))/\qs.length=cs.length/\∀(i:Nat) q c,qs[i]? = some q->cs[i]? = some c->H q=some (.lst (c.map pieceV))
def spParts(K:PySem.W.Frag):Sp:=mkSp (λp:Addr×List Int=>[.ref p.1]) λp H Q=>SqL K H p.1 (p.2.map V.int)/\p.2.length<=300/\∀H',Same H H'->(tok p.2=none->Q .non H')/\∀ts b,tok p.2=some ts->H b=none->PartsAt H' b (Vbnlal.clauses ts)->Q (.ref b) H'
structure PInv(H0 H:Hp)(p:Addr)(dn:List (List Token))(cur:List Token)(qd:List Addr)(ql:Addr):Prop where
 lst:H p=some (.lst ((qd++[ql]).map V.ref))
 len:qd.length=dn.length
 old:∀(i:Nat) q c,qd[i]? = some q->dn[i]? = some c->H q=some (.lst (c.map pieceV))
 new:H ql=some (.lst (cur.map pieceV))
 n1:ql∉qd
 n2:p≠ql
 n3:p∉qd
 f1:H0 p=none
 f2:H0 ql=none
 sm:Same H0 H
theorem PInv.same{H0 H H':Hp}{p:Addr}{dn:List (List Token)}{cur:List Token}{qd:List Addr}{ql:Addr}(P:PInv H0 H p dn cur qd ql)(s:Same H H'):PInv H0 H' p dn cur qd ql:=
 ⟨s _ _ P.lst,P.len,λi q c a b=>s _ _ (P.old i q c a b),s _ _ P.new,P.n1,P.n2,P.n3,P.f1,P.f2,P.sm.trans s⟩
theorem PInv.add{H0 H:Hp}{p:Addr}{dn:List (List Token)}{cur:List Token}{qd:List Addr}{ql:Addr}(P:PInv H0 H p dn cur qd ql)(t:Token):PInv H0 (upd H ql (.lst (cur.map pieceV++[pieceV t]))) p dn (cur++[t]) qd ql:=by
 refine⟨by rw[aV P.n2];exact P.lst,P.len,λi q c a b=>?_,by rw[upd_same,List.map_append];rfl,P.n1,P.n2,P.n3,P.f1,P.f2,P.sm.upd P.f2⟩
 rw[aV (λe:q=ql=>P.n1 (by rw[<-e];exact List.mem_of_getElem? a))]
 exact P.old i q c a b
theorem PInv.semi{H0 H:Hp}{p r:Addr}{dn:List (List Token)}{cur:List Token}{qd:List Addr}{ql:Addr}(P:PInv H0 H p dn cur qd ql)(hr:H r=none):PInv H0 (upd (upd H r (.lst [])) p (.lst ((qd++[ql]).map V.ref++[.ref r]))) p (dn++[cur]) [] (qd++[ql]) r:=by
 have s1:Same H (upd H r (.lst [])):=Same.new hr
 have npr:p≠r:=aX P.lst hr
 refine⟨by rw[upd_same,List.map_append (l₁:=qd++[ql])];rfl,by rw[List.length_append,List.length_append,P.len];rfl,λi q c a b=>?_,by rw[aV npr.symm,upd_same];rfl,?_,npr,?_,P.f1,P.sm.free hr,(P.sm.trans s1).upd P.f1⟩
 ·have w:H q=some (.lst (c.map pieceV))/\q≠p:=by
   by_cases hi:i<qd.length
   ·rw[List.getElem?_append_left hi] at a
    rw[List.getElem?_append_left (by rw[<-P.len];exact hi)] at b
    exact⟨P.old i q c a b,λe=>P.n3 (by rw[<-e];exact List.mem_of_getElem? a)⟩
   ·have hi2:i=qd.length:=by
     have:=(List.getElem?_eq_some_iff.mp a).1
     rw[List.length_append,List.length_singleton] at this
     omega
    subst hi2
    rw[List.getElem?_append_right (Nat.le_refl _),Nat.sub_self] at a
    rw[P.len,List.getElem?_append_right (Nat.le_refl _),Nat.sub_self] at b
    cases a
    cases b
    exact⟨P.new,P.n2.symm⟩
  rw[aV w.2]
  exact s1 _ _ w.1
 ·intro h
  rcases List.mem_append.mp h with h | h
  ·obtain⟨i,hi⟩:=List.mem_iff_getElem?.mp h
   have hl:=(List.getElem?_eq_some_iff.mp hi).1
   have hl2:i<dn.length:=by rw[<-P.len];exact hl
   have:=P.old i r dn[i] hi (List.getElem?_eq_getElem hl2)
   rw[hr] at this
   cases this
  ·have e:r=ql:=by simpa using h
   rw[e,P.new] at hr
   cases hr
 ·intro h
  rcases List.mem_append.mp h with h | h
  ·exact P.n3 h
  ·exact P.n2 (by simpa using h)
theorem PInv.parts{H0 H:Hp}{p:Addr}{dn:List (List Token)}{cur:List Token}{qd:List Addr}{ql:Addr}(P:PInv H0 H p dn cur qd ql):PartsAt H p (dn++[cur]):=by
 refine⟨qd++[ql],P.lst,by rw[List.length_append,List.length_append,P.len];rfl,λi q c a b=>?_⟩
 by_cases hi:i<qd.length
 ·rw[List.getElem?_append_left hi] at a
  rw[List.getElem?_append_left (by rw[<-P.len];exact hi)] at b
  exact P.old i q c a b
 ·have hi2:i=qd.length:=by
   have:=(List.getElem?_eq_some_iff.mp a).1
   rw[List.length_append,List.length_singleton] at this
   omega
  subst hi2
  rw[List.getElem?_append_right (Nat.le_refl _),Nat.sub_self] at a
  rw[P.len,List.getElem?_append_right (Nat.le_refl _),Nat.sub_self] at b
  cases a
  cases b
  exact P.new
theorem aGX{l:List V}{x:V}:atI (l++[x]) (-1)=some x:=by
 unfold atI ixN
 rw[if_neg (by decide),if_pos (by rw[List.length_append,List.length_singleton];omega)]
 show(l++[x])[(-1+((l++[x]).length:Int)).toNat]? = _
 rw[List.length_append,List.length_singleton,show(-1+((l.length+1:Nat):Int)).toNat=l.length by omega]
 simp
theorem UZ{c:Int}:(gi c==2)=Vbnlal.isLetter c:=by
 rw[Bool.eq_iff_iff,beq_iff_eq]
 unfold gi
 constructor
 ·intro h
  split at h
  ·omega
  ·split at h
   ·omega
   ·split at h
    ·assumption
    ·split at h <;> omega
 ·intro h
  have h1:¬c=32:=λe=>by rw[e] at h;revert h;decide
  have h2:¬c=59:=λe=>by rw[e] at h;revert h;decide
  rw[if_neg h1,if_neg h2,if_pos h]
theorem ayJ{c:Int}:(gi c==3)=Vbnlal.isDigit c:=by
 rw[Bool.eq_iff_iff,beq_iff_eq]
 unfold gi
 constructor
 ·intro h
  split at h
  ·omega
  ·split at h
   ·omega
   ·split at h
    ·omega
    ·split at h
     ·assumption
     ·omega
 ·intro h
  have h1:¬c=32:=λe=>by rw[e] at h;revert h;decide
  have h2:¬c=59:=λe=>by rw[e] at h;revert h;decide
  have h3:¬Vbnlal.isLetter c=true:=by
   unfold Vbnlal.isDigit Vbnlal.within at h
   unfold Vbnlal.isLetter Vbnlal.within
   simp at h ⊢
   omega
  rw[if_neg h1,if_neg h2,if_neg h3,if_pos h]
theorem ayK{t:List Int}{j:Nat}{c:Int}(h:gi c=2):runOf t j c=(t.drop j).takeWhile Vbnlal.isLetter:=by
 unfold runOf
 congr 1
 funext x
 rw[h,UZ]
theorem bdK{t:List Int}{j:Nat}{c:Int}(h:gi c=3):runOf t j c=(t.drop j).takeWhile Vbnlal.isDigit:=by
 unfold runOf
 congr 1
 funext x
 rw[h,ayJ]
theorem aGY(xs:List Int)(j k:Nat)(h:j+k<=xs.length):cutV (xs.map V.int) (some (j:Int)) (some ((j+k:Nat):Int))=((xs.drop j).take k).map V.int:=by
 unfold cutV
 rw[HT.TW,HT.TW,List.length_map,Nat.min_eq_left (show j<=xs.length by omega),Nat.min_eq_left h,Nat.add_sub_cancel_left,<-List.map_drop,<-List.map_take]
section
variable{Z:Wd}{Cc Ck Cf f:Addr}{fd:FuncData}
end
structure QE(X:Cx)(e:Expr)(t:TE):Prop where
 h:PE X e t
structure QA(X:Cx)(es:List Expr)(t:TA):Prop where
 h:PA X es t
structure QS(X:Cx)(st:Stmt)(t:TS):Prop where
 h:PS X st t
structure QSs(X:Cx)(st:List Stmt)(t:TS):Prop where
 h:PSs X st t
theorem bkK{X:Cx}{e:Expr}{t:TE}(h:PE X e t):QE X e t:=⟨h⟩
theorem gZ{X:Cx}{x:Str}{j:Nat}{pos:Pos}:QE X (.Constant (.str x) j pos) (tC (.str x)):=⟨pe_str⟩
theorem xU{X:Cx}:QA X [] tNil:=⟨pa_nil⟩
theorem dU{X:Cx}{e:Expr}{es:List Expr}{te:TE}{t:TA}(h1:QE X e te)(h2:QA X es t)(hs:starEach (e::es) X.env=(false,eval e X.env)::starEach es X.env):QA X (e::es) (tCons te t):=⟨aJ h1.h h2.h hs⟩
theorem xV{X:Cx}{es:List Expr}{t:TA}{pos:Pos}(h:QA X es t):QE X (.List es pos) (tLst t):=⟨bJ h.h⟩
theorem bkQ{X:Cx}{st:Stmt}{t:TS}(h:PS X st t):QS X st t:=⟨h⟩
theorem bhQ{X:Cx}{e:Expr}{t:TE}{pos:Pos}(h:QE X e t):QS X (.Return (some e) pos) (tRet t):=⟨aU h.h⟩
theorem bdQ{X:Cx}{st:Stmt}{t:TS}(h:QS X st t):QSs X [st] t:=⟨aQ h.h⟩
theorem aXQ{X:Cx}{st:Stmt}{rest:List Stmt}{t u:TS}(h1:QS X st t)(h2:QSs X rest u):QSs X (st::rest) (tSeq t u):=⟨aK h1.h h2.h⟩
theorem okQ{P:Program}{w:World}{K:PySem.W.Frag}{mg:Str->Option Value}{base:Heap}{x qual:Str}{st:Stmt}{f:Addr}{fd:FuncData}{N ps:List Str}{k:Nat}{sp:Sp}(F:Fun K x qual st f fd)(S:FnScope N ps (defScope st))(len:∀vs H Q E,sp vs H Q E->vs.length=ps.length)
  (hb:∀(cdv:Value)(A:Around)(outer:List Env)(s:Shared)(H:Hp)(vs:List V)(Q:VK)(E:XK),Room k (A.deeper (envOfC qual (defScope st) s.heap.objs.size f cdv))->sp vs H Q E->
   ∃t,QSs (cxOf CX0 P w K mg base N qual (defScope st) f cdv A outer s H E).nox (defBody st) t/\t { nx:=λ_ H'=>Q .non H',rt:=Q } (L2.start N vs) H):FnOk P w K mg base CX0 (k+1) f fd ps sp:=
 F.ok S len λcdv A outer s H vs Q E hr h=>by
  obtain⟨t,⟨h1⟩,h2⟩:=hb cdv A outer s H vs Q E hr h
  exact⟨t,h1,h2⟩
section
variable{Z:Wd}{Cc Ck Cf f:Addr}{fd:FuncData}
abbrev akV:Stmt:=top 37
theorem ayQ:FnScope ["fix"] [] (defScope akV):=mkSc
theorem aXU(F:Fun Z.K "forms" "forms" akV f fd)(T:Tx Z Cc Ck Cf):OkZ Z 1 f fd [] (spForms):=by
 refine okQ F ayQ (λvs H Q E h=>?_) (λcdv A outer s H vs Q E hr h=>?_)
 ·obtain⟨a,rfl,_⟩:=h
  rfl
 ·obtain⟨u,rfl,q⟩:=h
  refine⟨_,(aXQ
   (bkQ (bQ (i:=0) ayQ.nd rfl (Or.inl rfl) (gY aIY pe_str pe_str)))
   (bdQ
   (bhQ (xV (dU (xV (dU gZ (dU gZ xU dJ) dJ)) (dU (xV (dU gZ (dU gZ xU dJ) dJ)) (dU (xV (dU gZ (dU gZ (dU gZ xU dJ) dJ) dJ)) (dU (xV (dU gZ (dU gZ (dU gZ (dU gZ xU dJ) dJ) dJ) dJ)) (dU (xV (dU (bkK (pv 0)) (dU gZ (dU gZ (dU gZ xU dJ) dJ) dJ) sJ)) (dU (xV (dU gZ (dU gZ (dU gZ xU dJ) dJ) dJ)) (dU (xV (dU gZ (dU gZ xU dJ) dJ)) xU hJ) hJ) hJ) hJ) hJ) hJ) hJ))))),?_⟩
  refine⟨_,_,rfl,rfl,(by decide +kernel),?_⟩
  refine⟨l2,λq0 h0=>⟨l2,λq1 h1=>⟨l3,λq2 h2=>⟨l4,λq3 h3=>⟨_,rfl,l4,λq4 h4=>⟨l3,λq5 h5=>⟨l2,λq6 h6=>⟨l7,λp hp=>?_⟩⟩⟩⟩⟩⟩⟩⟩
  have s0:=Same.new (o:=.lst [.str "restore",.str "#"]) h0
  have s1:=Same.new (o:=.lst [.str "suppress",.str "#"]) h1
  have s2:=Same.new (o:=.lst [.str "suppress",.str "#",.str "wholly"]) h2
  have s3:=Same.new (o:=.lst [.str "conserve",.str "#",.str "over",.str "#"]) h3
  have s4:=Same.new (o:=.lst [.str (("ty" : Str) ++ "pe"),.str "#",.str "is",.str "#"]) h4
  have s5:=Same.new (o:=.lst [.str "reject",.str "work",.str "#"]) h5
  have s6:=Same.new (o:=.lst [.str "annul",.str "#"]) h6
  have s7:=Same.new (o:=.lst [.ref q0,.ref q1,.ref q2,.ref q3,.ref q4,.ref q5,.ref q6]) hp
  have t6:=s6.trans s7
  have t5:=s5.trans t6
  have t4:=s4.trans t5
  have t3:=s3.trans t4
  have t2:=s2.trans t3
  have t1:=s1.trans t2
  have t0:=s0.trans t1
  refine q _ p [q0,q1,q2,q3,q4,q5,q6] t0 (aW (aW (aW (aW (aW (aW (aW hp))))))) upd_same rfl λi r hr=>?_
  match i,hr with
  |0,hr=>cases hr;rw[aYW];exact t1 _ _ upd_same
  |1,hr=>cases hr;rw[aYX];exact t2 _ _ upd_same
  |2,hr=>cases hr;rw[aYY];exact t3 _ _ upd_same
  |3,hr=>cases hr;rw[aYZ];exact t4 _ _ upd_same
  |4,hr=>cases hr;rw[aZJ];exact t5 _ _ upd_same
  |5,hr=>cases hr;rw[aZK];exact t6 _ _ upd_same
  |6,hr=>cases hr;rw[aZQ];exact s7 _ _ upd_same
  |i+7,hr=>simp at hr
end
theorem bhU{t:List Int}{i:Nat}{c:Int}(h:t[i]? = some c):tok (t.drop i)=if c=32 then tok (t.drop (i+1)) else if c=59 then(tok (t.drop (i+1))).map λl=>.semi::l
  else if Vbnlal.isLetter c=true then(tok (t.drop (i+((t.drop i).takeWhile Vbnlal.isLetter).length))).map λl=>.word (((t.drop i).takeWhile Vbnlal.isLetter).map Vbnlal.small)::l
  else if Vbnlal.isDigit c=true then(tok (t.drop (i+((t.drop i).takeWhile Vbnlal.isDigit).length))).map λl=>.num (Vbnlal.valueOf ((t.drop i).takeWhile Vbnlal.isDigit))::l
  else none:=by
 have e:=nU h
 have dd:∀n,t.drop (i+n)=(t.drop i).drop n:=λn=>by rw[List.drop_drop]
 rw[dd ((t.drop i).takeWhile Vbnlal.isLetter).length,dd ((t.drop i).takeWhile Vbnlal.isDigit).length,drop_run,drop_run,e,YQ]
structure LInv(t:List Int)(i:Nat)(dn:List (List Token))(cur:List Token):Prop where
 eq:(tok t).map Vbnlal.clauses=(tok (t.drop i)).map λts=>glue dn cur (Vbnlal.clauses ts)
 len:dn.length+cur.length<=i
 le:i<=t.length
theorem LInv.next{t:List Int}{i:Nat}{dn:List (List Token)}{cur:List Token}(L:LInv t i dn cur){c:Int}(h:t[i]? = some c) :
  (gi c=0->LInv t (i+1) dn cur)/\(gi c=1->LInv t (i+1) (dn++[cur]) [])/\
  (gi c=2->LInv t (i+(runOf t i c).length) dn (cur++[.word ((runOf t i c).map Vbnlal.small)]))/\(gi c=3->LInv t (i+(runOf t i c).length) dn (cur++[.num (Vbnlal.valueOf (runOf t i c))]))/\(gi c=4->tok t=none):=by
 have hl:=(List.getElem?_eq_some_iff.mp h).1
 have e:=L.eq
 rw[bhU h] at e
 have rl:∀k,gi c=k->0<(runOf t i c).length/\i+(runOf t i c).length<=t.length:=λk _=>by
  constructor
  ·unfold runOf
   rw[nU h,List.takeWhile_cons,if_pos (by simp)]
   simp
  ·rcases Nat.lt_or_ge (i+(runOf t i c).length) (t.length+1) with z | z
   ·omega
   ·exfalso
    obtain⟨y,hy,_⟩:=UY (t:=t) (j:=i) (c:=c) (k:=(runOf t i c).length - 1) (by omega)
    have:=(List.getElem?_eq_some_iff.mp hy).1
    omega
 have llen:=L.len
 refine⟨λg=>?_,λg=>?_,λg=>?_,λg=>?_,λg=>?_⟩
 ·have hc:c=32:=by
   unfold gi at g
   by_cases z:c=32
   ·exact z
   ·rw[if_neg z] at g
    repeat' split at g
    all_goals omega
  rw[if_pos hc] at e
  exact⟨e,by omega,by omega⟩
 ·have h1:¬c=32:=λz=>by rw[z] at g;revert g;decide
  have hc:c=59:=by
   unfold gi at g
   rw[if_neg h1] at g
   by_cases z:c=59
   ·exact z
   ·rw[if_neg z] at g
    repeat' split at g
    all_goals omega
  rw[if_neg h1,if_pos hc] at e
  refine⟨?_,by rw[List.length_append];simp;omega,by omega⟩
  rw[e]
  cases tok (t.drop (i+1)) with
  |none=>rfl
  |some ts=>
   exact congrArg some (aNU dn cur ts)
 ·have h1:¬c=32:=λz=>by rw[z] at g;revert g;decide
  have h2:¬c=59:=λz=>by rw[z] at g;revert g;decide
  have h3:Vbnlal.isLetter c=true:=by rw[<-UZ,g];rfl
  rw[if_neg h1,if_neg h2,if_pos h3] at e
  obtain⟨r1,r2⟩:=rl _ rfl
  rw[ayK g] at r1 r2 ⊢
  refine⟨?_,by rw[List.length_append];simp;omega,r2⟩
  rw[e]
  cases tok (t.drop (i+((t.drop i).takeWhile Vbnlal.isLetter).length)) with
  |none=>rfl
  |some ts=>
   exact congrArg some (asQ dn cur (.word _) ts (λq=>nomatch q))
 ·have h1:¬c=32:=λz=>by rw[z] at g;revert g;decide
  have h2:¬c=59:=λz=>by rw[z] at g;revert g;decide
  have h3:¬Vbnlal.isLetter c=true:=by rw[<-UZ,g];decide
  have h4:Vbnlal.isDigit c=true:=by rw[<-ayJ,g];rfl
  rw[if_neg h1,if_neg h2,if_neg h3,if_pos h4] at e
  obtain⟨r1,r2⟩:=rl _ rfl
  rw[bdK g] at r1 r2 ⊢
  refine⟨?_,by rw[List.length_append];simp;omega,r2⟩
  rw[e]
  cases tok (t.drop (i+((t.drop i).takeWhile Vbnlal.isDigit).length)) with
  |none=>rfl
  |some ts=>
   exact congrArg some (asQ dn cur (.num _) ts (λq=>nomatch q))
 ·have h1:¬c=32:=λz=>by rw[z] at g;revert g;decide
  have h2:¬c=59:=λz=>by rw[z] at g;revert g;decide
  have h3:¬Vbnlal.isLetter c=true:=by rw[<-UZ,g];decide
  have h4:¬Vbnlal.isDigit c=true:=by rw[<-ayJ,g];decide
  rw[if_neg h1,if_neg h2,if_neg h3,if_neg h4] at e
  cases z:tok t with
  |none=>rfl
  |some ts=>rw[z] at e;cases e
theorem aGZ{t:List Int}{i:Nat}{c:Int}:(t.drop i).take (runOf t i c).length=runOf t i c:=by
 unfold runOf
 exact asU _ _
theorem aSV{t:List Int}{i:Nat}{c:Int}(h:t[i]? = some c):0<(runOf t i c).length/\i+(runOf t i c).length<=t.length:=by
 constructor
 ·unfold runOf
  rw[nU h,List.takeWhile_cons,if_pos (by simp)]
  simp
 ·have hl:=(List.getElem?_eq_some_iff.mp h).1
  rcases Nat.lt_or_ge (i+(runOf t i c).length) (t.length+1) with z | z
  ·omega
  ·exfalso
   obtain⟨y,hy,_⟩:=UY (t:=t) (j:=i) (c:=c) (k:=(runOf t i c).length - 1) (by omega)
   have:=(List.getElem?_eq_some_iff.mp hy).1
   omega
section
variable{Z:Wd}{Cc Ck Cf f:Addr}{fd:FuncData}
abbrev NQ:Stmt:=top 42
theorem jJ:FnScope ["text", "parts", "place", "group", "end"] ["text"] (defScope NQ):=mkSc
theorem aEZ(F:Fun Z.K "parts_of" "parts_of" NQ f fd)(T:Tx Z Cc Ck Cf)(D_group_of:DefOk Z 1 "group_of" ["byte"] (spGroup))(D_run_end:DefOk Z 2 "run_end" ["text", "start"] (spRunEnd Z.K))(D_word_of:DefOk Z 1 "word_of" ["run"] (spWord Z.K))(D_number_of:DefOk Z 1 "number_of" ["run"] (spNumber Z.K)):OkZ Z 3 f fd ["text"] (spParts Z.K):=by
 refine okS F jJ λs H Q E hr h=>?_
 obtain⟨⟨a,t⟩,rfl,hS,h300,q⟩:=h
 refine⟨_,(aK
  (bQ (i:=1) jJ.nd rfl (Or.inl rfl) (bJ (aJ (bJ pa_nil) pa_nil hJ)))
  (aK
  (bQ (i:=2) jJ.nd rfl (Or.inl rfl) aY)
  (aK
  (ZY PassesOwn.never (bZ wJ (pv 2) (cX eZ (by rfl) T.n_len PySem.boot_len (aJ (pv 0) pa_nil)) (nomark _))
   (aK
    (bQ (i:=3) jJ.nd rfl (Or.inl rfl) (cJ D_group_of (hr.mono (by decide)) rfl (aJ (cZ jK (pv 0) (pv 2) (λ_ _=>rfl)) pa_nil)))
    (aK
    (bQ (i:=4) jJ.nd rfl (Or.inl rfl) (gY wY (pv 2) aY))
    (aK
    (bY (bZ eQ (pv 3) pe_str (nomark _))
     (aQ
      (aU wX))
     aZ)
    (aK
    (bY (bZ eQ (pv 3) pe_str (nomark _))
     (aQ
      (gJ (mW PySem.F.plainAttrs_list PySem.F.slot_list_append PySem.F.type_list_append mK (pv 1) (aJ (bJ pa_nil) pa_nil hJ))))
     (aQ
      (bY (bZ eQ (pv 3) pe_str (nomark _))
       (aK
        (bQ (i:=4) jJ.nd rfl (Or.inl rfl) (cJ D_run_end (hr.mono (by decide)) rfl (aJ (pv 0) (aJ (pv 2) pa_nil))))
        (aQ
        (gJ (mW PySem.F.plainAttrs_list PySem.F.slot_list_append PySem.F.type_list_append mK (cZ jK (pv 1) (aIX atQ aY) (λ_ _=>rfl)) (aJ (cJ D_word_of (hr.mono (by decide)) rfl (aJ (KZ TX (pv 0) (uJ (pv 2)) (uJ (pv 4))) pa_nil)) pa_nil)))))
       (aQ
        (bY (bZ eQ (pv 3) pe_str (nomark _))
         (aK
          (bQ (i:=4) jJ.nd rfl (Or.inl rfl) (cJ D_run_end (hr.mono (by decide)) rfl (aJ (pv 0) (aJ (pv 2) pa_nil))))
          (aQ
          (gJ (mW PySem.F.plainAttrs_list PySem.F.slot_list_append PySem.F.type_list_append mK (cZ jK (pv 1) (aIX atQ aY) (λ_ _=>rfl)) (aJ (cJ D_number_of (hr.mono (by decide)) rfl (aJ (KZ TX (pv 0) (uJ (pv 2)) (uJ (pv 4))) pa_nil)) pa_nil)))))
         aZ)))))
    (aQ
    (bQ (i:=2) jJ.nd rfl (Or.inl rfl) (pv 4))))))))
  (aQ
  (aU (pv 1)))))),?_⟩
 dsimp only at hS h300 q
 refine⟨by decide,λq0 h0=>⟨l1,λp hp=>?_⟩⟩
 have s0:Same H (upd H q0 (.lst [])):=Same.new h0
 have npq:p≠q0:=(aX (upd_same (H:=H) (a:=q0) (o:=.lst [])) hp).symm
 have P0:PInv H (upd (upd H q0 (.lst [])) p (.lst [.ref q0])) p [] [] [] q0:=⟨upd_same,rfl,λi q c h=>by simp at h,by rw[aV npq.symm,upd_same];rfl,by simp,npq,by simp,aW hp,h0,s0.upd (aW hp)⟩
 have L00:(tok t).map Vbnlal.clauses=(tok (t.drop 0)).map λts=>glue [] [] (Vbnlal.clauses ts):=by
  rw[List.drop_zero]
  cases tok t with
  |none=>rfl
  |some ts=>exact congrArg some (aHW ts).symm
 have L0:LInv t 0 [] []:=⟨L00,Nat.zero_le _,Nat.zero_le _⟩
 refine atJ (λσ H'=>∃(i:Nat)(v3 v4:Option V)(dn:List (List Token))(cur:List Token)(qd:List Addr)(ql:Addr),σ=[some (.ref a),some (.ref p),some (.int (i:Int)),v3,v4]/\LInv t i dn cur/\PInv H H' p dn cur qd ql) (λσ H'=>match σ with | [_,_,some (.int e),_,_]=>(t.length - e.toNat) | _=>0) ⟨0,none,none,[],[],[],q0,rfl,L0,P0⟩ ?_ ?_
 ·rintro σ H' ⟨i,v3,v4,dn,cur,qd,ql,rfl,L,P⟩
  refine⟨_,rfl,_,rfl,_,_,rfl,.inl (P.sm.seq hS),_,_,rfl,rfl,_,rfl,?_⟩
  rw[List.length_map]
  refine ite2 (λh=>?_) λh=>?_
  rotate_left
  ·have he:i=t.length:=by
    have:=L.le
    have:¬(i:Int)<(t.length:Int):=λz=>h (decide_eq_true z)
    omega
   subst he
   have e:=L.eq
   rw[List.drop_length,ahW] at e
   refine⟨_,rfl,?_⟩
   cases z:tok t with
   |none=>rw[z] at e;cases e
   |some ts=>
    rw[z] at e
    have e2:Vbnlal.clauses ts=dn++[cur]:=by
     exact(Option.some.inj e).trans (aTQ dn cur)
    exact(q H' P.sm).2 ts p z P.f1 (by rw[e2];exact P.parts)
  have hil:i<t.length:=by
   have:=of_decide_eq_true h
   omega
  obtain⟨c,hc⟩:∃c,t[i]? = some c:=⟨t[i],List.getElem?_eq_getElem hil⟩
  have hat:atI (t.map V.int) (i:Int)=some (.int c):=qY (j:=i) rfl (by rw[List.getElem?_map,hc];rfl)
  have NX:=L.next hc
  have llen:=L.len
  have plen:=P.len
  refine⟨_,rfl,_,rfl,_,_,_,_,rfl,rfl,P.sm.seq hS,hat,_,rfl,?_⟩
  refine⟨_,rfl,_,_,rfl,rfl,?_⟩
  have hg:=aMJ c
  generalize hk:gi c=k at hg NX
  match k,hg with
  |4,_=>
   refine⟨_,rfl,rfl,_,rfl,ifY (by decide +kernel) ?_⟩
   exact(q H' P.sm).1 (NX.2.2.2.2 rfl)
  |0,_=>
   refine⟨_,rfl,rfl,_,rfl,ifN (by decide +kernel) ?_⟩
   refine⟨_,rfl,rfl,_,rfl,ifN (by decide +kernel) ?_⟩
   refine⟨_,rfl,rfl,_,rfl,ifN (by decide +kernel) ?_⟩
   refine⟨_,rfl,rfl,_,rfl,ifN (by decide +kernel) ?_⟩
   refine⟨_,rfl,⟨i+1,_,_,dn,cur,qd,ql,rfl,NX.1 rfl,P⟩,?_⟩
   show t.length - ((i:Int)+1).toNat<t.length - (i:Int).toNat
   omega
  |1,_=>
   refine⟨_,rfl,rfl,_,rfl,ifN (by decide +kernel) ?_⟩
   refine⟨_,rfl,rfl,_,rfl,ifY (by decide +kernel) ?_⟩
   refine⟨_,rfl,.inl ⟨rfl,_,SqL.of P.lst⟩,by decide,λr hr=>?_⟩
   refine⟨p,_,_,rfl,rfl,Same.new hr _ _ P.lst,small1000 (by rw[List.length_map,List.length_append];simp;omega),?_⟩
   refine⟨_,rfl,⟨i+1,_,_,dn++[cur],[],qd++[ql],r,rfl,NX.2.1 rfl,P.semi hr⟩,?_⟩
   show t.length - ((i:Int)+1).toNat<t.length - (i:Int).toNat
   omega
  |2,_=>
   obtain⟨r1,r2⟩:=aSV hc
   refine⟨_,rfl,rfl,_,rfl,ifN (by decide +kernel) ?_⟩
   refine⟨_,rfl,rfl,_,rfl,ifN (by decide +kernel) ?_⟩
   refine⟨_,rfl,rfl,_,rfl,ifY (by decide +kernel) ?_⟩
   refine⟨_,rfl,_,rfl,⟨a,t,i,c⟩,rfl,P.sm.seq hS,hc,?_⟩
   refine⟨_,rfl,_,rfl,p,_,_,.ref ql,rfl,rfl,SqL.of P.lst,(by rw[List.map_append];exact aGX),.inl ⟨rfl,_,SqL.of P.new⟩,?_⟩
   refine⟨_,rfl,_,rfl,_,rfl,_,rfl,_,rfl,a,_,rfl,P.sm.seq hS,λb hb=>?_⟩
   have s5:=Same.new (o:=.lst (cutV (t.map V.int) (some (i:Int)) (some ((i+(runOf t i c).length:Nat):Int)))) hb
   refine⟨⟨b,runOf t i c⟩,rfl,SqL.of (by rw[upd_same,aGY t i _ r2,aGZ]),(by show(runOf t i c).length<=300;omega),λx hx=>?_,λH6 s6=>?_⟩
   ·rw[ayK hk] at hx
    exact kQ hx
   have P6:=P.same (s5.trans s6)
   refine⟨ql,_,_,rfl,rfl,P6.new,small1000 (by rw[List.length_map];omega),?_⟩
   refine⟨_,rfl,⟨i+(runOf t i c).length,_,_,dn,_,qd,ql,rfl,NX.2.2.1 rfl,P6.add (.word ((runOf t i c).map Vbnlal.small))⟩,?_⟩
   show t.length - ((i+(runOf t i c).length:Nat):Int).toNat<t.length - (i:Int).toNat
   omega
  |3,_=>
   obtain⟨r1,r2⟩:=aSV hc
   refine⟨_,rfl,rfl,_,rfl,ifN (by decide +kernel) ?_⟩
   refine⟨_,rfl,rfl,_,rfl,ifN (by decide +kernel) ?_⟩
   refine⟨_,rfl,rfl,_,rfl,ifN (by decide +kernel) ?_⟩
   refine⟨_,rfl,rfl,_,rfl,ifY (by decide +kernel) ?_⟩
   refine⟨_,rfl,_,rfl,⟨a,t,i,c⟩,rfl,P.sm.seq hS,hc,?_⟩
   refine⟨_,rfl,_,rfl,p,_,_,.ref ql,rfl,rfl,SqL.of P.lst,(by rw[List.map_append];exact aGX),.inl ⟨rfl,_,SqL.of P.new⟩,?_⟩
   refine⟨_,rfl,_,rfl,_,rfl,_,rfl,_,rfl,a,_,rfl,P.sm.seq hS,λb hb=>?_⟩
   have s5:=Same.new (o:=.lst (cutV (t.map V.int) (some (i:Int)) (some ((i+(runOf t i c).length:Nat):Int)))) hb
   refine⟨⟨b,runOf t i c⟩,rfl,SqL.of (by rw[upd_same,aGY t i _ r2,aGZ]),?_⟩
   have P6:=P.same s5
   refine⟨ql,_,_,rfl,rfl,P6.new,small1000 (by rw[List.length_map];omega),?_⟩
   refine⟨_,rfl,⟨i+(runOf t i c).length,_,_,dn,_,qd,ql,rfl,NX.2.2.2.1 rfl,P6.add (.num (Vbnlal.valueOf (runOf t i c)))⟩,?_⟩
   show t.length - ((i+(runOf t i c).length:Nat):Int).toNat<t.length - (i:Int).toNat
   omega
 ·exact akQ (asK DX (aYU (akK DX axY) aSQ) aYV)
end
theorem aSW{a b:List Int}(ha:∀x∈a,0<=x)(hb:∀x∈b,0<=x)(h:strOf a=strOf b):a=b:=by
 have h1:a.map Int.toNat=b.map Int.toNat:=by
  have:=congrArg tl h
  exact this
 have aux:∀{l k:List Int},(∀x∈l,0<=x)->(∀x∈k,0<=x)->l.map Int.toNat=k.map Int.toNat->l=k:=by
  intro l
  induction l with
  |nil=>intro k _ _ h;cases k with
   |nil=>rfl
   |cons y k=>cases h
  |cons x l ih=>intro k hl hk h;cases k with
   |nil=>cases h
   |cons y k=>
    have h2:=List.cons.inj h
    have e1:=hl x List.mem_cons_self
    have e2:=hk y List.mem_cons_self
    have:x=y:=by omega
    rw[this,ih (λz hz=>hl z (List.mem_cons_of_mem _ hz)) (λz hz=>hk z (List.mem_cons_of_mem _ hz)) h2.2]
 exact aux ha hb h1
theorem agX:∀{a b:List (List Int)},(∀l∈a,∀x∈l,0<=x)->(∀l∈b,∀x∈l,0<=x)->a.map strOf=b.map strOf->a=b
 |[],[],_,_,_=>rfl
 |[],_::_,_,_,h=>by cases h
 |_::_,[],_,_,h=>by cases h
 |x::a,y::b,ha,hb,h=>by
  have h2:=List.cons.inj h
  rw[aSW (ha x List.mem_cons_self) (hb y List.mem_cons_self) h2.1,agX (λl hl=>ha l (List.mem_cons_of_mem _ hl)) (λl hl=>hb l (List.mem_cons_of_mem _ hl)) h2.2]
theorem bhV:∀k:Fin 7,∀l∈fm k.val,∀x∈l,0<=x:=by decide +kernel
theorem eqv_strs:∀xs ys:List Str,PyData.eqvAll (xs.map PyData.str) (ys.map PyData.str)=decide (xs=ys)
 |[],[]=>by simp[PyData.eqvAll]
 |[],_::_=>by simp[PyData.eqvAll]
 |_::_,[]=>by simp[PyData.eqvAll]
 |x::xs,y::ys=>by
  rw[List.map_cons,List.map_cons,PyData.eqvAll,eqv_strs xs ys,PyData.eqv,Bool.eq_iff_iff]
  simp
theorem akW{K:PySem.W.Frag}{H:Hp}:∀xs:List Str,DpAll K H (xs.map V.str) (xs.map PyData.str)
 |[]=>.nil
 |x::xs=>.cons (.str x) (akW xs)
theorem agY:∀xs:List Str,PyData.depthAll (xs.map PyData.str)=0
 |[]=>rfl
 |x::xs=>by
  rw[List.map_cons,PyData.depthAll,agY xs,PyData.depth]
  rfl
theorem ayU:∀xs:List Str,(∀x∈xs,PyData.strOk x=true)->PyData.canLayAll0 (xs.map PyData.str)=true
 |[],_=>rfl
 |x::xs,h=>by
  rw[List.map_cons,PyData.canLayAll0,PyData.canLay0,h x List.mem_cons_self,ayU xs λy hy=>h y (List.mem_cons_of_mem _ hy)]
  rfl
theorem YJ{xs:List Str}(h:∀x∈xs,PyData.strOk x=true):SeqAt.shaped (.list (xs.map PyData.str))=true:=by
 unfold SeqAt.shaped
 rw[PyData.canLay0,ayU xs h,PyData.depth,agY]
 rfl
theorem aXV{l:List Int}(h:∀x∈l,0<=x/\x<=122):PyData.strOk (strOf l)=true:=by
 unfold PyData.strOk strOf
 rw[List.all_toArray,List.all_map,List.all_eq_true]
 intro x hx
 have:=h x hx
 show decide (x.toNat<1114112)=true
 exact decide_eq_true (by omega)
theorem bkU:∀k:Fin 7,∀x∈fmS k.val,PyData.strOk x=true:=by decide +kernel
theorem aHJ{t:Token}(h:smallW t)(hs:t≠.semi):∀x∈shp t,0<=x/\x<=122:=by
 cases t with
 |word w=>intro x hx;have:=h x hx;omega
 |num n=>intro x hx;have:x=35:=(by simpa[shp] using hx);omega
 |semi=>exact absurd rfl hs
def spProp:Sp:=mkSp (λp:Addr×List Token=>[.ref p.1]) λp H Q=>H p.1=some (.lst (p.2.map pieceV))/\(∀t∈p.2,smallW t/\t≠.semi)/\p.2.length<=300/\
 ∀H',Same H H'->(Vbnlal.clause p.2=none->Q .non H')/\∀e t,Vbnlal.clause p.2=some e->H' t=some (.tup [.int e.kind,.int e.a,.int e.b])->Q (.ref t) H'
theorem nums_snoc(l:List Token)(t:Token):nums (l++[t])=nums l++(match t with | .num n=>[n] | _=>[]):=by
 unfold nums
 rw[List.filterMap_append]
 cases t <;> rfl
theorem bdU(l:List Token):(nums l).length<=l.length:=List.length_filterMap_le _ _
section
variable{Z:Wd}{Cc Ck Cf f:Addr}{fd:FuncData}
abbrev nJ:Stmt:=top 43
theorem gW:FnScope ["part", "shape", "numbers", "kind", "form", "m", "piece"] ["part"] (defScope nJ):=mkSc
theorem akX(F:Fun Z.K "proposal_of" "proposal_of" nJ f fd)(T:Tx Z Cc Ck Cf)(D_forms:DefOk Z 1 "forms" [] (spForms)):OkZ Z 2 f fd ["part"] (spProp):=by
 refine okS F gW λs H Q E hr h=>?_
 obtain⟨⟨a,c⟩,rfl,hA,hW,h300,q⟩:=h
 have hu64:=hr.units
 refine⟨_,(aK
  (LK (own:=[("piece",6)]) (i:=1) rfl gW.nd rfl rfl (TY rfl rfl rfl (by decide +kernel)) (dQ (pv 0)) (eK (by show blkC ["part", "shape", "numbers", "kind", "form", "m", "piece"] (defScope nJ) _ _=true;decide +kernel)) (λ_ _ _ _ _=>by exact cK (i:=6) gW.nd rfl (Or.inl rfl)) (λ_ _ _ _ _=>jQ) (λ_ _ _ _ _=>by exact(BK (fQ (cX agW (by rfl) T.n_isinstance boot_isinstance (aJ (pv 6) (aJ (aFX (v:=.ty "int") rfl T.n_int boot_int rfl) pa_nil)))) pe_str (pv 6))))
  (aK
  (LK (own:=[("piece",6)]) (i:=2) rfl gW.nd rfl rfl (TY rfl rfl rfl (by decide +kernel)) (dQ (pv 0)) (eK (by show blkC ["part", "shape", "numbers", "kind", "form", "m", "piece"] (defScope nJ) _ _=true;decide +kernel)) (λ_ _ _ _ _=>by exact cK (i:=6) gW.nd rfl (Or.inl rfl)) (λ_ _ _ _ _=>by exact(rY (fQ (cX agW (by rfl) T.n_isinstance boot_isinstance (aJ (pv 6) (aJ (aFX (v:=.ty "int") rfl T.n_int boot_int rfl) pa_nil)))))) (λ_ _ _ _ _=>by exact(pv 6)))
  (aK
  (fV PassesOwn.never rfl (bbX rfl T.n_enumerate (aJ (aRK D_forms (hr.mono (by decide)) rfl) pa_nil)) (PY rfl (fU (cK (i:=3) gW.nd rfl (Or.inl rfl)) (fU (cK (i:=4) gW.nd rfl (Or.inl rfl)) IU)))
   (aQ
    (bY (bZ (auK hu64) (pv 1) (pv 4) (nomark _))
     (aK
      (bQ (i:=5) gW.nd rfl (Or.inl rfl) (BK (bZ eQ (cX eZ (by rfl) T.n_len PySem.boot_len (aJ (pv 2) pa_nil)) aY (nomark _)) (cZ jK (pv 2) aY (λ_ _=>rfl)) aY))
      (aQ
      (aU (gQ (aJ (pv 3) (aJ (cZ jK (pv 2) aY (λ_ _=>rfl)) (aJ (pv 5) pa_nil)))))))
     aZ)))
  (aQ
  (aU wX))))),?_⟩
 dsimp only at hA hW h300 q
 refine⟨_,rfl,a,rfl,⟨_,SqL.of hA⟩,λD1 hD1=>?_⟩
 refine lcl (K:=Z.K) (xs:=c.map pieceV) (λi=>((c.take i).map λt=>strOf (shp t)).map V.str) hD1 (SqL.of hA) rfl (λi _=>small1000 (by rw[List.length_map,List.length_map];have:=fK i c;omega)) ?_ ?_
 ·intro i y H2 hy s2 k' nx g1 g2
  obtain⟨t,ht,rfl⟩:=gmap hy
  have hw:=hW t (List.mem_of_getElem? ht)
  refine⟨rfl,_,rfl,_,rfl,?_⟩
  cases t with
  |semi=>exact absurd rfl hw.2
  |num n=>exact .inl ⟨n,rfl,_,rfl,iteT (g1 _ _ (Same.refl _) (by rw[bU ht,List.map_append,List.map_append];rfl))⟩
  |word w=>exact .inr ⟨_,rfl,_,rfl,iteF ⟨_,rfl,g1 _ _ (Same.refl _) (by rw[bU ht,List.map_append,List.map_append];rfl)⟩⟩
 intro H1 s1 d1
 rw[List.length_map,List.take_length] at d1
 refine⟨_,rfl,a,rfl,⟨_,SqL.of (s1 _ _ hA)⟩,λD2 hD2=>?_⟩
 refine lcl (K:=Z.K) (xs:=c.map pieceV) (λi=>(nums (c.take i)).map V.int) hD2 (SqL.of (s1 _ _ hA)) rfl (λi _=>small1000 (by rw[List.length_map];have:=fK i c;have:=bdU (c.take i);omega)) ?_ ?_
 ·intro i y H2 hy s2 k' nx g1 g2
  obtain⟨t,ht,rfl⟩:=gmap hy
  have hw:=hW t (List.mem_of_getElem? ht)
  refine⟨rfl,_,rfl,_,rfl,?_⟩
  cases t with
  |semi=>exact absurd rfl hw.2
  |num n=>exact .inl ⟨n,rfl,_,rfl,iteT ⟨_,rfl,g1 _ _ (Same.refl _) (by rw[bU ht,nums_snoc,List.map_append];rfl)⟩⟩
  |word w=>exact .inr ⟨_,rfl,_,rfl,iteF (g2 _ (Same.refl _) (by rw[bU ht,nums_snoc,List.append_nil]))⟩
 intro H2 s2 d2
 rw[List.length_map,List.take_length] at d2
 have pl:plainT c:=λt ht=>⟨asV (hW t ht).1,(hW t ht).2⟩
 refine⟨(),rfl,λH3 p qs s3 hp h3 hq7 hqs=>?_⟩
 have s13:=(s1.trans s2).trans s3
 have d1':=s3 _ _ (s2 _ _ d1)
 have d2':=s3 _ _ d2
 refine⟨p,_,rfl,SqL.of h3,aWJ (K:=Z.K) (a:=p) (xs:=qs.map V.ref) (λi σ H'=>∃v3 v4:Option V,σ=[some (.ref a),some (.ref D1),some (.ref D2),v3,v4,none,none]/\Same H3 H'/\∀k,k<i->c.map shp≠fm k)
  ⟨none,none,rfl,Same.refl _,λk hk=>by omega⟩ (λi σ H' _ ⟨_,_,_,h,_⟩=>SqL.of (h _ _ h3)) ?_ ?_⟩
 ·rintro i y T σ H' hy hT ⟨v3,v4,rfl,s4,hno⟩
  obtain⟨q1,hq1,rfl⟩:=gmap hy
  have hi7:i<7:=by
   have:=(List.getElem?_eq_some_iff.mp hq1).1
   omega
  have hf:=hqs i q1 hq1
  have s5:Same H' (upd H' T (.tup [.int (i:Nat),.ref q1])):=Same.new hT
  have s35:=s4.trans s5
  refine⟨T,_,rfl,SqT.of upd_same,rfl,_,_,rfl,_,_,rfl,rfl,?_⟩
  have e5:SeqAt.shaped (.list ((c.map λt=>strOf (shp t)).map PyData.str))=true:=YJ λx hx=>by
   obtain⟨t,ht,rfl⟩:=List.mem_map.mp hx
   exact aXV (aHJ (hW t ht).1 (hW t ht).2)
  refine⟨_,rfl,_,rfl,_,_,Dp.lst (SqL.of (s35 _ _ d1')) (akW _),Dp.lst (SqL.of (s35 _ _ hf)) (akW _),e5,YJ (bkU ⟨i,hi7⟩),_,rfl,?_⟩
  have e6:PyData.eqv (.list ((c.map λt=>strOf (shp t)).map PyData.str)) (.list ((fmS i).map PyData.str))=decide (c.map shp=fm i):=by
   rw[PyData.eqv,eqv_strs,Bool.eq_iff_iff,decide_eq_true_eq,decide_eq_true_eq]
   unfold fmS
   rw[show(c.map λt=>strOf (shp t))=(c.map shp).map strOf by rw[List.map_map];rfl]
   constructor
   ·intro z
    refine agX (λl hl x hx=>?_) (bhV ⟨i,hi7⟩) z
    obtain⟨t,ht,rfl⟩:=List.mem_map.mp hl
    exact(aHJ (hW t ht).1 (hW t ht).2 x hx).1
   ·intro z
    rw[z]
  rw[e6]
  refine ite2 (λh=>?_) λh=>?_
  ·have h:c.map shp=fm i:=of_decide_eq_true h
   have hcl:=azZ pl hi7 h
   have hnl:=aTU pl hi7 h
   have hs:=s13.trans s35
   unfold pick at hcl
   have n0:(nums c)[0]? = some ((nums c).getD 0 0):=by
    rw[List.getD_eq_getElem?_getD,List.getElem?_eq_getElem (by rw[hnl];split <;> omega)]
    rfl
   have at0:∀{Hx:Hp},Hx D2=some (.lst ((nums c).map V.int))->atI ((nums c).map V.int) (0:Int)=some (.int ((nums c).getD 0 0)):=λ_=>qY (j:=0) rfl (by rw[List.getElem?_map,n0];rfl)
   have d2'':=s35 _ _ d2'
   refine⟨_,rfl,_,_,rfl,.inl (SqL.of d2''),rfl,_,rfl,?_⟩
   rw[List.length_map]
   by_cases hl2:(nums c).length=2
   ·have n1:(nums c)[1]? = some ((nums c).getD 1 0):=by
     rw[List.getD_eq_getElem?_getD,List.getElem?_eq_getElem (by omega)]
     rfl
    rw[if_pos hl2] at hcl
    refine ifY (by simp[hl2]) ⟨_,rfl,D2,_,_,_,rfl,rfl,SqL.of d2'',qY (j:=1) rfl (by rw[List.getElem?_map,n1];rfl),?_⟩
    refine⟨_,rfl,_,rfl,D2,_,_,_,rfl,rfl,SqL.of d2'',at0 d2'',_,rfl,l3,λr hr=>?_⟩
    exact(q _ (hs.trans (Same.new hr))).2 _ r hcl upd_same
   ·rw[if_neg hl2] at hcl
    refine ifN (by simp;omega) ?_
    refine⟨_,rfl,_,rfl,D2,_,_,_,rfl,rfl,SqL.of d2'',at0 d2'',_,rfl,l3,λr hr=>?_⟩
    exact(q _ (hs.trans (Same.new hr))).2 _ r hcl upd_same
  ·refine⟨_,_,rfl,s35,λk hk=>?_⟩
   by_cases z:k=i
   ·rw[z]
    exact λw=>h (decide_eq_true w)
   ·exact hno k (by omega)
 ·rintro σ H' ⟨v3,v4,rfl,s4,hno⟩
  rw[List.length_map,hq7] at hno
  exact(q _ (s13.trans s4)).1 (aAJ hno)
end
theorem anX{α β:Type}{f:α->Option β}:∀{l:List α}{x:α},x∈l->f x=none->l.mapM f=none
 |[],x,h,_=>by cases h
 |a::l,x,h,e=>by
  rw[List.mapM_cons]
  rcases List.mem_cons.mp h with rfl | h
  ·rw[e]
   rfl
  ·rw[anX h e]
   cases f a <;> rfl
theorem ayV{α β:Type}{f:α->Option β}:∀{l:List α},(∀x∈l,∃y,f x=some y)->∃r,l.mapM f=some r/\r.length=l.length/\∀(j:Nat) x,l[j]? = some x->∃y,r[j]? = some y/\f x=some y
 |[],_=>⟨[],rfl,rfl,λj x h=>by simp at h⟩
 |a::l,h=>by
  obtain⟨y,hy⟩:=h a List.mem_cons_self
  obtain⟨r,h1,h2,h3⟩:=ayV (l:=l) λx hx=>h x (List.mem_cons_of_mem _ hx)
  refine⟨y::r,by rw[List.mapM_cons,hy,h1];rfl,by rw[List.length_cons,List.length_cons,h2],λj x hx=>?_⟩
  cases j with
  |zero=>
   cases(show a=x from Option.some.inj hx)
   exact⟨y,rfl,hy⟩
  |succ j=>exact h3 j x hx
theorem sK:∀(ts:List Token)(c:List Token),c∈Vbnlal.clauses ts->c.length<=ts.length
 |[],c,h=>by
  have:c=[]:=by simpa[Vbnlal.clauses] using h
  rw[this]
  exact Nat.le_refl _
 |.semi::r,c,h=>by
  rcases List.mem_cons.mp (show c∈[]::Vbnlal.clauses r from h) with e | h
  ·rw[e]
   exact Nat.zero_le _
  ·exact Nat.le_succ_of_le (sK r c h)
 |.word w::r,c,h=>by
  cases e:Vbnlal.clauses r with
  |nil=>exact absurd e (iZ r)
  |cons f fs=>
   rw[nQ (t:=.word w) (λq=>nomatch q) e] at h
   rcases List.mem_cons.mp h with z | h
   ·rw[z]
    exact Nat.succ_le_succ (sK r f (by rw[e];exact List.mem_cons_self))
   ·exact Nat.le_succ_of_le (sK r c (by rw[e];exact List.mem_cons_of_mem _ h))
 |.num w::r,c,h=>by
  cases e:Vbnlal.clauses r with
  |nil=>exact absurd e (iZ r)
  |cons f fs=>
   rw[nQ (t:=.num w) (λq=>nomatch q) e] at h
   rcases List.mem_cons.mp h with z | h
   ·rw[z]
    exact Nat.succ_le_succ (sK r f (by rw[e];exact List.mem_cons_self))
   ·exact Nat.le_succ_of_le (sK r c (by rw[e];exact List.mem_cons_of_mem _ h))
def elOk(H:Hp)(v:V)(o:Option Effect):Prop:=match o with
 |none=>v = .non
 |some e=>∃t,v = .ref t/\H t=some (.tup [.int e.kind,.int e.a,.int e.b])
theorem elOk.same{H H':Hp}{v:V}{o:Option Effect}(h:elOk H v o)(s:Same H H'):elOk H' v o:=by
 cases o with
 |none=>exact h
 |some e=>
  obtain⟨t,h1,h2⟩:=h
  exact⟨t,h1,s _ _ h2⟩
theorem ayW(e:Effect):Vbnlal.numbersOk e=(numsE e).all Vbnlal.keyOk:=by
 unfold Vbnlal.numbersOk numsE
 by_cases h:e.kind=3\/e.kind=4
 ·rw[if_pos h,if_pos h]
  simp
 ·rw[if_neg h,if_neg h]
  simp
def readAns(t:List Int):List Int:=match Vbnlal.read t with
 |.error r=>[r]
 |.ok es=>(es.length:Int)::es.flatMap λ(e:Effect)=>[e.kind,e.a,e.b]
def spReadText(K:PySem.W.Frag):Sp:=mkSp (λp:Addr×List Int=>[.ref p.1]) λp H Q=>SqL K H p.1 (p.2.map V.int)/\Vbnlal.textOk p.2=true/\RetL H Q (readAns p.2)
theorem arY(t:List Int):readAns t=match props t with
 |none=>[-1]
 |some es=>if refus (some es)<0 then [refus (some es)] else(es.length:Int)::es.flatMap λ(e:Effect)=>[e.kind,e.a,e.b]:=by
 unfold readAns
 rw[aeY]
 cases props t with
 |none=>rfl
 |some es=>
  by_cases h:refus (some es)<0
  ·simp only[if_pos h]
  ·simp only[if_neg h]
section
variable{Z:Wd}{Cc Ck Cf f:Addr}{fd:FuncData}
abbrev mJ:Stmt:=top 44
theorem oK:FnScope ["text", "parts", "proposals", "part"] ["text"] (defScope mJ):=mkSc
theorem agZ(F:Fun Z.K "proposals_of" "proposals_of" mJ f fd)(T:Tx Z Cc Ck Cf)(D_parts_of:DefOk Z 3 "parts_of" ["text"] (spParts Z.K))(D_proposal_of:DefOk Z 2 "proposal_of" ["part"] (spProp)):OkZ Z 4 f fd ["text"] (spProps Z.K):=by
 refine F.ok oK (λvs H Q E h=>?_) (λcdv A outer s H vs Q E hr h=>?_)
 ·obtain⟨a,rfl,_⟩:=h
  rfl
 ·obtain⟨⟨a,t⟩,rfl,hS,hT,q⟩:=h
  have hu:=dY hr
  have hu1:(A.deeper (envOfC "proposals_of" (defScope mJ) s.heap.objs.size f cdv)).in1.units<cLine:=hu
  refine⟨_,(aK
   (bQ (i:=1) oK.nd rfl (Or.inl rfl) (cJ D_parts_of (hr.mono (by decide)) rfl (aJ (pv 0) pa_nil)))
   (aK
   (bY (dW (jZ (pv 1)))
    (aQ
     (aU wX))
    aZ)
   (aK
   (LK (own:=[("part",3)]) (i:=2) rfl oK.nd rfl rfl (TY rfl rfl rfl (by decide +kernel)) (dQ (pv 1)) (eK (by show blkC ["text", "parts", "proposals", "part"] (defScope mJ) _ _=true;decide +kernel)) (λ_ _ _ _ _=>by exact cK (i:=3) oK.nd rfl (Or.inl rfl)) (λ_ _ _ _ _=>jQ) (λ_ _ _ _ _=>by exact(cJ D_proposal_of (hr.mono (by decide)) rfl (aJ (pv 3) pa_nil))))
   (aK
   (bY (bZ (aQZ hu1) wX (pv 2) rfl)
    (aQ
     (aU wX))
    aZ)
   (aQ
   (aU (pv 2))))))),?_⟩
  dsimp only at hS hT q
  have h300:=aeZ hT
  refine⟨_,rfl,⟨a,t⟩,rfl,hS,h300,λH1 s1=>⟨λe=>?_,λts p e hp hP=>?_⟩⟩
  ·dsimp only at e
   refine⟨_,rfl,_,rfl,iteT ?_⟩
   exact(q _ s1).1 (by unfold props;rw[e];rfl)
  dsimp only at e
  refine⟨_,rfl,_,rfl,iteF ?_⟩
  obtain⟨qs,p1,p2,p3⟩:=hP
  have e0:props t=(Vbnlal.clauses ts).mapM Vbnlal.clause:=by unfold props;rw[e];rfl
  have hmem:∀c∈Vbnlal.clauses ts,∀x∈c,smallW x/\x≠.semi:=λc hc x hx=>by
   have:=vY ts c hc x hx
   exact⟨wV _ t (Nat.le_refl _) ts e x this.1,this.2⟩
  have hcl:(Vbnlal.clauses ts).length<=301:=by
   have:=qQ ts
   have:=uW _ t (Nat.le_refl _) ts e
   omega
  have hpl:∀c∈Vbnlal.clauses ts,c.length<=300:=λc hc=>by
   have h1:=sK ts c hc
   have:=uW _ t (Nat.le_refl _) ts e
   omega
  generalize Vbnlal.clauses ts=cs at p2 p3 e0 hmem hcl hpl
  refine⟨_,rfl,p,rfl,⟨_,SqL.of p1⟩,λD hD=>?_⟩
  refine TZ (K:=Z.K) (xs:=qs.map V.ref) (λi H'=>Same H1 H'/\∃vs:List V,H' D=some (.lst vs)/\vs.length=i/\∀(j:Nat) v c,vs[j]? = some v->cs[j]? = some c->elOk H' v (Vbnlal.clause c)) ⟨Same.new hD,[],upd_same,rfl,λj v c h=>by simp at h⟩ (λi H' _ z=>SqL.of (z.1 _ _ p1)) (λi y H5 hy z=>?_) λH5 z=>?_
  ·obtain⟨s5,vs,d5,l5,o5⟩:=z
   obtain⟨q1,hq1,rfl⟩:=gmap hy
   have hi:=(List.getElem?_eq_some_iff.mp hq1).1
   have hi2:i<cs.length:=by omega
   have hc:cs[i]? = some cs[i]:=List.getElem?_eq_getElem hi2
   have hcm:=List.mem_of_getElem? hc
   have add:∀(H6:Hp)(y:V),Same H5 H6->elOk H6 y (Vbnlal.clause cs[i])->∃acc,H6 D=some (.lst acc)/\acc.length<sizeLine/\Same H1 (upd H6 D (.lst (acc++[y])))/\∃vs:List V,(upd H6 D (.lst (acc++[y]))) D=some (.lst vs)/\vs.length=i+1/\∀(j:Nat) v c,vs[j]? = some v->cs[j]? = some c->elOk (upd H6 D (.lst (acc++[y]))) v (Vbnlal.clause c):=by
    intro H6 y s6 hy6
    have stay:∀{v:V}{o:Option Effect},elOk H6 v o->elOk (upd H6 D (.lst (vs++[y]))) v o:=λ{v o} h=>by
     cases o with
     |none=>exact h
     |some e=>
      obtain⟨t,h1,h2⟩:=h
      exact⟨t,h1,by rw[aV (eW h2 (s6 _ _ d5) (by intro z;cases z))];exact h2⟩
    refine⟨vs,s6 _ _ d5,small1000 (by omega),(s5.trans s6).upd hD,vs++[y],upd_same,by rw[List.length_append,l5];rfl,λj v c h1 h2=>?_⟩
    by_cases hj:j<i
    ·rw[List.getElem?_append_left (by omega)] at h1
     exact stay ((o5 j v c h1 h2).same s6)
    ·have hj2:j=i:=by
      have:=(List.getElem?_eq_some_iff.mp h1).1
      rw[List.length_append,List.length_singleton] at this
      omega
     subst hj2
     rw[List.getElem?_append_right (by omega),l5,Nat.sub_self] at h1
     rw[hc] at h2
     cases h1
     cases h2
     exact stay hy6
   refine⟨rfl,_,rfl,⟨q1,cs[i]⟩,rfl,s5 _ _ (p3 i q1 _ hq1 hc),hmem _ hcm,hpl _ hcm,λH6 s6=>⟨λe6=>add H6 _ s6 ?_,λe r e6 hr=>add H6 _ s6 ?_⟩⟩
   ·dsimp only at e6
    rw[e6]
    exact rfl
   ·dsimp only at e6
    rw[e6]
    exact⟨r,rfl,hr⟩
  ·obtain⟨s5,vs,d5,l5,o5⟩:=z
   rw[List.length_map,p2] at l5
   refine⟨_,rfl,D,vs,rfl,rfl,SqL.of d5,λz hz=>?_,_,rfl,?_⟩
   ·obtain⟨j,hj⟩:=List.mem_iff_getElem?.mp hz
    have hjl:=(List.getElem?_eq_some_iff.mp hj).1
    have hjc:cs[j]? = some (cs[j]'(by omega)):=List.getElem?_eq_getElem (by omega)
    have w:=o5 j z _ hj hjc
    generalize Vbnlal.clause (cs[j]'(by omega))=o at w
    cases o with
    |none=>exact .inl w
    |some e=>
     obtain⟨r,h1,h2⟩:=w
     exact .inr ⟨r,_,h1,SqT.of h2⟩
   refine ite2 (λh=>?_) λh=>?_
   ·obtain⟨z,hz,hn⟩:=List.any_eq_true.mp h
    have hn:=of_decide_eq_true hn
    obtain⟨j,hj⟩:=List.mem_iff_getElem?.mp hz
    have hjl:=(List.getElem?_eq_some_iff.mp hj).1
    have hjc:cs[j]? = some (cs[j]'(by omega)):=List.getElem?_eq_getElem (by omega)
    have w:=o5 j z _ hj hjc
    refine(q _ (s1.trans s5)).1 ?_
    rw[e0]
    refine anX (List.mem_of_getElem? hjc) ?_
    cases o:Vbnlal.clause (cs[j]'(by omega)) with
    |none=>rfl
    |some e=>
     rw[o] at w
     obtain⟨r,h1,_⟩:=w
     rw[hn] at h1
     cases h1
   ·have hall:∀c∈cs,∃y,Vbnlal.clause c=some y:=λc hc=>by
     obtain⟨j,hj⟩:=List.mem_iff_getElem?.mp hc
     have hjl:=(List.getElem?_eq_some_iff.mp hj).1
     have hjv:vs[j]? = some (vs[j]'(by omega)):=List.getElem?_eq_getElem (by omega)
     have w:=o5 j _ c hjv hj
     cases o:Vbnlal.clause c with
     |some y=>exact⟨y,rfl⟩
     |none=>
      rw[o] at w
      exact absurd (List.any_eq_true.mpr ⟨_,List.mem_of_getElem? hjv,decide_eq_true (show _=V.non from w)⟩) h
    obtain⟨es,m1,m2,m3⟩:=ayV hall
    have hts:∃ts:List Addr,vs=ts.map V.ref/\∀(j:Nat) t e,ts[j]? = some t->es[j]? = some e->TupAt H5 t e:=by
     have aux:∀(vs:List V)(cs:List (List Token))(es:List Effect),vs.length=cs.length->es.length=cs.length->(∀(j:Nat) v c,vs[j]? = some v->cs[j]? = some c->elOk H5 v (Vbnlal.clause c))->(∀(j:Nat) x,cs[j]? = some x->∃y,es[j]? = some y/\Vbnlal.clause x=some y)->∃ts:List Addr,vs=ts.map V.ref/\∀(j:Nat) t e,ts[j]? = some t->es[j]? = some e->TupAt H5 t e:=by
      intro vs
      induction vs with
      |nil=>intro cs es _ _ _ _;exact⟨[],rfl,λj t e h=>by simp at h⟩
      |cons v vs ih=>
       intro cs es h1 h2 h3 h4
       cases cs with
       |nil=>simp at h1
       |cons c cs=>
        cases es with
        |nil=>simp at h2
        |cons e es=>
         obtain⟨ts,t1,t2⟩:=ih cs es (by simpa using h1) (by simpa using h2) (λj=>h3 (j+1)) (λj=>h4 (j+1))
         obtain⟨y,y1,y2⟩:=h4 0 c rfl
         cases(show e=y from Option.some.inj y1)
         have w:=h3 0 v c rfl rfl
         rw[y2] at w
         obtain⟨r,r1,r2⟩:=w
         refine⟨r::ts,by rw[r1,t1];rfl,λj t x a b=>?_⟩
         cases j with
         |zero=>
          cases a
          cases b
          exact r2
         |succ j=>exact t2 j t x a b
     exact aux vs cs es l5 m2 o5 m3
    obtain⟨us,u1,u2⟩:=hts
    refine⟨_,rfl,(q _ (s1.trans s5)).2 es D us (by rw[e0];exact m1) (s1.free hD) ⟨by rw[<-u1];exact d5,?_,u2⟩⟩
    have:=congrArg List.length u1
    rw[List.length_map] at this
    omega
abbrev pQ:Stmt:=top 46
theorem lJ:FnScope ["proposals", "proposal", "number"] ["proposals"] (defScope pQ):=mkSc
theorem ahJ(F:Fun Z.K "text_refusal" "text_refusal" pQ f fd)(T:Tx Z Cc Ck Cf)(D_numbers_of:DefOk Z 1 "numbers_of" ["proposal"] (spNums))(D_is_key:DefOk Z 1 "is_key" ["number"] (spB1 Vbnlal.keyOk)):OkZ Z 2 f fd ["proposals"] (spRefusal):=by
 refine okS F lJ λs H Q E hr h=>?_
 obtain⟨p,rfl,hP,q⟩:=h
 refine⟨_,(aK
  (bY (dW (jZ (pv 0)))
   (aQ
    (aU (bK T.g_WRONG_TEXT rfl)))
   aZ)
  (aK
  (bY (bZ TV (cX eZ (by rfl) T.n_len PySem.boot_len (aJ (pv 0) pa_nil)) (bK T.g_MOST_PROPOSALS rfl) (nomark _))
   (aQ
    (aU (bK T.g_TOO_MANY_PROPOSALS rfl)))
   aZ)
  (aK
  (fV PassesOwn.never rfl (dQ (pv 0)) (cK (i:=1) lJ.nd rfl (Or.inl rfl))
   (aQ
    (bY (iU (fQ (cX (adV rfl) (by rfl) T.n_all boot_all (aJ (kU (own:=[("number",2)]) rfl lJ.nd (dQ (cJ D_numbers_of (hr.mono (by decide)) rfl (aJ (pv 1) pa_nil))) (eK (by show blkC ["proposals", "proposal", "number"] (defScope pQ) _ _=true;decide +kernel)) (λ_ _ _ _ _=>by exact cK (i:=2) lJ.nd rfl (Or.inl rfl)) (λ_ _ _ _ _=>jQ) (λ_ _ _ _ _=>by exact(cJ D_is_key (hr.mono (by decide)) rfl (aJ (pv 2) pa_nil)))) pa_nil))))
     (aQ
      (aU (bK T.g_WRONG_NUMBER rfl)))
     aZ)))
  (aK
  (fV PassesOwn.never rfl (dQ (pv 0)) (cK (i:=1) lJ.nd rfl (Or.inl rfl))
   (aQ
    (bY (PW.pt (qJ (bZ eQ (cZ eY (pv 1) aY (λ_ _=>rfl)) (bK T.g_CONSERVE rfl) (nomark _)) (nV (bZ eQ (cZ eY (pv 1) aY (λ_ _=>rfl)) (cZ eY (pv 1) aY (λ_ _=>rfl)) (nomark _)))))
     (aQ
      (aU (bK T.g_OVER_ITSELF rfl)))
     aZ)))
  (aQ
  (aU aY)))))),?_⟩
 cases p with
 |none=>
  refine⟨_,rfl,_,rfl,iteT ?_⟩
  exact q _ (Same.refl _)
 |some x=>
  obtain⟨pa,ts,es⟩:=x
  obtain⟨P,h301⟩:=hP _ rfl
  dsimp only at P h301
  have q:∀H',Same H H'->Q (.int (refus (some es))) H':=q
  unfold refus at q
  dsimp only at q
  refine⟨_,rfl,_,rfl,iteF ?_⟩
  refine⟨_,rfl,_,_,rfl,.inl (SqL.of P.lst),_,_,rfl,rfl,_,rfl,?_⟩
  rw[List.length_map,P.len]
  refine ite2 (λh=>?_) λh=>?_
  ·rw[if_pos (show Vbnlal.CLAUSES<es.length by unfold Vbnlal.CLAUSES;have:=of_decide_eq_true h;omega)] at q
   exact q _ (Same.refl _)
  rw[if_neg (show ¬Vbnlal.CLAUSES<es.length by unfold Vbnlal.CLAUSES;have:¬(6:Int)<(es.length:Int):=λz=>h (decide_eq_true z);omega)] at q
  refine⟨_,rfl,pa,rfl,⟨_,SqL.of P.lst⟩,iK (K:=Z.K) (a:=pa) (xs:=ts.map V.ref) (λi σ H'=>∃v:Option V,σ=[some (.ref pa),v,none]/\Same H H'/\(es.take i).all Vbnlal.numbersOk=true)
   ⟨none,rfl,Same.refl _,rfl⟩ (λi σ H' _ ⟨_,_,e,_⟩=>SqL.of (e _ _ P.lst)) ?_ ?_⟩
  ·rintro i y σ H' hy ⟨v,rfl,s2,hT⟩
   obtain⟨t,e,rfl,he,ht⟩:=P.at hy
   refine⟨_,rfl,⟨t,e⟩,rfl,s2 _ _ ht,λH3 b s3 hb h3=>?_⟩
   dsimp only at h3
   have n2:(numsE e).length<=2:=by unfold numsE;split <;> simp
   refine⟨b,rfl,⟨_,SqL.of h3⟩,λD hD=>?_⟩
   refine lcl (K:=Z.K) (xs:=(numsE e).map V.int) (λi=>((numsE e).take i).map λn=>V.bl (Vbnlal.keyOk n)) hD (SqL.of h3) rfl (λi _=>small1000 (by rw[List.length_map];have:=fK i (numsE e);omega)) ?_ ?_
   ·intro j y H4 hy s4 k' nx g1 g2
    obtain⟨n,hn,rfl⟩:=gmap hy
    exact⟨rfl,_,rfl,n,rfl,g1 _ _ (Same.refl _) (by rw[bU hn,List.map_append];rfl)⟩
   ·intro H4 s4 hD4
    rw[List.length_map,List.take_length] at hD4
    refine⟨_,(numsE e).map Vbnlal.keyOk,rfl,SqL.of (by rw[hD4,List.map_map];rfl),_,rfl,?_⟩
    rw[List.all_map]
    have e7:(numsE e).all (id ∘ Vbnlal.keyOk)=Vbnlal.numbersOk e:=(ayW e).symm
    rw[e7]
    have s24:=(s2.trans s3).trans s4
    refine ite2 (λh=>?_) λh=>?_
    ·have hf:es.all Vbnlal.numbersOk=false:=by
      rw[Bool.eq_false_iff]
      intro z
      have:=List.all_eq_true.mp z e (List.mem_of_getElem? he)
      rw[this] at h
      cases h
     rw[if_pos hf] at q
     exact q _ s24
    ·refine⟨_,rfl,s24,?_⟩
     rw[bU he,List.all_append,hT,List.all_cons,List.all_nil,show Vbnlal.numbersOk e=true by simpa using h]
     rfl
  ·rintro σ H' ⟨v,rfl,s2,hT⟩
   rw[List.length_map,P.len,List.take_length] at hT
   rw[if_neg (by rw[hT];exact Bool.noConfusion)] at q
   have P2:=P.same s2
   refine⟨_,rfl,pa,rfl,⟨_,SqL.of P2.lst⟩,iK (K:=Z.K) (a:=pa) (xs:=ts.map V.ref) (λi σ H2=>∃v:Option V,σ=[some (.ref pa),v,none]/\H2=H'/\(es.take i).any (λe=>e.kind==3&&e.a==e.b)=false)
    ⟨v,rfl,rfl,rfl⟩ (λi σ H2 _ ⟨_,_,e,_⟩=>by rw[e];exact SqL.of P2.lst) ?_ ?_⟩
   ·rintro i y σ H2 hy ⟨v,rfl,rfl,hN⟩
    obtain⟨t,e,rfl,he,ht⟩:=P2.at hy
    have e1:(es.take (i+1)).any (λe=>e.kind==3&&e.a==e.b)=(e.kind==3&&e.a==e.b):=by
     rw[bU he,List.any_append,hN,Bool.false_or,List.any_cons,List.any_nil,Bool.or_false]
    refine⟨_,rfl,t,_,_,_,rfl,rfl,SqT.of ht,rfl,rfl,_,rfl,ite2 (λh=>?_) λh=>iteF ⟨_,rfl,rfl,?_⟩⟩
    ·have h:e.kind=3:=by simpa using h
     refine⟨_,rfl,t,_,_,_,rfl,rfl,SqT.of ht,rfl,_,rfl,t,_,_,_,rfl,rfl,SqT.of ht,rfl,rfl,_,rfl,ite2 (λh2=>?_) λh2=>⟨_,rfl,rfl,?_⟩⟩
     ·have h2:e.a=e.b:=by simpa using h2
      rw[if_pos (List.any_eq_true.mpr ⟨e,List.mem_of_getElem? he,by rw[h,h2];simp⟩)] at q
      exact q _ s2
     ·have h2:¬e.a=e.b:=by simpa using h2
      rw[e1]
      simp[h2]
    ·have h:¬e.kind=3:=by simpa using h
     rw[e1]
     simp[h]
   ·rintro σ H2 ⟨v,rfl,rfl,hN⟩
    rw[List.length_map,P.len,List.take_length] at hN
    rw[if_neg (by rw[hN];exact Bool.noConfusion)] at q
    exact q _ s2
abbrev HU:Stmt:=top 47
theorem oW:FnScope ["text", "proposals", "refusal", "answer", "proposal"] ["text"] (defScope HU):=mkSc
theorem ayX(F:Fun Z.K "read_text" "read_text" HU f fd)(T:Tx Z Cc Ck Cf)(D_proposals_of:DefOk Z 4 "proposals_of" ["text"] (spProps Z.K))(D_text_refusal:DefOk Z 2 "text_refusal" ["proposals"] (spRefusal)):OkZ Z 5 f fd ["text"] (spReadText Z.K):=by
 refine okS F oW λs H Q E hr h=>?_
 obtain⟨⟨a,t⟩,rfl,hS,hT,q⟩:=h
 refine⟨_,(aK
  (bQ (i:=1) oW.nd rfl (Or.inl rfl) (cJ D_proposals_of (hr.mono (by decide)) rfl (aJ (pv 0) pa_nil)))
  (aK
  (bQ (i:=2) oW.nd rfl (Or.inl rfl) (cJ D_text_refusal (hr.mono (by decide)) rfl (aJ (pv 1) pa_nil)))
  (aK
  (bY (bZ wJ (pv 2) aY (nomark _))
   (aQ
    (aU (bJ (aJ (pv 2) pa_nil))))
   aZ)
  (aK
  (bQ (i:=3) oW.nd rfl (Or.inl rfl) (bJ (aJ (cX eZ (by rfl) T.n_len PySem.boot_len (aJ (pv 1) pa_nil)) pa_nil)))
  (aK
  (fV PassesOwn.never rfl (dQ (pv 1)) (cK (i:=4) oW.nd rfl (Or.inl rfl))
   (aQ
    (gJ (mW PySem.F.plainAttrs_list PySem.F.slot_list_extend PySem.F.type_list_extend adZ (pv 3) (aJ (pv 4) pa_nil)))))
  (aQ
  (aU (pv 3)))))))),?_⟩
 dsimp only at hS hT q
 rw[arY] at q
 refine⟨_,rfl,⟨a,t⟩,rfl,hS,hT,λH1 s1=>⟨λe=>?_,λes pa ts e hpa P=>?_⟩⟩
 ·dsimp only at e
  rw[e] at q
  refine⟨_,rfl,none,rfl,(λx y=>by cases y),λH2 s2=>?_⟩
  refine⟨_,rfl,_,_,rfl,rfl,_,rfl,iteT ⟨_,rfl,l1,q.now (s1.trans s2) rfl⟩⟩
 dsimp only at e
 have hes:=anU hT e
 rw[e] at q
 dsimp only at q
 refine⟨_,rfl,some ⟨pa,ts,es⟩,rfl,(λx y=>by cases y;exact⟨P,hes⟩),λH2 s2=>?_⟩
 have s12:=s1.trans s2
 have P2:=P.same s2
 refine⟨_,rfl,_,_,rfl,rfl,_,rfl,ite2 (λh=>?_) λh=>?_⟩
 ·have h:refus (some es)<0:=of_decide_eq_true h
  rw[if_pos h] at q
  exact⟨_,rfl,l1,q.now s12 rfl⟩
 have hge:¬refus (some es)<0:=λz=>h (decide_eq_true z)
 rw[if_neg hge] at q
 have six:=anQ hge
 refine⟨_,rfl,_,_,rfl,.inl (SqL.of P2.lst),l1,λan han=>?_⟩
 rw[List.length_map,P2.len]
 have s3:Same H2 (upd H2 an (.lst [.int (es.length:Int)])):=Same.new han
 have a3:(upd H2 an (.lst [.int (es.length:Int)])) an=some (.lst [.int (es.length:Int)]):=upd_same
 generalize upd H2 an (.lst [.int (es.length:Int)])=H3 at s3 a3 ⊢
 have P3:=P2.same s3
 have nH2:H2 an=none:=han
 refine⟨_,rfl,pa,rfl,⟨_,SqL.of P3.lst⟩,iK (K:=Z.K) (a:=pa) (xs:=ts.map V.ref) (λi σ H'=>∃v:Option V,σ=[some (.ref a),some (.ref pa),some (.int (refus (some es))),some (.ref an),v]/\But an H3 H'/\H' an=some (.lst (((es.length:Int)::(es.take i).flatMap λ(e:Effect)=>[e.kind,e.a,e.b]).map V.int)))
  ⟨none,rfl,But.refl _ _,a3⟩ (λi σ H' _ ⟨_,_,h,_⟩=>SqL.of (h _ _ P3.lst (aX P2.lst han))) ?_ ?_⟩
 ·rintro i y σ H' hy ⟨v,rfl,k4,a4⟩
  obtain⟨t1,e1,rfl,he1,ht1⟩:=P3.at hy
  have ht2:=k4 _ _ ht1 (eW ht1 a3 (by intro z;cases z))
  refine⟨_,rfl,.inl ⟨rfl,_,SqL.of a4⟩,_,rfl,an,t1,_,_,rfl,rfl,a4,SqT.of ht2,Nat.le_of_lt (small1000 ?_),_,rfl,k4.upd,?_⟩
  ·rw[List.length_map,List.length_cons]
   have h1:=eJ (f:=λ(e:Effect)=>[e.kind,e.a,e.b]) (k:=3) (l:=es.take i) λx _=>Nat.le_refl _
   have h2:=fK i es
   show _+1+3<=1000
   omega
  ·rw[upd_same,bU he1,List.flatMap_append]
   simp
 ·rintro σ H' ⟨v,rfl,k4,a4⟩
  rw[List.length_map,P.len,List.take_length] at a4
  exact⟨_,rfl,q _ _ (λb o hb=>k4 _ _ (s3 _ _ (s12 _ _ hb)) (aX hb (s12.free han))) (s12.free han) a4⟩
end
def pstep(ns:List Int)(z:List Str×Nat)(s:Str):List Str×Nat:=if s = "#" then(z.1++[Str.ofString (toString (ns.getD z.2 0))],z.2+1) else(z.1++[s],z.2)
def pstate(ns:List Int)(l:List Str):List Str×Nat:=l.foldl (pstep ns) ([],0)
theorem pstate_snoc(ns:List Int)(l:List Str)(s:Str):pstate ns (l++[s])=pstep ns (pstate ns l) s:=by
 unfold pstate
 rw[List.foldl_append]
 rfl
theorem anY(ns:List Int):∀(l:List Str)(z:List Str×Nat),(l.foldl (pstep ns) z).1.length=z.1.length+l.length/\(l.foldl (pstep ns) z).2=z.2+(l.filter λs:Str=>decide (s = "#")).length
 |[],z=>⟨rfl,rfl⟩
 |s::l,z=>by
  obtain⟨h1,h2⟩:=anY ns l (pstep ns z s)
  rw[List.foldl_cons,h1,h2,List.filter_cons]
  unfold pstep
  by_cases h:s = "#"
  ·rw[if_pos h,if_pos (decide_eq_true h)]
   simp
   omega
  ·rw[if_neg h,if_neg (by simpa using h)]
   simp
   omega
theorem tQ(ns:List Int)(l:List Str):(pstate ns l).1.length=l.length/\(pstate ns l).2=(l.filter λs:Str=>decide (s = "#")).length:=by
 obtain⟨h1,h2⟩:=anY ns l ([],0)
 exact⟨by unfold pstate;rw[h1];simp,by unfold pstate;rw[h2];simp⟩
theorem ayY:∀k:Fin 7,∀i:Fin 5,(fmS k.val)[i.val]? = some "#"->(((fmS k.val).take i.val).filter λs:Str=>decide (s = "#")).length<(if k.val=3\/k.val=4 then 2 else 1):=by decide +kernel
theorem ayZ:∀k:Fin 7,(fmS k.val).length<=4:=by decide +kernel
theorem bdV:∀k:Fin 7,fmS k.val≠[]:=by decide +kernel
theorem aMW:∀k:Fin 7,∀s∈fmS k.val,s.length<=8:=by decide +kernel
theorem bdW(s:String):(Str.ofString s).length=s.length:=by
 rw[Str.ofString_eq_toList]
 unfold Str.length
 rw[List.size_toArray,List.length_map]
 exact String.length_toList
theorem bhW(s:String):tl (Str.ofString s)=s.toList.map Char.toNat:=by
 rw[Str.ofString_eq_toList]
theorem bdX{n:Int}(h:1<=n/\n<=1000000000):(Str.ofString (toString n)).length<=11:=by
 rw[bdW]
 exact int_text_length_le10 (k:=10) (by decide) (by omega)
theorem tl_num(n:Int):tl (Str.ofString (toString n))=(Vbnlal.decimal n).map Int.toNat:=by
 rw[bhW]
 unfold Vbnlal.decimal Vbnlal.ascii
 rw[List.map_map]
 apply List.map_congr_left
 intro c _
 exact(Int.toNat_natCast _).symm
theorem bdY{n:Int}(h:1<=n/\n<=1000000000):n.natAbs.log2<1920:=by
 have h1:n.natAbs<2 ^ 1920:=by
  have:n.natAbs<=1000000000:=by omega
  exact Nat.lt_of_le_of_lt this (by decide +kernel)
 exact(Nat.log2_lt (by omega)).mpr h1
theorem tl_strOf(l:List Int):tl (strOf l)=l.map Int.toNat:=rfl
theorem acK{e:Effect}(ok:EffOk e):∀n∈numsE e,1<=n/\n<=1000000000:=by
 intro n hn
 unfold numsE at hn
 by_cases h:e.kind=3\/e.kind=4
 ·rw[if_pos h] at hn
  rcases List.mem_cons.mp hn with rfl | hn
  ·exact ok.a
  ·have:n=e.b:=by simpa using hn
   rw[this]
   exact ok.b h
 ·rw[if_neg h] at hn
  have:n=e.a:=by simpa using hn
  rw[this]
  exact ok.a
theorem anZ(e:Effect):(numsE e).length=if e.kind=3\/e.kind=4 then 2 else 1:=by
 unfold numsE
 split <;> rfl
theorem SY{ns:List Int}(hn:∀n∈ns,1<=n/\n<=1000000000)(k:Fin 7)(hu:∀i,i<(fmS k.val).length->(fmS k.val)[i]? = some "#"->(pstate ns ((fmS k.val).take i)).2<ns.length):∀i,i<=(fmS k.val).length->∀s∈(pstate ns ((fmS k.val).take i)).1,s.length<=11:=by
 intro i
 induction i with
 |zero=>intro _ s hs;cases hs
 |succ i ih=>
  intro hi s hs
  have hs0:(fmS k.val)[i]? = some ((fmS k.val)[i]'(by omega)):=List.getElem?_eq_getElem (by omega)
  rw[bU hs0,pstate_snoc] at hs
  have hu2:=hu i (by omega)
  unfold pstep at hs
  by_cases h:(fmS k.val)[i]'(by omega) = "#"
  ·rw[if_pos h] at hs
   rcases List.mem_append.mp hs with hs | hs
   ·exact ih (by omega) s hs
   ·have e:s=Str.ofString (toString (ns.getD (pstate ns ((fmS k.val).take i)).2 0)):=by simpa using hs
    rw[h] at hs0
    have hlt:=hu2 hs0
    rw[e,List.getD_eq_getElem?_getD,List.getElem?_eq_getElem hlt]
    exact bdX (hn _ (List.getElem_mem hlt))
  ·rw[if_neg h] at hs
   rcases List.mem_append.mp hs with hs | hs
   ·exact ih (by omega) s hs
   ·have e:s=(fmS k.val)[i]'(by omega):=by simpa using hs
    rw[e]
    exact Nat.le_trans (aMW k _ (List.getElem_mem _)) (by decide)
theorem aSX{l:List Str}(h:∀s∈l,s.length<=11):(l.map (·.length)).sum<=11*l.length:=by
 induction l with
 |nil=>exact Nat.le_refl _
 |cons x l ih=>
  rw[List.map_cons,List.sum_cons,List.length_cons]
  have:=ih λs hs=>h s (List.mem_cons_of_mem _ hs)
  have:=h x List.mem_cons_self
  omega
theorem xW(S:List Nat):∀l:List (List Nat),(joinL S l).length<=(l.map List.length).sum+l.length*S.length
 |[]=>by simp[joinL]
 |[p]=>by simp[joinL]
 |p::q::r=>by
  have ih:=xW S (q::r)
  show(p++(S++joinL S (q::r))).length<=_
  rw[List.length_append,List.length_append,List.map_cons,List.sum_cons,List.length_cons,Nat.succ_mul]
  omega
theorem jl1(S a b:List Nat):joinL S [a,b]=a++(S++b):=rfl
theorem jl2(S a b c:List Nat):joinL S [a,b,c]=a++(S++(b++(S++c))):=rfl
theorem jl3(S a b c d:List Nat):joinL S [a,b,c,d]=a++(S++(b++(S++(c++(S++d))))):=rfl
theorem tblank:tl (" " : Str)=[32]:=by decide +kernel
theorem w0:(Vbnlal.ascii "restore ").map Int.toNat=tl ("restore" : Str)++[32]:=by decide +kernel
theorem w1:(Vbnlal.ascii "suppress ").map Int.toNat=tl ("suppress" : Str)++[32]:=by decide +kernel
theorem w2:(Vbnlal.ascii " wholly").map Int.toNat=[32]++tl ("wholly" : Str):=by decide +kernel
theorem w3:(Vbnlal.ascii "conserve ").map Int.toNat=tl ("conserve" : Str)++[32]:=by decide +kernel
theorem w3b:(Vbnlal.ascii " over ").map Int.toNat=[32]++(tl ("over" : Str)++[32]):=by decide +kernel
theorem w4:(Vbnlal.ascii "type ").map Int.toNat=tl (("ty" : Str) ++ "pe")++[32]:=by decide +kernel
theorem w4b:(Vbnlal.ascii " is ").map Int.toNat=[32]++(tl ("is" : Str)++[32]):=by decide +kernel
theorem w5:(Vbnlal.ascii "reject work ").map Int.toNat=tl ("reject" : Str)++([32]++(tl ("work" : Str)++[32])):=by decide +kernel
theorem w6:(Vbnlal.ascii "annul ").map Int.toNat=tl ("annul" : Str)++[32]:=by decide +kernel
theorem ps_hash(ns:List Int)(z:List Str×Nat):pstep ns z "#"=(z.1++[Str.ofString (toString (ns.getD z.2 0))],z.2+1):=if_pos rfl
theorem jW{ns:List Int}{z:List Str×Nat}{s:Str}(h:¬s = "#"):pstep ns z s=(z.1++[s],z.2):=if_neg h
theorem joined(e:Effect)(k:Nat)(hk:e.kind=(k:Int))(h7:k<7):Str.join " " (pstate (numsE e) (fmS k)).1=strOf (Vbnlal.clauseText e):=by
 refine akU ?_
 rw[AU,tl_strOf,tblank]
 match k,h7,hk with
 |0,_,hk=>
  have hN:numsE e=[e.a]:=by unfold numsE;rw[if_neg (by omega)]
  have hC:Vbnlal.clauseText e=Vbnlal.ascii "restore " ++ Vbnlal.decimal e.a:=by unfold Vbnlal.clauseText;rw[if_pos (by omega)]
  rw[hN,hC,aYW]
  unfold pstate
  rw[List.foldl_cons,List.foldl_cons,List.foldl_nil,jW (s:=("restore" : Str)) (by decide +kernel),ps_hash]
  show joinL [32] [tl ("restore" : Str),tl (Str.ofString (toString e.a))]=_
  rw[jl1,tl_num,List.map_append,w0]
  simp only[List.append_assoc]
 |1,_,hk=>
  have hN:numsE e=[e.a]:=by unfold numsE;rw[if_neg (by omega)]
  have hC:Vbnlal.clauseText e=Vbnlal.ascii "suppress " ++ Vbnlal.decimal e.a:=by unfold Vbnlal.clauseText;rw[if_neg (by omega),if_pos (by omega)]
  rw[hN,hC,aYX]
  unfold pstate
  rw[List.foldl_cons,List.foldl_cons,List.foldl_nil,jW (s:=("suppress" : Str)) (by decide +kernel),ps_hash]
  show joinL [32] [tl ("suppress" : Str),tl (Str.ofString (toString e.a))]=_
  rw[jl1,tl_num,List.map_append,w1]
  simp only[List.append_assoc]
 |2,_,hk=>
  have hN:numsE e=[e.a]:=by unfold numsE;rw[if_neg (by omega)]
  have hC:Vbnlal.clauseText e=Vbnlal.ascii "suppress " ++ (Vbnlal.decimal e.a++Vbnlal.ascii " wholly"):=by unfold Vbnlal.clauseText;rw[if_neg (by omega),if_neg (by omega),if_pos (by omega)]
  rw[hN,hC,aYY]
  unfold pstate
  rw[List.foldl_cons,List.foldl_cons,List.foldl_cons,List.foldl_nil,jW (s:=("suppress" : Str)) (by decide +kernel),ps_hash,jW (s:=("wholly" : Str)) (by decide +kernel)]
  show joinL [32] [tl ("suppress" : Str),tl (Str.ofString (toString e.a)),tl ("wholly" : Str)]=_
  rw[jl2,tl_num,List.map_append,List.map_append,w1,w2]
  simp only[List.append_assoc]
 |3,_,hk=>
  have hN:numsE e=[e.a,e.b]:=by unfold numsE;rw[if_pos (by omega)]
  have hC:Vbnlal.clauseText e=Vbnlal.ascii "conserve " ++ (Vbnlal.decimal e.a++(Vbnlal.ascii " over " ++ Vbnlal.decimal e.b)):=by unfold Vbnlal.clauseText;rw[if_neg (by omega),if_neg (by omega),if_neg (by omega),if_pos (by omega)]
  rw[hN,hC,aYZ]
  unfold pstate
  rw[List.foldl_cons,List.foldl_cons,List.foldl_cons,List.foldl_cons,List.foldl_nil,jW (s:=("conserve" : Str)) (by decide +kernel),ps_hash,jW (s:=("over" : Str)) (by decide +kernel),ps_hash]
  show joinL [32] [tl ("conserve" : Str),tl (Str.ofString (toString e.a)),tl ("over" : Str),tl (Str.ofString (toString e.b))]=_
  rw[jl3,tl_num,tl_num,List.map_append,List.map_append,List.map_append,w3,w3b]
  simp only[List.append_assoc]
 |4,_,hk=>
  have hN:numsE e=[e.a,e.b]:=by unfold numsE;rw[if_pos (by omega)]
  have hC:Vbnlal.clauseText e=Vbnlal.ascii "type " ++ (Vbnlal.decimal e.a++(Vbnlal.ascii " is " ++ Vbnlal.decimal e.b)):=by unfold Vbnlal.clauseText;rw[if_neg (by omega),if_neg (by omega),if_neg (by omega),if_neg (by omega),if_pos (by omega)]
  rw[hN,hC,aZJ]
  unfold pstate
  rw[List.foldl_cons,List.foldl_cons,List.foldl_cons,List.foldl_cons,List.foldl_nil,jW (s:=(("ty" : Str) ++ "pe")) (by decide +kernel),ps_hash,jW (s:=("is" : Str)) (by decide +kernel),ps_hash]
  show joinL [32] [tl (("ty" : Str) ++ "pe"),tl (Str.ofString (toString e.a)),tl ("is" : Str),tl (Str.ofString (toString e.b))]=_
  rw[jl3,tl_num,tl_num,List.map_append,List.map_append,List.map_append,w4,w4b]
  simp only[List.append_assoc]
 |5,_,hk=>
  have hN:numsE e=[e.a]:=by unfold numsE;rw[if_neg (by omega)]
  have hC:Vbnlal.clauseText e=Vbnlal.ascii "reject work " ++ Vbnlal.decimal e.a:=by unfold Vbnlal.clauseText;rw[if_neg (by omega),if_neg (by omega),if_neg (by omega),if_neg (by omega),if_neg (by omega),if_pos (by omega)]
  rw[hN,hC,aZK]
  unfold pstate
  rw[List.foldl_cons,List.foldl_cons,List.foldl_cons,List.foldl_nil,jW (s:=("reject" : Str)) (by decide +kernel),jW (s:=("work" : Str)) (by decide +kernel),ps_hash]
  show joinL [32] [tl ("reject" : Str),tl ("work" : Str),tl (Str.ofString (toString e.a))]=_
  rw[jl2,tl_num,List.map_append,w5]
  simp only[List.append_assoc]
 |6,_,hk=>
  have hN:numsE e=[e.a]:=by unfold numsE;rw[if_neg (by omega)]
  have hC:Vbnlal.clauseText e=Vbnlal.ascii "annul " ++ Vbnlal.decimal e.a:=by unfold Vbnlal.clauseText;rw[if_neg (by omega),if_neg (by omega),if_neg (by omega),if_neg (by omega),if_neg (by omega),if_neg (by omega)]
  rw[hN,hC,aZQ]
  unfold pstate
  rw[List.foldl_cons,List.foldl_cons,List.foldl_nil,jW (s:=("annul" : Str)) (by decide +kernel),ps_hash]
  show joinL [32] [tl ("annul" : Str),tl (Str.ofString (toString e.a))]=_
  rw[jl1,tl_num,List.map_append,w6]
  simp only[List.append_assoc]
theorem FJ(l:List Int):(strOf l).length=l.length:=by
 unfold strOf Str.length
 simp
theorem tU:∀es:List Effect,joinL [59,32] (es.map λe=>(Vbnlal.clauseText e).map Int.toNat)=(Vbnlal.written es).map Int.toNat
 |[]=>rfl
 |[e]=>rfl
 |e::f::r=>by
  have ih:=tU (f::r)
  show(Vbnlal.clauseText e).map Int.toNat++([59,32]++joinL [59,32] ((f::r).map λe=>(Vbnlal.clauseText e).map Int.toNat))=(Vbnlal.clauseText e++(59::32::Vbnlal.written (f::r))).map Int.toNat
  rw[ih,List.map_append]
  rfl
theorem aSY(s:String):∀x∈Vbnlal.ascii s,0<=x:=λx hx=>by
 obtain⟨c,_,rfl⟩:=List.mem_map.mp hx
 exact Int.natCast_nonneg _
theorem bdZ{a b:List Int}(ha:∀x∈a,0<=x)(hb:∀x∈b,0<=x):∀x∈a++b,0<=x:=λx hx=>(List.mem_append.mp hx).elim (ha x) (hb x)
theorem ahK(e:Effect):∀x∈Vbnlal.clauseText e,0<=x:=by
 unfold Vbnlal.clauseText
 repeat' split
 all_goals repeat' first | exact aSY _ | apply bdZ
theorem YK:∀es:List Effect,∀x∈Vbnlal.written es,0<=x
 |[],x,h=>by cases h
 |[e],x,h=>ahK e x h
 |e::f::r,x,h=>by
  rcases List.mem_append.mp (show x∈Vbnlal.clauseText e++(59::32::Vbnlal.written (f::r)) from h) with h | h
  ·exact ahK e x h
  ·rcases List.mem_cons.mp h with e1 | h
   ·omega
   ·rcases List.mem_cons.mp h with e1 | h
    ·omega
    ·exact YK (f::r) x h
def spWritten:Sp:=mkSp (λp:Addr×Effect=>[.ref p.1]) λp H Q=>TupAt H p.1 p.2/\EffOk p.2/\∀H',Same H H'->(Vbnlal.clauseText p.2).length<=100->Q (.str (strOf (Vbnlal.clauseText p.2))) H'
section
variable{Z:Wd}{Cc Ck Cf f:Addr}{fd:FuncData}
abbrev SZ:Stmt:=top 48
theorem pU:FnScope ["proposal", "numbers", "pieces", "used", "piece"] ["proposal"] (defScope SZ):=mkSc
theorem aMX(F:Fun Z.K "written" "written" SZ f fd)(T:Tx Z Cc Ck Cf)(D_numbers_of:DefOk Z 1 "numbers_of" ["proposal"] (spNums))(D_forms:DefOk Z 1 "forms" [] (spForms)):OkZ Z 2 f fd ["proposal"] (spWritten):=by
 refine okS F pU λs H Q E hr h=>?_
 obtain⟨⟨t,e⟩,rfl,P,ok,q⟩:=h
 refine⟨_,(aK
  (bQ (i:=1) pU.nd rfl (Or.inl rfl) (cJ D_numbers_of (hr.mono (by decide)) rfl (aJ (pv 0) pa_nil)))
  (aK
  (bQ (i:=2) pU.nd rfl (Or.inl rfl) (bJ pa_nil))
  (aK
  (bQ (i:=3) pU.nd rfl (Or.inl rfl) aY)
  (aK
  (fV PassesOwn.never rfl (dQ (cZ jK (aRK D_forms (hr.mono (by decide)) rfl) (cZ eY (pv 0) aY (λ_ _=>rfl)) (λ_ _=>rfl))) (cK (i:=4) pU.nd rfl (Or.inl rfl))
   (aQ
    (bY (bZ eQ (pv 4) pe_str (nomark _))
     (aK
      (gJ (mW PySem.F.plainAttrs_list PySem.F.slot_list_append PySem.F.type_list_append mK (pv 2) (aJ (amQ atV (by rfl) T.n_str boot_str (aJ (cZ jK (pv 1) (pv 3) (λ_ _=>rfl)) pa_nil)) pa_nil)))
      (aQ
      (aOZ (i:=3) pU.nd rfl (Or.inl rfl) aY aPJ)))
     (aQ
      (gJ (mW PySem.F.plainAttrs_list PySem.F.slot_list_append PySem.F.type_list_append mK (pv 2) (aJ (pv 4) pa_nil)))))))
  (aQ
  (aU (aiV pe_str (pv 2)))))))),?_⟩
 dsimp only at P ok q
 have P':H t=some (.tup [.int e.kind,.int e.a,.int e.b]):=P
 obtain⟨k,hk⟩:∃k:Nat,e.kind=(k:Int):=⟨e.kind.toNat,by have:=ok.k0;omega⟩
 have h7:k<7:=by have:=ok.k6;omega
 refine⟨_,rfl,⟨t,e⟩,rfl,P,λH1 nb s1 hnb n1=>?_⟩
 dsimp only at n1
 refine⟨by decide,λpc hpc=>?_⟩
 have s2:Same H1 (upd H1 pc (.lst [])):=Same.new hpc
 have p2:(upd H1 pc (.lst [])) pc=some (.lst []):=upd_same
 generalize upd H1 pc (.lst [])=H2 at s2 p2 ⊢
 refine⟨(),rfl,λH3 fa qs s3 hfa h3 hq7 hqs=>?_⟩
 have s13:=(s1.trans s2).trans s3
 obtain⟨fk,hfk⟩:∃fk,qs[k]? = some fk:=⟨qs[k]'(by omega),List.getElem?_eq_getElem (by omega)⟩
 have hf:=hqs k fk hfk
 have n3:=s3 _ _ (s2 _ _ n1)
 have p3:=s3 _ _ p2
 refine⟨_,rfl,t,_,_,_,rfl,rfl,SqT.of (s13 _ _ P'),rfl,fa,_,_,_,rfl,rfl,SqL.of h3,qY (j:=k) hk (by rw[List.getElem?_map,hfk];rfl),fk,rfl,⟨_,SqL.of hf⟩,?_⟩
 have flen:=ayZ ⟨k,h7⟩
 dsimp only at flen
 have hlt:∀i,i<(fmS k).length->(fmS k)[i]? = some "#"->(pstate (numsE e) ((fmS k).take i)).2<(numsE e).length:=λi hi h=>by
  rw[(tQ _ _).2,anZ]
  have:=ayY ⟨k,h7⟩ ⟨i,by omega⟩ h
  dsimp only at this
  by_cases hh:k=3\/k=4
  ·rw[if_pos hh] at this
   rw[if_pos (by omega)]
   exact this
  ·rw[if_neg hh] at this
   rw[if_neg (by omega)]
   exact this
 have nfp:fk≠pc:=eW hf p3 λz=>bdV ⟨k,h7⟩ (List.map_eq_nil_iff.mp (HO.lst.inj z))
 refine iK (K:=Z.K) (a:=fk) (xs:=(fmS k).map V.str) (λi σ H'=>∃v:Option V,σ=[some (.ref t),some (.ref nb),some (.ref pc),some (.int ((pstate (numsE e) ((fmS k).take i)).2:Int)),v]/\But pc H3 H'/\H' pc=some (.lst ((pstate (numsE e) ((fmS k).take i)).1.map V.str)))
  ⟨none,rfl,But.refl _ _,p3⟩ (λi σ H' _ ⟨_,_,h,_⟩=>SqL.of (h _ _ hf nfp)) ?_ ?_
 ·rintro i y σ H' hy ⟨v,rfl,k4,p4⟩
  obtain⟨x,hx,rfl⟩:=gmap hy
  have hi:=(List.getElem?_eq_some_iff.mp hx).1
  have plen:(pstate (numsE e) ((fmS k).take i)).1.length<=4:=by
   rw[(tQ _ _).1]
   have:=fK i (fmS k)
   omega
  refine⟨_,rfl,rfl,_,rfl,ite2 (λh=>?_) λh=>?_⟩
  ·have h:x = "#":=V.str.inj (of_decide_eq_true h)
   subst h
   have hul:=hlt i hi hx
   have n4:=k4 _ _ n3 (aX n1 hpc)
   have hnum:=acK ok _ (List.getElem_mem hul)
   refine⟨_,rfl,.inl ⟨rfl,_,SqL.of p4⟩,_,rfl,_,rfl,nb,_,_,_,rfl,rfl,SqL.of n4,qY (j:=(pstate (numsE e) ((fmS k).take i)).2) rfl (by rw[List.getElem?_map,List.getElem?_eq_getElem hul];rfl),_,rfl,bdY hnum,pc,_,_,rfl,rfl,p4,small1000 (by rw[List.length_map];omega),?_⟩
   refine⟨_,rfl,_,_,rfl,rfl,some (.str "#"),?_,k4.upd,?_⟩
   ·rw[bU hx,pstate_snoc,ps_hash]
    rfl
   ·rw[upd_same,bU hx,pstate_snoc,ps_hash,List.map_append,List.getD_eq_getElem?_getD,List.getElem?_eq_getElem hul]
    rfl
  ·have h:¬x = "#":=λz=>h (decide_eq_true (congrArg V.str z))
   refine⟨_,rfl,.inl ⟨rfl,_,SqL.of p4⟩,_,rfl,pc,_,_,rfl,rfl,p4,small1000 (by rw[List.length_map];omega),some (.str x),?_,k4.upd,?_⟩
   ·rw[bU hx,pstate_snoc,jW h]
    rfl
   ·rw[upd_same,bU hx,pstate_snoc,jW h,List.map_append]
    rfl
 ·rintro σ H' ⟨v,rfl,k4,p4⟩
  rw[List.length_map,List.take_length] at p4
  have hsh:=SY (acK ok) ⟨k,h7⟩ hlt (fmS k).length (Nat.le_refl _)
  dsimp only at hsh
  rw[List.take_length] at hsh
  have plen:=(tQ (numsE e) (fmS k)).1
  have hsum:=aSX hsh
  refine⟨⟨_,rfl⟩,_,rfl,_,pc,_,rfl,rfl,.inl (SqL.of p4),?_,?_⟩
  ·rw[plen] at hsum ⊢
   show _+(fmS k).length*1<=16777216
   omega
  ·rw[aiU,joined e k hk h7]
   refine q _ (λb o hb=>k4 _ _ (s13 _ _ hb) (aX hb (s1.free hpc))) ?_
   have ej:=joined e k hk h7
   have e1:(Str.join " " (pstate (numsE e) (fmS k)).1).length=(Vbnlal.clauseText e).length:=by rw[ej,FJ]
   rw[<-e1,len_tl,AU]
   have h1:=xW (tl (" " : Str)) ((pstate (numsE e) (fmS k)).1.map tl)
   have h2:(((pstate (numsE e) (fmS k)).1.map tl).map List.length).sum=((pstate (numsE e) (fmS k)).1.map (·.length)).sum:=by
    rw[List.map_map]
    rfl
   rw[h2,tblank,List.length_map,plen] at h1
   rw[plen] at hsum
   rw[tblank]
   simp at h1
   omega
abbrev tV:Stmt:=top 49
theorem qU:FnScope ["proposals", "sign", "proposal"] ["proposals"] (defScope tV):=mkSc
theorem aFJ(F:Fun Z.K "one_form" "one_form" tV f fd)(T:Tx Z Cc Ck Cf)(D_written:DefOk Z 2 "written" ["proposal"] (spWritten)):OkZ Z 3 f fd ["proposals"] (spForm):=by
 refine okS F qU λs H Q E hr h=>?_
 obtain⟨⟨pa,ts,es⟩,rfl,P,hne,h6,hok,q⟩:=h
 refine⟨_,(aQ
  (aU (kU (own:=[("sign",1)]) rfl qU.nd (bgU (aiV pe_str (kU (own:=[("proposal",2)]) rfl qU.nd (dQ (pv 0)) (eK (by show blkC ["proposals", "sign", "proposal"] (defScope tV) _ _=true;decide +kernel)) (λ_ _ _ _ _=>by exact cK (i:=2) qU.nd rfl (Or.inl rfl)) (λ_ _ _ _ _=>jQ) (λ_ _ _ _ _=>by exact(cJ D_written (hr.mono (by decide)) rfl (aJ (pv 2) pa_nil)))))) (eK (by show blkC ["proposals", "sign", "proposal"] (defScope tV) _ _=true;decide +kernel)) (λ_ _ _ _ _=>by exact cK (i:=1) qU.nd rfl (Or.inl rfl)) (λ_ _ _ _ _=>jQ) (λ_ _ _ _ _=>by exact(cX aUU (by rfl) T.n_ord boot_ord (aJ (pv 1) pa_nil)))))),?_⟩
 dsimp only at P hne h6 hok q
 refine⟨⟨_,rfl⟩,_,rfl,pa,rfl,⟨_,SqL.of P.lst⟩,λD hD=>?_⟩
 refine TZ (K:=Z.K) (xs:=ts.map V.ref) (λi H'=>Same H H'/\H' D=some (.lst (((es.take i).map λe=>strOf (Vbnlal.clauseText e)).map V.str))/\∀e∈es.take i,(Vbnlal.clauseText e).length<=100) ⟨Same.new hD,upd_same,λe h=>by simp at h⟩ (λi H' _ z=>SqL.of (z.1 _ _ P.lst)) (λi y H5 hy z=>?_) λH5 z=>?_
 ·obtain⟨s5,d5,l5⟩:=z
  obtain⟨t,e,rfl,he,ht⟩:=P.at hy
  refine⟨rfl,_,rfl,⟨t,e⟩,rfl,s5 _ _ ht,hok e (List.mem_of_getElem? he),λH6 s6 hl=>⟨_,s6 _ _ d5,small1000 ?_,(s5.trans s6).upd hD,?_,?_⟩⟩
  ·rw[List.length_map,List.length_map]
   have:=fK i es
   omega
  ·rw[upd_same,bU he,List.map_append,List.map_append]
   rfl
  ·rw[bU he]
   intro x hx
   rcases List.mem_append.mp hx with hx | hx
   ·exact l5 x hx
   ·have:x=e:=by simpa using hx
    rw[this]
    exact hl
 ·obtain⟨s5,d5,l5⟩:=z
  rw[List.length_map,P.len,List.take_length] at d5 l5
  have hw:Str.join "; " (es.map λe=>strOf (Vbnlal.clauseText e))=strOf (Vbnlal.written es):=by
   refine akU ?_
   rw[AU,tl_strOf,List.map_map,show tl ("; " : Str)=[59,32] by decide +kernel]
   exact tU es
  have hsum:∀l:List Effect,(∀e∈l,(Vbnlal.clauseText e).length<=100)->((l.map λe=>strOf (Vbnlal.clauseText e)).map (·.length)).sum<=100*l.length:=by
   intro l
   induction l with
   |nil=>intro _;exact Nat.le_refl _
   |cons x l ih=>
    intro h
    have h1:=ih λe he=>h e (List.mem_cons_of_mem _ he)
    have h2:=h x List.mem_cons_self
    rw[List.map_cons,List.map_cons,List.sum_cons,List.length_cons,FJ]
    omega
  have hs:=hsum es l5
  refine⟨_,_,_,rfl,rfl,.inl (SqL.of d5),?_,?_⟩
  ·rw[List.length_map]
   show _+es.length*2<=16777216
   omega
  rw[aiU,hw]
  have wl:(Vbnlal.written es).length<=1000:=by
   have h1:=xW [59,32] (es.map λe=>(Vbnlal.clauseText e).map Int.toNat)
   rw[tU es,List.length_map,List.map_map,List.length_map] at h1
   have h2:(es.map (List.length ∘ λe=>(Vbnlal.clauseText e).map Int.toNat)).sum=((es.map λe=>strOf (Vbnlal.clauseText e)).map (·.length)).sum:=by
    rw[List.map_map]
    rfl
   rw[h2,show([59,32]:List Nat).length=2 from rfl] at h1
   omega
  have q:=q wl
  refine⟨_,rfl,λD2 hD2=>?_⟩
  have wpos:∀x∈Vbnlal.written es,0<=x:=YK es
  refine lcs (x:=strOf (Vbnlal.written es)) (λi=>((Vbnlal.written es).take i).map V.int) hD2 rfl (λi _=>smallS (by rw[List.length_map];have:=fK i (Vbnlal.written es);omega)) ?_ ?_
  ·intro i c H6 hc s6 k' nx g1 g2
   have hx:(Vbnlal.written es)[i]? = some (c:Int):=by
    have h1:((Vbnlal.written es).map Int.toNat)[i]? = some c:=by
     have:(strOf (Vbnlal.written es)).cps[i]? = some c:=hc
     unfold strOf at this
     rw[List.getElem?_toArray] at this
     exact this
    rw[List.getElem?_map] at h1
    obtain⟨x,h2,h3⟩:=Option.map_eq_some_iff.mp h1
    have:=wpos x (List.mem_of_getElem? h2)
    rw[h2]
    congr 1
    omega
   refine⟨rfl,_,rfl,_,rfl,rfl,g1 _ _ (Same.refl _) ?_⟩
   rw[bU hx,List.map_append]
   rfl
  ·intro H6 s6 hD6
   have e9:(strOf (Vbnlal.written es)).cps.size=(Vbnlal.written es).length:=FJ _
   rw[e9,List.take_length] at hD6
   exact q _ _ (s5.trans s6) (s5.free hD2) hD6
end
theorem TJ{l r:List Int}{i:Nat}{a:Int}(h:l.drop i=a::r):l.drop (i+1)=r:=by
 rw[<-List.drop_drop,h]
 rfl
section
variable{Z:Wd}{Cc Ck Cf f:Addr}{fd:FuncData}
abbrev HV:Stmt:=top 130
theorem azJ:FnScope ["court", "feed"] ["court", "feed"] (defScope HV):=mkSc
theorem azK(F:Fun Z.K "do_office" "do_office" HV f fd)(T:Tx Z Cc Ck Cf)(D_tell_office:DefOk Z 1 "tell_office" ["court"] (spR0 Cc Ck λs=>(stepM s .office).2)):OkZ Z 3 f fd ["court", "feed"] (spDo Cc Ck Cf Z.K λx=>x = .office):=by
 refine okS F azJ λs H Q E hr h=>?_
 obtain⟨z,rfl,ex,B,F0,hd,ha,q⟩:=h
 refine⟨_,(aQ
  (aU (cJ D_tell_office (hr.mono (by decide)) rfl (aJ (pv 0) pa_nil)))),?_⟩
 obtain⟨a,f,na,ns,i,x,r⟩:=z
 dsimp only at ex B F0 hd ha q
 subst ex
 refine⟨_,rfl,a,rfl,B,?_⟩
 exact doL q B.at_ F0 (But.refl _ _) (λy hy=>hy) (iY _ _ trivial)
abbrev TK:Stmt:=top 126
theorem aMY:FnScope ["court", "feed"] ["court", "feed"] (defScope TK):=mkSc
theorem aMZ(F:Fun Z.K "do_read" "do_read" TK f fd)(T:Tx Z Cc Ck Cf)(D_read_text:DefOk Z 5 "read_text" ["text"] (spReadText Z.K))(D_take_row:MethOk Z Cf 2 "take_row" ["self"] (spRow Cf Z.K)):OkZ Z 6 f fd ["court", "feed"] (spDo Cc Ck Cf Z.K λx=>∃t,x = .read t):=by
 refine okS F aMY λs H Q E hr h=>?_
 obtain⟨z,rfl,⟨t,ex⟩,B,F0,hd,ha,q⟩:=h
 refine⟨_,(aQ
  (aU (cJ D_read_text (hr.mono (by decide)) rfl (aJ (cQ (pv 1) T.c_Feed D_take_row (hr.mono (by decide))) pa_nil)))),?_⟩
 obtain⟨a,f,na,ns,i,x,r⟩:=z
 dsimp only at ex B F0 hd ha q
 subst ex
 replace hd:ns.drop i=(t.length:Int)::(t++r):=hd
 obtain⟨dx0,hi0⟩:=F0.ins
 refine⟨_,rfl,f,dx0,_,rfl,hi0,pW _ _,⟨⟨f,na,ns,a.ow,i,0⟩,t,r⟩,rfl,F0,hd,λH1 p F1 k1 g1 hp h1=>?_⟩
 dsimp only at F1 k1 g1 h1
 have B1:=B.but hi0 (by intro xs w;cases w) F0.own k1 g1
 have e:(stepM a.s (.read t)).2=readAns t:=by
  show(match Vbnlal.read t with | .error r=>(a.s,[r]) | .ok es=>(a.s,(es.length:Int)::es.flatMap λ(e:Effect)=>[e.kind,e.a,e.b]):State×List Int).2=_
  unfold readAns
  cases Vbnlal.read t <;> rfl
 refine⟨⟨p,t⟩,rfl,SqL.of h1,ha,?_⟩
 dsimp only
 rw[<-e]
 exact doL (z:=⟨a,f,na,ns,i,.read t,r⟩) q B1.at_ F1 k1 g1 (iY _ _ trivial) (by show i+1+t.length=i+(t.length+1);omega)
abbrev zK:Stmt:=top 119
theorem vW:FnScope ["court", "feed", "key", "text"] ["court", "feed"] (defScope zK):=mkSc
theorem akY(F:Fun Z.K "do_petition" "do_petition" zK f fd)(T:Tx Z Cc Ck Cf)(D_take:MethOk Z Cf 1 "take" ["self"] (spTake Cf Z.K))(D_take_row:MethOk Z Cf 2 "take_row" ["self"] (spRow Cf Z.K))(D_petition:DefOk Z 5 "petition" ["court", "key", "text"] (spPetition Cc Ck Z.K)):OkZ Z 6 f fd ["court", "feed"] (spDo Cc Ck Cf Z.K λx=>∃k t,x = .petition k t):=by
 refine okS F vW λs H Q E hr h=>?_
 obtain⟨z,rfl,⟨k,t,ex⟩,B,F0,hd,ha,q⟩:=h
 refine⟨_,(aK
  (bQ (i:=2) vW.nd rfl (Or.inl rfl) (cQ (pv 1) T.c_Feed D_take (hr.mono (by decide))))
  (aK
  (bQ (i:=3) vW.nd rfl (Or.inl rfl) (cQ (pv 1) T.c_Feed D_take_row (hr.mono (by decide))))
  (aQ
  (aU (cJ D_petition (hr.mono (by decide)) rfl (aJ (pv 0) (aJ (pv 2) (aJ (pv 3) pa_nil)))))))),?_⟩
 obtain⟨a,f,na,ns,i,x,r⟩:=z
 dsimp only at ex B F0 hd ha q
 subst ex
 replace hd:ns.drop i=k::(t.length:Int)::(t++r):=hd
 obtain⟨dx0,hi0⟩:=F0.ins
 refine⟨_,rfl,f,dx0,_,rfl,hi0,bW _ _,⟨f,na,ns,a.ow,i,k⟩,rfl,F0,cV hd,λH1 F1 k1 g1=>?_⟩
 dsimp only at F1 k1 g1
 obtain⟨dx1,hi1⟩:=F1.ins
 refine⟨_,rfl,f,dx1,_,rfl,hi1,pW _ _,⟨⟨f,na,ns,a.ow,i+1,0⟩,t,r⟩,rfl,F1,TJ hd,λH2 p F2 k2 g2 hp h2=>?_⟩
 dsimp only at F2 k2 g2 h2
 have kb:=k1.trans k2
 have gr:∀y,H2 y=none->H y=none:=λy hy=>g1 y (g2 y hy)
 have B1:=B.but hi0 (by intro xs w;cases w) F0.own kb gr
 have hT:Vbnlal.textOk t=true:=by
  have:(Vbnlal.numOk k&&Vbnlal.textOk t)=true:=ha
  rw[Bool.and_eq_true] at this
  exact this.2
 refine⟨_,rfl,_,rfl,_,rfl,⟨a,k,p,t⟩,rfl,B1,SqL.of h2,hT,?_⟩
 exact doM (z:=⟨a,f,na,ns,i,.petition k t,r⟩) q F2 kb gr (by show i+1+1+t.length=i+(t.length+1+1);omega)
abbrev NU:Stmt:=top 134
theorem qV:FnScope ["court", "feed", "d", "key", "v", "row"] ["court", "feed"] (defScope NU):=mkSc
theorem aFK(F:Fun Z.K "do_check" "do_check" NU f fd)(T:Tx Z Cc Ck Cf)(D_take:MethOk Z Cf 1 "take" ["self"] (spTake Cf Z.K))(D_take_row:MethOk Z Cf 2 "take_row" ["self"] (spRow Cf Z.K))(D_check:DefOk Z 4 "check" ["court", "d", "key", "v", "row"] (spCheck Cc Ck Z.K)):OkZ Z 5 f fd ["court", "feed"] (spDo Cc Ck Cf Z.K λx=>∃d k v t,x = .check d k v t):=by
 refine okS F qV λs H Q E hr h=>?_
 obtain⟨z,rfl,⟨d,k,v,t,ex⟩,B,F0,hd,ha,q⟩:=h
 refine⟨_,(aK
  (bQ (i:=2) qV.nd rfl (Or.inl rfl) (cQ (pv 1) T.c_Feed D_take (hr.mono (by decide))))
  (aK
  (bQ (i:=3) qV.nd rfl (Or.inl rfl) (cQ (pv 1) T.c_Feed D_take (hr.mono (by decide))))
  (aK
  (bQ (i:=4) qV.nd rfl (Or.inl rfl) (cQ (pv 1) T.c_Feed D_take (hr.mono (by decide))))
  (aK
  (bQ (i:=5) qV.nd rfl (Or.inl rfl) (cQ (pv 1) T.c_Feed D_take_row (hr.mono (by decide))))
  (aQ
  (aU (cJ D_check (hr.mono (by decide)) rfl (aJ (pv 0) (aJ (pv 2) (aJ (pv 3) (aJ (pv 4) (aJ (pv 5) pa_nil sJ) sJ) sJ) sJ) sJ)))))))),?_⟩
 obtain⟨a,f,na,ns,i,x,r⟩:=z
 dsimp only at ex B F0 hd ha q
 subst ex
 replace hd:ns.drop i=d::k::v::(t.length:Int)::(t++r):=hd
 obtain⟨dx0,hi0⟩:=F0.ins
 refine⟨_,rfl,f,dx0,_,rfl,hi0,bW _ _,⟨f,na,ns,a.ow,i,d⟩,rfl,F0,cV hd,λH1 F1 k1 g1=>?_⟩
 dsimp only at F1 k1 g1
 obtain⟨dx1,hi1⟩:=F1.ins
 refine⟨_,rfl,f,dx1,_,rfl,hi1,bW _ _,⟨f,na,ns,a.ow,i+1,k⟩,rfl,F1,kZ hd,λH2 F2 k2 g2=>?_⟩
 dsimp only at F2 k2 g2
 obtain⟨dx2,hi2⟩:=F2.ins
 refine⟨_,rfl,f,dx2,_,rfl,hi2,bW _ _,⟨f,na,ns,a.ow,i+1+1,v⟩,rfl,F2,SJ hd,λH3 F3 k3 g3=>?_⟩
 dsimp only at F3 k3 g3
 obtain⟨dx3,hi3⟩:=F3.ins
 refine⟨_,rfl,f,dx3,_,rfl,hi3,pW _ _,⟨⟨f,na,ns,a.ow,i+1+1+1,0⟩,t,r⟩,rfl,F3,TJ (TJ (TJ hd)),λH4 p F4 k4 g4 hp h4=>?_⟩
 dsimp only at F4 k4 g4 h4
 have kb:=((k1.trans k2).trans k3).trans k4
 have gr:∀y,H4 y=none->H y=none:=λy hy=>g1 y (g2 y (g3 y (g4 y hy)))
 have B1:=B.but hi0 (by intro xs w;cases w) F0.own kb gr
 have h80:t.length<=80:=by
  have:(Vbnlal.numOk d&&(Vbnlal.numOk k&&(Vbnlal.numOk v&&(decide (t.length<=80)&&t.all Vbnlal.numOk))))=true:=ha
  simp only[Bool.and_eq_true,decide_eq_true_eq] at this
  exact this.2.2.2.1
 refine⟨_,rfl,_,rfl,_,rfl,_,rfl,_,rfl,⟨a,d,k,v,p,t⟩,rfl,B1,SqL.of h4,h80,?_⟩
 exact doL (z:=⟨a,f,na,ns,i,.check d k v t,r⟩) q B1.at_ F4 kb gr (iY _ _ trivial) (by show i+1+1+1+1+t.length=i+(t.length+1+1+1+1);omega)
end
theorem akZ{e:Effect}(ok:EffOk e):(Vbnlal.clauseText e).length<=100:=by
 obtain⟨k,hk⟩:∃k:Nat,e.kind=(k:Int):=⟨e.kind.toNat,by have:=ok.k0;omega⟩
 have h7:k<7:=by have:=ok.k6;omega
 have flen:=ayZ ⟨k,h7⟩
 dsimp only at flen
 have hlt:∀i,i<(fmS k).length->(fmS k)[i]? = some "#"->(pstate (numsE e) ((fmS k).take i)).2<(numsE e).length:=λi hi h=>by
  rw[(tQ _ _).2,anZ]
  have:=ayY ⟨k,h7⟩ ⟨i,by omega⟩ h
  dsimp only at this
  by_cases hh:k=3\/k=4
  ·rw[if_pos hh] at this
   rw[if_pos (by omega)]
   exact this
  ·rw[if_neg hh] at this
   rw[if_neg (by omega)]
   exact this
 have hsh:=SY (acK ok) ⟨k,h7⟩ hlt (fmS k).length (Nat.le_refl _)
 dsimp only at hsh
 rw[List.take_length] at hsh
 have plen:=(tQ (numsE e) (fmS k)).1
 have hsum:=aSX hsh
 have e1:(Str.join " " (pstate (numsE e) (fmS k)).1).length=(Vbnlal.clauseText e).length:=by rw[joined e k hk h7,FJ]
 rw[<-e1,len_tl,AU]
 have h1:=xW (tl (" " : Str)) ((pstate (numsE e) (fmS k)).1.map tl)
 have h2:(((pstate (numsE e) (fmS k)).1.map tl).map List.length).sum=((pstate (numsE e) (fmS k)).1.map (·.length)).sum:=by
  rw[List.map_map]
  rfl
 rw[h2,tblank,List.length_map,plen] at h1
 rw[plen] at hsum
 rw[tblank]
 simp at h1
 omega
theorem aFQ{es:List Effect}(h6:es.length<=6)(hok:∀e∈es,EffOk e):(Vbnlal.written es).length<=1000:=by
 have h1:=xW [59,32] (es.map λe=>(Vbnlal.clauseText e).map Int.toNat)
 rw[tU es,List.length_map,List.map_map,List.length_map] at h1
 have h2:∀l:List Effect,(∀e∈l,EffOk e)->(l.map (List.length ∘ λe=>(Vbnlal.clauseText e).map Int.toNat)).sum<=100*l.length:=by
  intro l
  induction l with
  |nil=>intro _;exact Nat.le_refl _
  |cons x l ih=>
   intro h
   have h1:=ih λe he=>h e (List.mem_cons_of_mem _ he)
   have h2:=akZ (h x List.mem_cons_self)
   rw[List.map_cons,List.sum_cons,List.length_cons]
   show((Vbnlal.clauseText x).map Int.toNat).length+_<=_
   rw[List.length_map]
   omega
 have h3:=h2 es hok
 rw[show([59,32]:List Nat).length=2 from rfl] at h1
 omega
def num:Call->Nat
 |.day _=>0
 |.seat _ _=>1
 |.leave _=>2
 |.preside _=>3
 |.petition _ _=>4
 |.withdraw _=>5
 |.comment _=>6
 |.openVote _=>7
 |.ballot _ _ _=>8
 |.close _=>9
 |.publish _=>10
 |.read _=>11
 |.show_ _=>12
 |.phase _=>13
 |.tally _=>14
 |.office=>15
 |.rulings _=>16
 |.inForce _ _=>17
 |.because _ _=>18
 |.check _ _ _ _=>19
 |.status _ _=>20
 |.over _ _ _=>21
 |.typeAt _ _=>22
 |.rejected _ _=>23
 |.index _=>24
 |.conserved _=>25
 |.stays _=>26
theorem aHK:∀x:Call,enc x=(num x:Int)::(enc x).tail:=by
 intro x
 cases x <;> rfl
def CallTab(Z:Wd)(Cc Ck Cf:Addr)(fs:List Addr):Prop:=∀x:Call,∃f fd,fs[num x]? = some f/\PySem.W.keepIn Z.K (.ref f)=true/\Binds Z.K fd ["court", "feed"] []/\OkZ Z 7 f fd ["court", "feed"] (spDo Cc Ck Cf Z.K λy=>y=x)
def spAns(K:PySem.W.Frag):Sp:=mkSp (λp:Addr×List Int=>[.ref p.1]) λp H Q=>SqL K H p.1 (p.2.map V.int)/\PyVbnlal.answers_asked p.2=true/\∀H' q,H' q=some (.lst ((PyVbnlal.answers p.2).map V.int))->Q (.ref q) H'
structure Run(n:Nat)(m s:State):Prop where
 good:Good n m
 ord:Ord m
 bal:Bal m
 rel:R m s
theorem Run.step{n:Nat}{m s:State}(r:Run n m s)(x:Call):Run (n+1) (stepM m x).1 (Vbnlal.step s x).1/\(stepM m x).2=(Vbnlal.step s x).2:=
 have b:=r.rel.stepM x
 ⟨⟨r.good.step x,r.ord.step r.good x,r.bal.step r.good x,b.2⟩,b.1⟩
theorem told_snoc(l:List (List Int))(a:List Int):PyFlat.told (l++[a])=PyFlat.told l++((a.length:Int)::a):=by
 unfold PyFlat.told
 rw[List.flatMap_append]
 simp
theorem aXW{l:List (List Int)}(h:∀a∈l,a.length<=20000):(PyFlat.told l).length<=20001*l.length:=by
 unfold PyFlat.told
 exact eJ λa ha=>Nat.succ_le_succ (h a ha)
section
variable{Z:Wd}{Cc Ck Cf f:Addr}{fd:FuncData}
abbrev mQ:Stmt:=top 143
theorem pV:FnScope ["calls", "court", "feed", "told", "call", "answer"] ["calls"] (defScope mQ):=mkSc
theorem aNJ{ca:Addr}{fs:List Addr}(F:Fun Z.K "answers" "answers" mQ f fd)(T:Tx Z Cc Ck Cf)(G_CALLS:Z.mg "CALLS"=some (.ref ca))(hCA:∀H,SqT Z.K H ca (fs.map V.ref))(CT:CallTab Z Cc Ck Cf fs)
  (D_Court:MakeOk Z Cc 1 "Court" ["self"] (spInitCourt Cc)) (D_Feed:MakeOk Z Cf 1 "Feed" ["self", "numbers"] (spInitFeed Cf)) (D_is_over:MethOk Z Cf 1 "is_over" ["self"] (spOver Cf Z.K)) (D_take:MethOk Z Cf 1 "take" ["self"] (spTake Cf Z.K)):OkZ Z 9 f fd ["calls"] (spAns Z.K):=by
 refine F.ok pV (λvs H Q E h=>?_) (λcdv A outer s H vs Q E hr h=>?_)
 ·obtain⟨a,rfl,_⟩:=h
  rfl
 ·obtain⟨⟨na,l⟩,rfl,hS,hask,q⟩:=h
  have hr7:Room 7 (A.deeper (envOfC "answers" (defScope mQ) s.heap.objs.size f cdv)):=hr.mono (by decide)
  refine⟨_,(aK
   (bQ (i:=1) pV.nd rfl (Or.inl rfl) (bgX D_Court (hr.mono (by decide)) rfl))
   (aK
   (bQ (i:=2) pV.nd rfl (Or.inl rfl) (aYQ D_Feed (hr.mono (by decide)) rfl (aJ (pv 0) pa_nil)))
   (aK
   (bQ (i:=3) pV.nd rfl (Or.inl rfl) (bJ pa_nil))
   (aK
   (ZY PassesOwn.never (iU (fQ (cQ (pv 2) T.c_Feed D_is_over (hr.mono (by decide)))))
    (aK
     (bQ (i:=4) pV.nd rfl (Or.inl rfl) (cZ eY (ahY (v:=.ref ca) rfl G_CALLS rfl) (cQ (pv 2) T.c_Feed D_take (hr.mono (by decide))) (λ_ _=>rfl)))
     (aK
     (bQ (i:=5) pV.nd rfl (Or.inl rfl) (aVZ (k:=7) (pv 4) (hr.mono (by decide)) (aJ (pv 1) (aJ (pv 2) pa_nil))))
     (aK
     (gJ (mW PySem.F.plainAttrs_list PySem.F.slot_list_append PySem.F.type_list_append mK (pv 3) (aJ (cX eZ (by rfl) T.n_len PySem.boot_len (aJ (pv 5) pa_nil)) pa_nil)))
     (aQ
     (gJ (mW PySem.F.plainAttrs_list PySem.F.slot_list_extend PySem.F.type_list_extend xJ (pv 3) (aJ (pv 5) pa_nil))))))))
   (aQ
   (aU (pv 3))))))),?_⟩
  dsimp only at hS hask q
  obtain⟨xs,hl,hx400,hxs,hans⟩:=parse hask
  rw[hans] at q
  intro c dc hc hdc hne
  refine⟨c,rfl,dc,upd_same,λH1 ld cs ru k1 i1 nld ncs nru nlc l1' c1 r1 g1=>⟨rfl,?_⟩⟩
  have s1:Same H H1:=Same.made hc hdc k1
  have gg1:∀y,H1 y=none->H y=none:=λy hy=>aW (aW (g1 y hy))
  refine⟨_,rfl,λfe df hfe hdf hne2=>?_⟩
  refine⟨⟨fe,na⟩,rfl,df,upd_same,λH2 k2 i2 g2=>⟨rfl,?_⟩⟩
  have s2:Same H1 H2:=Same.made hfe hdf k2
  dsimp only at i2
  refine⟨by decide,λto hto=>?_⟩
  have s3:Same H2 (upd H2 to (.lst [])):=Same.new hto
  have t3:(upd H2 to (.lst [])) to=some (.lst []):=upd_same
  generalize upd H2 to (.lst [])=H3 at s3 t3 ⊢
  have s13:=s2.trans s3
  have ncl:c≠ld:=λe=>by
   have:=nld
   rw[<-e,upd_same] at this
   cases this
  have ncc:c≠cs:=λe=>by
   have:=ncs
   rw[<-e,upd_same] at this
   cases this
  have ncr:c≠ru:=λe=>by
   have:=nru
   rw[<-e,upd_same] at this
   cases this
  have nlr:ld≠ru:=eW l1' r1 (by intro z;cases z)
  have ncr2:cs≠ru:=eW c1 r1 (by intro z;cases z)
  let ow:Own:=λb=>if b=c then some .court else if b=ld then some .ld else if b=cs then some .cs else if b=ru then some .ru else none
  have owN:∀b,b≠c->b≠ld->b≠cs->b≠ru->ow b=none:=λb h1 h2 h3 h4=>by
   show(if b=c then _ else _)=_
   rw[if_neg h1,if_neg h2,if_neg h3,if_neg h4]
  have C0:CourtAt Cc Ck H3 c ow ⟨ld,cs,ru,[]⟩ Vbnlal.start:=by
   refine⟨⟨dc,s13 _ _ i1⟩,s13 _ _ l1',s13 _ _ c1,s13 _ _ r1,rfl,λi q x h=>by simp at h,if_pos rfl,?_,?_,?_,λb hb=>?_⟩
   ·show(if ld=c then _ else _)=_
    rw[if_neg ncl.symm,if_pos rfl]
   ·show(if cs=c then _ else _)=_
    rw[if_neg ncc.symm,if_neg nlc.symm,if_pos rfl]
   ·show(if ru=c then _ else _)=_
    rw[if_neg ncr.symm,if_neg nlr.symm,if_neg ncr2.symm,if_pos rfl]
   ·refine owN b (λe=>?_) (λe=>?_) (λe=>?_) (λe=>?_)
    ·rw[e,s13 _ _ i1] at hb;cases hb
    ·rw[e,s13 _ _ l1'] at hb;cases hb
    ·rw[e,s13 _ _ c1] at hb;cases hb
    ·rw[e,s13 _ _ r1] at hb;cases hb
  have fre:∀b o,H b=some o->ow b=none:=λb o hb=>owN b (aX hb hc) (λe=>by rw[e] at hb;exact absurd (aW (aW nld)) (by rw[hb];exact λz=>nomatch z)) (λe=>by rw[e] at hb;exact absurd (aW (aW ncs)) (by rw[hb];exact λz=>nomatch z)) (λe=>by rw[e] at hb;exact absurd (aW (aW nru)) (by rw[hb];exact λz=>nomatch z))
  have new1:∀b,H1 b=none->ow b=none:=λb hb=>owN b (λe=>by rw[e,i1] at hb;cases hb) (λe=>by rw[e,l1'] at hb;cases hb) (λe=>by rw[e,c1] at hb;cases hb) (λe=>by rw[e,r1] at hb;cases hb)
  have F0:FeedOk Cf Z.K H3 ow fe na l 0:=by
   refine⟨⟨df,s3 _ _ i2⟩,?_,new1 fe hfe⟩
   rcases hS with h | h
   ·refine .inl ⟨(s1.trans s13).rd h,?_⟩
    rcases h with h | ⟨o,h⟩
    ·exact fre _ _ h
    ·exact fre _ _ h
   ·exact .inr λH'=>.inr h
  have hNT:na≠to\/∀H',SqL Z.K H' na (l.map V.int):=by
   have htoH:=s1.free (s2.free hto)
   rcases hS with (h | ⟨o,h⟩) | h
   ·exact .inl (aX h htoH)
   ·exact .inl (aX h htoH)
   ·exact .inr λH'=>.inr h
  have oto:ow to=none:=new1 to (s2.free hto)
  have nft:to≠fe:=λe=>by rw[e,i2] at hto;cases hto
  refine⟨λm σ H'=>∃(dn rest:List Call)(st sp:State)(pd:List (List Int))(v4 v5:Option V)(ow':Own)(L':Lay),m=rest.length/\xs=dn++rest/\σ=[some (.ref na),some (.ref c),some (.ref fe),some (.ref to),v4,v5]/\Run dn.length st sp/\
    CourtAt Cc Ck H' c ow' L' st/\FeedOk Cf Z.K H' ow' fe na l (dn.flatMap enc).length/\ow' to=none/\H' to=some (.lst ((PyFlat.told pd).map V.int))/\plays Vbnlal.start xs=pd++plays sp rest/\pd.length=dn.length/\(∀a∈pd,a.length<=20000),
   ⟨xs.length,[],xs,Vbnlal.start,Vbnlal.start,[],none,none,ow,⟨ld,cs,ru,[]⟩,rfl,rfl,rfl,⟨Good_start,Ord_start,Bal_start,R_start⟩,C0,F0,oto,t3,rfl,rfl,λa h=>by cases h⟩,?_⟩
  rintro m σ H' ⟨dn,rest,st,sp,pd,v4,v5,ow',L',rfl,hxr,rfl,RN,C,FO,oto',to',hpl,hpd,hpa⟩
  obtain⟨dfx,hfx⟩:=FO.ins
  refine⟨_,rfl,fe,dfx,_,rfl,hfx,aaW _ _,⟨fe,na,l,ow',(dn.flatMap enc).length,0⟩,rfl,FO,_,rfl,?_⟩
  dsimp only
  cases rest with
  |nil=>
   have e:l.length<=(dn.flatMap enc).length:=by
    rw[hl,hxr,List.append_nil]
    exact Nat.le_refl _
   rw[decide_eq_true e]
   refine iteF ⟨_,rfl,q H' to ?_⟩
   rw[hpl]
   show H' to=some (HO.lst ((PyFlat.told (pd++[])).map V.int))
   rw[List.append_nil]
   exact to'
  |cons x rest=>
   have hlx:l=dn.flatMap enc++((num x:Int)::((enc x).tail++rest.flatMap enc)):=by
    rw[hl,hxr,List.flatMap_append,List.flatMap_cons]
    conv=>lhs;rw[aHK x]
    rfl
   have e:¬l.length<=(dn.flatMap enc).length:=by
    rw[hlx,List.length_append,List.length_cons]
    omega
   have hd0:l.drop (dn.flatMap enc).length=(num x:Int)::((enc x).tail++rest.flatMap enc):=by
    conv=>lhs;rw[hlx]
    exact List.drop_left
   have hdn:dn.length+1+rest.length<=400:=by
    have:=congrArg List.length hxr
    rw[List.length_append,List.length_cons] at this
    omega
   rw[decide_eq_false e]
   refine iteT ?_
   refine⟨λσ' H''=>∃(dn' rest':List Call)(st sp:State)(pd:List (List Int))(v4 v5:Option V)(ow':Own)(L':Lay),rest'=rest/\xs=dn'++rest'/\σ'=[some (.ref na),some (.ref c),some (.ref fe),some (.ref to),v4,v5]/\Run dn'.length st sp/\
    CourtAt Cc Ck H'' c ow' L' st/\FeedOk Cf Z.K H'' ow' fe na l (dn'.flatMap enc).length/\ow' to=none/\H'' to=some (.lst ((PyFlat.told pd).map V.int))/\plays Vbnlal.start xs=pd++plays sp rest'/\pd.length=dn'.length/\(∀a∈pd,a.length<=20000),?_,?_⟩
   ·rintro σ' H'' ⟨dn',rest',st,sp,pd,v4,v5,ow',L',e1,h⟩
    exact⟨rest'.length,by rw[e1];exact Nat.lt_succ_self _,dn',rest',st,sp,pd,v4,v5,ow',L',rfl,h⟩
   obtain⟨fx,fdx,hfs,hkeep,hbind,hok⟩:=CT x
   refine⟨_,rfl,fe,dfx,_,rfl,hfx,bW _ _,⟨fe,na,l,ow',(dn.flatMap enc).length,(num x:Int)⟩,rfl,FO,cV hd0,λH5 F5 k5 g5=>?_⟩
   dsimp only at F5 k5 g5
   refine⟨ca,_,_,.ref fx,rfl,rfl,hCA _,qY (j:=num x) rfl (by rw[List.getElem?_map,hfs];rfl),?_⟩
   have C5:=C.but hfx (by intro xs w;cases w) FO.own k5 g5
   have to5:=k5 _ _ to' nft
   refine⟨_,rfl,fx,fdx,_,_,rfl,hok,hkeep,hbind,_,rfl,_,rfl,⟨⟨c,ow',L',st,dn.length⟩,fe,na,l,(dn.flatMap enc).length+1,x,rest.flatMap enc⟩,rfl,rfl,⟨C5,RN.good,RN.ord,by show dn.length<=400;omega,RN.bal⟩,F5,TJ hd0,hxs x (by rw[hxr];simp),?_⟩
   intro H6 p ow6 L6 C6 F6 k6 g6 hp6 h6
   dsimp only at C6 F6 k6 h6
   obtain⟨RN6,ea⟩:=RN.step x
   have to6:=k6 to _ to5 oto' nft
   have al:(stepM st x).2.length<=20000:=baK RN.good (by omega) (λy hy=>aFQ (RN.good.ok y hy).six (RN.good.ok y hy).eff) x
   have ntp:to≠p:=aX to5 hp6
   have tl5:=aXW hpa
   have sz:20001*400+2<=sizeLine:=by rw[sizeLine_eq];decide
   have tl6:(PyFlat.told pd).length+(stepM st x).2.length+2<=sizeLine:=by
    rw[hpd] at tl5
    omega
   refine⟨_,rfl,.inl ⟨rfl,_,SqL.of to6.1⟩,_,rfl,_,_,rfl,.inl (SqL.of h6),to,_,_,rfl,rfl,to6.1,(by rw[List.length_map];omega),?_⟩
   rw[List.length_map]
   have to7:(upd H6 to (.lst ((PyFlat.told pd).map V.int++[.int ((stepM st x).2.length:Int)]))) to=some (.lst ((PyFlat.told pd).map V.int++[.int ((stepM st x).2.length:Int)])):=upd_same
   have p7:(upd H6 to (.lst ((PyFlat.told pd).map V.int++[.int ((stepM st x).2.length:Int)]))) p=some (.lst ((stepM st x).2.map V.int)):=by rw[aV ntp.symm];exact h6
   refine⟨_,rfl,.inl ⟨rfl,_,SqL.of to7⟩,_,rfl,to,p,_,_,rfl,rfl,to7,p7,(by rw[List.length_append,List.length_map,List.length_map];simp;omega),?_⟩
   have k7:But to H6 (upd (upd H6 to (.lst ((PyFlat.told pd).map V.int++[.int ((stepM st x).2.length:Int)]))) to (.lst ((PyFlat.told pd).map V.int++[.int ((stepM st x).2.length:Int)]++(stepM st x).2.map V.int))):=λb o hb hn=>by rw[aV hn,aV hn];exact hb
   have g7:∀y,(upd (upd H6 to (.lst ((PyFlat.told pd).map V.int++[.int ((stepM st x).2.length:Int)]))) to (.lst ((PyFlat.told pd).map V.int++[.int ((stepM st x).2.length:Int)]++(stepM st x).2.map V.int))) y=none->H6 y=none:=λy hy=>aW (aW hy)
   have C7:=C6.but to6.1 (by intro xs w;cases w) to6.2 k7 g7
   have F7:FeedOk Cf Z.K (upd (upd H6 to (.lst ((PyFlat.told pd).map V.int++[.int ((stepM st x).2.length:Int)]))) to (.lst ((PyFlat.told pd).map V.int++[.int ((stepM st x).2.length:Int)]++(stepM st x).2.map V.int))) ow6 fe na l ((dn++[x]).flatMap enc).length:=by
    have e8:((dn++[x]).flatMap enc).length=(dn.flatMap enc).length+1+(enc x).tail.length:=by
     rw[List.flatMap_append,List.length_append,List.flatMap_cons,List.flatMap_nil,List.append_nil]
     conv=>lhs;rw[aHK x]
     rw[List.length_cons]
     omega
    rw[e8]
    obtain⟨d6,i6⟩:=F6.ins
    refine⟨⟨d6,k7 _ _ i6 nft.symm⟩,?_,F6.own⟩
    rcases hNT with n | h
    ·rcases F6.nums with ⟨h | ⟨o,h⟩,e⟩ | h
     ·exact .inl ⟨.inl (k7 _ _ h n),e⟩
     ·exact .inl ⟨.inr ⟨o,k7 _ _ h n⟩,e⟩
     ·exact .inr h
    ·exact .inr h
   refine⟨dn++[x],rest,(stepM st x).1,(Vbnlal.step sp x).1,pd++[(stepM st x).2],_,_,ow6,L6,rfl,by rw[hxr];simp,rfl,by rw[List.length_append];exact RN6,C7,F7,to6.2,?_,?_,by rw[List.length_append,List.length_append,hpd];rfl,?_⟩
   ·rw[upd_same,told_snoc,List.map_append]
    simp
   ·rw[hpl]
    show pd++((Vbnlal.step sp x).2::plays (Vbnlal.step sp x).1 rest)=_
    rw[ea]
    simp
   ·intro a ha
    rcases List.mem_append.mp ha with ha | ha
    ·exact hpa a ha
    ·have:a=(stepM st x).2:=by simpa using ha
     rw[this]
     exact al
end
end Nc
end
section
section
set_option maxHeartbeats 2000000
namespace L2
open PySem PySem.Spec PyProof.Rows
open PySem.W (WData Codec OpenSpec Well WellAll ReadsW ReadsAllW)
mutual
inductive Dw(K:PySem.W.Frag)(H:Hp):V->WData->Prop
 |non:Dw K H .non .none
 |bl (b:Bool):Dw K H (.bl b) (.bool b)
 |int (i:Int):Dw K H (.int i) (.int i)
 |str (x:Str):Dw K H (.str x) (.str x)
 |byt (b:Array UInt8):Dw K H (.byt b) (.bytes b.toList)
 |lst {a:Addr} {xs:List V} {ds:List WData}:SqL K H a xs->DwAll K H xs ds->Dw K H (.ref a) (.list ds)
 |tup {a:Addr} {xs:List V} {ds:List WData}:SqT K H a xs->DwAll K H xs ds->Dw K H (.ref a) (.tuple ds)
inductive DwAll(K:PySem.W.Frag)(H:Hp):List V->List WData->Prop
 |nil:DwAll K H [] []
 |cons {v:V} {vs:List V} {d:WData} {ds:List WData}:Dw K H v d->DwAll K H vs ds->DwAll K H (v::vs) (d::ds)
end
theorem aHQ{K:PySem.W.Frag}{H:Hp}:∀ns:List Int,DwAll K H (ns.map V.int) (ns.map WData.int)
 |[]=>.nil
 |n::r=>.cons (.int n) (aHQ r)
theorem aHU{K:PySem.W.Frag}{H:Hp}:∀(ns:List Int)(xs:List V),DwAll K H xs (ns.map WData.int)->xs=ns.map V.int
 |[],xs,h=>by
  cases h
  rfl
 |n::r,xs,h=>by
  cases h with
  |cons h1 h2=>
   cases h1
   rw[aHU r _ h2] <;> rfl
section
variable{P:Program}{w:World}{K:PySem.W.Frag}{H:Hp}{h:Heap}{R:PySem.W.WRecords}{cl:Str->Option Addr}
theorem bhX{a:Addr}{xs:List V}(hok:HOk P w H h)(KX:K.In h)(q:SqL K H a xs):∃(its:List Value)(o:Obj)(n:Nat),Vals xs its/\h.get? a=some o/\o.cls = .type "list"/\o.data = .seq its.toArray n:=by
 rcases q with q | ⟨o,its,n,e,hc,_,hd,_,hv⟩
 ·obtain⟨_,its,n,hv,e⟩:=(show ObjOk P w H h a (.lst xs) from q.ok hok)
  exact⟨its,_,n,hv,e,rfl,rfl⟩
 ·exact⟨its.toList,o,n,hv,KX _ _ e,hc,by simp[hd]⟩
theorem bhY{a:Addr}{xs:List V}(hok:HOk P w H h)(KX:K.In h)(q:SqT K H a xs):∃(its:List Value)(o:Obj)(n:Nat),Vals xs its/\h.get? a=some o/\o.cls = .type "tuple"/\o.data = .seq its.toArray n:=by
 rcases q with q | ⟨o,its,n,e,hc,hd,_,hv⟩
 ·obtain⟨_,its,hv,o,e,hc,n,hd⟩:=(show ObjOk P w H h a (.tup xs) from q.ok hok)
  exact⟨its,o,n,hv,e,hc,hd⟩
 ·exact⟨its.toList,o,n,hv,KX _ _ e,hc,by simp[hd]⟩
mutual
theorem Dw.reads(hok:HOk P w H h)(KX:K.In h):∀(d:WData)(v:V)(u:Value),Dw K H v d->RelV v u->∃as,ReadsW R cl h u d as
 |.none,_,_,x,r=>by
  cases x
  cases r
  exact⟨_,ReadsW.none⟩
 |.bool b,_,_,x,r=>by
  cases x
  cases r
  exact⟨_,ReadsW.bool b⟩
 |.int i,_,_,x,r=>by
  cases x
  obtain⟨t,rfl⟩:=r
  exact⟨_,ReadsW.int i t⟩
 |.str s,_,_,x,r=>by
  cases x
  obtain⟨t,rfl⟩:=r
  exact⟨_,ReadsW.str s t⟩
 |.bytes b,_,_,x,r=>by
  cases x
  obtain⟨t,rfl⟩:=r
  exact⟨_,ReadsW.bytes _ t⟩
 |.list ds,_,_,x,r=>by
  cases x with
  |lst hs ha=>
   cases r
   obtain⟨its,o,n,rv,ho,hc,hd⟩:=bhX hok KX hs
   obtain⟨as,hr⟩:=Dw.readsAll hok KX ds _ its ha rv
   exact⟨_,ReadsW.list ho hc hd hr⟩
 |.tuple ds,_,_,x,r=>by
  cases x with
  |tup hs ha=>
   cases r
   obtain⟨its,o,n,rv,ho,hc,hd⟩:=bhY hok KX hs
   obtain⟨as,hr⟩:=Dw.readsAll hok KX ds _ its ha rv
   exact⟨_,ReadsW.tuple ho hc hd hr⟩
 |.float _,_,_,x,_=>by cases x
 |.dict _,_,_,x,_=>by cases x
 |.bytearray _,_,_,x,_=>by cases x
 |.set _,_,_,x,_=>by cases x
 |.frozenset _,_,_,x,_=>by cases x
 |.obj _ _,_,_,x,_=>by cases x
theorem Dw.readsAll(hok:HOk P w H h)(KX:K.In h):∀(ds:List WData)(vs:List V)(us:List Value),DwAll K H vs ds->Vals vs us->∃as,ReadsAllW R cl h us ds as
 |[],_,_,x,r=>by
  cases x
  cases r
  exact⟨_,ReadsAllW.nil⟩
 |d::ds,_,_,x,r=>by
  cases x with
  |cons h1 h2=>
   cases r with
   |cons r1 r2=>
    obtain⟨as,q1⟩:=Dw.reads hok KX d _ _ h1 r1
    obtain⟨bs,q2⟩:=Dw.readsAll hok KX ds _ _ h2 r2
    exact⟨_,ReadsAllW.cons q1 q2⟩
end
end
mutual
def plW:WData->Bool
 |.none=>true
 |.bool _=>true
 |.int _=>true
 |.str _=>true
 |.bytes _=>true
 |.list xs=>plWs xs
 |.tuple xs=>plWs xs
 |_=>false
def plWs:List WData->Bool
 |[]=>true
 |x::r=>plW x&&plWs r
end
theorem azQ{α:Type}{f:α->WData}(h:∀a,plW (f a)=true):∀l:List α,plWs (l.map f)=true
 |[]=>rfl
 |x::r=>by
  show(plW (f x)&&plWs (r.map f))=true
  rw[h x,azQ h r] <;> rfl
theorem xX:∀(c:Codec)(a:c.denote),plW (c.enc a)=true
 |.unit,_=>rfl
 |.bool,_=>rfl
 |.int _ _,_=>rfl
 |.nat _ _,_=>rfl
 |.u8,_=>rfl
 |.bytes _ _,_=>rfl
 |.text _ _ _ _,_=>rfl
 |.list _ _ c,a=>azQ (λx=>xX c x) a
 |.pair c d,a=>by
  show(plW (c.enc a.1)&&(plW (d.enc a.2)&&true))=true
  rw[xX c a.1,xX d a.2] <;> rfl
 |.triple c d e,a=>by
  show(plW (c.enc a.1)&&(plW (d.enc a.2.1)&&(plW (e.enc a.2.2)&&true)))=true
  rw[xX c a.1,xX d a.2.1,xX e a.2.2] <;> rfl
 |.option c,none=>rfl
 |.option c,some x=>xX c x
theorem aoJ:∀(cs:List Codec)(a:Codec.denoteAll cs),plWs (Codec.encAll cs a)=true
 |[],_=>rfl
 |c::cs,a=>by
  show(plW (c.enc a.1)&&plWs (Codec.encAll cs a.2))=true
  rw[xX c a.1,aoJ cs a.2] <;> rfl
theorem NV:∀{xs:List WData}{d:WData},d∈xs->d.weight<=WData.weightAll xs
 |[],d,h=>absurd h (by simp)
 |x::r,d,h=>by
  show d.weight<=x.weight+1+WData.weightAll r
  rcases List.mem_cons.mp h with e | m
  ·rw[e]
   omega
  ·have z:=NV m
   omega
def toV:Value->V
 |.none=>.non
 |.bool b=>.bl b
 |.int i _=>.int i
 |.str x _=>.str x
 |.bytes b _=>.byt b
 |.ref a=>.ref a
 |_=>.non
def OkU(A:List Addr):Value->Prop
 |.none=>True
 |.bool _=>True
 |.int _ _=>True
 |.str _ _=>True
 |.bytes _ _=>True
 |.ref a=>a∈A
 |_=>False
theorem OkU.mono{A B:List Addr}(h:∀a∈A,a∈B):∀{u:Value},OkU A u->OkU B u:=λ{u} x=>by
 cases u with
 |ref a=>exact h a x
 |none=>trivial
 |bool b=>trivial
 |int i t=>trivial
 |str s t=>trivial
 |bytes b t=>trivial
 |_=>exact False.elim x
theorem aXX{A:List Addr}{u:Value}(x:OkU A u):RelV (toV u) u:=by
 cases u with
 |ref a=>rfl
 |none=>rfl
 |bool b=>rfl
 |int i t=>exact⟨t,rfl⟩
 |str s t=>exact⟨t,rfl⟩
 |bytes b t=>exact⟨t,rfl⟩
 |_=>exact False.elim x
theorem vX{A:List Addr}:∀{vs:List Value},(∀u∈vs,OkU A u)->Vals (vs.map toV) vs
 |[],_=>.nil
 |u::r,h=>.cons (aXX (h u (List.mem_cons_self ..))) (vX λx hx=>h x (List.mem_cons_of_mem _ hx))
def ArgOb(h:Heap)(A:List Addr)(a:Addr):Prop:=∃vs:List Value,vs.length<=sizeLine/\(∀u∈vs,OkU A u)/\
 (h.get? a=some { cls:=.type "list",data:=.seq vs.toArray }\/h.get? a=some { cls:=.type "tuple",data:=.seq vs.toArray })
theorem ArgOb.mono{h:Heap}{A B:List Addr}{a:Addr}(k:∀a∈A,a∈B)(x:ArgOb h A a):ArgOb h B a:=by
 obtain⟨vs,h1,h2,h3⟩:=x
 exact⟨vs,h1,λu hu=>(h2 u hu).mono k,h3⟩
theorem wU{P:Params}{h:Heap}:∀{vs:List Value}{ds:List WData},WellAll P h vs ds->vs.length=ds.length
 |_,_,.nil=>rfl
 |_,_,.cons _ b=>by
  show _+1=_+1
  rw[wU b]
theorem aoK{P:Params}{h:Heap}{v:Value}{ds:List WData}(x:Well P h v (.list ds)):∃(a:Addr)(vs:List Value),v = .ref a/\h.get? a=some { cls:=.type "list",data:=.seq vs.toArray }/\WellAll P h vs ds:=by
 cases x with
 |list ho hall=>exact⟨_,_,rfl,ho,hall⟩
theorem ahQ{P:Params}{h:Heap}{v:Value}{ds:List WData}(x:Well P h v (.tuple ds)):∃(a:Addr)(vs:List Value),v = .ref a/\h.get? a=some { cls:=.type "tuple",data:=.seq vs.toArray }/\WellAll P h vs ds:=by
 cases x with
 |tuple ho hall=>exact⟨_,_,rfl,ho,hall⟩
theorem aoQ{P:Params}{h:Heap}{us:List Value}{d:WData}{ds:List WData}(x:WellAll P h us (d::ds)):∃(v:Value)(vs:List Value),us=v::vs/\Well P h v d/\WellAll P h vs ds:=by
 cases x with
 |cons a b=>exact⟨_,_,rfl,a,b⟩
theorem aHV{n:Nat}(h:n<=1048576):n<=sizeLine:=Nat.le_trans h (by decide)
section
variable{P:Params}{h:Heap}
mutual
theorem aXY:∀(d:WData)(v:Value),Well P h v d->plW d=true->d.weight<=1048576->∃A:List Addr,OkU A v/\∀a∈A,ArgOb h A a
 |.none,_,x,_,_=>by
  cases x
  exact⟨[],trivial,λa m=>absurd m (by simp)⟩
 |.bool b,_,x,_,_=>by
  cases x
  exact⟨[],trivial,λa m=>absurd m (by simp)⟩
 |.int i,_,x,_,_=>by
  cases x
  exact⟨[],trivial,λa m=>absurd m (by simp)⟩
 |.str s,_,x,_,_=>by
  cases x
  exact⟨[],trivial,λa m=>absurd m (by simp)⟩
 |.bytes b,_,x,_,_=>by
  cases x
  exact⟨[],trivial,λa m=>absurd m (by simp)⟩
 |.list ds,_,x,p,z=>by
  obtain⟨a,vs,rfl,ho,hall⟩:=aoK x
  have z2:WData.weightAll ds<=1048576:=z
  obtain⟨A,h1,h2⟩:=NW ds _ hall p λd hd=>Nat.le_trans (NV hd) z2
  have k:∀b∈A,b∈a::A:=λb hb=>List.mem_cons_of_mem _ hb
  refine⟨a::A,List.mem_cons_self ..,λb hb=>?_⟩
  rcases List.mem_cons.mp hb with e | m
  ·rw[e]
   exact⟨vs,aHV (by rw[wU hall];exact Nat.le_trans (PySem.W.length_le_weightAllW ds) z2),λu hu=>(h1 u hu).mono k,.inl ho⟩
  ·exact(h2 b m).mono k
 |.tuple ds,_,x,p,z=>by
  obtain⟨a,vs,rfl,ho,hall⟩:=ahQ x
  have z2:WData.weightAll ds<=1048576:=z
  obtain⟨A,h1,h2⟩:=NW ds _ hall p λd hd=>Nat.le_trans (NV hd) z2
  have k:∀b∈A,b∈a::A:=λb hb=>List.mem_cons_of_mem _ hb
  refine⟨a::A,List.mem_cons_self ..,λb hb=>?_⟩
  rcases List.mem_cons.mp hb with e | m
  ·rw[e]
   exact⟨vs,aHV (by rw[wU hall];exact Nat.le_trans (PySem.W.length_le_weightAllW ds) z2),λu hu=>(h1 u hu).mono k,.inr ho⟩
  ·exact(h2 b m).mono k
 |.float _,_,_,p,_=>Bool.noConfusion (show false=true from p)
 |.dict _,_,_,p,_=>Bool.noConfusion (show false=true from p)
 |.bytearray _,_,_,p,_=>Bool.noConfusion (show false=true from p)
 |.set _,_,_,p,_=>Bool.noConfusion (show false=true from p)
 |.frozenset _,_,_,p,_=>Bool.noConfusion (show false=true from p)
 |.obj _ _,_,_,p,_=>Bool.noConfusion (show false=true from p)
theorem NW:∀(ds:List WData)(vs:List Value),WellAll P h vs ds->plWs ds=true->(∀d∈ds,d.weight<=1048576)->∃A:List Addr,(∀u∈vs,OkU A u)/\∀a∈A,ArgOb h A a
 |[],_,x,_,_=>by
  cases x
  exact⟨[],λu m=>absurd m (by simp),λa m=>absurd m (by simp)⟩
 |d::ds,_,x,p,z=>by
  obtain⟨v,vs,rfl,x1,x2⟩:=aoQ x
  have q:plW d=true/\plWs ds=true:=Bool.and_eq_true_iff.mp p
  obtain⟨A,a1,a2⟩:=aXY d v x1 q.1 (z d (List.mem_cons_self ..))
  obtain⟨B,b1,b2⟩:=NW ds vs x2 q.2 λe he=>z e (List.mem_cons_of_mem _ he)
  have kA:∀b∈A,b∈A++B:=λb hb=>List.mem_append.mpr (.inl hb)
  have kB:∀b∈B,b∈A++B:=λb hb=>List.mem_append.mpr (.inr hb)
  refine⟨A++B,λu hu=>?_,λb hb=>?_⟩
  ·rcases List.mem_cons.mp hu with e | m
   ·rw[e]
    exact a1.mono kA
   ·exact(b1 u m).mono kB
  ·rcases List.mem_append.mp hb with m | m
   ·exact(a2 b m).mono kA
   ·exact(b2 b m).mono kB
end
end
def hoOf(o:Obj):Option HO:=match o.data with
 |.seq vs _=>if(o.cls==Value.type "list")=true then some (.frz o (.lst (vs.toList.map toV))) else some (.frz o (.tup (vs.toList.map toV)))
 |_=>none
def argH(K:PySem.W.Frag)(h:Heap)(A:List Addr):Hp:=λb=>if b∈A then(if(K.lookup b).isNone=true then(h.get? b).bind hoOf else none) else none
def OnlyF(H:Hp):Prop:=∀b,H b=none\/∃o u,H b=some (.frz o u)
theorem azU(vs:List Value):hoOf { cls:=.type "list",data:=.seq vs.toArray }=some (.frz { cls:=.type "list",data:=.seq vs.toArray } (.lst (vs.map toV))):=by
 show(if(Value.type "list" == Value.type "list")=true then some (HO.frz { cls:=.type "list",data:=.seq vs.toArray } (.lst (vs.toArray.toList.map toV))) else some (HO.frz { cls:=.type "list",data:=.seq vs.toArray } (.tup (vs.toArray.toList.map toV))))=_
 rw[if_pos (beq_self_eq_true _)]
theorem azV(vs:List Value):hoOf { cls:=.type "tuple",data:=.seq vs.toArray }=some (.frz { cls:=.type "tuple",data:=.seq vs.toArray } (.tup (vs.map toV))):=by
 show(if(Value.type "tuple" == Value.type "list")=true then some (HO.frz { cls:=.type "tuple",data:=.seq vs.toArray } (.lst (vs.toArray.toList.map toV))) else some (HO.frz { cls:=.type "tuple",data:=.seq vs.toArray } (.tup (vs.toArray.toList.map toV))))=_
 rw[if_neg (by decide)]
section
variable{P:Program}{w:World}{K:PySem.W.Frag}{h:Heap}{A:List Addr}
theorem VJ{b:Addr}{o:Obj}(hb:b∈A)(hk:K.lookup b=none)(e:h.get? b=some o):argH K h A b=hoOf o:=by
 unfold argH
 rw[if_pos hb,hk,if_pos (show(none:Option Obj).isNone=true from rfl),e] <;> rfl
theorem beJ{b:Addr}{u:HO}(q:argH K h A b=some u):b∈A/\K.lookup b=none:=by
 unfold argH at q
 by_cases hb:b∈A
 ·rw[if_pos hb] at q
  cases hk:K.lookup b with
  |none=>exact⟨hb,rfl⟩
  |some o=>
   rw[hk,if_neg (by simp)] at q
   cases q
 ·rw[if_neg hb] at q
  cases q
theorem VQ(ar:∀a∈A,ArgOb h A a){b:Addr}{u:HO}(q:argH K h A b=some u):K.lookup b=none/\∃vs:List Value,vs.length<=sizeLine/\(∀u∈vs,OkU A u)/\
  ((h.get? b=some { cls:=.type "list",data:=.seq vs.toArray }/\u = .frz { cls:=.type "list",data:=.seq vs.toArray } (.lst (vs.map toV)))\/
   (h.get? b=some { cls:=.type "tuple",data:=.seq vs.toArray }/\u = .frz { cls:=.type "tuple",data:=.seq vs.toArray } (.tup (vs.map toV)))):=by
 obtain⟨hb,hk⟩:=beJ q
 obtain⟨vs,h1,h2,h3⟩:=ar b hb
 refine⟨hk,vs,h1,h2,?_⟩
 rcases h3 with e | e
 ·rw[VJ hb hk e,azU] at q
  exact .inl ⟨e,(Option.some.inj q).symm⟩
 ·rw[VJ hb hk e,azV] at q
  exact .inr ⟨e,(Option.some.inj q).symm⟩
theorem aSZ(ar:∀a∈A,ArgOb h A a):OnlyF (argH K h A):=λb=>by
 cases q:argH K h A b with
 |none=>exact .inl rfl
 |some u=>
  obtain⟨_,vs,_,_,⟨_,e⟩ | ⟨_,e⟩⟩:=VQ ar q
  ·exact .inr ⟨_,_,by rw[e]⟩
  ·exact .inr ⟨_,_,by rw[e]⟩
theorem beK(ar:∀a∈A,ArgOb h A a):HOk P w (argH K h A) h:=λb u q=>by
 obtain⟨_,vs,h1,h2,⟨e,rfl⟩ | ⟨e,rfl⟩⟩:=VQ ar q
 ·exact⟨e,by rw[List.length_map];exact h1,vs,_,vX h2,e⟩
 ·exact⟨e,by rw[List.length_map];exact h1,vs,vX h2,_,e,rfl,_,rfl⟩
theorem VU{c c':Value}{vs us:List Value}(e:(some { cls:=c,data:=.seq vs.toArray }:Option Obj)=some { cls:=c',data:=.seq us.toArray }):c=c'/\vs=us:=by
 have e1:=Option.some.inj e
 have e2:c=c':=congrArg Obj.cls e1
 have e3:Data.seq vs.toArray=Data.seq us.toArray:=congrArg Obj.data e1
 injection e3 with e4
 refine⟨e2,?_⟩
 have e5:=congrArg Array.toList e4
 simpa using e5
theorem argL(KX:K.In h)(ar:∀a∈A,ArgOb h A a){a:Addr}{vs:List Value}(ha:a∈A)(e:h.get? a=some { cls:=.type "list",data:=.seq vs.toArray }):(∀u∈vs,OkU A u)/\SqL K (argH K h A) a (vs.map toV):=by
 obtain⟨us,h1,h2,h3⟩:=ar a ha
 have hu:us=vs:=by
  rcases h3 with q | q
  ·rw[e] at q
   exact(VU q).2.symm
  ·rw[e] at q
   exact absurd (Value.type.inj (VU q).1) (by decide)
 subst hu
 refine⟨h2,?_⟩
 cases hk:K.lookup a with
 |none=>exact .inl (.inr ⟨_,by rw[VJ ha hk e,azU]⟩)
 |some o=>
  have e2:=KX a o hk
  rw[e] at e2
  obtain rfl:=Option.some.inj e2
  exact .inr ⟨_,us.toArray,_,hk,rfl,rfl,rfl,by rw[List.size_toArray];exact h1,by simpa using vX h2⟩
theorem argT(KX:K.In h)(ar:∀a∈A,ArgOb h A a){a:Addr}{vs:List Value}(ha:a∈A)(e:h.get? a=some { cls:=.type "tuple",data:=.seq vs.toArray }):(∀u∈vs,OkU A u)/\SqT K (argH K h A) a (vs.map toV):=by
 obtain⟨us,h1,h2,h3⟩:=ar a ha
 have hu:us=vs:=by
  rcases h3 with q | q
  ·rw[e] at q
   exact absurd (Value.type.inj (VU q).1) (by decide)
  ·rw[e] at q
   exact(VU q).2.symm
 subst hu
 refine⟨h2,?_⟩
 cases hk:K.lookup a with
 |none=>exact .inl (.inr ⟨_,by rw[VJ ha hk e,azV]⟩)
 |some o=>
  have e2:=KX a o hk
  rw[e] at e2
  obtain rfl:=Option.some.inj e2
  exact .inr ⟨_,us.toArray,_,hk,rfl,rfl,by rw[List.size_toArray];exact h1,by simpa using vX h2⟩
mutual
theorem bhZ{Pm:Params}(KX:K.In h)(ar:∀a∈A,ArgOb h A a):∀(d:WData)(v:Value),Well Pm h v d->plW d=true->OkU A v->Dw K (argH K h A) (toV v) d
 |.none,_,x,_,_=>by
  cases x
  exact .non
 |.bool b,_,x,_,_=>by
  cases x
  exact .bl b
 |.int i,_,x,_,_=>by
  cases x
  exact .int i
 |.str s,_,x,_,_=>by
  cases x
  exact .str s
 |.bytes b,_,x,_,_=>by
  cases x
  have z:=Dw.byt (K:=K) (H:=argH K h A) b.toArray
  exact z
 |.list ds,_,x,p,hu=>by
  obtain⟨a,vs,rfl,ho,hall⟩:=aoK x
  obtain⟨h2,hs⟩:=argL KX ar hu ho
  exact .lst hs (ahU KX ar ds _ hall p h2)
 |.tuple ds,_,x,p,hu=>by
  obtain⟨a,vs,rfl,ho,hall⟩:=ahQ x
  obtain⟨h2,hs⟩:=argT KX ar hu ho
  exact .tup hs (ahU KX ar ds _ hall p h2)
 |.float _,_,_,p,_=>Bool.noConfusion (show false=true from p)
 |.dict _,_,_,p,_=>Bool.noConfusion (show false=true from p)
 |.bytearray _,_,_,p,_=>Bool.noConfusion (show false=true from p)
 |.set _,_,_,p,_=>Bool.noConfusion (show false=true from p)
 |.frozenset _,_,_,p,_=>Bool.noConfusion (show false=true from p)
 |.obj _ _,_,_,p,_=>Bool.noConfusion (show false=true from p)
theorem ahU{Pm:Params}(KX:K.In h)(ar:∀a∈A,ArgOb h A a):∀(ds:List WData)(vs:List Value),WellAll Pm h vs ds->plWs ds=true->(∀u∈vs,OkU A u)->DwAll K (argH K h A) (vs.map toV) ds
 |[],_,x,_,_=>by
  cases x
  exact .nil
 |d::ds,_,x,p,hu=>by
  obtain⟨v,vs,rfl,x1,x2⟩:=aoQ x
  have q:plW d=true/\plWs ds=true:=Bool.and_eq_true_iff.mp p
  exact .cons (bhZ KX ar d v x1 q.1 (hu _ (List.mem_cons_self ..))) (ahU KX ar ds vs x2 q.2 λu m=>hu u (List.mem_cons_of_mem _ m))
end
end
theorem aTJ{P:Program}{w:World}{K:PySem.W.Frag}{mg mb:Str->Option Value}{CX:CXT}{k:Nat}{fa:Addr}{fd:FuncData}{ps:List Str}{sp:Sp}{s₁:Shared}{vals:List Value}{ds:List WData}{R:PySem.W.WRecords}{cl:Str->Option Addr}{d0:WData}
  (KX:K.In s₁.heap) (hns:s₁.heap.Ns mainGlobals mg) (hb:s₁.heap.Ns builtinsNs mb) (hbb:∀x:Str,x≠"__name__"->mb x=bootBuiltins x) (hlim:s₁.heap.NoLimit) (hg:s₁.gens = #[])
  (hwl:WellAll w.params s₁.heap vals ds) (hpl:plWs ds=true) (hwt:∀d∈ds,d.weight<=1048576) (hr:Room k callerA)
  (F:∀base:Heap,K.In base->base.Ns mainGlobals mg->FnOk P w K mg base CX k fa fd ps sp) (hbind:∀(s:Shared)(us:List Value),us.length=ps.length->BindsTo s fd ⟨us,[]⟩ (ps.zip us)) (hlen:ds.length=ps.length)
  (hsp:∀(H:Hp)(xs:List V),OnlyF H->DwAll K H xs ds->sp xs H (λv H'=>Dw K H' v d0) λ_ _ _=>False)
  (hCX:∀H e s',CX [] H s₁ (λ_ _ _=>False) e s'->False) :
  codeAny (model P w) callerA (.call (.ref fa) ⟨vals,[]⟩) (λr s'=>∃u as,r = .ok (.ret u)/\ReadsW R cl s'.heap u d0 as/\OldK s₁.heap s'.heap/\s'.os=s₁.os/\AllBare s'.gens) s₁:=by
 obtain⟨A,ho,ar⟩:=NW ds vals hwl hpl hwt
 have hO:OnlyF (argH K s₁.heap A):=aSZ ar
 have hok:HOk P w (argH K s₁.heap A) s₁.heap:=beK ar
 have hS:=ahU KX ar ds vals hwl hpl ho
 have hV:=vX ho
 have hK:∀b u,argH K s₁.heap A b=some u->K.lookup b=none:=λb u q=>(VQ ar q).1
 have noA:∀{b:Addr}{o:Obj}{es:Array DictEntry}{ep:Nat},s₁.heap.get? b=some o->o.data = .dict es ep->argH K s₁.heap A b=none:=λ{b o es ep} e d=>by
  cases q:argH K s₁.heap A b with
  |none=>rfl
  |some u=>
   obtain⟨_,vs,_,_,⟨e2,_⟩ | ⟨e2,_⟩⟩:=VQ ar q
   ·rw[e2] at e
    cases e
    have d':Data.seq vs.toArray _=Data.dict es ep:=d
    cases d'
   ·rw[e2] at e
    cases e
    have d':Data.seq vs.toArray _=Data.dict es ep:=d
    cases d'
 generalize argH K s₁.heap A=H at hO hok hS hK noA
 have base_of:∀{b:Addr}{o:Obj},s₁.heap.get? b=some o->H b=none->(hidT s₁.heap H).get? b=some o:=λe n=>aUQ e n
 have nsK:∀{b:Addr}{m:Str->Option Value},s₁.heap.Ns b m->(hidT s₁.heap H).Ns b m:=λ{b m} ⟨o,es,ep,e,d,r⟩=>⟨o,es,ep,base_of e (noA e d),d,r⟩
 have nK:∀b o,K.lookup b=some o->H b=none:=λb o e=>by
  cases q:H b with
  |none=>rfl
  |some u=>
   rw[hK b u q] at e
   cases e
 have hKb:K.In (hidT s₁.heap H):=λb o e=>base_of (KX b o e) (nK b o e)
 have hM:Mod K mg (hidT s₁.heap H):=⟨hKb,nsK hns,⟨mb,nsK hb,hbb⟩,let ⟨mc,h1,h2⟩:=hlim;⟨mc,nsK h1,h2⟩⟩
 have e0:Env0 P w K mg (hidT s₁.heap H) callerA [] s₁ H:=⟨rfl,hM,λb o e=>baQ e,Nat.le_of_eq (aOX _ _),trivial,λb hb=>absurd (show b∈([]:List Addr) from hb) (by simp),hok,.of_eq hg⟩
 have hl:vals.length=ps.length:=by rw[wU hwl];exact hlen
 refine codeAny_mono ((F _ hKb (nsK hns)).run callerA [] s₁ H ⟨vals,[]⟩ vals (vals.map toV) _ _ hr e0 (hbind s₁ vals hl) hV (hsp H _ hO hS)) λr s' x=>?_
 cases r with
 |error e=>exact(hCX H e s' x).elim
 |ok fl=>
  cases fl with
  |next=>exact False.elim x
  |brk=>exact False.elim x
  |cont=>exact False.elim x
  |ret u=>
   obtain⟨v,H',os,bare,un,hok',r',q⟩:=x
   have kept:∀b o,s₁.heap.get? b=some o->s'.heap.get? b=some o:=λb o e=>by
    cases q2:H b with
    |none=>exact un.keep b o e q2 (by intro z;exact absurd (show b∈([]:List Addr) from z) (by simp)) (by simp)
    |some u2=>
     rcases hO b with z | ⟨ob,u3,z⟩
     ·rw[q2] at z
      cases z
     ·have z2:=un.frzs b ob _ z
      obtain⟨e1,_⟩:=hok b _ z
      obtain⟨e2,_⟩:=hok' b _ z2
      rw[e] at e1
      cases e1
      exact e2
   have KX':K.In s'.heap:=λb o e=>kept b o (KX b o e)
   obtain⟨as,hrd⟩:=Dw.reads (R:=R) (cl:=cl) hok' KX' d0 v u q r'
   exact⟨u,as,rfl,hrd,OldK.of_keep kept,os,bare⟩
theorem alJ{ds:List WData}(h:WData.layableAll ds=true):∀d∈ds,d.weight<=1048576:=λd hd=>
 (PySem.W.layableW_iff.mp (List.all_eq_true.mp h d hd)).2.2
theorem ahV:∀(cs:List Codec)(a:Codec.denoteAll cs),(Codec.encAll cs a).length=cs.length
 |[],_=>rfl
 |c::cs,a=>by
  show(Codec.encAll cs a.2).length+1=cs.length+1
  rw[ahV cs a.2]
theorem aTK{r:OpenSpec}{k:Nat}{q:Program}{loose:List Str}{XP:(Str->Option Value)->Heap->Prop}{YP:World->Heap->Prop}{d:DefRec}{K:Params->PySem.W.Frag}{CX:World->CXT}{ps:List Str}{sp:World->Sp}
  (hwell:r.wellSaid=true) (hdf:d.params.defaults=[]) (hlen:r.args.length=ps.length) (hr:Room k callerA)
  (hY:∀(w:World)(h:Heap),YP w h->(K w.params).In h)
  (F:∀(w:World)(mg:Str->Option Value)(fa:Addr)(h:Heap),YP w h->(K w.params).In h->h.Ns mainGlobals mg->mg d.name=some (.ref fa)->
   ∃fd:FuncData,(∀(s:Shared)(us:List Value),us.length=ps.length->BindsTo s fd ⟨us,[]⟩ (ps.zip us))/\
    ∀base:Heap,(K w.params).In base->base.Ns mainGlobals mg->FnOk r.prog w (K w.params) mg base (CX w) k fa fd ps (sp w))
  (hsp:∀(w:World)(H:Hp)(xs:List V)(a:Codec.denoteAll r.args),OnlyF H->Codec.withinAll r.args a=true->Codec.app r.args r.asked a=true->DwAll (K w.params) H xs (Codec.encAll r.args a)->
   sp w xs H (λv H'=>Dw (K w.params) H' v (r.ret.enc (Codec.app r.args r.f a))) λ_ _ _=>False)
  (hCX:∀(w:World)(H:Hp)(s:Shared)(e:Value)(s':Shared),CX w [] H s (λ_ _ _=>False) e s'->False) :
  PySem.W.WalkOS q loose XP YP r d [] (λf vs=>PySem.call f vs):=by
 intro w s_0 s₁ mg mb G Y fa o pm cd doc dV kV ho hd hcd hD hmg hg args vals as hpre hlay hrd hwl hlo
 obtain⟨a,e1,e2⟩:=PySem.W.os_pre_some hpre
 obtain⟨e3,hwi⟩:=Codec.encAll_of_decAll r.args args a e1
 subst e3
 have KX:=hY w _ Y
 obtain⟨fd,hb,hF⟩:=F w mg fa _ Y KX G.T.g hmg
 refine PySem.W.enter_call (codeAny_mono (aTJ (R:=[]) (cl:=classAt s_0.heap) (d0:=r.ret.enc (Codec.app r.args r.f a)) KX G.T.g G.T.b G.T.builtins G.T.nolimit hg hwl (aoJ _ _) (alJ hlay) hr hF hb (by rw[ahV];exact hlen) (λH xs hO hS=>hsp w H xs a hO hwi e2 hS) λH e s'=>hCX w H s₁ e s') λr' s' hq=>?_)
 obtain⟨u,as',rfl,h1,h2,h3,h4⟩:=hq
 exact⟨.inl ⟨u,_,as',rfl,λ_=>rfl,h1,(OpenSpec.post_iff hwell hwi _ _).mpr rfl,λz=>Bool.noConfusion (show false=true from z)⟩,h2,h3,h4⟩
theorem aNK{r:OpenSpec}{k:Nat}{q:Program}{loose:List Str}{XP:(Str->Option Value)->Heap->Prop}{YP:World->Heap->Prop}{d:DefRec}{K:Params->PySem.W.Frag}{CX:CXT}{ps:List Str}{sp:PySem.W.Frag->Sp}
  (hwell:r.wellSaid=true) (hdf:d.params.defaults=[]) (hlen:r.args.length=ps.length) (hr:Room k callerA)
  (hY:∀(w:World)(h:Heap),YP w h->(K w.params).In h)
  (F:∀(w:World)(mg:Str->Option Value)(fa:Addr)(h:Heap),YP w h->(K w.params).In h->h.Ns mainGlobals mg->mg d.name=some (.ref fa)->
   ∃fd:FuncData,(∀(s:Shared)(us:List Value),us.length=ps.length->BindsTo s fd ⟨us,[]⟩ (ps.zip us))/\
    ∀base:Heap,(K w.params).In base->base.Ns mainGlobals mg->FnOk r.prog w (K w.params) mg base CX k fa fd ps (sp (K w.params)))
  (hsp:∀(K:PySem.W.Frag)(H:Hp)(xs:List V)(a:Codec.denoteAll r.args),OnlyF H->Codec.withinAll r.args a=true->Codec.app r.args r.asked a=true->DwAll K H xs (Codec.encAll r.args a)->
   sp K xs H (λv H'=>Dw K H' v (r.ret.enc (Codec.app r.args r.f a))) λ_ _ _=>False)
  (hCX:∀(H:Hp)(s:Shared)(e:Value)(s':Shared),CX [] H s (λ_ _ _=>False) e s'->False) :
  PySem.W.WalkOS q loose XP YP r d [] (λf vs=>PySem.call f vs):=
 aTK (K:=K) (CX:=λ_=>CX) (sp:=λw=>sp (K w.params)) hwell hdf hlen hr hY F (λw H xs a h1 h2 h3 h4=>hsp (K w.params) H xs a h1 h2 h3 h4) λ_ H s e s'=>hCX H s e s'
end L2
end
end
section
noncomputable section
namespace Nc
open PySem PySem.W PyProof.Rows L2
abbrev pw:Program:=PySem.Challenge.pw_namecourt_s01_answers
abbrev vN:Value:=.none
abbrev en(s:Str)(t:Nat)(v:Value):Str×Nat×Value:=(s,t,v)
abbrev fl:Str := "/claim/cut.py"
abbrev ob(c:Value)(d:Data):Obj:=⟨c,none,d,⟨[]⟩⟩
def t0:Obj:=ob (.type "tuple") (.seq ⟨[]⟩ 0)
def f0:Obj:=ob .none (.fields ⟨[]⟩)
def namesFrom:Nat->List Str->List Value
 |_,[]=>[]
 |t,s::r=>.str s t::namesFrom (t+1) r
def tS(t:Nat)(l:List Str):Obj:=ob (.type "tuple") (.seq ⟨namesFrom t l⟩ 0)
structure Row where
 x:Str
 q:Str
 st:Stmt
 m:Str×Nat
 t:Nat
 ln:Nat
 ac:Nat
 a:Nat
 vs:Option (List Str)
def dw(x:Str)(i:Nat)(m:Str×Nat)(t ln ac a:Nat)(vs:Option (List Str)):Row:=⟨x,x,top i,m,t,ln,ac,a,vs⟩
def Row.ca(r:Row):Nat:=if r.vs.isSome then r.a+5 else r.a+3
def Row.fa(r:Row):Nat:=if r.vs.isSome then r.a+6 else r.a+4
def Row.g(r:Row):Obj:=ob .none (.func ⟨r.x,r.q,defArgs r.st,.stmts (defBody r.st),defScope r.st,0,[],.none,.none,.none,.none,none,.none,.none,0⟩)
def Row.f(r:Row):Obj:=ob (.type "function") (.func (fnOf r.x r.q (defArgs r.st) (defBody r.st) (defScope r.st) .none .none .none (.str r.m.1 r.m.2) none (.ref r.ca) .none))
def Row.c(r:Row):Obj:=
 let n:=(r.vs.getD []).length
 let two:Value×Value×Value:=if r.vs.isSome then(.ref (r.a+2),.ref (r.a+3),.ref (r.a+4)) else(.none,.none,.ref (r.a+2))
 ob (.type "code") (.fields ⟨[.str r.x r.t,.str r.q (r.t+1),.str fl (r.t+2),.int r.ln 0,.int r.ac 0,.int 0 0,.int 0 0,.int 3 0,.ref r.a,.bool true,.int 181 0,.ref (r.a+1),.none,two.1,two.2.1,two.2.2,.int (r.t+3+n:Nat) 0,.int r.ln 0,.str fl (r.t+4+n)]⟩)
def Row.os(r:Row):List Obj:=match r.vs with
 |some []=>[t0,f0,t0,t0,r.g,r.c,r.f]
 |some vs=>[t0,f0,tS (r.t+3) vs,t0,r.g,r.c,r.f]
 |none=>[t0,f0,r.g,r.c,r.f]
def Row.k(r:Row):Frag:=[(r.ca,r.c),(r.fa,r.f)]
def dO(P:Params)(l:List (Str×Nat×Value))(n:Nat):Obj:=ob (.type "dict") (.dict ⟨l.map λe=>⟨PyData.keyHash P e.1,.str e.1 e.2.1,e.2.2⟩⟩ n)
def mo0:Str×Nat:=("namecourt.court",187)
def mo1:Str×Nat:=("namecourt.texts",319)
def mo2:Str×Nat:=("namecourt.cases",446)
def mo3:Str×Nat:=("namecourt.members",538)
def mo4:Str×Nat:=("namecourt.force",602)
def mo5:Str×Nat:=("namecourt.effects",704)
def mo6:Str×Nat:=("namecourt.votes",808)
def mo7:Str×Nat:=("namecourt.desk",897)
def me0:Row:=⟨"__init__", "Case.__init__",inClass (top 10) 0,mo0,219,13,3,22,(some ["self", "proposals", "opened"])⟩
def me1:Row:=⟨"__init__", "Court.__init__",inClass (top 11) 0,mo0,256,24,1,43,(some ["self"])⟩
def me2:Row:=⟨"__init__", "Feed.__init__",inClass (top 114) 0,mo7,911,505,2,457,(some ["self", "numbers"])⟩
def me3:Row:=⟨"is_over", "Feed.is_over",inClass (top 114) 1,mo7,919,509,1,464,(some ["self"])⟩
def me4:Row:=⟨"take", "Feed.take",inClass (top 114) 2,mo7,926,512,1,471,(some ["self", "number"])⟩
def me5:Row:=⟨"take_row", "Feed.take_row",inClass (top 114) 3,mo7,934,517,1,478,(some ["self", "length", "start"])⟩
def tab:List Row:=dw "is_key" 12 mo0 276 30 1 57 (some ["number"])::dw "forms" 37 mo1 343 56 0 64 (some ["fix"])::dw "group_of" 38 mo1 350 59 1 71 (some ["byte"])::dw "run_end" 39 mo1 357 69 2 78 (some ["text", "start", "group", "end"])::dw "word_of" 40 mo1 367 75 1 85 none::dw "number_of" 41 mo1 373 77 1 90 (some ["run", "value", "byte"])::dw "parts_of" 42 mo1 382 82 1 97 (some ["text", "parts", "place", "group", "end"])::dw "proposal_of" 43 mo1 393 100 1 104 none::dw "proposals_of" 44 mo1 399 108 1 109 none::dw "numbers_of" 45 mo1 405 116 1 114 (some ["proposal"])::dw "text_refusal" 46 mo1 412 120 1 121 none::dw "read_text" 47 mo1 418 132 1 126 (some ["text", "proposals", "refusal", "answer", "proposal"])::dw "written" 48 mo1 429 141 1 133 (some ["proposal", "numbers", "pieces", "used", "piece"])::dw "one_form" 49 mo1 440 152 1 140 none::dw "annuls_no_ruling" 53 mo2 452 157 2 145 (some ["court", "proposals", "proposal"])::dw "petition" 54 mo2 461 162 3 152 (some ["court", "key", "text", "proposals", "refusal"])::dw "withdraw" 55 mo2 472 177 2 159 (some ["court", "key", "case"])::dw "comment" 56 mo2 481 185 2 166 (some ["court", "key", "case"])::dw "publish" 57 mo2 490 196 2 173 (some ["court", "key", "case"])::dw "show" 58 mo2 499 206 2 180 (some ["court", "key", "case"])::dw "tell_phase" 59 mo2 508 211 2 187 (some ["court", "key", "case"])::dw "is_about" 60 mo2 517 216 2 194 (some ["proposal", "n", "kind"])::dw "is_pending_on" 61 mo2 526 221 2 201 none::dw "stays" 62 mo2 532 223 2 206 none::dw "is_day" 66 mo3 544 228 1 211 (some ["number"])::dw "go_to_day" 67 mo3 551 230 2 218 (some ["court", "d", "member"])::dw "end_office" 68 mo3 560 240 2 225 (some ["court", "member"])::dw "seat" 69 mo3 568 244 3 232 (some ["court", "member", "last"])::dw "leave" 70 mo3 577 257 2 239 (some ["court", "member"])::dw "preside" 71 mo3 585 262 2 246 (some ["court", "member"])::dw "tell_office" 72 mo3 593 267 1 253 (some ["court", "told", "member"])::dw "published_by" 74 mo4 604 273 2 260 none::dw "annulled_by" 75 mo4 610 275 2 265 none::dw "forces_at" 76 mo4 616 277 2 270 (some ["court", "d", "published", "annulled", "key", "earlier", "forces"])::dw "those_that_annul" 77 mo4 629 288 3 277 none::dw "told_pairs" 78 mo4 635 290 2 282 (some ["forces", "wanted", "told", "key"])::dw "tell_rulings" 79 mo4 645 296 2 289 (some ["court", "d", "forces"])::dw "in_force" 80 mo4 654 301 3 296 (some ["court", "d", "key", "forces"])::dw "reasons_of" 81 mo4 664 308 3 303 none::dw "because" 82 mo4 670 313 3 308 (some ["court", "d", "key", "forces", "reached", "ruling", "reason"])::dw "claims_of" 83 mo4 683 325 1 315 (some ["row", "claims", "place"])::dw "is_borne_out" 84 mo4 692 334 4 322 none::dw "check" 85 mo4 698 341 5 327 none::dw "effects_at" 87 mo5 706 352 2 332 none::dw "last_about" 88 mo5 712 359 4 337 (some ["court", "d", "kinds", "n", "effect"])::dw "status" 89 mo5 723 364 3 344 (some ["court", "d", "n", "effect"])::dw "over" 90 mo5 733 371 4 351 (some ["court", "d", "n", "m", "kind", "winner", "loser", "key"])::dw "fixed_at" 91 mo5 747 382 3 358 (some ["court", "d", "n", "effect"])::dw "rejected" 92 mo5 757 389 3 365 (some ["court", "d", "w", "effect"])::dw "statuses_at" 93 mo5 767 396 2 372 (some ["court", "d", "statuses", "kind", "n", "m", "key"])::dw "tell_index" 94 mo5 780 402 2 379 (some ["court", "d", "statuses", "told", "name"])::dw "conserved" 95 mo5 791 411 2 386 (some ["court", "d", "spoken_of", "kept", "kind", "n", "m", "key", "names", "told", "triple"])::dw "is_too_early" 104 mo6 824 433 2 393 (some ["court", "case"])::dw "open_vote" 105 mo6 832 437 2 400 (some ["court", "key", "case"])::dw "ballot" 106 mo6 841 449 4 407 (some ["court", "key", "member", "v", "case"])::dw "all_have_voted" 107 mo6 852 465 2 414 none::dw "ballots_cast" 108 mo6 858 467 2 419 none::dw "outcome" 109 mo6 864 469 2 424 (some ["court", "case", "f", "a"])::dw "first_outcome" 110 mo6 874 481 2 431 (some ["f", "a"])::dw "close" 111 mo6 882 487 2 438 (some ["court", "key", "case"])::dw "tally" 112 mo6 891 497 2 445 none::dw "do_day" 115 mo7 953 522 2 492 (some ["court", "feed"])::dw "do_seat" 116 mo7 961 524 2 499 (some ["court", "feed", "member", "last"])::dw "do_leave" 117 mo7 971 528 2 506 (some ["court", "feed"])::dw "do_preside" 118 mo7 979 530 2 513 (some ["court", "feed"])::dw "do_petition" 119 mo7 987 532 2 520 (some ["court", "feed", "key", "text"])::dw "do_withdraw" 120 mo7 997 536 2 527 (some ["court", "feed"])::dw "do_comment" 121 mo7 1005 538 2 534 (some ["court", "feed"])::dw "do_open_vote" 122 mo7 1013 540 2 541 (some ["court", "feed"])::dw "do_ballot" 123 mo7 1021 542 2 548 (some ["court", "feed", "key", "member", "v"])::dw "do_close" 124 mo7 1032 547 2 555 (some ["court", "feed"])::dw "do_publish" 125 mo7 1040 549 2 562 (some ["court", "feed"])::dw "do_read" 126 mo7 1048 551 2 569 (some ["court", "feed"])::dw "do_show" 127 mo7 1056 553 2 576 (some ["court", "feed"])::dw "do_phase" 128 mo7 1064 555 2 583 (some ["court", "feed"])::dw "do_tally" 129 mo7 1072 557 2 590 (some ["court", "feed"])::dw "do_office" 130 mo7 1080 559 2 597 (some ["court", "feed"])::dw "do_rulings" 131 mo7 1088 561 2 604 (some ["court", "feed"])::dw "do_in_force" 132 mo7 1096 563 2 611 (some ["court", "feed", "d", "key"])::dw "do_because" 133 mo7 1106 567 2 618 (some ["court", "feed", "d", "key"])::dw "do_check" 134 mo7 1116 571 2 625 (some ["court", "feed", "d", "key", "v", "row"])::dw "do_status" 135 mo7 1128 577 2 632 (some ["court", "feed", "d", "n"])::dw "do_over" 136 mo7 1138 581 2 639 (some ["court", "feed", "d", "n", "m"])::dw "do_fixed_at" 137 mo7 1149 586 2 646 (some ["court", "feed", "d", "n"])::dw "do_rejected" 138 mo7 1159 590 2 653 (some ["court", "feed", "d", "w"])::dw "do_index" 139 mo7 1169 594 2 660 (some ["court", "feed"])::dw "do_conserved" 140 mo7 1177 596 2 667 (some ["court", "feed"])::dw "do_stays" 141 mo7 1185 598 2 674 (some ["court", "feed"])::dw "answers" 143 mo7 1194 601 1 682 (some ["calls", "court", "feed", "told", "call", "answer"])::[]
def mainD:List (Str×Nat×Value):=[en "__name__" 165 (.str "namecourt.desk" 897),en "__doc__" 166 vN,en "__package__" 167 vN,en "__loader__" 168 (.builtin "__main__.__loader__#opaque"),en "__spec__" 169 vN,en "__annotations__" 170 (.ref 6),en "__builtins__" 171 (.ref 4),en "__file__" 173 (.str "/claim/cut.py" 172),en "__cached__" 174 vN,en "LARGEST_KEY" 190 (.int 1000000000 189),en "COMMENTS" 192 (.int 1 191),en "FIRST_VOTE" 194 (.int 2 193),en "BEFORE_SECOND_VOTE" 196 (.int 3 195),en "SECOND_VOTE" 198 (.int 4 197),en "ADOPTED" 200 (.int 5 199),en "REJECTED" 202 (.int 6 201),en "WITHDRAWN" 204 (.int 7 203),en "PUBLISHED" 206 (.int 8 205),en "Case" 243 (.ref 31),en "Court" 275 (.ref 52),en "is_key" 282 (.ref 63),en "WRONG_TEXT" 285 (.int (-1) 284),en "WRONG_NUMBER" 288 (.int (-2) 287),en "TOO_MANY_PROPOSALS" 291 (.int (-3) 290),en "WRONG_KEY" 294 (.int (-4) 293),en "THERE_ALREADY" 297 (.int (-5) 296),en "NOT_THERE" 300 (.int (-6) 299),en "FULL" 303 (.int (-8) 302),en "OUT_OF_RANGE" 306 (.int (-9) 305),en "OVER_ITSELF" 309 (.int (-10) 308),en "BEFORE_TODAY" 312 (.int (-12) 311),en "WRONG_PHASE" 315 (.int (-13) 314),en "WRONG_TIME" 318 (.int (-14) 317),en "MOST_PROPOSALS" 322 (.int 6 321),en "RESTORE" 324 (.int 0 323),en "SUPPRESS" 326 (.int 1 325),en "SUPPRESS_WHOLLY" 328 (.int 2 327),en "CONSERVE" 330 (.int 3 329),en "FIX" 332 (.int 4 331),en "REJECT" 334 (.int 5 333),en "ANNUL" 336 (.int 6 335),en "BLANK" 338 (.int 32 337),en "SEMICOLON" 340 (.int 59 339),en "LETTERS" 342 (.str "abcdefghijklmnopqrstuvwxyz" 341),en "forms" 349 (.ref 70),en "group_of" 356 (.ref 77),en "run_end" 366 (.ref 84),en "word_of" 372 (.ref 89),en "number_of" 381 (.ref 96),en "parts_of" 392 (.ref 103),en "proposal_of" 398 (.ref 108),en "proposals_of" 404 (.ref 113),en "numbers_of" 411 (.ref 120),en "text_refusal" 417 (.ref 125),en "read_text" 428 (.ref 132),en "written" 439 (.ref 139),en "one_form" 445 (.ref 144),en "MOST_CASES" 449 (.int 32 448),en "MOST_COMMENTS" 451 (.int 100 450),en "annuls_no_ruling" 460 (.ref 151),en "petition" 471 (.ref 158),en "withdraw" 480 (.ref 165),en "comment" 489 (.ref 172),en "publish" 498 (.ref 179),en "show" 507 (.ref 186),en "tell_phase" 516 (.ref 193),en "is_about" 525 (.ref 200),en "is_pending_on" 531 (.ref 205),en "stays" 537 (.ref 210),en "LAST_DAY" 541 (.int 474814 540),en "MOST_MEMBERS" 543 (.int 30 542),en "is_day" 550 (.ref 217),en "go_to_day" 559 (.ref 224),en "end_office" 567 (.ref 231),en "seat" 576 (.ref 238),en "leave" 584 (.ref 245),en "preside" 592 (.ref 252),en "tell_office" 601 (.ref 259),en "published_by" 609 (.ref 264),en "annulled_by" 615 (.ref 269),en "forces_at" 628 (.ref 276),en "those_that_annul" 634 (.ref 281),en "told_pairs" 644 (.ref 288),en "tell_rulings" 653 (.ref 295),en "in_force" 663 (.ref 302),en "reasons_of" 669 (.ref 307),en "because" 682 (.ref 314),en "claims_of" 691 (.ref 321),en "is_borne_out" 697 (.ref 326),en "check" 703 (.ref 331),en "effects_at" 711 (.ref 336),en "last_about" 722 (.ref 343),en "status" 732 (.ref 350),en "over" 746 (.ref 357),en "fixed_at" 756 (.ref 364),en "rejected" 766 (.ref 371),en "statuses_at" 779 (.ref 378),en "tell_index" 790 (.ref 385),en "conserved" 807 (.ref 392),en "VOTE_DAYS" 811 (.int 90 810),en "DAYS_FROM_PETITION" 813 (.int 180 812),en "DAYS_FROM_COMMENT" 815 (.int 30 814),en "FEWEST_BALLOTS" 817 (.int 3 816),en "FOR" 819 (.int 1 818),en "AGAINST" 821 (.int 2 820),en "NEITHER" 823 (.int 3 822),en "is_too_early" 831 (.ref 399),en "open_vote" 840 (.ref 406),en "ballot" 851 (.ref 413),en "all_have_voted" 857 (.ref 418),en "ballots_cast" 863 (.ref 423),en "outcome" 873 (.ref 430),en "first_outcome" 881 (.ref 437),en "close" 890 (.ref 444),en "tally" 896 (.ref 449),en "Feed" 952 (.ref 487),en "do_day" 960 (.ref 498),en "do_seat" 970 (.ref 505),en "do_leave" 978 (.ref 512),en "do_preside" 986 (.ref 519),en "do_petition" 996 (.ref 526),en "do_withdraw" 1004 (.ref 533),en "do_comment" 1012 (.ref 540),en "do_open_vote" 1020 (.ref 547),en "do_ballot" 1031 (.ref 554),en "do_close" 1039 (.ref 561),en "do_publish" 1047 (.ref 568),en "do_read" 1055 (.ref 575),en "do_show" 1063 (.ref 582),en "do_phase" 1071 (.ref 589),en "do_tally" 1079 (.ref 596),en "do_office" 1087 (.ref 603),en "do_rulings" 1095 (.ref 610),en "do_in_force" 1105 (.ref 617),en "do_because" 1115 (.ref 624),en "do_check" 1127 (.ref 631),en "do_status" 1137 (.ref 638),en "do_over" 1148 (.ref 645),en "do_fixed_at" 1158 (.ref 652),en "do_rejected" 1168 (.ref 659),en "do_index" 1176 (.ref 666),en "do_conserved" 1184 (.ref 673),en "do_stays" 1192 (.ref 680),en "CALLS" 1193 (.ref 681),en "answers" 1205 (.ref 688)]
def lines:List (Nat×Nat):=[(11,20),(22,41),(30,62),(56,69),(59,76),(69,83),(75,88),(77,95),(82,102),(100,107),(108,112),(116,119),(120,124),(132,131),(141,138),(152,143),(157,150),(162,157),(177,164),(185,171),(196,178),(206,185),(211,192),(216,199),(221,204),(223,209),(228,216),(230,223),(240,230),(244,237),(257,244),(262,251),(267,258),(273,263),(275,268),(277,275),(288,280),(290,287),(296,294),(301,301),(308,306),(313,313),(325,320),(334,325),(341,330),(352,335),(359,342),(364,349),(371,356),(382,363),(389,370),(396,377),(402,384),(411,391),(433,398),(437,405),(449,412),(465,417),(467,422),(469,429),(481,436),(487,443),(497,448),(503,455),(522,497),(524,504),(528,511),(530,518),(532,525),(536,532),(538,539),(540,546),(542,553),(547,560),(549,567),(551,574),(553,581),(555,588),(557,595),(559,602),(561,609),(563,616),(567,623),(571,630),(577,637),(581,644),(586,651),(590,658),(594,665),(596,672),(598,679),(601,687)]
def do17(P:Params):Obj:=dO P [en "__module__" 214 (.str "namecourt.court" 187),en "__qualname__" 216 (.str "Case" 215),en "__firstlineno__" 218 (.int 11 217),en "__init__" 227 (.ref 28),en "__static_attributes__" 236 (.ref 29)] 5
def do30(P:Params):Obj:=dO P [en "__module__" 214 (.str "namecourt.court" 187),en "__firstlineno__" 218 (.int 11 217),en "__init__" 227 (.ref 28),en "__static_attributes__" 236 (.ref 29),en "__dict__" 238 (.ref 32),en "__weakref__" 240 (.ref 33),en "__doc__" 241 vN] 4
def xo31:Obj:=⟨(.type "type"),none,(.cls ⟨"Case",[(.type "object")],[(.ref 31),(.type "object")],30, "Case",true,[],[],false,none,false⟩),⟨[none,none,some (.str "Case" 207),some (.str "Case" 215),some (.builtin "object.__new__"),some (.bool true)]⟩⟩
def do38(P:Params):Obj:=dO P [en "__module__" 251 (.str "namecourt.court" 187),en "__qualname__" 253 (.str "Court" 252),en "__firstlineno__" 255 (.int 22 254),en "__init__" 262 (.ref 49),en "__static_attributes__" 268 (.ref 50)] 5
def do51(P:Params):Obj:=dO P [en "__module__" 251 (.str "namecourt.court" 187),en "__firstlineno__" 255 (.int 22 254),en "__init__" 262 (.ref 49),en "__static_attributes__" 268 (.ref 50),en "__dict__" 270 (.ref 53),en "__weakref__" 272 (.ref 54),en "__doc__" 273 vN] 4
def xo52:Obj:=⟨(.type "type"),none,(.cls ⟨"Court",[(.type "object")],[(.ref 52),(.type "object")],51, "Court",true,[],[],false,none,false⟩),⟨[none,none,some (.str "Court" 244),some (.str "Court" 252),some (.builtin "object.__new__"),some (.bool true)]⟩⟩
def do452(P:Params):Obj:=dO P [en "__module__" 906 (.str "namecourt.desk" 897),en "__qualname__" 908 (.str "Feed" 907),en "__firstlineno__" 910 (.int 503 909),en "__init__" 918 (.ref 463),en "is_over" 925 (.ref 470),en "take" 933 (.ref 477),en "take_row" 942 (.ref 484),en "__static_attributes__" 945 (.ref 485)] 8
def do486(P:Params):Obj:=dO P [en "__module__" 906 (.str "namecourt.desk" 897),en "__firstlineno__" 910 (.int 503 909),en "__init__" 918 (.ref 463),en "is_over" 925 (.ref 470),en "take" 933 (.ref 477),en "take_row" 942 (.ref 484),en "__static_attributes__" 945 (.ref 485),en "__dict__" 947 (.ref 488),en "__weakref__" 949 (.ref 489),en "__doc__" 950 vN] 4
def xo487:Obj:=⟨(.type "type"),none,(.cls ⟨"Feed",[(.type "object")],[(.ref 487),(.type "object")],486, "Feed",true,[],[],false,none,false⟩),⟨[none,none,some (.str "Feed" 899),some (.str "Feed" 907),some (.builtin "object.__new__"),some (.bool true)]⟩⟩
def ca681:Obj:=ob (.type "tuple") (.seq ⟨[(.ref 498),(.ref 505),(.ref 512),(.ref 519),(.ref 526),(.ref 533),(.ref 540),(.ref 547),(.ref 554),(.ref 561),(.ref 568),(.ref 575),(.ref 582),(.ref 589),(.ref 596),(.ref 603),(.ref 610),(.ref 617),(.ref 624),(.ref 631),(.ref 638),(.ref 645),(.ref 652),(.ref 659),(.ref 666),(.ref 673),(.ref 680)]⟩ 0)
def rest0(P:Params):List Obj:=[t0,ob (.type "builtin_function_or_method") (.fields ⟨[(.builtin "type.__prepare__"),(.type "type")]⟩),do17 P,t0,ob vN (.fields ⟨[(.int 13 0),(.int 4 0),(.ref 27)]⟩),ob (.type "code") (.fields ⟨[(.str "Case" 209),(.str "Case" 210),(.str "/claim/cut.py" 211),(.int 11 0),(.int 0 0),(.int 0 0),(.int 0 0),(.int 0 0),(.ref 18),(.bool false),(.int 181 0),(.ref 19),vN,vN,vN,vN,(.int 212 0),(.int 11 0),(.str "/claim/cut.py" 213)]⟩),⟨(.type "frame"),none,.plain,⟨[some (.ref 20),some (.ref 3),some (.ref 17),none,some (.str "namecourt.court" 187),none,some (.ref 0)]⟩⟩]++me0.os++[(tS 228 ["ballots", "closing", "comments", "last_comment", "opened", "phase", "proposals", "published"]),do30 P,xo31,ob (.type "getset_descriptor") (.fields ⟨[(.str "__dict__" 237),(.ref 31),(.builtin "function.__dict__"),(.builtin "function.__dict__#set")]⟩),ob (.type "getset_descriptor") (.fields ⟨[(.str "__weakref__" 239),(.ref 31),(.builtin "ExceptionGroup.__weakref__"),vN]⟩),ob (.type "super") (.fields ⟨[(.ref 31),(.ref 31),(.ref 31)]⟩),ob (.type "builtin_function_or_method") (.fields ⟨[(.builtin "object.__init_subclass__"),(.ref 31)]⟩),t0,ob (.type "builtin_function_or_method") (.fields ⟨[(.builtin "type.__prepare__"),(.type "type")]⟩),do38 P,t0,ob vN (.fields ⟨[(.int 24 0),(.int 4 0),(.ref 48)]⟩),ob (.type "code") (.fields ⟨[(.str "Court" 246),(.str "Court" 247),(.str "/claim/cut.py" 248),(.int 22 0),(.int 0 0),(.int 0 0),(.int 0 0),(.int 0 0),(.ref 39),(.bool false),(.int 181 0),(.ref 40),vN,vN,vN,vN,(.int 249 0),(.int 22 0),(.str "/claim/cut.py" 250)]⟩),⟨(.type "frame"),none,.plain,⟨[some (.ref 41),some (.ref 3),some (.ref 38),none,some (.str "namecourt.court" 187),none,some (.ref 0)]⟩⟩]++me1.os++[(tS 263 ["cases", "last_days", "presiding", "rulings", "today"]),do51 P,xo52,ob (.type "getset_descriptor") (.fields ⟨[(.str "__dict__" 269),(.ref 52),(.builtin "function.__dict__"),(.builtin "function.__dict__#set")]⟩),ob (.type "getset_descriptor") (.fields ⟨[(.str "__weakref__" 271),(.ref 52),(.builtin "ExceptionGroup.__weakref__"),vN]⟩),ob (.type "super") (.fields ⟨[(.ref 52),(.ref 52),(.ref 52)]⟩),ob (.type "builtin_function_or_method") (.fields ⟨[(.builtin "object.__init_subclass__"),(.ref 52)]⟩)]++((tab.drop 0).take 61).flatMap Row.os++[t0,ob (.type "builtin_function_or_method") (.fields ⟨[(.builtin "type.__prepare__"),(.type "type")]⟩),do452 P,t0,ob vN (.fields ⟨[(.int 505 0),(.int 4 0),(.ref 462),(.int 509 0),(.int 4 0),(.ref 469),(.int 512 0),(.int 4 0),(.ref 476),(.int 517 0),(.int 4 0),(.ref 483)]⟩),ob (.type "code") (.fields ⟨[(.str "Feed" 901),(.str "Feed" 902),(.str "/claim/cut.py" 903),(.int 503 0),(.int 0 0),(.int 0 0),(.int 0 0),(.int 0 0),(.ref 453),(.bool false),(.int 181 0),(.ref 454),vN,vN,vN,vN,(.int 904 0),(.int 503 0),(.str "/claim/cut.py" 905)]⟩),⟨(.type "frame"),none,.plain,⟨[some (.ref 455),some (.ref 3),some (.ref 452),none,some (.str "namecourt.desk" 897),none,some (.ref 0)]⟩⟩]++me2.os++me3.os++me4.os++me5.os++[(tS 943 ["numbers", "place"]),do486 P,xo487,ob (.type "getset_descriptor") (.fields ⟨[(.str "__dict__" 946),(.ref 487),(.builtin "function.__dict__"),(.builtin "function.__dict__#set")]⟩),ob (.type "getset_descriptor") (.fields ⟨[(.str "__weakref__" 948),(.ref 487),(.builtin "ExceptionGroup.__weakref__"),vN]⟩),ob (.type "super") (.fields ⟨[(.ref 487),(.ref 487),(.ref 487)]⟩),ob (.type "builtin_function_or_method") (.fields ⟨[(.builtin "object.__init_subclass__"),(.ref 487)]⟩)]++((tab.drop 61).take 27).flatMap Row.os++[ca681]++((tab.drop 88).take 1).flatMap Row.os
def mainAt(P:Params)(v:Value)(k:Nat):Obj:=dO P (("__name__",165,v)::(mainD.drop 1).take (k - 1)) k
def linesAt(k:Nat):Obj:=ob .none (.fields ⟨(lines.take k).flatMap λp=>[.int p.1 0,.int 0 0,.ref p.2]⟩)
def objsAt(P:Params)(v:Value)(k m n:Nat):List Obj:=[boot_o_0 P,boot_o_1 P,boot_o_2 P,mainAt P v k,boot_o_4 P,boot_o_5 P,boot_o_6 P,boot_o_7 P,boot_o_8 P,boot_o_9 P,boot_o_10 P,t0,linesAt m,⟨(.type "code"),none,(.fields ⟨[(.str "<module>" 182),(.str "<module>" 183),(.str "/claim/cut.py" 184),(.int 1 0),(.int 0 0),(.int 0 0),(.int 0 0),(.int 0 0),(.ref 11),(.bool false),(.int 181 0),(.ref 12),vN,vN,vN,vN,(.int 185 0),(.int 1 0),(.str "/claim/cut.py" 186)]⟩),⟨[]⟩⟩,⟨(.type "frame"),none,.plain,⟨[some (.ref 13),some (.ref 3),some (.ref 3),none,some (.str "__main__" 164),none,some (.ref 0)]⟩⟩]++(rest0 P).take (n - 15)
def putAll:Nat->BT->List Obj->BT
 |_,t,[]=>t
 |i,t,o::r=>putAll (i+1) (t.ins i o) r
def treeAt(P:Params)(v:Value)(k m n:Nat):BT:=putAll 0 .nil (objsAt P v k m n)
def env0:Env:={ scope:=pw.main.scope,locals:=mainNs,globals:=mainNs,cells:=[],code:=.ref 13,frame:=some 14 }
def cE:Code:=Code.body (behindTheImports pw) env0
abbrev z0:Pos:=⟨0,0,0,0⟩
abbrev an6:Option Value:=some (.ref 6)
abbrev ss0(P:Params)(os:OsState):SharedT:=⟨treeAt P (.str "__main__" 164) 9 0 15,15,{},⟨[]⟩,{},187,os⟩
abbrev ps0:Pos:=⟨0,0,0,0⟩
abbrev ss1(P:Params)(os:OsState):SharedT:=⟨treeAt P (.str "namecourt.cases" 446) 69 26 211,211,{},⟨[]⟩,{},538,os⟩
abbrev ps1:Pos:=⟨223,0,224,91⟩
abbrev ss2(P:Params)(os:OsState):SharedT:=⟨treeAt P (.str "namecourt.votes" 808) 106 54 393,393,{},⟨[]⟩,{},824,os⟩
abbrev ps2:Pos:=⟨432,0,432,7⟩
abbrev ss3(P:Params)(os:OsState):SharedT:=⟨treeAt P (.str "namecourt.desk" 897) 145 92 689,689,{},⟨[]⟩,{},1206,os⟩
abbrev ps3:Pos:=⟨601,0,610,15⟩
def sts1:List Stmt:=((behindTheImports pw).drop 0).take 63
def sts2:List Stmt:=((behindTheImports pw).drop 63).take 41
def sts3:List Stmt:=((behindTheImports pw).drop 104).take 40
theorem azW{w:World}{n:Nat}{s:SharedT}{t:Thread}{r}(h:Fast.tw10110043849684766642 Fast.tw14364793385576792824 pw w 11 an6 1 n s t=r):segRunT treeTable pw w 11 an6 1 n s t=r:=by
 rw[Fast.te10110043849684766642,Fast.te14364793385576792824]
 exact h
theorem run1(w:World)(os:OsState):Fast.tw10110043849684766642 Fast.tw14364793385576792824 pw w 11 an6 1 1559 (ss0 w.params os) (piecesOf sts1 env0 cE ps0 [topFrame z0])=some (.next,ss1 w.params os,cE,ps1):=by kernel_rfl
theorem run2(w:World)(os:OsState):Fast.tw10110043849684766642 Fast.tw14364793385576792824 pw w 11 an6 1 980 (ss1 w.params os) (piecesOf sts2 env0 cE ps1 [topFrame z0])=some (.next,ss2 w.params os,cE,ps2):=by kernel_rfl
theorem run3(w:World)(os:OsState):Fast.tw10110043849684766642 Fast.tw14364793385576792824 pw w 11 an6 1 1526 (ss2 w.params os) (piecesOf sts3 env0 cE ps2 [topFrame z0])=some (.next,ss3 w.params os,cE,ps3):=by kernel_rfl
abbrev heapE(P:Params):Heap:=⟨⟨objsAt P (.str "namecourt.desk" 897) 145 92 689⟩,{}⟩
abbrev stA(P:Params)(os:OsState):Shared:=⟨⟨⟨objsAt P (.str "__main__" 164) 9 0 15⟩,{}⟩,⟨[]⟩,{},187,os⟩
abbrev stE(P:Params)(os:OsState):Shared:=⟨heapE P,⟨[]⟩,{},1206,os⟩
abbrev st0(P:Params)(os:OsState):Shared:=⟨boot_heap P,⟨[]⟩,boot_drawn,boot_toks,os⟩
theorem bkV(w:World)(os:OsState):topGo treeTable pw w 11 an6 12 (st0 w.params os) (topStub pw)=some (stA w.params os,⟨denote treeTable cE,cE,z0,[topFrame z0]⟩):=by
 rw[Fast.te15667345088766844465,Fast.te11892475500146522536,Fast.te14364793385576792824]
 kernel_rfl
theorem beQ(w:World)(os:OsState):segRun treeTable pw w 11 an6 1 1 (stA w.params os) (blockOf (behindTheImports pw) env0 cE z0 [topFrame z0])=some (.next,(ss0 w.params os).abs,cE,z0):=by
 rw[Fast.te14374325043358763698,Fast.te14364793385576792824]
 kernel_rfl
theorem bkW(w:World)(os:OsState):topRun treeTable pw w 11 an6 2 (ss3 w.params os).abs (restOf [] env0 cE ps3 [topFrame z0])=some (stE w.params os):=by
 rw[Fast.te14082659384304107361,Fast.te14364793385576792824]
 kernel_rfl
theorem aXZ:sts1++(sts2++(sts3++[]))=behindTheImports pw:=by kernel_rfl
theorem biJ(w:World)(os:OsState):topRun treeTable pw w 11 an6 (1559+(980+(1526+2))) (ss0 w.params os).abs (restOf (sts1++(sts2++(sts3++[]))) env0 cE ps0 [topFrame z0])=some (stE w.params os):=
 piece_app (segRun_of (azW (run1 w os))) (piece_app (segRun_of (azW (run2 w os))) (piece_app (segRun_of (azW (run3 w os))) (bkW w os)))
theorem bkX(w:World)(os:OsState):topRun treeTable pw w 11 an6 (12+(1+(1559+(980+(1526+2))))) (st0 w.params os) (topStub pw)=some (stE w.params os):=
 go_top (bkV w os) (piece_block (beQ w os) (aXZ▸biJ w os))
theorem biK(w:World):((boot_heap w.params).isNs mainGlobals&&(Array.mk []:Array GenState).size==0,(boot_heap w.params).objs.size,(boot_heap w.params).nsMap mainGlobals "__annotations__")=(true,11,an6):=by kernel_rfl
theorem biQ:opening pw=plainProg pw.main.scope.names:=by kernel_rfl
theorem beU(s:Shared):fenceModules? pw s=some s:=by kernel_rfl
def loose:List Str:=(mainD.map (·.1)).take 144
def qv:Program:={ pw with main:={ pw.main with body:=[top 143] } }
def kk(P:Params):Frag:=[(3,mainAt P (.str "namecourt.desk" 897) 145),(31,xo31),(30,do30 P),(52,xo52),(51,do51 P),(487,xo487),(486,do486 P),(681,ca681)]++(me0::me1::me2::me3::me4::me5::tab).flatMap Row.k
def ks:List Addr:=[3,31,30,52,51,487,486,681]++(me0::me1::me2::me3::me4::me5::tab).flatMap λr=>[r.ca,r.fa]
theorem bkY(P:Params):ks=(kk P).map (·.1):=by kernel_rfl
abbrev hk:Hook:=kHook kk ks bkY
theorem l_a(w:World)(os:OsState):(staticsOk (importedModules pw.main.body) (boot_heap w.params) (heapE w.params)&&namesBound pw (heapE w.params)&&gensDone (stE w.params os)&&laidKept (boot_heap w.params) (heapE w.params))=true:=by kernel_rfl
theorem l_c(w:World)(os:OsState):hk.obs (stE w.params os)=hk.val w:=by kernel_rfl
theorem l_b(w:World)(os:OsState):openSeen qv loose (importedModules pw.main.body) (λs=>recOk [] s) true (stE w.params os)=openGood qv loose:=by
 rw[Fast.te4187177175401517315]
 kernel_rfl
theorem left:LeftO pw qv loose (λs=>recOk [] s) hk.obs hk.val 9000:=
 LeftO.of_pieces (boot_open biQ (by decide) beU) biK bkX (by decide) λw=>funext λos=>looks_pair (l_a w os) (looks_pair (l_b w os) (l_c w os))
theorem said:PySem.Challenge.rw_namecourt_s01_answers.wellSaid=true:=by
 unfold OpenSpec.wellSaid
 rw[Fast.te12908688711261696721]
 kernel_rfl
theorem whole:PySem.Challenge.rw_namecourt_s01_answers.prog.tablesWhole=true:=by kernel_rfl
abbrev nones:List Str:=["len", "all", "any", "ord", "str", "list", "isinstance", "int", "enumerate", "sorted", "range", "tuple", "sum", "min", "max", "reversed"]
abbrev atts:List (Nat×Str):=[(31, "proposals"),(31, "phase"),(31, "opened"),(31, "comments"),(31, "last_comment"),(31, "closing"),(31, "ballots"),(31, "published"),(52, "today"),(52, "last_days"),(52, "presiding"),(52, "cases"),(52, "rulings"),(487, "numbers"),(487, "place")]
abbrev mets:List (Nat×Row):=[(31,me0),(52,me1),(487,me2),(487,me3),(487,me4),(487,me5)]
section
variable(P:Params)
theorem biU:mainD.map (λe=>nsIn (kk P) mainGlobals e.1)=mainD.map λe=>some (some e.2.2):=by kernel_rfl
theorem biV:nones.map (λx=>nsIn (kk P) mainGlobals x)=nones.map λ_=>some none:=by kernel_rfl
theorem bkZ:atts.map (λa=>findIn (kk P) (.ref a.1) a.2)=atts.map λ_=>some none:=by kernel_rfl
theorem aZU:[31,52,487].map (λC=>(plainGet (kk P) C Str.empty,hasDictIn (kk P) C,plainOver (kk P) C,findIn (kk P) (.ref C) "__setattr__",makesIn (kk P) C,keepIn (kk P) (.ref C)))=[31,52,487].map λC=>(true,true,true,some (some (.builtin "object.__setattr__")),true,true):=by kernel_rfl
theorem aZV:mets.map (λp=>(findIn (kk P) (.ref p.1) p.2.x,isFn (kk P) (.ref p.2.fa),(kk P).lookup p.2.fa,codeIn (kk P) (.ref p.2.ca) p.2.q,keepIn (kk P) (.ref p.2.fa)))=mets.map λp=>(some (some (.ref p.2.fa)),true,some p.2.f,true,true):=by kernel_rfl
theorem aZW:tab.map (λr=>(nsIn (kk P) mainGlobals r.x,(kk P).lookup r.fa,codeIn (kk P) (.ref r.ca) r.q,keepIn (kk P) (.ref r.fa)))=tab.map λr=>(some (some (.ref r.fa)),some r.f,true,true):=by kernel_rfl
end
end Nc
end
end
section
set_option maxHeartbeats 4000000
namespace Nc
open PySem PySem.Spec PyProof.Rows L2 TL
open Vbnlal (Case Member State Effect Call Token)
def DefAt(K:PySem.W.Frag)(mg:Str->Option Value)(x:Str)(st:Stmt):Prop:=∃f fd,Fun K x x st f fd/\mg x=some (.ref f)
def MethAt(K:PySem.W.Frag)(C:Addr)(m q:Str)(st:Stmt):Prop:=∃f fd,Fun K m q st f fd/\Meth K C m f
def MakeAt(K:PySem.W.Frag)(mg:Str->Option Value)(C:Addr)(x q:Str)(st:Stmt):Prop:=∃f fd,Fun K "__init__" q st f fd/\mg x=some (.ref C)/\Mk K C f
abbrev BindsAs(x q:Str)(st:Stmt)(ps:List Str):Prop:=∀(kV doc pm:Value)(an:Option Addr)(cdv ct:Value)(us:List Value),us.length=ps.length->bindArgs (PySem.W.fnOf x q (defArgs st) (defBody st) (defScope st) .none kV doc pm an cdv ct) ⟨us,[]⟩=pure (ps.zip us)
section
variable{Z:Wd}{C:Addr}{x q:Str}{st:Stmt}{ps:List Str}{k:Nat}{sp:Sp}
theorem bV(h:DefAt Z.K Z.mg x st)(ok:∀{f fd},Fun Z.K x x st f fd->OkZ Z k f fd ps sp)(b:BindsAs x x st ps):DefOk Z k x ps sp:=by
 obtain⟨f,fd,F,hm⟩:=h
 exact bgY F hm (F.binds b) (ok F)
theorem alK(h:MakeAt Z.K Z.mg C x q st)(ok:∀{f fd},Fun Z.K "__init__" q st f fd->OkZ Z k f fd ps sp)(b:BindsAs "__init__" q st ps):MakeOk Z C k x ps sp:=by
 obtain⟨f,fd,F,hm,hk⟩:=h
 exact⟨f,fd,hm,hk,F.binds b,ok F⟩
theorem alQ(h:MethAt Z.K C x q st)(ok:∀{f fd},Fun Z.K x q st f fd->OkZ Z k f fd ps sp)(b:BindsAs x q st ps):MethOk Z C k x ps sp:=by
 obtain⟨f,fd,F,hm⟩:=h
 exact⟨f,fd,hm,F.binds b,ok F⟩
end
theorem aoU:∀fs:List Addr,Vals (fs.map V.ref) (fs.map Value.ref)
 |[]=>.nil
 |f::fs=>.cons rfl (aoU fs)
def doNames:List Str:=["do_day", "do_seat", "do_leave", "do_preside", "do_petition", "do_withdraw", "do_comment", "do_open_vote", "do_ballot", "do_close", "do_publish", "do_read", "do_show", "do_phase", "do_tally", "do_office", "do_rulings", "do_in_force", "do_because", "do_check", "do_status", "do_over", "do_fixed_at", "do_rejected", "do_index", "do_conserved", "do_stays"]
def TabAt(mg:Str->Option Value)(fs:List Addr):Prop:=∀(i:Nat) x,doNames[i]? = some x->∃f,fs[i]? = some f/\mg x=some (.ref f)
theorem eV{Z:Wd}{Cc Ck Cf:Addr}{fs:List Addr}{k:Nat}{name:Str}{sel:Call->Prop}{x:Call}(hN:TabAt Z.mg fs)(D:DefOk Z k name ["court", "feed"] (spDo Cc Ck Cf Z.K sel))(hn:doNames[num x]? = some name)(hk:k<=7)(hs:sel x) :
  ∃f fd,fs[num x]? = some f/\PySem.W.keepIn Z.K (.ref f)=true/\Binds Z.K fd ["court", "feed"] []/\OkZ Z 7 f fd ["court", "feed"] (spDo Cc Ck Cf Z.K λy=>y=x):=by
 obtain⟨f,fd,h1,h2,h3,h4⟩:=D
 obtain⟨g,hg,hm⟩:=hN _ _ hn
 rw[h1] at hm
 cases hm
 refine⟨f,fd,hg,h2,h3,(h4.mono hk).imp λvs H Q E z=>?_⟩
 obtain⟨a,e,hsel,r⟩:=z
 exact⟨a,e,by rw[hsel];exact hs,r⟩
theorem biW{Z:Wd}{Cc Ck Cf ca fa:Addr}{fs:List Addr}{fda:FuncData}(T:Tx Z Cc Ck Cf)(hD:∀(i:Nat) (h:i<tab.length),DefAt Z.K Z.mg (tab[i]).x (tab[i]).st)(h_Case:MakeAt Z.K Z.mg Ck "Case" "Case.__init__" me0.st)(h_Court:MakeAt Z.K Z.mg Cc "Court" "Court.__init__" me1.st)(h_Feed:MakeAt Z.K Z.mg Cf "Feed" "Feed.__init__" me2.st)(h_is_over:MethAt Z.K Cf "is_over" "Feed.is_over" me3.st)(h_take:MethAt Z.K Cf "take" "Feed.take" me4.st)(h_take_row:MethAt Z.K Cf "take_row" "Feed.take_row" me5.st)(G_CALLS:Z.mg "CALLS"=some (.ref ca))(hCA:∀H,SqT Z.K H ca (fs.map V.ref))(hN:TabAt Z.mg fs)(FA:Fun Z.K "answers" "answers" mQ fa fda):OkZ Z 9 fa fda ["calls"] (spAns Z.K):=by
 have D_is_key:=bV (x := "is_key") (st:=aaY) (hD 0 (by decide)) (λF=>aRU F T ) λ_ _ _ _ _ _ us hl=>match us,hl with | [_],_=>rfl
 have D_forms:=bV (x := "forms") (st:=akV) (hD 1 (by decide)) (λF=>aXU F T ) λ_ _ _ _ _ _ us hl=>match us,hl with | [],_=>rfl
 have D_group_of:=bV (x := "group_of") (st:=NJ) (hD 2 (by decide)) (λF=>aEY F T ) λ_ _ _ _ _ _ us hl=>match us,hl with | [_],_=>rfl
 have D_run_end:=bV (x := "run_end") (st:=SX) (hD 3 (by decide)) (λF=>aMU F T D_group_of) λ_ _ _ _ _ _ us hl=>match us,hl with | [_,_],_=>rfl
 have D_word_of:=bV (x := "word_of") (st:=EZ) (hD 4 (by decide)) (λF=>aMV F T ) λ_ _ _ _ _ _ us hl=>match us,hl with | [_],_=>rfl
 have D_number_of:=bV (x := "number_of") (st:=HQ) (hD 5 (by decide)) (λF=>axZ F T ) λ_ _ _ _ _ _ us hl=>match us,hl with | [_],_=>rfl
 have D_parts_of:=bV (x := "parts_of") (st:=NQ) (hD 6 (by decide)) (λF=>aEZ F T D_group_of D_run_end D_word_of D_number_of) λ_ _ _ _ _ _ us hl=>match us,hl with | [_],_=>rfl
 have D_proposal_of:=bV (x := "proposal_of") (st:=nJ) (hD 7 (by decide)) (λF=>akX F T D_forms) λ_ _ _ _ _ _ us hl=>match us,hl with | [_],_=>rfl
 have D_proposals_of:=bV (x := "proposals_of") (st:=mJ) (hD 8 (by decide)) (λF=>agZ F T D_parts_of D_proposal_of) λ_ _ _ _ _ _ us hl=>match us,hl with | [_],_=>rfl
 have D_numbers_of:=bV (x := "numbers_of") (st:=DY) (hD 9 (by decide)) (λF=>arX F T ) λ_ _ _ _ _ _ us hl=>match us,hl with | [_],_=>rfl
 have D_text_refusal:=bV (x := "text_refusal") (st:=pQ) (hD 10 (by decide)) (λF=>ahJ F T D_numbers_of D_is_key) λ_ _ _ _ _ _ us hl=>match us,hl with | [_],_=>rfl
 have D_read_text:=bV (x := "read_text") (st:=HU) (hD 11 (by decide)) (λF=>ayX F T D_proposals_of D_text_refusal) λ_ _ _ _ _ _ us hl=>match us,hl with | [_],_=>rfl
 have D_written:=bV (x := "written") (st:=SZ) (hD 12 (by decide)) (λF=>aMX F T D_numbers_of D_forms) λ_ _ _ _ _ _ us hl=>match us,hl with | [_],_=>rfl
 have D_one_form:=bV (x := "one_form") (st:=tV) (hD 13 (by decide)) (λF=>aFJ F T D_written) λ_ _ _ _ _ _ us hl=>match us,hl with | [_],_=>rfl
 have D_annuls_no_ruling:=bV (x := "annuls_no_ruling") (st:=oV) (hD 14 (by decide)) (λF=>OW F T ) λ_ _ _ _ _ _ us hl=>match us,hl with | [_,_],_=>rfl
 have D_Case:=alK h_Case (λF=>awQ F T ) λ_ _ _ _ _ _ us hl=>match us,hl with | [_,_,_],_=>rfl
 have D_petition:=bV (x := "petition") (st:=LY) (hD 15 (by decide)) (λF=>aCZ F T D_is_key D_proposals_of D_text_refusal D_annuls_no_ruling D_Case) λ_ _ _ _ _ _ us hl=>match us,hl with | [_,_,_],_=>rfl
 have D_withdraw:=bV (x := "withdraw") (st:=LW) (hD 16 (by decide)) (λF=>aCX F T ) λ_ _ _ _ _ _ us hl=>match us,hl with | [_,_],_=>rfl
 have D_comment:=bV (x := "comment") (st:=RW) (hD 17 (by decide)) (λF=>aLQ F T ) λ_ _ _ _ _ _ us hl=>match us,hl with | [_,_],_=>rfl
 have D_publish:=bV (x := "publish") (st:=RX) (hD 18 (by decide)) (λF=>aLU F T ) λ_ _ _ _ _ _ us hl=>match us,hl with | [_,_],_=>rfl
 have D_show:=bV (x := "show") (st:=awJ) (hD 19 (by decide)) (λF=>bcW F T D_one_form) λ_ _ _ _ _ _ us hl=>match us,hl with | [_,_],_=>rfl
 have D_tell_phase:=bV (x := "tell_phase") (st:=CQ) (hD 20 (by decide)) (λF=>apX F T ) λ_ _ _ _ _ _ us hl=>match us,hl with | [_,_],_=>rfl
 have D_is_about:=bV (x := "is_about") (st:=LX) (hD 21 (by decide)) (λF=>aCY F T ) λ_ _ _ _ _ _ us hl=>match us,hl with | [_,_],_=>rfl
 have D_is_pending_on:=bV (x := "is_pending_on") (st:=oJ) (hD 22 (by decide)) (λF=>abV F T D_is_about) λ_ _ _ _ _ _ us hl=>match us,hl with | [_,_],_=>rfl
 have D_stays:=bV (x := "stays") (st:=UV) (hD 23 (by decide)) (λF=>aWZ F T D_is_pending_on) λ_ _ _ _ _ _ us hl=>match us,hl with | [_,_],_=>rfl
 have D_is_day:=bV (x := "is_day") (st:=aaZ) (hD 24 (by decide)) (λF=>aRW F T ) λ_ _ _ _ _ _ us hl=>match us,hl with | [_],_=>rfl
 have D_end_office:=bV (x := "end_office") (st:=CJ) (hD 26 (by decide)) (λF=>apW F T ) λ_ _ _ _ _ _ us hl=>match us,hl with | [_,_],_=>rfl
 have D_go_to_day:=bV (x := "go_to_day") (st:=GU) (hD 25 (by decide)) (λF=>avX F T D_is_day D_end_office) λ_ _ _ _ _ _ us hl=>match us,hl with | [_,_],_=>rfl
 have D_seat:=bV (x := "seat") (st:=avW) (hD 27 (by decide)) (λF=>bcV F T D_is_key D_is_day) λ_ _ _ _ _ _ us hl=>match us,hl with | [_,_,_],_=>rfl
 have D_leave:=bV (x := "leave") (st:=aiZ) (hD 28 (by decide)) (λF=>aWW F T D_end_office) λ_ _ _ _ _ _ us hl=>match us,hl with | [_,_],_=>rfl
 have D_preside:=bV (x := "preside") (st:=RK) (hD 29 (by decide)) (λF=>aLJ F T ) λ_ _ _ _ _ _ us hl=>match us,hl with | [_,_],_=>rfl
 have D_tell_office:=bV (x := "tell_office") (st:=yJ) (hD 30 (by decide)) (λF=>ajJ F T ) λ_ _ _ _ _ _ us hl=>match us,hl with | [_],_=>rfl
 have D_published_by:=bV (x := "published_by") (st:=pK) (hD 31 (by decide)) (λF=>afQ F T ) λ_ _ _ _ _ _ us hl=>match us,hl with | [_,_],_=>rfl
 have D_annulled_by:=bV (x := "annulled_by") (st:=qZ) (hD 32 (by decide)) (λF=>ajQ F T ) λ_ _ _ _ _ _ us hl=>match us,hl with | [_,_],_=>rfl
 have D_forces_at:=bV (x := "forces_at") (st:=GX) (hD 33 (by decide)) (λF=>awU F T D_published_by D_annulled_by) λ_ _ _ _ _ _ us hl=>match us,hl with | [_,_],_=>rfl
 have D_those_that_annul:=bV (x := "those_that_annul") (st:=iV) (hD 34 (by decide)) (λF=>OX F T D_annulled_by) λ_ _ _ _ _ _ us hl=>match us,hl with | [_,_,_],_=>rfl
 have D_told_pairs:=bV (x := "told_pairs") (st:=CU) (hD 35 (by decide)) (λF=>apY F T ) λ_ _ _ _ _ _ us hl=>match us,hl with | [_,_],_=>rfl
 have D_tell_rulings:=bV (x := "tell_rulings") (st:=uY) (hD 36 (by decide)) (λF=>afW F T D_is_day D_forces_at D_told_pairs) λ_ _ _ _ _ _ us hl=>match us,hl with | [_,_],_=>rfl
 have D_in_force:=bV (x := "in_force") (st:=LZ) (hD 37 (by decide)) (λF=>aDJ F T D_is_day D_forces_at) λ_ _ _ _ _ _ us hl=>match us,hl with | [_,_,_],_=>rfl
 have D_reasons_of:=bV (x := "reasons_of") (st:=sX) (hD 38 (by decide)) (λF=>apZ F T D_those_that_annul) λ_ _ _ _ _ _ us hl=>match us,hl with | [_,_,_],_=>rfl
 have D_because:=bV (x := "because") (st:=RY) (hD 39 (by decide)) (λF=>aLV F T D_is_day D_forces_at D_reasons_of D_told_pairs) λ_ _ _ _ _ _ us hl=>match us,hl with | [_,_,_],_=>rfl
 have D_claims_of:=bV (x := "claims_of") (st:=GY) (hD 40 (by decide)) (λF=>awV F T ) λ_ _ _ _ _ _ us hl=>match us,hl with | [_],_=>rfl
 have D_is_borne_out:=bV (x := "is_borne_out") (st:=lZ) (hD 41 (by decide)) (λF=>afY F T D_those_that_annul) λ_ _ _ _ _ _ us hl=>match us,hl with | [_,_,_,_],_=>rfl
 have D_check:=bV (x := "check") (st:=UX) (hD 42 (by decide)) (λF=>aXJ F T D_is_day D_forces_at D_claims_of D_is_borne_out) λ_ _ _ _ _ _ us hl=>match us,hl with | [_,_,_,_,_],_=>rfl
 have D_effects_at:=bV (x := "effects_at") (st:=sZ) (hD 43 (by decide)) (λF=>aqJ F T D_forces_at) λ_ _ _ _ _ _ us hl=>match us,hl with | [_,_],_=>rfl
 have D_last_about:=bV (x := "last_about") (st:=CY) (hD 44 (by decide)) (λF=>aqK F T D_effects_at) λ_ _ _ _ _ _ us hl=>match us,hl with | [_,_,_,_],_=>rfl
 have D_status:=bV (x := "status") (st:=abX) (hD 45 (by decide)) (λF=>aRY F T D_is_day D_last_about) λ_ _ _ _ _ _ us hl=>match us,hl with | [_,_,_],_=>rfl
 have D_over:=bV (x := "over") (st:=awY) (hD 46 (by decide)) (λF=>bcZ F T D_is_day D_effects_at) λ_ _ _ _ _ _ us hl=>match us,hl with | [_,_,_,_],_=>rfl
 have D_fixed_at:=bV (x := "fixed_at") (st:=MJ) (hD 47 (by decide)) (λF=>aDK F T D_is_day D_last_about) λ_ _ _ _ _ _ us hl=>match us,hl with | [_,_,_],_=>rfl
 have D_rejected:=bV (x := "rejected") (st:=MK) (hD 48 (by decide)) (λF=>aDQ F T D_is_day D_last_about) λ_ _ _ _ _ _ us hl=>match us,hl with | [_,_,_],_=>rfl
 have D_statuses_at:=bV (x := "statuses_at") (st:=yV) (hD 49 (by decide)) (λF=>ajU F T D_effects_at) λ_ _ _ _ _ _ us hl=>match us,hl with | [_,_],_=>rfl
 have D_tell_index:=bV (x := "tell_index") (st:=CZ) (hD 50 (by decide)) (λF=>aqQ F T D_is_day D_statuses_at) λ_ _ _ _ _ _ us hl=>match us,hl with | [_,_],_=>rfl
 have D_conserved:=bV (x := "conserved") (st:=GZ) (hD 51 (by decide)) (λF=>axK F T D_is_day D_effects_at) λ_ _ _ _ _ _ us hl=>match us,hl with | [_,_],_=>rfl
 have D_is_too_early:=bV (x := "is_too_early") (st:=uV) (hD 52 (by decide)) (λF=>aeW F T ) λ_ _ _ _ _ _ us hl=>match us,hl with | [_,_],_=>rfl
 have D_open_vote:=bV (x := "open_vote") (st:=GV) (hD 53 (by decide)) (λF=>avY F T D_is_too_early) λ_ _ _ _ _ _ us hl=>match us,hl with | [_,_],_=>rfl
 have D_ballot:=bV (x := "ballot") (st:=abU) (hD 54 (by decide)) (λF=>aRX F T ) λ_ _ _ _ _ _ us hl=>match us,hl with | [_,_,_,_],_=>rfl
 have D_all_have_voted:=bV (x := "all_have_voted") (st:=mY) (hD 55 (by decide)) (λF=>VY F T ) λ_ _ _ _ _ _ us hl=>match us,hl with | [_,_],_=>rfl
 have D_ballots_cast:=bV (x := "ballots_cast") (st:=pJ) (hD 56 (by decide)) (λF=>aeX F T ) λ_ _ _ _ _ _ us hl=>match us,hl with | [_,_],_=>rfl
 have D_first_outcome:=bV (x := "first_outcome") (st:=sU) (hD 58 (by decide)) (λF=>abK F T ) λ_ _ _ _ _ _ us hl=>match us,hl with | [_,_],_=>rfl
 have D_outcome:=bV (x := "outcome") (st:=RU) (hD 57 (by decide)) (λF=>aLK F T D_ballots_cast D_first_outcome) λ_ _ _ _ _ _ us hl=>match us,hl with | [_,_],_=>rfl
 have D_close:=bV (x := "close") (st:=ajK) (hD 59 (by decide)) (λF=>aWX F T D_all_have_voted D_outcome) λ_ _ _ _ _ _ us hl=>match us,hl with | [_,_],_=>rfl
 have D_tally:=bV (x := "tally") (st:=UU) (hD 60 (by decide)) (λF=>aWY F T D_ballots_cast) λ_ _ _ _ _ _ us hl=>match us,hl with | [_,_],_=>rfl
 have D_take:=alQ h_take (λF=>axV F T ) λ_ _ _ _ _ _ us hl=>match us,hl with | [_],_=>rfl
 have D_do_day:=bV (x := "do_day") (st:=acJ) (hD 61 (by decide)) (λF=>aSK F T D_go_to_day D_take) λ_ _ _ _ _ _ us hl=>match us,hl with | [_,_],_=>rfl
 have D_do_seat:=bV (x := "do_seat") (st:=SV) (hD 62 (by decide)) (λF=>aLY F T D_take D_seat) λ_ _ _ _ _ _ us hl=>match us,hl with | [_,_],_=>rfl
 have D_do_leave:=bV (x := "do_leave") (st:=MQ) (hD 63 (by decide)) (λF=>aDV F T D_leave D_take) λ_ _ _ _ _ _ us hl=>match us,hl with | [_,_],_=>rfl
 have D_do_preside:=bV (x := "do_preside") (st:=DJ) (hD 64 (by decide)) (λF=>aqX F T D_preside D_take) λ_ _ _ _ _ _ us hl=>match us,hl with | [_,_],_=>rfl
 have D_take_row:=alQ h_take_row (λF=>abZ F T D_take) λ_ _ _ _ _ _ us hl=>match us,hl with | [_],_=>rfl
 have D_do_petition:=bV (x := "do_petition") (st:=zK) (hD 65 (by decide)) (λF=>akY F T D_take D_take_row D_petition) λ_ _ _ _ _ _ us hl=>match us,hl with | [_,_],_=>rfl
 have D_do_withdraw:=bV (x := "do_withdraw") (st:=yW) (hD 66 (by decide)) (λF=>ajX F T D_withdraw D_take) λ_ _ _ _ _ _ us hl=>match us,hl with | [_,_],_=>rfl
 have D_do_comment:=bV (x := "do_comment") (st:=DK) (hD 67 (by decide)) (λF=>aqZ F T D_comment D_take) λ_ _ _ _ _ _ us hl=>match us,hl with | [_,_],_=>rfl
 have D_do_open_vote:=bV (x := "do_open_vote") (st:=vJ) (hD 68 (by decide)) (λF=>agQ F T D_open_vote D_take) λ_ _ _ _ _ _ us hl=>match us,hl with | [_,_],_=>rfl
 have D_do_ballot:=bV (x := "do_ballot") (st:=HK) (hD 69 (by decide)) (λF=>axX F T D_take D_ballot) λ_ _ _ _ _ _ us hl=>match us,hl with | [_,_],_=>rfl
 have D_do_close:=bV (x := "do_close") (st:=MU) (hD 70 (by decide)) (λF=>aDX F T D_close D_take) λ_ _ _ _ _ _ us hl=>match us,hl with | [_,_],_=>rfl
 have D_do_publish:=bV (x := "do_publish") (st:=DQ) (hD 71 (by decide)) (λF=>arK F T D_publish D_take) λ_ _ _ _ _ _ us hl=>match us,hl with | [_,_],_=>rfl
 have D_do_read:=bV (x := "do_read") (st:=TK) (hD 72 (by decide)) (λF=>aMZ F T D_read_text D_take_row) λ_ _ _ _ _ _ us hl=>match us,hl with | [_,_],_=>rfl
 have D_do_show:=bV (x := "do_show") (st:=SU) (hD 73 (by decide)) (λF=>aLX F T D_show D_take) λ_ _ _ _ _ _ us hl=>match us,hl with | [_,_],_=>rfl
 have D_do_phase:=bV (x := "do_phase") (st:=MV) (hD 74 (by decide)) (λF=>aDZ F T D_tell_phase D_take) λ_ _ _ _ _ _ us hl=>match us,hl with | [_,_],_=>rfl
 have D_do_tally:=bV (x := "do_tally") (st:=MW) (hD 75 (by decide)) (λF=>aEK F T D_tally D_take) λ_ _ _ _ _ _ us hl=>match us,hl with | [_,_],_=>rfl
 have D_do_office:=bV (x := "do_office") (st:=HV) (hD 76 (by decide)) (λF=>azK F T D_tell_office) λ_ _ _ _ _ _ us hl=>match us,hl with | [_,_],_=>rfl
 have D_do_rulings:=bV (x := "do_rulings") (st:=DU) (hD 77 (by decide)) (λF=>arU F T D_tell_rulings D_take) λ_ _ _ _ _ _ us hl=>match us,hl with | [_,_],_=>rfl
 have D_do_in_force:=bV (x := "do_in_force") (st:=yX) (hD 78 (by decide)) (λF=>ajY F T D_take D_in_force) λ_ _ _ _ _ _ us hl=>match us,hl with | [_,_],_=>rfl
 have D_do_because:=bV (x := "do_because") (st:=DV) (hD 79 (by decide)) (λF=>arV F T D_take D_because) λ_ _ _ _ _ _ us hl=>match us,hl with | [_,_],_=>rfl
 have D_do_check:=bV (x := "do_check") (st:=NU) (hD 80 (by decide)) (λF=>aFK F T D_take D_take_row D_check) λ_ _ _ _ _ _ us hl=>match us,hl with | [_,_],_=>rfl
 have D_do_status:=bV (x := "do_status") (st:=HJ) (hD 81 (by decide)) (λF=>axW F T D_take D_status) λ_ _ _ _ _ _ us hl=>match us,hl with | [_,_],_=>rfl
 have D_do_over:=bV (x := "do_over") (st:=SW) (hD 82 (by decide)) (λF=>aLZ F T D_take D_over) λ_ _ _ _ _ _ us hl=>match us,hl with | [_,_],_=>rfl
 have D_do_fixed_at:=bV (x := "do_fixed_at") (st:=yZ) (hD 83 (by decide)) (λF=>ajZ F T D_take D_fixed_at) λ_ _ _ _ _ _ us hl=>match us,hl with | [_,_],_=>rfl
 have D_do_rejected:=bV (x := "do_rejected") (st:=zJ) (hD 84 (by decide)) (λF=>akJ F T D_take D_rejected) λ_ _ _ _ _ _ us hl=>match us,hl with | [_,_],_=>rfl
 have D_do_index:=bV (x := "do_index") (st:=MX) (hD 85 (by decide)) (λF=>aEU F T D_tell_index D_take) λ_ _ _ _ _ _ us hl=>match us,hl with | [_,_],_=>rfl
 have D_do_conserved:=bV (x := "do_conserved") (st:=vK) (hD 86 (by decide)) (λF=>agV F T D_conserved D_take) λ_ _ _ _ _ _ us hl=>match us,hl with | [_,_],_=>rfl
 have D_do_stays:=bV (x := "do_stays") (st:=MY) (hD 87 (by decide)) (λF=>aEW F T D_stays D_take) λ_ _ _ _ _ _ us hl=>match us,hl with | [_,_],_=>rfl
 have D_Court:=alK h_Court (λF=>aqV F T ) λ_ _ _ _ _ _ us hl=>match us,hl with | [_],_=>rfl
 have D_Feed:=alK h_Feed (λF=>axU F T ) λ_ _ _ _ _ _ us hl=>match us,hl with | [_,_],_=>rfl
 have D_is_over:=alQ h_is_over (λF=>agJ F T ) λ_ _ _ _ _ _ us hl=>match us,hl with | [_],_=>rfl
 have CT:CallTab Z Cc Ck Cf fs:=by
  intro x
  cases x with
  |day x0=>exact eV hN D_do_day rfl (by decide) ⟨x0,rfl⟩
  |seat x0 x1=>exact eV hN D_do_seat rfl (by decide) ⟨x0,x1,rfl⟩
  |leave x0=>exact eV hN D_do_leave rfl (by decide) ⟨x0,rfl⟩
  |preside x0=>exact eV hN D_do_preside rfl (by decide) ⟨x0,rfl⟩
  |petition x0 x1=>exact eV hN D_do_petition rfl (by decide) ⟨x0,x1,rfl⟩
  |withdraw x0=>exact eV hN D_do_withdraw rfl (by decide) ⟨x0,rfl⟩
  |comment x0=>exact eV hN D_do_comment rfl (by decide) ⟨x0,rfl⟩
  |openVote x0=>exact eV hN D_do_open_vote rfl (by decide) ⟨x0,rfl⟩
  |ballot x0 x1 x2=>exact eV hN D_do_ballot rfl (by decide) ⟨x0,x1,x2,rfl⟩
  |close x0=>exact eV hN D_do_close rfl (by decide) ⟨x0,rfl⟩
  |publish x0=>exact eV hN D_do_publish rfl (by decide) ⟨x0,rfl⟩
  |read x0=>exact eV hN D_do_read rfl (by decide) ⟨x0,rfl⟩
  |show_ x0=>exact eV hN D_do_show rfl (by decide) ⟨x0,rfl⟩
  |phase x0=>exact eV hN D_do_phase rfl (by decide) ⟨x0,rfl⟩
  |tally x0=>exact eV hN D_do_tally rfl (by decide) ⟨x0,rfl⟩
  |office=>exact eV hN D_do_office rfl (by decide) rfl
  |rulings x0=>exact eV hN D_do_rulings rfl (by decide) ⟨x0,rfl⟩
  |inForce x0 x1=>exact eV hN D_do_in_force rfl (by decide) ⟨x0,x1,rfl⟩
  |because x0 x1=>exact eV hN D_do_because rfl (by decide) ⟨x0,x1,rfl⟩
  |check x0 x1 x2 x3=>exact eV hN D_do_check rfl (by decide) ⟨x0,x1,x2,x3,rfl⟩
  |status x0 x1=>exact eV hN D_do_status rfl (by decide) ⟨x0,x1,rfl⟩
  |over x0 x1 x2=>exact eV hN D_do_over rfl (by decide) ⟨x0,x1,x2,rfl⟩
  |typeAt x0 x1=>exact eV hN D_do_fixed_at rfl (by decide) ⟨x0,x1,rfl⟩
  |rejected x0 x1=>exact eV hN D_do_rejected rfl (by decide) ⟨x0,x1,rfl⟩
  |index x0=>exact eV hN D_do_index rfl (by decide) ⟨x0,rfl⟩
  |conserved x0=>exact eV hN D_do_conserved rfl (by decide) ⟨x0,rfl⟩
  |stays x0=>exact eV hN D_do_stays rfl (by decide) ⟨x0,rfl⟩
 exact aNJ FA T G_CALLS hCA CT D_Court D_Feed D_is_over D_take
theorem qW{α β:Type}{f g:α->β}{l:List α}(h:l.map f=l.map g)(i:Nat)(hi:i<l.length):f l[i]=g l[i]:=by
 have e:=congrArg (λz=>z[i]?) h
 simp only[List.getElem?_map,List.getElem?_eq_getElem hi,Option.map_some] at e
 exact Option.some.inj e
section
variable{P:Params}{h:Heap}{mg:Str->Option Value}(KX:(kk P).In h)(G:h.Ns mainGlobals mg)
include KX G
theorem gv(i:Nat)(hi:i<mainD.length):mg (mainD[i]).1=some (mainD[i]).2.2:=PySem.W.mg_of KX G (qW (biU P) i hi)
theorem gn(i:Nat)(hi:i<nones.length):mg nones[i]=none:=PySem.W.mg_none_of KX G (qW (biV P) i hi)
theorem blJ(i:Nat)(hi:i<tab.length)(hq:(tab[i]).q=(tab[i]).x):DefAt (kk P) mg (tab[i]).x (tab[i]).st:=by
 have e:=qW (aZW P) i hi
 simp only[Prod.mk.injEq] at e
 have l:=e.2.1
 have c:=e.2.2.1
 unfold Row.f at l
 rw[hq] at l c
 exact⟨_,_,adY l c e.2.2.2,PySem.W.mg_of KX G e.1⟩
theorem azX(i j:Nat)(hi:i<3)(hj:j<mets.length)(hC:(mets[j]).1=[31,52,487][i])(hx:(mets[j]).2.x = "__init__"){x:Str}(hm:mg x=some (.ref [31,52,487][i])):MakeAt (kk P) mg [31,52,487][i] x (mets[j]).2.q (mets[j]).2.st:=by
 have e:=qW (aZV P) j hj
 have c:=qW (aZU P) i hi
 simp only[Prod.mk.injEq] at e c
 have l:=e.2.2.1
 have a:=e.1
 unfold Row.f at l
 rw[hx] at l a
 rw[hC] at a
 exact⟨_,_,adY l e.2.2.2.1 e.2.2.2.2,hm,⟨c.2.2.2.2.1,a,e.2.1,c.2.2.2.2.2⟩⟩
omit KX G
theorem azY(j:Nat)(hj:j<mets.length):MethAt (kk P) (mets[j]).1 (mets[j]).2.x (mets[j]).2.q (mets[j]).2.st:=by
 have e:=qW (aZV P) j hj
 simp only[Prod.mk.injEq] at e
 have l:=e.2.2.1
 unfold Row.f at l
 exact⟨_,_,adY l e.2.2.2.1 e.2.2.2.2,⟨e.1,e.2.1,e.2.2.2.2⟩⟩
theorem aNQ(i:Nat)(hi:i<3):Cls (kk P) [31,52,487][i]:=by
 have c:=qW (aZU P) i hi
 simp only[Prod.mk.injEq] at c
 exact⟨c.1,c.2.1,c.2.2.1,c.2.2.2.1⟩
theorem mZ(i:Nat)(hi:i<atts.length):NoAttr (kk P) (atts[i]).1 (atts[i]).2:=qW (bkZ P) i hi
end
abbrev fsD:List Addr:=[498,505,512,519,526,533,540,547,554,561,568,575,582,589,596,603,610,617,624,631,638,645,652,659,666,673,680]
theorem blW(P:Params):(kk P).lookup 681=some (ob (.type "tuple") (.seq ⟨fsD.map Value.ref⟩ 0)):=by kernel_rfl
theorem blX(P:Params):doNames.map (λx=>PySem.W.nsIn (kk P) mainGlobals x)=fsD.map λa=>some (some (.ref a)):=by kernel_rfl
theorem blK:∀(i:Nat)(hi:i<tab.length),(tab[i]).q=(tab[i]).x:=by
 have e:tab.map (λr=>r.q)=tab.map λr=>r.x:=by kernel_rfl
 exact λi hi=>qW e i hi
theorem fin{p:Program}{w:World}{h:Heap}{mg:Str->Option Value}{fa:Addr}(KX:(kk w.params).In h)(G:h.Ns mainGlobals mg)(hfa:mg "answers"=some (.ref fa)):∃fd:FuncData,(∀(s:Shared)(us:List Value),us.length=(["calls"]:List Str).length->BindsTo s fd ⟨us,[]⟩ ((["calls"]:List Str).zip us))/\∀base:Heap,(kk w.params).In base->base.Ns mainGlobals mg->FnOk p w (kk w.params) mg base CX0 9 fa fd ["calls"] (spAns (kk w.params)):=by
 have e:=hfa.symm.trans (gv KX G 144 (by decide))
 cases e
 have ea:=qW (aZW w.params) 88 (by decide)
 simp only[Prod.mk.injEq] at ea
 have FA:=adY (x := "answers") (qual := "answers") (st:=mQ) (K:=kk w.params) ea.2.1 ea.2.2.1 ea.2.2.2
 have N:TabAt mg fsD:=λi x hx=>by
  have e:=congrArg (λz=>z[i]?) (blX w.params)
  simp only[List.getElem?_map,hx,Option.map_some] at e
  cases ef:fsD[i]? with
  |none=>
   rw[ef] at e
   cases e
  |some f=>
   rw[ef] at e
   exact⟨f,rfl,PySem.W.mg_of KX G (Option.some.inj e)⟩
 have U:∀H,SqT (kk w.params) H 681 (fsD.map V.ref):=λH=>.inr ⟨_,_,_,blW w.params,rfl,rfl,by decide,aoU fsD⟩
 refine⟨PySem.W.fnOf "answers" "answers" (defArgs mQ) (defBody mQ) (defScope mQ) .none .none .none (.str (tab[88]).m.1 (tab[88]).m.2) none (.ref (tab[88]).ca) .none,λs us hu=>match us,hu with | [_],_=>.of_eq rfl,λbase _ _=>?_⟩
 have T:Tx ⟨p,w,kk w.params,mg,base⟩ 52 31 487:=⟨gn KX G 0 (by decide),gn KX G 1 (by decide),gn KX G 2 (by decide),gn KX G 3 (by decide),gn KX G 4 (by decide),gn KX G 5 (by decide),gn KX G 6 (by decide),gn KX G 7 (by decide),gn KX G 8 (by decide),gn KX G 9 (by decide),gn KX G 10 (by decide),gn KX G 11 (by decide),gn KX G 12 (by decide),gn KX G 13 (by decide),gn KX G 14 (by decide),gn KX G 15 (by decide),⟨_,gv KX G 9 (by decide)⟩,⟨_,gv KX G 10 (by decide)⟩,⟨_,gv KX G 11 (by decide)⟩,⟨_,gv KX G 12 (by decide)⟩,⟨_,gv KX G 13 (by decide)⟩,⟨_,gv KX G 14 (by decide)⟩,⟨_,gv KX G 15 (by decide)⟩,⟨_,gv KX G 16 (by decide)⟩,⟨_,gv KX G 17 (by decide)⟩,⟨_,gv KX G 21 (by decide)⟩,⟨_,gv KX G 22 (by decide)⟩,⟨_,gv KX G 23 (by decide)⟩,⟨_,gv KX G 24 (by decide)⟩,⟨_,gv KX G 25 (by decide)⟩,⟨_,gv KX G 26 (by decide)⟩,⟨_,gv KX G 27 (by decide)⟩,⟨_,gv KX G 28 (by decide)⟩,⟨_,gv KX G 29 (by decide)⟩,⟨_,gv KX G 30 (by decide)⟩,⟨_,gv KX G 31 (by decide)⟩,⟨_,gv KX G 32 (by decide)⟩,⟨_,gv KX G 33 (by decide)⟩,⟨_,gv KX G 34 (by decide)⟩,⟨_,gv KX G 35 (by decide)⟩,⟨_,gv KX G 36 (by decide)⟩,⟨_,gv KX G 37 (by decide)⟩,⟨_,gv KX G 38 (by decide)⟩,⟨_,gv KX G 39 (by decide)⟩,⟨_,gv KX G 40 (by decide)⟩,⟨_,gv KX G 41 (by decide)⟩,⟨_,gv KX G 42 (by decide)⟩,⟨_,gv KX G 43 (by decide)⟩,⟨_,gv KX G 57 (by decide)⟩,⟨_,gv KX G 58 (by decide)⟩,⟨_,gv KX G 69 (by decide)⟩,⟨_,gv KX G 70 (by decide)⟩,⟨_,gv KX G 99 (by decide)⟩,⟨_,gv KX G 100 (by decide)⟩,⟨_,gv KX G 101 (by decide)⟩,⟨_,gv KX G 102 (by decide)⟩,⟨_,gv KX G 103 (by decide)⟩,⟨_,gv KX G 104 (by decide)⟩,⟨_,gv KX G 105 (by decide)⟩,aNQ 0 (by decide),mZ 0 (by decide),mZ 1 (by decide),mZ 2 (by decide),mZ 3 (by decide),mZ 4 (by decide),mZ 5 (by decide),mZ 6 (by decide),mZ 7 (by decide),aNQ 1 (by decide),mZ 8 (by decide),mZ 9 (by decide),mZ 10 (by decide),mZ 11 (by decide),mZ 12 (by decide),aNQ 2 (by decide),mZ 13 (by decide),mZ 14 (by decide),by decide⟩
 exact biW (Z:=⟨p,w,kk w.params,mg,base⟩) T (λi hi=>blJ KX G i hi (blK i hi)) (azX KX G 0 0 (by decide) (by decide) rfl rfl (gv KX G 18 (by decide))) (azX KX G 1 1 (by decide) (by decide) rfl rfl (gv KX G 19 (by decide))) (azX KX G 2 2 (by decide) (by decide) rfl rfl (gv KX G 115 (by decide))) (azY 3 (by decide)) (azY 4 (by decide)) (azY 5 (by decide)) (gv KX G 143 (by decide)) U N FA
end Nc
end
section
open PySem PySem.W PyProof.Rows
set_option maxHeartbeats 0 in
theorem PySem.Challenge.cw_namecourt_s01_answers_holds : PySem.Challenge.rw_namecourt_s01_answers.Holds := by
 refine holds_os (r:=PySem.Challenge.rw_namecourt_s01_answers) (q:=Nc.qv) (loose:=Nc.loose) (Xt:=λs=>recOk [] s) (XP:=λ_ _=>True) (Yf:=Nc.hk.obs) (Ya:=Nc.hk.val) (YP:=Nc.hk.says) (N:=9000) Nc.left Nc.hk.of Nc.hk.keeps (λ_ _=>trivial) (λ_ _ _ _ _=>trivial) (by rfl) (by rfl) (by rfl) (λs e=>recFacts_of e) os_shapes Nc.said (by decide +kernel) ⟨rfl,rfl,rfl,rfl,rfl,Nc.whole⟩ ⟨[.list [.int 15]],by decide +kernel,by decide +kernel⟩ ?_
 refine L2.aNK (r:=PySem.Challenge.rw_namecourt_s01_answers) (k:=9) (CX:=L2.CX0) (K:=Nc.kk) (ps:=["calls"]) (sp:=Nc.spAns) Nc.said rfl rfl ⟨rfl,by decide,by decide⟩ (λw h Y=>PySem.W.kIn_of Y) ?F ?S (λ_ _ _ _ z=>z)
 case F=>exact λw mg fa h Y KX G hmg=>Nc.fin KX G hmg
 case S=>
  intro K H xs a hO hwi hask hx
  cases hx with
  |cons h1 h2=>
   cases h2
   cases h1 with
   |lst hs ha=>
    have e:=L2.aHU a.1 _ ha
    subst e
    exact⟨⟨_,a.1⟩,rfl,hs,hask,λH' p hp=>.lst (L2.SqL.of hp) (L2.aHQ _)⟩
end
