/-
  A row of the call's own: cells in its midst are written; a slice that reads so is appended, from nil, too. No program in it.
-/
import Derived.Test.YtnjdckoljmgcjaaGreatDoorW26
set_option maxRecDepth 100000
set_option maxHeartbeats 4000000
namespace Go.Proofs.YtnjdckoljmgcjaaGreatDoor
open Go.ChangeShapes Go.WideShapes Go.ChangeAt Go.RowKit
set_option linter.unusedVariables false
theorem zi7:∀a b:List UInt8,Op.bytesLess a b=decide (ziF a b<0)
 | [],[]=>rfl
 | _ :: _,[]=>rfl
 | [],_ :: _=>rfl
 | a :: x,b :: y=>by
  unfold ziF
  rw [zgY zgS]
  simp only [Op.bytesLess]
  by_cases h:a=b
  ·subst h
   rw [if_pos rfl,zi7 x y,beq_self_eq_true,decide_eq_false (UInt8.lt_irrefl a),Bool.false_or,Bool.true_and]
   exact decide_eq_decide.2 Iff.rfl
  ·rw [if_neg h]
   have hb:(a == b)=false:=by simpa using h
   rw [hb]
   unfold zi8
   by_cases h1:a<b
   ·rw [if_pos h1];simp [h1]
   ·rw [if_neg h1]
    have h2:b<a:=by
     rw [UInt8.lt_iff_toNat_lt] at h1 ⊢
     rcases Nat.lt_or_ge b.toNat a.toNat with h3 | h3
     ·exact h3
     ·exact absurd (UInt8.toNat_inj.1 (by omega)) h
    rw [if_pos h2];simp [h1]
theorem zoN {a b:ByteArray} (h:a.toList=b.toList):a=b:=by
 rw [ByteArray.toList_eq,ByteArray.toList_eq] at h
 cases a;cases b;simp at h;rw [h]
theorem ziV (f g:ByteArray) (u v:Int):cmpP (f,u) (g,v)=if ziF f.toList g.toList=0 then Lib.compareInt u v else ziF f.toList g.toList:=by
 show orK (Lib.compareBytes _ _) _=_
 rw [zc9,ByteArray.toList_eq,ByteArray.toList_eq]
 rfl
theorem zn4 {f g:ByteArray} {u v:Int} (h:Op.bytesLess f.toList g.toList=true):cmpP (f,u) (g,v)<0:=by
 rw [zi7,decide_eq_true_iff] at h
 rw [ziV,if_neg (by omega)]
 exact h
theorem zpR {f g:ByteArray} {u v:Int} (h:(f.toList == g.toList)=true) (k:u<v):cmpP (f,u) (g,v)<0:=by
 have e:f.toList=g.toList:=by simpa using h
 rw [ziV,if_pos ((zbD.same _ _).2 e)]
 unfold Lib.compareInt
 rw [if_pos k]
 decide
theorem zjw {f g:ByteArray} {u v:Int} (h:(f.toList == g.toList)=true) (k:¬u<v):¬cmpP (f,u) (g,v)<0:=by
 have e:f.toList=g.toList:=by simpa using h
 rw [ziV,if_pos ((zbD.same _ _).2 e)]
 unfold Lib.compareInt
 rw [if_neg k]
 split <;> decide
theorem zon {f g:ByteArray} {u v:Int} (h:Op.bytesLess f.toList g.toList=false) (k:(f.toList == g.toList)=false):¬cmpP (f,u) (g,v)<0:=by
 rw [zi7,decide_eq_false_iff_not] at h
 have e:f.toList≠g.toList:=by simpa using k
 have h0:ziF f.toList g.toList≠0:=fun h0=>e ((zbD.same _ _).1 h0)
 rw [ziV,if_neg h0]
 exact h
def EntK (l:List Nt) (ks:List KeyT):Prop:=zea ks∧∀y:KeyT,y∈ks ↔ told l y.1 y.2=true
theorem EntK.nil:EntK [] []:=⟨List.Pairwise.nil,fun y=>by simp [told]⟩
theorem znO (n:Nt):zgm n.foot n.num n=true:=zdg.2 ⟨rfl,rfl⟩
theorem zjL (l:List Nt) (n:Nt) (y:KeyT):told (l ++ [n]) y.1 y.2=true ↔ told l y.1 y.2=true∨y=(n.foot,n.num):=by
 rw [zfA,Bool.or_eq_true,zdg]
 constructor
 ·rintro (h | ⟨h1,h2⟩)
  ·exact Or.inl h
  ·exact Or.inr (Prod.ext h1.symm h2.symm)
 ·rintro (h | rfl)
  ·exact Or.inl h
  ·exact Or.inr ⟨rfl,rfl⟩
theorem EntK.same {l:List Nt} {ks:List KeyT} (h:EntK l ks) {n:Nt} (hk:(n.foot,n.num)∈ks):EntK (l ++ [n]) ks:=⟨h.1,fun y=>by
 rw [zjL]
 constructor
 ·intro hy;exact Or.inl ((h.2 y).1 hy)
 ·rintro (hy | rfl)
  ·exact (h.2 y).2 hy
  ·exact hk⟩
def ziT (ks:List KeyT) (y:KeyT) (k:Nat):Prop:=k≤ks.length∧(∀x∈ks.take k,cmpP x y<0)
theorem ziT.zero (ks:List KeyT) (y:KeyT):ziT ks y 0:=⟨Nat.zero_le _,fun x hx=>by simp at hx⟩
theorem ziT.succ {ks:List KeyT} {y:KeyT} {k:Nat} (h:ziT ks y k) (hk:k<ks.length) (hc:cmpP ks[k] y<0):ziT ks y (k+1):=⟨hk,fun x hx=>by
 rw [List.take_succ_eq_append_getElem hk,List.mem_append] at hx
 rcases hx with hx | hx
 ·exact h.2 x hx
 ·rw [List.mem_singleton.1 hx];exact hc⟩
theorem zru {x y:KeyT} (h:¬cmpP x y<0) (hne:x≠y):cmpP y x<0:=by
 have h1:=zbU.swap x y
 have h2:cmpP x y≠0:=fun e=>hne ((zbU.same x y).1 e)
 omega
theorem zhf {ks:List KeyT} {k:Nat} (hr:zea ks):zea (ks.take k)∧zea (ks.drop k)∧∀a∈ks.take k,∀b∈ks.drop k,cmpP a b<0:=by
 have h:=hr
 unfold zea at h
 rw [←List.take_append_drop k ks,List.pairwise_append] at h
 exact h
theorem zij {ks:List KeyT} {k:Nat} {y:KeyT} (hr:zea ks) (hk:∀h:k<ks.length,¬cmpP ks[k] y<0∧ks[k]≠y):∀x∈ks.drop k,cmpP y x<0:=by
 intro x hx
 by_cases hlt:k<ks.length
 ·obtain ⟨h1,h2⟩:=hk hlt
  have h3:=zru h1 h2
  rw [List.drop_eq_getElem_cons hlt] at hx
  rcases List.mem_cons.1 hx with rfl | hx
  ·exact h3
  ·have h4:=(zhf (k:=k) hr).2.1
   unfold zea at h4
   rw [List.drop_eq_getElem_cons hlt,List.pairwise_cons] at h4
   exact zo0 h3 (h4.1 x hx)
 ·rw [List.drop_eq_nil_of_le (by omega)] at hx
  simp at hx
theorem zeu {ks:List KeyT} {k:Nat} {y:KeyT} (hr:zea ks) (hp:ziT ks y k) (hk:∀h:k<ks.length,¬cmpP ks[k] y<0∧ks[k]≠y):y ∉ ks:=by
 intro hy
 rw [←List.take_append_drop k ks,List.mem_append] at hy
 rcases hy with hy | hy
 ·have:=hp.2 y hy
  rw [zde] at this
  omega
 ·have:=zij hr hk y hy
  rw [zde] at this
  omega
theorem EntK.new {l:List Nt} {ks:List KeyT} (h:EntK l ks) {n:Nt} {k:Nat} (hp:ziT ks (n.foot,n.num) k) (hk:∀h:k<ks.length,¬cmpP ks[k] (n.foot,n.num)<0∧ks[k]≠(n.foot,n.num)) :
  EntK (l ++ [n]) (ks.take k ++ [(n.foot,n.num)] ++ ks.drop k):=by
 have hd:=zij h.1 hk
 obtain ⟨h1,h2,h3⟩:=zhf (k:=k) h.1
 refine ⟨?_,fun y=>?_⟩
 ·unfold zea at *
  rw [List.append_assoc,List.pairwise_append]
  refine ⟨h1,?_,?_⟩
  ·rw [List.singleton_append,List.pairwise_cons]
   exact ⟨hd,h2⟩
  ·intro a ha b hb
   rw [List.singleton_append] at hb
   rcases List.mem_cons.1 hb with rfl | hb
   ·exact hp.2 a ha
   ·exact h3 a ha b hb
 ·rw [zjL,←h.2 y]
  simp only [List.mem_append,List.mem_singleton]
  have hsplit:y∈ks ↔ y∈ks.take k∨y∈ks.drop k:=by rw [←List.mem_append,List.take_append_drop]
  rw [hsplit]
  constructor
  ·rintro ((h | h) | h)
   ·exact Or.inl (Or.inl h)
   ·exact Or.inr h
   ·exact Or.inl (Or.inr h)
  ·rintro ((h | h) | h)
   ·exact Or.inl (Or.inl h)
   ·exact Or.inr h
   ·exact Or.inl (Or.inr h)
theorem zjY {l:List Nt} {n:Nt} {y:KeyT} (h:y≠(n.foot,n.num)):mkE (l ++ [n]) y=mkE l y:=by
 unfold mkE
 rw [zed l n y.1 y.2 (by
  cases hc:zgm y.1 y.2 n with
  | false=>rfl
  | true=>obtain ⟨h1,h2⟩:=zdg.1 hc;exact absurd (Prod.ext h1.symm h2.symm) h)]
theorem zmM (l:List Nt) (n:Nt):mkE (l ++ [n]) (n.foot,n.num)=⟨n.foot,n.num,mx (zbq l n.foot n.num) n.att⟩:=by
 unfold mkE
 rw [zer l n n.foot n.num (znO n)]
theorem zke {l:List Nt} {n:Nt} {ks:List KeyT} (h:(n.foot,n.num) ∉ ks):ks.map (mkE (l ++ [n]))=ks.map (mkE l) :=
 List.map_congr_left fun y hy=>zjY fun e=>h (by rw [←e];exact hy)
theorem zsK {l:List Nt} {n:Nt} {ks:List KeyT} (hr:zea ks) {k:Nat} (hk:k<ks.length) (he:ks[k]=(n.foot,n.num)) :
  ks.map (mkE (l ++ [n]))=(ks.map (mkE l)).set k ⟨n.foot,n.num,mx (zbq l n.foot n.num) n.att⟩:=by
 apply List.ext_getElem (by simp)
 intro i h1 h2
 simp at h1
 rw [List.getElem_map,List.getElem_set]
 by_cases hi:k=i
 ·subst hi
  rw [if_pos rfl,he,zmM]
 ·rw [if_neg hi,List.getElem_map]
  refine zjY fun e=>?_
  rw [←he] at e
  unfold zea at hr
  rw [List.pairwise_iff_getElem] at hr
  rcases Nat.lt_or_ge k i with h | h
  ·have:=hr k i hk h1 h
   rw [e,zde] at this
   omega
  ·have:=hr i k h1 hk (by omega)
   rw [e,zde] at this
   omega
theorem zhM {l:List Nt} {n:Nt} {ks:List KeyT} (h:EntK l ks) {k:Nat} (hn:(n.foot,n.num) ∉ ks) (h0:∀i,0≤n.att i) :
  (ks.take k ++ [(n.foot,n.num)] ++ ks.drop k).map (mkE (l ++ [n]))=(ks.map (mkE l)).take k ++ [n] ++ (ks.map (mkE l)).drop k:=by
 have ht:told l n.foot n.num=false:=by
  cases hc:told l n.foot n.num with
  | false=>rfl
  | true=>exact absurd ((h.2 _).2 hc) hn
 have e:mkE (l ++ [n]) (n.foot,n.num)=n:=by
  rw [zmM,zif ht]
  have:mx (fun _=>0) n.att=n.att:=by
   funext i
   have:=h0 i
   show (if (0:Int)<n.att i then n.att i else 0)=n.att i
   split <;> omega
  rw [this]
 rw [List.map_append,List.map_append,List.map_cons,List.map_nil,e,←List.map_take,←List.map_drop,zke (fun hm=>hn (List.mem_of_mem_take hm)),zke (fun hm=>hn (List.mem_of_mem_drop hm))]
def zkc (xs:List Value) (p:Nat) (vs:List Value):List Value:=(vs.foldl (fun (a:List Value × Nat) v=>(a.1.set a.2 v,a.2+1)) (xs,p)).1
theorem zgQ:∀(vs:List Value) (p:Nat) (xs:List Value),(zkc xs p vs).length=xs.length
 | [],_,_=>rfl
 | v :: vs,p,xs=>by
  have h:=zgQ vs (p+1) (xs.set p v)
  rw [List.length_set] at h
  exact h
theorem zhh:∀(vs:List Value) (p:Nat) (xs:List Value) (q:Nat),(zkc xs p vs)[q]?=if p≤q∧q<p+vs.length∧q<xs.length then vs[q - p]? else xs[q]?
 | [],p,xs,q=>by rw [if_neg (by simp;omega)];rfl
 | v :: vs,p,xs,q=>by
  have h3:=zhh vs (p+1) (xs.set p v) q
  have e:zkc xs p (v :: vs)=zkc (xs.set p v) (p+1) vs:=rfl
  rw [e,h3]
  simp only [List.length_set,List.length_cons]
  by_cases hq:q=p
  ·subst hq
   rw [if_neg (by omega)]
   by_cases hl:q<xs.length
   ·rw [if_pos (by omega),List.getElem?_set_self hl];simp
   ·rw [if_neg (by omega),List.getElem?_eq_none (by simp;omega),List.getElem?_eq_none (by omega)]
  ·by_cases hc:p+1≤q∧q<p+1+vs.length∧q<xs.length
   ·rw [if_pos hc,if_pos (by omega),show q - p=(q - (p+1))+1 by omega,List.getElem?_cons_succ]
   ·rw [if_neg hc,if_neg (by omega),List.getElem?_set_ne (by omega)]
theorem zjm {base b cap nn:Nat} {T:TypeId} {size:Nat}:∀(vs:List Value) (p:Nat) (w:World) (xs:List Value),w.ownsRow base T size (.slice (some ⟨b,0,none⟩) nn cap) nn xs →
  (w.setCells b p vs).ownsRow base T size (.slice (some ⟨b,0,none⟩) nn cap) nn (zkc xs p vs)∧w.grownBy (w.setCells b p vs) (some b)
 | [],_,w,_,h=>⟨h,World.grownBy.refl _ _⟩
 | v :: vs,p,w,xs,h=>⟨(zjm vs (p+1) _ _ (h.stored p v).1).1,(h.stored p v).2.trans (zjm vs (p+1) _ _ (h.stored p v).1).2⟩
theorem zqx {l:List Nt} {xs:List Value} (hl:xs.length=l.length * 10) (h:∀j i (hj:j<l.length),i<10→xs[j * 10+i]?=(ntC l[j])[i]?):xs=zaC l:=by
 apply List.ext_getElem?
 intro p
 by_cases hp:p<l.length * 10
 ·have hj:p / 10<l.length:=by omega
  have e:p / 10 * 10+p % 10=p:=by omega
  rw [←e,h _ _ hj (by omega),zcH hj (by omega)]
 ·rw [List.getElem?_eq_none (by omega),List.getElem?_eq_none (by rw [zaX];omega)]
theorem ztr (l:List Nt) (j:Nat) (hj:j<l.length) (a:Nat→Int):zkc (zaC l) (j * 10+2) (rowA a).toList=zaC (l.set j ⟨l[j].foot,l[j].num,a⟩):=by
 have h8:(rowA a).toList.length=8:=rfl
 refine zqx (by rw [zgQ,zaX,List.length_set]) fun p i hp hi=>?_
 have hp2:p<l.length:=by simpa using hp
 rw [zhh,zaX,h8]
 by_cases hpj:p=j
 ·subst hpj
  rw [List.getElem_set_self]
  by_cases h2:2≤i
  ·rw [if_pos (by omega),show p * 10+i - (p * 10+2)=i - 2 by omega]
   rcases (show i=2∨i=3∨i=4∨i=5∨i=6∨i=7∨i=8∨i=9 by omega) with rfl | rfl | rfl | rfl | rfl | rfl | rfl | rfl <;> rfl
  ·rw [if_neg (by omega),zcH hj hi]
   rcases (show i=0∨i=1 by omega) with rfl | rfl <;> rfl
 ·rw [if_neg (by omega),zcH hp2 hi,List.getElem_set_ne (Ne.symm hpj)]
theorem zix (l:List Nt):∀k,k≤l.length→zaC (l.take k)=(zaC l).take (k * 10):=by
 induction l with
 | nil=>intro k hk;simp at hk;subst hk;rfl
 | cons n l ih =>
  intro k hk
  cases k with
  | zero=>rfl
  | succ k =>
   have h:=ih k (by simpa using hk)
   have e:(k+1) * 10=(ntC n).length+k * 10:=by show (k+1) * 10=10+k * 10;omega
   show ntC n ++ zaC (l.take k)=(ntC n ++ zaC l).take ((k+1) * 10)
   rw [e,List.take_length_add_append,h]
theorem zoh (l:List Nt) (k:Nat) (hk:k≤l.length):zaC (l.drop k)=(zaC l).drop (k * 10):=by
 have h1:=zbW (l.take k) (l.drop k)
 rw [List.take_append_drop,zix l k hk] at h1
 have h2:(zaC l).take (k * 10) ++ (zaC l).drop (k * 10)=(zaC l).take (k * 10) ++ zaC (l.drop k):=by rw [List.take_append_drop];exact h1
 exact (List.append_cancel_left h2).symm
section
variable {P:Program} {w:World} {ops:Array Oper} {rest:List Oper} {o:Oper} {a:Act} {Q:Exit→Act→World→Prop}
theorem zan (hgd:o.guard=none) (s x:Operand) (t:TypeId) (ho:o.op=.call { callee:=.builtin .append,args:=#[s,x],argTypes:=#[t,t] })
  (base:Nat) (e:TypeId) (i:TypeInfo) (z:Value) (size bytes:Nat) (ht:P.underlying t=some (.slice e)) (hi:P.info? e=some i) (hz:i.zero=some z)
  (hsize:i.size=size) (hby:i.bytes=bytes) (hzs:z.cells.size=size) (hsz:0<size) (v:Value) (n:Nat) (xs:List Value) (hs:a.eval s=v) (hown:w.ownsRow base e size v n xs)
  (A:Option Addr) (m c:Nat) (ys:List Value) (hx:a.eval x=.slice A m c) (hN:A=none→c=0∧m=0) (hl:ys.length=m * size) (hy:∀ad,A=some ad→∀j u,ys[j]?=some u→w.cell? (ad.add j)=some u)
  (h1:∀y∈ys,y.oneCell'=true) (h63:n+m≤maxLen) (hbytes:(n+m) * bytes≤140737488355328) (hbase:base≤w.heap.size)
  (h:∀v' w',w'.ownsRow base e size v' (n+m) (xs ++ ys)→w.grownBy w' v.ownBlock→wpList P ops Q rest (a.put o.dst v') w'):wpList P ops Q (o :: rest) a w:=by
 cases A with
 | none =>
  obtain ⟨rfl,rfl⟩:=hN rfl
  have hy:ys=[]:=List.eq_nil_of_length_eq_zero (by rw [hl];simp)
  subst hy
  exact wpList_append_own_none hgd s x t ho base e i size ht hi v n xs hs hown hx (h v w (by simpa using hown) (World.grownBy.refl _ _))
 | some ad =>
  exact wpList_append_own w hgd s x t ho base e i z size bytes ht hi hz hsize hby hzs hsz v n xs hs hown ad m c ys hx hl (hy ad rfl) h1 h63 hbytes hbase fun v' w' a1 a2 _=>h v' w' a1 a2
end
end Go.Proofs.YtnjdckoljmgcjaaGreatDoor
