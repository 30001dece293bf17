/-
  Commands as the document has them: what a kind has, right ones, bytes, texts; and that bytes and texts are read again. No program, but a string's bytes.
-/
import Derived.WalkKit
import Derived.ProofKit
import Derived.OpenShut
import Derived.SizedLaws
import Derived.Deep.QuietTactic
import Derived.BigQuiet
import Derived.Laws.AppendOwnNone
import Derived.Test.YtnjdckoljmgcjaaGreatDoorRows
import Derived.WalkSpells
import Derived.WalkLawsBesides
import Derived.Laws.RangeAny
import Derived.LoopTactic
import Derived.Lib.ItoaLen
import Derived.Lib.AtoiAll
import Derived.Lib.IndexBytes
import Derived.Laws.BitsAllLaws
import Derived.Laws.Bits64b
import Derived.Lib.ParseIntBCases
set_option maxRecDepth 100000
set_option maxHeartbeats 4000000
namespace Go.Proofs.YtnjdckoljmgcjaaGreatDoor
open Go.ChangeShapes Go.WideShapes Go.ChangeAt Go.RowKit
theorem hid {p:Prop} (h:p):Hid p:=h
theorem zba {k:IntKind} {a b:Int} (h:a=b):Ending.returned (.int k a)=.returned (.int k b):=by rw [h]
theorem zab {a b:Bool} (h:a=b):Ending.returned (.bool a)=.returned (.bool b):=by rw [h]
def zfK (P:Program) (ts:List TypeId):Bool:=ts.all fun t=>P.readableRec t && decide (t<P.types.size)
theorem zpc {H:Type} {enc:TypeId × Value→H} {P:Program} (hl:laidOutB P=true) {W W':World} (hb:Below W.heap.size W W') :
  ∀(ts:List TypeId) (vs:List Value) (ds:List (DataW H)) (ps:List MemPlace),zfK P ts=true →
   DataW.TrodAll enc P W 0 (fun _=>true) true ts vs ds ps→(∀x∈ps,x.block<W.heap.size) →
   DataW.TrodAll enc P W' 0 (fun b=>decide (b<W.heap.size)) true ts vs ds ps:=by
 intro ts
 induction ts with
 | nil =>
  intro vs ds ps _ h _
  obtain ⟨rfl,rfl,rfl⟩:=trodAll_nil h
  rfl
 | cons t ts ih =>
  intro vs ds ps hr h hlt
  obtain ⟨v,vs',d,ds',p,q,rfl,rfl,rfl,h1,h2⟩:=trodAll_cons h
  simp only [zfK,List.all_cons,Bool.and_eq_true,decide_eq_true_eq] at hr
  exact trodAll_cons_mk (Below.trod hl hr.1.1 hr.1.2 h1 hb (fun x hx=>hlt x (List.mem_append_left _ hx)))
   (ih vs' ds' q hr.2 h2 (fun x hx=>hlt x (List.mem_append_right _ hx)))
theorem zsj {H:Type} {enc:TypeId × Value→H} {P:Program} (hl:laidOutB P=true) {f:Func} {s:ChangeSpec} {W W':World} {args:Array Value} {ds gs:List (DataW H)} {before:List MemPlace} {tb:TypeId}
  (hW:DataW.Whole enc P f.params.toList s.vars false W args.toList ds gs before) (hr:zfK P f.params.toList=true) (hv:s.vars=[]) (hrt:f.resultTypes=#[tb]) (htb:P.underlying tb=some .bool)
  (hspec:s.fn H (ds ++ gs)={ results:=[.lit (.bool true)],args:=ds }) (hb:Below W.heap.size W W') :
  s.post enc P f false true false false W args (.bool true) W':=by
 have hW':=hW
 obtain ⟨p,q,hA,hV,rfl,_,_⟩:=hW
 have hlt:∀x∈p ++ q,x.block<W.heap.size:=fun x hx=>by simpa using hW'.lt x hx
 rw [hv] at hV
 obtain ⟨rfl,rfl⟩:=trodVars_none hV
 refine ⟨ds,[],p ++ [],[] ++ [],p,[],hW',?_,?_,?_,hb.frame _,fun h=>by cases h⟩
 ·rw [hspec,hrt]
  exact trodAll_mk1 (shut_bool htb _)
 ·rw [hspec]
  exact zpc hl hb _ _ _ _ hr hA (fun x hx=>hlt x (List.mem_append_left _ hx))
 ·rw [hspec,hv]
  rfl
theorem zav {B:Nat} {a w:World} (h:Below B a w) (n:Nat):Below B a (w.drewN n):=⟨h.os,h.tape,h.output,h.size,h.block⟩
theorem zgw {a b c:World} (h1:Below a.heap.size a b) (h2:Below b.heap.size b c):Below a.heap.size a c:=h1.trans (h2.mono h1.size)
theorem zag {B:Nat} {a w:World} (h:Below B a w):Below B a w.drew:=⟨h.os,h.tape,h.output,h.size,h.block⟩
def Sees (k:IntKind) (w:World) (A:Option Addr) (l:List Nat):Prop :=
 ∀(j x:Nat),l[j]?=some x→∃b o,A=some ⟨b,o,none⟩∧b<w.heap.size∧w.cell? ⟨b,o+j,none⟩=some (.int k (x:Int))
theorem Sees.below {k:IntKind} {w w':World} {A:Option Addr} {l:List Nat} (h:Sees k w A l) (hb:Below w.heap.size w w'):Sees k w' A l:=by
 intro j x hj
 obtain ⟨b,o,hA,hlt,hc⟩:=h j x hj
 exact ⟨b,o,hA,Nat.lt_of_lt_of_le hlt hb.size,(hb.cell (by exact hlt)).trans hc⟩
theorem Sees.alloc_ {k:IntKind} {w:World} {A:Option Addr} {l:List Nat} (h:Sees k w A l) (o:Obj):Sees k (w.alloc o) A l:=h.below ((Below.refl _ _).alloc (Nat.le_refl _) o)
theorem Sees.drew_ {k:IntKind} {w:World} {A:Option Addr} {l:List Nat} (h:Sees k w A l):Sees k w.drew A l:=h
theorem Sees.nil (k:IntKind) (w:World) (A:Option Addr):Sees k w A []:=fun j x h=>by simp at h
theorem Sees.of_own {k:IntKind} {w:World} {base n cap:Nat} {A:Option Addr} {l:List Nat} {E:TypeId} (h:w.ownsRow base E 1 (.slice A n cap) n (l.map fun x:Nat=>Value.int k (x:Int))):Sees k w A l:=by
 intro j x hj
 have hl:l.length=n:=by have:=h.1;simpa using this
 have hjn:j<l.length:=(List.getElem?_eq_some_iff.1 hj).1
 rcases h.2 with ⟨_,h0⟩ | ⟨g,cap',cur,hv,_,hg,_⟩
 ·omega
 ·injection hv with h1 h2 h3
  subst h1;subst h3
  refine ⟨g,0,rfl,(Array.getElem?_eq_some_iff.1 hg).1,?_⟩
  rw [Nat.zero_add,h.cellAt j (by omega)]
  simp [hj]
theorem Sees.rest {k:IntKind} {w:World} {A:Option Addr} {l:List Nat} (h:Sees k w A l) {b o i:Nat} (hA:A=some ⟨b,o,none⟩):Sees k w (some ⟨b,o+i,none⟩) (l.drop i):=by
 intro j x hj
 rw [List.getElem?_drop] at hj
 obtain ⟨b',o',hA',hlt,hc⟩:=h _ x hj
 rw [hA] at hA'
 injection hA' with h1
 injection h1 with h2 h3
 subst h2;subst h3
 exact ⟨b,o+i,rfl,hlt,by rw [Nat.add_assoc];exact hc⟩
theorem Sees.take {k:IntKind} {w:World} {A:Option Addr} {l:List Nat} (h:Sees k w A l) (i:Nat):Sees k w A (l.take i):=by
 intro j x hj
 refine h j x ?_
 rw [List.getElem?_take] at hj
 split at hj
 ·exact hj
 ·cases hj
theorem zhW {P:Program} (w:World) (t e:TypeId) (ht:P.underlying t=some (.slice e)) (i:TypeInfo) (hi:P.info? e=some i) :
  (Instr.buildSlice t 0 #[]).run P w=.ok (.slice (some ⟨w.heap.size,0,none⟩) 0 0) (w.alloc (.cells #[] e)):=by
 have e0:(Array.map (fun _:Nat=>(default:Value)) (Array.range 0))=#[]:=by simp
 simp [Instr.buildSlice,run_underlying ht,sizeOf,typeInfo,hi,Instr.fill]
 rw [e0]
 rfl
theorem zdO {P:Program} {w:World} {ops:Array Oper} {rest:List Oper} {o:Oper} {a:Act} {Q:Exit→Act→World→Prop} (hgd:o.guard=none) (t e:TypeId)
  (ho:o.op=.buildSlice t 0 #[]) (ht:P.underlying t=some (.slice e)) (i:TypeInfo) (hi:P.info? e=some i) (base:Nat) (hb:base≤w.heap.size)
  (h:∀s w',w'.ownsRow base e 1 s 0 []→Below w.heap.size w w'→wpList P ops Q rest (a.put o.dst s) w'):wpList P ops Q (o :: rest) a w:=by
 refine wpList_plain hgd fun K hK=>?_
 have hr:=zhW w t e ht i hi
 unfold Oper.wp
 simp [execOp,ho,hr,Result.andThen]
 exact hK _ _ (h _ _ (World.ownsRow_lit w #[] 0 hb (by decide) rfl) ((Below.refl _ _).alloc (Nat.le_refl _) _))
theorem zdv {P:Program} {w:World} {ops:Array Oper} {rest:List Oper} {o:Oper} {a:Act} {Q:Exit→Act→World→Prop} (hgd:o.guard=none) (s x:Operand) (t:TypeId)
  (ho:o.op=.call { callee:=.builtin .append,args:=#[s,x],argTypes:=#[t,t] })
  (base:Nat) (e:TypeId) (i:TypeInfo) (z:Value) (bytes:Nat) (ht:P.underlying t=some (.slice e)) (hi:P.info? e=some i) (hz:i.zero=some z) (hsize:i.size=1) (hby:i.bytes=bytes) (hzs:z.cells.size=1)
  (v:Value) (n:Nat) (xs:List Value) (hs:a.eval s=v) (hown:w.ownsRow base e 1 v n xs) (k:IntKind) (A:Option Addr) (c:Nat) (l:List Nat) (hx:a.eval x=.slice A l.length c) (hnone:A=none→c=0) (hS:Sees k w A l)
  (h63:n+l.length≤maxLen) (hbytes:(n+l.length) * bytes≤140737488355328) (hbase:base≤w.heap.size)
  (h:∀v' w',w'.ownsRow base e 1 v' (n+l.length) (xs ++ l.map fun y:Nat=>Value.int k (y:Int))→w.grownBy w' v.ownBlock→wpList P ops Q rest (a.put o.dst v') w'):wpList P ops Q (o :: rest) a w:=by
 cases A with
 | none =>
  have hl:l=[]:=by
   cases l with
   | nil=>rfl
   | cons y l=>obtain ⟨b,o,he,_⟩:=hS 0 y rfl;cases he
  subst hl
  rw [hnone rfl] at hx
  exact wpList_append_own_none hgd s x t ho base e i 1 ht hi v n xs hs hown hx (h v w (by simpa using hown) (World.grownBy.refl w _))
 | some ad =>
  refine wpList_append_own w hgd s x t ho base e i z 1 bytes ht hi hz hsize hby hzs (by decide) v n xs hs hown ad l.length c (l.map fun y:Nat=>Value.int k (y:Int)) hx (by simp) ?_ ?_ h63 hbytes hbase (fun v' w' h1 h2 _=>h v' w' h1 h2)
  ·intro j u hu
   rw [List.getElem?_map] at hu
   cases hj:l[j]? with
   | none=>rw [hj] at hu;cases hu
   | some y =>
    rw [hj] at hu
    obtain ⟨b,off,he,_,hc⟩:=hS j y hj
    injection he with he
    subst he
    rw [add_plain,hc]
    exact hu
  ·intro u hu
   obtain ⟨y,_,rfl⟩:=List.mem_map.1 hu
   rfl
theorem zda {w:World} {base n:Nat} {e:TypeId} {k:IntKind} {v:Value} {l:List Nat} (h:w.ownsRow base e 1 v n (l.map fun y:Nat=>Value.int k (y:Int))) :
  ∃A c,v=.slice A l.length c∧(A=none→c=0)∧l.length≤c∧Sees k w A l:=by
 have hn:l.length=n:=by have:=h.1;simpa using this
 rcases h.2 with ⟨rfl,h0⟩ | ⟨g,cap,cur,rfl,_,_,hc,_⟩
 ·have:l=[]:=List.eq_nil_of_length_eq_zero (by omega)
  subst this
  exact ⟨none,0,rfl,fun _=>rfl,Nat.le_refl _,Sees.nil _ _ _⟩
 ·exact ⟨_,cap,by rw [hn],fun h=>(by cases h),by omega,Sees.of_own h⟩
theorem znj {w:World} {base:Nat} {e:TypeId} {k:IntKind} {v:Value} {a b L:List Nat} (hL:L=a ++ b)
  (h:w.ownsRow base e 1 v (a.length+b.length) ((a.map fun y:Nat=>Value.int k (y:Int)) ++ b.map fun y:Nat=>Value.int k (y:Int))) :
  ∃A c,v=.slice A L.length c∧(A=none→c=0)∧L.length≤c∧Sees k w A L:=by
 subst hL
 rw [←List.map_append] at h
 exact zda h
theorem zbM {P:Program} {w:World} {ops:Array Oper} {rest:List Oper} {o:Oper} {a:Act} {Q:Exit→Act→World→Prop} (hgd:o.guard=none) (s x:Operand) (t:TypeId)
  (ho:o.op=.call { callee:=.builtin .append,args:=#[s,x],argTypes:=#[t,t] })
  (base:Nat) (e:TypeId) (i:TypeInfo) (z:Value) (bytes:Nat) (ht:P.underlying t=some (.slice e)) (hi:P.info? e=some i) (hz:i.zero=some z) (hsize:i.size=1) (hby:i.bytes=bytes) (hzs:z.cells.size=1)
  (v:Value) (n:Nat) (xs:List Value) (hs:a.eval s=v) (hown:w.ownsRow base e 1 v n xs) (k:IntKind) (A:Option Addr) (c:Nat) (l:List Nat) (m:Nat) (hm:l.length=m) (hx:a.eval x=.slice A m c) (hnone:A=none→c=0) (hS:Sees k w A l)
  (h63:n+m≤maxLen) (hbytes:(n+m) * bytes≤140737488355328) (hbase:base≤w.heap.size)
  (h:∀v' w',w'.ownsRow base e 1 v' (n+m) (xs ++ l.map fun y:Nat=>Value.int k (y:Int))→w.grownBy w' v.ownBlock→wpList P ops Q rest (a.put o.dst v') w'):wpList P ops Q (o :: rest) a w:=by
 subst hm
 exact zdv hgd s x t ho base e i z bytes ht hi hz hsize hby hzs v n xs hs hown k A c l hx hnone hS h63 hbytes hbase h
end Go.Proofs.YtnjdckoljmgcjaaGreatDoor
namespace Go.Proofs.YtnjdckoljmgcjaaGreatDoor
def zcT (c:UInt8):Bool:=(97≤c && c≤122) || (48≤c && c≤57) || c == 45 || c == 95
def zat:List UInt8→List (List UInt8)
 | []=>[[]]
 | c :: l=>if c=47 then [] :: zat l else (c :: (zat l).headD []) :: (zat l).tail
def join:List (List UInt8)→List UInt8
 | []=>[]
 | [x]=>x
 | x :: y :: r=>x ++ 47 :: join (y :: r)
def zbC (x:List UInt8):Bool:=(!x.isEmpty) && x.all zcT
def zd9 (l:List (List UInt8)) (p:List UInt8):Option (List (List UInt8)) :=
 if p=[]∨p=[46] then some l
 else if p=[46,46] then (if l=[] then none else some l.dropLast)
 else if p.all zcT then some (l ++ [p]) else none
def zcR (l:List (List UInt8)):List (List UInt8)→Option (List (List UInt8))
 | []=>some l
 | p :: ps=>match zd9 l p with
  | none=>none
  | some l'=>zcR l' ps
def zcU (l:List (List UInt8)):List UInt8 × Nat :=
 if l=[] then ([],13) else if 8<l.length then ([],31) else if 64<(join l).length then ([],11) else (join l,0)
def zcO (s:List UInt8):List UInt8 × Nat :=
 match zcR [] (zat s) with
 | none=>([],30)
 | some l=>zcU l
def right (s:List UInt8):Bool:=decide (s.length≤64) && (zat s).all zbC && decide ((zat s).length≤8)
theorem zdd (l:List UInt8):zat l≠[]:=by
 cases l with
 | nil=>simp [zat]
 | cons c l=>unfold zat;split <;> simp
theorem zbn {c:UInt8} {l:List UInt8} {x:List UInt8} {r:List (List UInt8)} (hc:c≠47) (h:zat l=x :: r):zat (c :: l)=(c :: x) :: r:=by
 rw [zat,if_neg hc,h];rfl
theorem zdq (l:List UInt8):zat (47 :: l)=[] :: zat l:=by rw [zat,if_pos rfl]
theorem zet {x:List UInt8} {r:List (List UInt8)} (h:r≠[]):join (x :: r)=x ++ 47 :: join r:=by
 cases r with
 | nil=>exact absurd rfl h
 | cons y r=>rfl
theorem zsQ (x:List UInt8):join [x]=x:=rfl
theorem zp8 (c:UInt8) (x:List UInt8) (r:List (List UInt8)):join ((c :: x) :: r)=c :: join (x :: r):=by
 cases r with
 | nil=>rfl
 | cons y r=>rfl
theorem zhn (l:List UInt8):join (zat l)=l:=by
 induction l with
 | nil=>rfl
 | cons c l ih =>
  by_cases hc:c=47
  ·subst hc
   rw [zdq,zet (zdd l),ih];rfl
  ·cases h:zat l with
   | nil=>exact absurd h (zdd l)
   | cons x r =>
    rw [zbn hc h,zp8,←h,ih]
def zkJ (x:List UInt8):Prop:=∀c∈x,c≠47
theorem zeS {x:List UInt8} (h:zkJ x):zat x=[x]:=by
 induction x with
 | nil=>rfl
 | cons c x ih=>exact zbn (h c (by simp)) (ih (fun d hd=>h d (by simp [hd])))
theorem ziq (a b:List UInt8):zat (a ++ 47 :: b)=zat a ++ zat b:=by
 induction a with
 | nil=>exact zdq b
 | cons c a ih =>
  by_cases hc:c=47
  ·subst hc
   rw [List.cons_append,zdq,zdq,ih];rfl
  ·cases h:zat a with
   | nil=>exact absurd h (zdd a)
   | cons x r =>
    rw [zbn hc h,List.cons_append,zbn hc (x:=x) (r:=r ++ zat b) (by rw [ih,h];rfl)]
    rfl
theorem zhj:∀{xs:List (List UInt8)},xs≠[]→(∀x∈xs,zkJ x)→zat (join xs)=xs
 | [],h,_=>absurd rfl h
 | [x],_,hc=>zeS (hc x (by simp))
 | x :: y :: r,_,hc=>by
  rw [zet (by simp),ziq,zeS (hc x (by simp)),zhj (by simp) (fun z hz=>hc z (by simp [hz]))]
  rfl
theorem zlk {a b:List (List UInt8)} (ha:a≠[]) (hb:b≠[]):join (a ++ b)=join a ++ 47 :: join b:=by
 induction a with
 | nil=>exact absurd rfl ha
 | cons x a ih =>
  cases a with
  | nil=>rw [List.cons_append,List.nil_append,zet hb];rfl
  | cons y a =>
   rw [List.cons_append,zet (by simp),zet (by simp),ih (by simp)]
   simp
theorem ziK (l:List UInt8):(zat l).length≤l.length+1:=by
 induction l with
 | nil=>simp [zat]
 | cons c l ih =>
  by_cases hc:c=47
  ·subst hc;rw [zdq];simp;omega
  ·cases h:zat l with
   | nil=>exact absurd h (zdd l)
   | cons x r=>rw [zbn hc h];rw [h] at ih;simp at ih ⊢;omega
theorem zkK (l:List UInt8):∀x∈zat l,x.length≤l.length:=by
 induction l with
 | nil=>intro x hx;simp [zat] at hx;subst hx;simp
 | cons c l ih =>
  by_cases hc:c=47
  ·subst hc
   rw [zdq]
   intro x hx
   rcases List.mem_cons.1 hx with rfl | hx
   ·simp
   ·have:=ih x hx;simp;omega
  ·cases h:zat l with
   | nil=>exact absurd h (zdd l)
   | cons y r =>
    rw [zbn hc h]
    rw [h] at ih
    intro x hx
    rcases List.mem_cons.1 hx with rfl | hx
    ·have:=ih y (by simp);simp;omega
    ·have:=ih x (by simp [hx]);simp;omega
theorem zk3 {c:UInt8} (h:zcT c=true):c≠47:=by rintro rfl;exact absurd h (by decide)
theorem zlz {c:UInt8} (h:zcT c=true):c≠46:=by rintro rfl;exact absurd h (by decide)
theorem zdS {x:List UInt8}:zbC x=true ↔ x≠[]∧x.all zcT=true:=by
 cases x <;> simp [zbC]
theorem zjH {x:List UInt8} (h:zbC x=true):zkJ x:=fun c hc =>
 zk3 (List.all_eq_true.1 (zdS.1 h).2 c hc)
theorem zid {l:List (List UInt8)} {p:List UInt8} (h:zbC p=true):zd9 l p=some (l ++ [p]):=by
 obtain ⟨h1,h2⟩:=zdS.1 h
 have hd:∀c∈p,c≠46:=fun c hc=>zlz (List.all_eq_true.1 h2 c hc)
 unfold zd9
 rw [if_neg,if_neg,if_pos h2]
 ·rintro rfl;exact hd 46 (by simp) rfl
 ·rintro (rfl | rfl)
  ·exact h1 rfl
  ·exact hd 46 (by simp) rfl
theorem zoa {l:List (List UInt8)} {p:List UInt8} (h:p=[]∨p=[46]):zd9 l p=some l:=by unfold zd9;rw [if_pos h]
theorem zrS {l:List (List UInt8)}:zd9 l [46,46]=if l=[] then none else some l.dropLast:=by
 unfold zd9;rw [if_neg (by decide),if_pos rfl]
theorem zqZ {l:List (List UInt8)} {p:List UInt8} (h1:¬(p=[]∨p=[46])) (h2:p≠[46,46]) (h3:zbC p=false):zd9 l p=none:=by
 unfold zd9
 rw [if_neg h1,if_neg h2,if_neg]
 intro h
 have:zbC p=true:=zdS.2 ⟨fun e=>h1 (.inl e),h⟩
 rw [this] at h3;cases h3
theorem zlR {l xs:List (List UInt8)} (h:∀x∈xs,zbC x=true):zcR l xs=some (l ++ xs):=by
 induction xs generalizing l with
 | nil=>simp [zcR]
 | cons x xs ih =>
  simp only [zcR]
  rw [zid (h x (by simp))]
  show zcR (l ++ [x]) xs=_
  rw [ih (fun y hy=>h y (by simp [hy]))]
  simp
theorem zlL {l l':List (List UInt8)} {p:List UInt8} (h:zd9 l p=some l') (hl:∀x∈l,zbC x=true):∀x∈l',zbC x=true:=by
 unfold zd9 at h
 split at h
 ·injection h with h;subst h;exact hl
 ·rename_i hn
  split at h
  ·split at h
   ·cases h
   ·injection h with h;subst h
    intro x hx
    exact hl x (List.dropLast_subset _ hx)
  ·split at h
   ·rename_i ha
    injection h with h;subst h
    intro x hx
    rcases List.mem_append.1 hx with hx | hx
    ·exact hl x hx
    ·simp at hx;subst hx
     exact zdS.2 ⟨fun e=>hn (.inl e),ha⟩
   ·cases h
theorem zlM {l l' ps:List (List UInt8)} (h:zcR l ps=some l') (hl:∀x∈l,zbC x=true):∀x∈l',zbC x=true:=by
 induction ps generalizing l with
 | nil=>simp only [zcR] at h;injection h with h;subst h;exact hl
 | cons p ps ih =>
  simp only [zcR] at h
  cases h1:zd9 l p with
  | none=>rw [h1] at h;cases h
  | some l1=>rw [h1] at h;exact ih h (zlL h1 hl)
theorem zpX {l l':List (List UInt8)} {p:List UInt8} (h:zd9 l p=some l'):∀x∈l',x∈l∨x=p:=by
 unfold zd9 at h
 split at h
 ·injection h with h;subst h;exact fun x hx=>.inl hx
 ·split at h
  ·split at h
   ·cases h
   ·injection h with h;subst h
    exact fun x hx=>.inl (List.dropLast_subset _ hx)
  ·split at h
   ·injection h with h;subst h
    intro x hx
    rcases List.mem_append.1 hx with hx | hx
    ·exact .inl hx
    ·simp at hx;exact .inr hx
   ·cases h
theorem zph {l l' ps:List (List UInt8)} (h:zcR l ps=some l'):∀x∈l',x∈l∨x∈ps:=by
 induction ps generalizing l with
 | nil=>simp only [zcR] at h;injection h with h;subst h;exact fun x hx=>.inl hx
 | cons p ps ih =>
  simp only [zcR] at h
  cases h1:zd9 l p with
  | none=>rw [h1] at h;cases h
  | some l1 =>
   rw [h1] at h
   intro x hx
   rcases ih h x hx with hx | hx
   ·rcases zpX h1 x hx with hx | rfl
    ·exact .inl hx
    ·exact .inr (by simp)
   ·exact .inr (by simp [hx])
theorem zgB {s:List UInt8}:right s=true ↔ s.length≤64∧(∀x∈zat s,zbC x=true)∧(zat s).length≤8:=by
 simp [right,and_assoc]
theorem zkB {l:List (List UInt8)} (h0:l≠[]) (h8:l.length≤8) (h64:(join l).length≤64):zcU l=(join l,0):=by
 unfold zcU;rw [if_neg h0,if_neg (by omega),if_neg (by omega)]
theorem znG {l:List (List UInt8)} (h:(zcU l).2=0):l≠[]∧l.length≤8∧(join l).length≤64∧zcU l=(join l,0):=by
 unfold zcU at h ⊢
 by_cases h0:l=[]
 ·rw [if_pos h0] at h;cases h
 ·rw [if_neg h0] at h ⊢
  by_cases h8:8<l.length
  ·rw [if_pos h8] at h;cases h
  ·rw [if_neg h8] at h ⊢
   by_cases h64:64<(join l).length
   ·rw [if_pos h64] at h;cases h
   ·rw [if_neg h64]
    exact ⟨h0,by omega,by omega,rfl⟩
theorem zkO {s:List UInt8} {xs:List (List UInt8)} (h:∀x∈xs,zbC x=true) (hs:zat s=xs):zcO s=zcU xs:=by
 unfold zcO
 rw [hs,zlR h]
 rfl
theorem zkf {s:List UInt8} (h:right s=true):zcO s=(s,0):=by
 obtain ⟨h1,h2,h3⟩:=zgB.1 h
 rw [zkO h2 rfl,zkB (zdd s) h3 (by rw [zhn];exact h1),zhn]
theorem zjU {s:List UInt8} (h:(zcO s).2=0):right (zcO s).1=true:=by
 unfold zcO at h ⊢
 cases ht:zcR [] (zat s) with
 | none=>rw [ht] at h;cases h
 | some l =>
  rw [ht] at h
  have h:(zcU l).2=0:=h
  obtain ⟨h0,h8,h64,he⟩:=znG h
  have hp:∀x∈l,zbC x=true:=zlM ht (fun x hx=>by cases hx)
  show right (zcU l).1=true
  rw [he]
  have hj:zat (join l)=l:=zhj h0 (fun x hx=>zjH (hp x hx))
  exact zgB.2 ⟨h64,by rw [hj];exact hp,by rw [hj];exact h8⟩
theorem zry (s:List UInt8):right s=decide (zcO s=(s,0)):=by
 rw [Bool.eq_iff_iff,decide_eq_true_iff]
 constructor
 ·exact zkf
 ·intro h
  have:=zjU (s:=s) (by rw [h])
  rwa [h] at this
end Go.Proofs.YtnjdckoljmgcjaaGreatDoor
namespace Go.Proofs.YtnjdckoljmgcjaaGreatDoor
open Go.ChangeShapes Go.WideShapes Go.ChangeAt Go.RowKit
def L (s:ByteArray):List UInt8:=s.data.toList
theorem zbA (s:ByteArray):(L s).length=s.size:=Array.length_toList
theorem zuA {s t:ByteArray}:L s=L t ↔ s=t:=by
 constructor
 ·intro h
  cases s;cases t
  simp only [L] at h
  congr 1
  exact Array.ext' h
 ·rintro rfl;rfl
theorem ztH (s:ByteArray) (k:Nat) (h:k<s.size):(L s)[k]'(by rw [zbA];exact h)=s[k]:=rfl
def zbm (c:Int):Bool:=decide (97≤c∧c≤122∨48≤c∧c≤57∨c=45∨c=95)
theorem zeL (c:UInt8):zbm (c.toNat:Int)=zcT c:=by
 rw [Bool.eq_iff_iff]
 simp only [zbm,zcT,decide_eq_true_eq,Bool.or_eq_true,Bool.and_eq_true,beq_iff_eq,UInt8.le_iff_toNat_le,←UInt8.toNat_inj]
 simp only [UInt8.reduceToNat]
 omega
theorem zga {c:Int} (h:128≤c):zbm c=false:=by
 unfold zbm
 rw [decide_eq_false_iff_not]
 omega
theorem zmO (c:Int) (w:World):Calls Tryz.prog 196 #[.int .i32 c] w fun e w'=>e=.returned (.bool (zbm c))∧w=w':=by
 by_cases h1:97≤c∧c≤122
 ·obtain ⟨h1,h2⟩:=h1
  have hh:zbm c=true:=by unfold zbm;rw [decide_eq_true_iff];omega
  have H:=hid hh
  clear hh
  go_enter Tryz.func196,Tryz.ntmps196
  go_wp2
  go_ret
  exact ⟨zab H.out.symm,rfl⟩
 ·have hs:((decide (97≤c))=true∧decide (c≤122)=false)∨decide (97≤c)=false:=by
   by_cases h:97≤c
   ·exact .inl ⟨by simpa using h,by simp;omega⟩
   ·exact .inr (by simp;omega)
  by_cases h2:48≤c∧c≤57
  ·obtain ⟨h2,h3⟩:=h2
   have hh:zbm c=true:=by unfold zbm;rw [decide_eq_true_iff];omega
   have H:=hid hh
   clear hh
   have hs:decide (97≤c)=false:=by simp;omega
   go_enter Tryz.func196,Tryz.ntmps196
   go_wp2
   go_ret
   exact ⟨zab H.out.symm,rfl⟩
  ·have ht:(decide (48≤c)=true∧decide (c≤57)=false)∨decide (48≤c)=false:=by
    by_cases h:48≤c
    ·exact .inl ⟨by simpa using h,by simp;omega⟩
    ·exact .inr (by simp;omega)
   by_cases h4:c=45
   ·subst h4
    go_enter Tryz.func196,Tryz.ntmps196
    go_wp2
    go_ret
    exact ⟨rfl,rfl⟩
   ·by_cases h5:c=95
    ·subst h5
     go_enter Tryz.func196,Tryz.ntmps196
     go_wp2
     go_ret
     exact ⟨rfl,rfl⟩
    ·have hh:zbm c=false:=by unfold zbm;rw [decide_eq_false_iff_not];omega
     have H:=hid hh
     have e4:(c == 45)=false:=by simpa using h4
     have e5:(c == 95)=false:=by simpa using h5
     clear hh h1 h2 h4 h5
     rcases hs with ⟨a1,a2⟩ | a1 <;> rcases ht with ⟨b1,b2⟩ | b1
     all_goals
      go_enter Tryz.func196,Tryz.ntmps196
      go_wp2
      go_ret
      exact ⟨zab H.out.symm,rfl⟩
theorem zis (c:Int) (w:World):Calls Tryz.prog 211 #[.int .u8 c] w fun e w'=>e=.returned (.bool (zbm c))∧w=w':=by
 by_cases h1:97≤c∧c≤122
 ·obtain ⟨h1,h2⟩:=h1
  have hh:zbm c=true:=by unfold zbm;rw [decide_eq_true_iff];omega
  have H:=hid hh
  clear hh
  go_enter Tryz.func211,Tryz.ntmps211
  go_wp2
  go_ret
  exact ⟨zab H.out.symm,rfl⟩
 ·have hs:((decide (97≤c))=true∧decide (c≤122)=false)∨decide (97≤c)=false:=by
   by_cases h:97≤c
   ·exact .inl ⟨by simpa using h,by simp;omega⟩
   ·exact .inr (by simp;omega)
  by_cases h2:48≤c∧c≤57
  ·obtain ⟨h2,h3⟩:=h2
   have hh:zbm c=true:=by unfold zbm;rw [decide_eq_true_iff];omega
   have H:=hid hh
   clear hh
   have hs:decide (97≤c)=false:=by simp;omega
   go_enter Tryz.func211,Tryz.ntmps211
   go_wp2
   go_ret
   exact ⟨zab H.out.symm,rfl⟩
  ·have ht:(decide (48≤c)=true∧decide (c≤57)=false)∨decide (48≤c)=false:=by
    by_cases h:48≤c
    ·exact .inl ⟨by simpa using h,by simp;omega⟩
    ·exact .inr (by simp;omega)
   by_cases h4:c=45
   ·subst h4
    go_enter Tryz.func211,Tryz.ntmps211
    go_wp2
    go_ret
    exact ⟨rfl,rfl⟩
   ·by_cases h5:c=95
    ·subst h5
     go_enter Tryz.func211,Tryz.ntmps211
     go_wp2
     go_ret
     exact ⟨rfl,rfl⟩
    ·have hh:zbm c=false:=by unfold zbm;rw [decide_eq_false_iff_not];omega
     have H:=hid hh
     have e4:(c == 45)=false:=by simpa using h4
     have e5:(c == 95)=false:=by simpa using h5
     clear hh h1 h2 h4 h5
     rcases hs with ⟨a1,a2⟩ | a1 <;> rcases ht with ⟨b1,b2⟩ | b1
     all_goals
      go_enter Tryz.func211,Tryz.ntmps211
      go_wp2
      go_ret
      exact ⟨zab H.out.symm,rfl⟩
theorem zur (s:ByteArray) (pos:Nat) (h:pos<s.size):1≤(Utf8.decode s pos).2:=by
 by_cases ha:(s[pos]'h).toNat<128
 ·rw [decode_ascii s pos h ha]
  exact Nat.le_refl _
 ·exact (decode_high s pos h (by omega)).2
theorem zhN {s:ByteArray} {pos:Nat} (h:pos<s.size) (hl:zcT (s[pos]'h)=false):zbC (L s)=false:=by
 rw [←Bool.not_eq_true,zdS]
 rintro ⟨_,h2⟩
 have:=List.all_eq_true.1 h2 (s[pos]'h) (by rw [←ztH s pos h];exact List.getElem_mem _)
 rw [hl] at this;cases this
theorem zkY (s:ByteArray) (pos:Nat) (h:pos<s.size) :
  zbm ((Utf8.decode s pos).1:Int)=zcT (s[pos]'h)∧(zcT (s[pos]'h)=true→(Utf8.decode s pos).2=1):=by
 by_cases ha:(s[pos]'h).toNat<128
 ·rw [decode_ascii s pos h ha]
  exact ⟨zeL _,fun _=>rfl⟩
 ·have h1:=decode_high s pos h (by omega)
  have h2:zcT (s[pos]'h)=false:=by
   rw [←zeL]
   exact zga (by omega)
  rw [h2,zga (by omega)]
  exact ⟨rfl,fun h=>(by cases h)⟩
theorem zio {s:ByteArray} (h:∀(j:Nat) (hj:j<s.size),zcT (s[j]'hj)=true):zbC (L s)=!(L s).isEmpty:=by
 have:(L s).all zcT=true:=by
  rw [List.all_eq_true]
  intro x hx
  obtain ⟨j,hj,rfl⟩:=List.getElem_of_mem hx
  rw [zbA] at hj
  exact h j hj
 rw [zbC,this,Bool.and_true]
def zpd (s:ByteArray) (w w':World):Prop:=∃pos,w'=w.iter s pos
theorem zpd.below {s:ByteArray} {w w':World} (h:zpd s w w'):Below w.heap.size w w':=by
 obtain ⟨pos,rfl⟩:=h
 exact (Below.refl _ _).alloc (Nat.le_refl _) _
theorem zow (s:ByteArray) (w:World) :
  Calls Tryz.prog 164 #[.string s] w fun e w'=>e=.returned (.bool (zbC (L s)))∧zpd s w w':=by
 go_enter Tryz.func164,Tryz.ntmps164
 go_wp2
 go_loopw [4] (fun _ w'=>∃(pos:Nat),w'=w.iter s pos∧pos≤s.size∧Hid (∀(j:Nat) (hj:j<s.size),j<pos→zcT (s[j]'hj)=true)) (fun _ w'=>s.size - w'.iterPos w.heap.size)
 case atStart=>exact ⟨0,rfl,Nat.zero_le _,hid (fun j _ h=>absurd h (Nat.not_lt_zero _))⟩
 case round =>
  obtain ⟨pos,rfl,hle,H⟩:=hrel
  by_cases hp:pos<s.size
  ·have hnx:∀ty,(Instr.next (.pointer (some ⟨w.heap.size,0,none⟩)) true ty).run Tryz.prog (w.iter s pos)=_:=fun ty=>run_next_any w s pos ty hp
   have hrl:=zkY s pos hp
   by_cases hl:zcT (s[pos]'hp)=true
   ·have h1:zbm ((Utf8.decode s pos).1:Int)=true:=hrl.1.trans hl
    have h2:Hid ((Utf8.decode s pos).2=1):=hid (hrl.2 hl)
    have H1:=hid h1
    clear hrl h1
    go_wp2_with (go_at_call 196;refine (zmO _ _).mono ?_;rintro e w' ⟨rfl,rfl⟩;rw [H1.out])
    go_roundw
    case rel =>
     refine ⟨pos+1,by rw [h2.out],by omega,hid (fun j hj hlt=>?_)⟩
     by_cases hjp:j=pos
     ·subst hjp;exact hl
     ·exact H.out j hj (by omega)
    case measure=>simp [h2.out];omega
   ·have hl:zcT (s[pos]'hp)=false:=by simpa using hl
    have h1:zbm ((Utf8.decode s pos).1:Int)=false:=hrl.1.trans hl
    have H1:=hid h1
    have HF:=hid (zhN hp hl)
    clear hrl h1 hl
    go_wp2_with (go_at_call 196;refine (zmO _ _).mono ?_;rintro e w' ⟨rfl,rfl⟩;rw [H1.out])
    go_ret
    exact ⟨zab HF.out.symm,_,rfl⟩
  ·have hnx:∀ty,(Instr.next (.pointer (some ⟨w.heap.size,0,none⟩)) true ty).run Tryz.prog (w.iter s pos)=_:=fun ty=>run_next_end w s pos ty hp
   have HA:=hid (zio (s:=s) (fun j hj=>H.out j hj (by omega)))
   go_wp2
   go_ret
   refine ⟨zab ?_,_,rfl⟩
   rw [HA.out]
   cases s with
   | mk d=>cases h:d.toList <;> simp [L,ByteArray.toList_eq,h]
theorem zbh (s:ByteArray):s.toList=L s:=ByteArray.toList_eq s
def Asks (v:Value) (w:World) (e:Ending) (w':World):Prop:=e=.returned v∧Below w.heap.size w w'
theorem zmS (s:ByteArray) (w:World):Calls Tryz.prog 164 #[.string s] w (Asks (.bool (zbC (L s))) w) :=
 (zow s w).mono fun _ _ ⟨he,hi⟩=>⟨he,hi.below⟩
end Go.Proofs.YtnjdckoljmgcjaaGreatDoor
namespace Go.Proofs.YtnjdckoljmgcjaaGreatDoor
open Go.RowKit
def bv (x:Nat):Value:=.int .u8 (x:Int)
def zae (v:Nat):List Nat:=if v<128 then [v] else (v % 128+128) :: zae (v / 128)
termination_by v
decreasing_by omega
theorem zcQ {v:Nat} (h:v<128):zae v=[v]:=by rw [zae,if_pos h]
theorem zew {v:Nat} (h:128≤v):zae v=(v % 128+128) :: zae (v / 128):=by rw [zae,if_neg (by omega)]
theorem zpM (v:Nat):zae v≠[]:=by
 rw [zae];split <;> simp
theorem zeI (v:Nat):0<(zae v).length:=List.length_pos_iff.2 (zpM v)
theorem zfM (k:Nat):∀v,v<128 ^ (k+1)→(zae v).length≤k+1:=by
 induction k with
 | zero=>intro v h;rw [zcQ (by omega)];simp
 | succ k ih =>
  intro v h
  by_cases hv:v<128
  ·rw [zcQ hv];simp
  ·rw [zew (by omega)]
   have h1:v / 128<128 ^ (k+1):=Nat.div_lt_of_lt_mul (by rw [Nat.pow_succ] at h;omega)
   have h2:=ih _ h1
   rw [List.length_cons]
   omega
theorem zah {v:Nat} (h:v<18446744073709551616):(zae v).length≤10:=zfM 9 v (by omega)
theorem zbo (v:Nat):∀x∈zae v,x<256:=by
 induction v using Nat.strongRecOn with
 | _ v ih =>
  intro x hx
  by_cases hv:v<128
  ·rw [zcQ hv] at hx;simp at hx;omega
  ·rw [zew (by omega)] at hx
   rcases List.mem_cons.1 hx with h | h
   ·omega
   ·exact ih _ (by omega) x h
theorem znc (v:Nat):bits BinOp.or IntKind.u8 ((v:Int) % 256) 128=((v % 128+128:Nat):Int):=by
 have e1:(v:Int) % 256=((v % 256:Nat):Int):=by omega
 rw [e1]
 have h:bits BinOp.or IntKind.u8 ((v % 256:Nat):Int) ((128:Nat):Int)=_:=u8_or_nat (v % 256) 128 (by omega) (by omega)
 refine Eq.trans h ?_
 congr 1
 have hcases:v / 128 % 2=0∨v / 128 % 2=1:=by omega
 rcases hcases with hc | hc
 ·have:v % 256=v % 128:=by omega
  rw [this,Nat.or_comm]
  rw [nat_join 7 128 (v % 128) (by decide) (by omega)]
  omega
 ·have:v % 256=128+v % 128:=by omega
  rw [this]
  have e:=nat_join 7 128 (v % 128) (by decide) (by omega)
  rw [←e,Nat.or_comm 128 (v % 128),Nat.or_assoc,Nat.or_self,Nat.or_comm,e]
  omega
theorem zq2 (c:Nat) (hc:c<256):bits BinOp.andNot IntKind.u8 (c:Int) 128=((c % 128:Nat):Int):=by
 have h:=u8_andNot_nat c 128 hc (by omega)
 rw [show 255 - 128=127 from rfl,nat_mask7] at h
 exact h
theorem pow7 (k:Nat):(128:Nat) ^ k=2 ^ (7 * k):=by rw [Nat.pow_mul]
theorem zeK (n c k:Nat) (hc:c<256) (hk:k≤8∨k=9∧c≤1) (hn:n<128 ^ k) :
  bits BinOp.or IntKind.u64 (n:Int) (IntKind.u64.wrap (IntKind.u64.wrap (bits BinOp.andNot IntKind.u8 (c:Int) 128) * 2 ^ (7 * k)))=((n+c % 128 * 128 ^ k:Nat):Int) ∧
   n+c % 128 * 128 ^ k<18446744073709551616∧(k≤8→n+c % 128 * 128 ^ k<128 ^ (k+1)):=by
 have e0:(2:Int) ^ (7 * k)=((128 ^ k:Nat):Int):=by rw [pow7];simp
 have hbig:c % 128 * 128 ^ k+128 ^ k≤18446744073709551616∧(k≤8→c % 128 * 128 ^ k+128 ^ k≤128 ^ (k+1)):=by
  have h1:c % 128 * 128 ^ k+128 ^ k=(c % 128+1) * 128 ^ k:=by rw [Nat.add_mul,Nat.one_mul]
  rw [h1]
  have hle:(c % 128+1) * 128 ^ k≤128 * 128 ^ k:=Nat.mul_le_mul_right _ (by omega)
  have e1:128 * 128 ^ k=128 ^ (k+1):=by rw [Nat.pow_succ,Nat.mul_comm]
  refine ⟨?_,fun _=>by omega⟩
  rcases hk with hk | ⟨rfl,hc1⟩
  ·have:(128:Nat) ^ (k+1)≤128 ^ 9:=Nat.pow_le_pow_right (by decide) (by omega)
   have e9:(128:Nat) ^ 9=9223372036854775808:=by decide
   omega
  ·have e9:(128:Nat) ^ 9=9223372036854775808:=by decide
   rw [e9]
   have:c % 128≤1:=by omega
   omega
 refine ⟨?_,by omega,fun h=>by have:=hbig.2 h;omega⟩
 rw [zq2 c hc,e0]
 have e1:IntKind.u64.wrap ((c % 128:Nat):Int)=((c % 128:Nat):Int):=by simp only [IntKind.wrap_u64];omega
 have e2:((c % 128:Nat):Int) * ((128 ^ k:Nat):Int)=((c % 128 * 128 ^ k:Nat):Int):=by simp
 rw [e1,e2]
 have e3:IntKind.u64.wrap ((c % 128 * 128 ^ k:Nat):Int)=((c % 128 * 128 ^ k:Nat):Int):=by
  simp only [IntKind.wrap_u64]
  rw [Int.emod_eq_of_lt (by omega) (by omega)]
 rw [e3,u64_or_nat _ _ (by omega) (by omega)]
 congr 1
 rw [Nat.or_comm,pow7,nat_join (7 * k) _ _ (by simp) (by rw [←pow7];exact hn),Nat.add_comm]
theorem zm1 (n c:Nat) (hc:c≤1) (hn:n<128 ^ 9) :
  bits BinOp.or IntKind.u64 (n:Int) (IntKind.u64.wrap (IntKind.u64.wrap (bits BinOp.andNot IntKind.u8 (c:Int) 128) * 9223372036854775808))=((n+c % 128 * 128 ^ 9:Nat):Int) :=
 (zeK n c 9 (by omega) (.inr ⟨rfl,hc⟩) hn).1
def zb9 (i v:Nat):List Nat→Nat × Nat × Nat
 | []=>(0,0,20)
 | c :: r =>
  if i=9∧1<c then (0,0,12)
  else if 128≤c then zb9 (i+1) (v+c % 128 * 128 ^ i) r
  else if c=0∧0<i then (0,0,10)
  else (v+c % 128 * 128 ^ i,i+1,0)
def zbQ (l:List Nat):Nat × Nat × Nat:=zb9 0 0 l
theorem ziw (i v:Nat):zb9 i v []=(0,0,20):=rfl
theorem zf6 {i v c:Nat} {r:List Nat} (h:i=9∧1<c):zb9 i v (c :: r)=(0,0,12):=by rw [zb9,if_pos h]
theorem ze5 {i v c:Nat} {r:List Nat} (h:¬(i=9∧1<c)) (hc:128≤c):zb9 i v (c :: r)=zb9 (i+1) (v+c % 128 * 128 ^ i) r:=by rw [zb9,if_neg h,if_pos hc]
theorem zfd {i v c:Nat} {r:List Nat} (hc:c=0∧0<i):zb9 i v (c :: r)=(0,0,10):=by rw [zb9,if_neg (by omega),if_neg (by omega),if_pos hc]
theorem zev {i v c:Nat} {r:List Nat} (h:¬(i=9∧1<c)) (hc:c<128) (h0:¬(c=0∧0<i)):zb9 i v (c :: r)=(v+c % 128 * 128 ^ i,i+1,0):=by
 rw [zb9,if_neg h,if_neg (by omega),if_neg h0]
theorem znA (l:List Nat):∀(i n v r:Nat),i≤9→n<128 ^ i→(∀x∈l,x<256)→zb9 i n l=(v,r,0) →
  ∃m,r=i+(zae m).length∧(zae m).length≤l.length∧l.take (zae m).length=zae m∧v=n+m * 128 ^ i∧(0<i→m≠0)∧v<18446744073709551616:=by
 induction l with
 | nil=>intro i n v r _ _ _ h;rw [ziw] at h;simp at h
 | cons c l ih =>
  intro i n v r hi hn h8 h
  have hc:=h8 c (List.mem_cons_self)
  by_cases h1:i=9∧1<c
  ·rw [zf6 h1] at h;simp at h
  ·by_cases h2:128≤c
   ·rw [ze5 h1 h2] at h
    have hi8:i≤8:=by omega
    obtain ⟨m,hr,hlen,htake,hv,hm,hlt⟩:=ih _ _ _ _ (by omega) ((zeK n c i hc (.inl hi8) hn).2.2 hi8) (fun x hx=>h8 x (List.mem_cons_of_mem _ hx)) h
    have hm0:=hm (by omega)
    have hs:zae (c % 128+128 * m)=c :: zae m:=by
     rw [zew (by omega)]
     congr 1
     ·omega
     ·congr 1;omega
    refine ⟨c % 128+128 * m,?_,?_,?_,?_,fun _=>by omega,hlt⟩
    ·rw [hs,List.length_cons];omega
    ·rw [hs,List.length_cons,List.length_cons];omega
    ·rw [hs,List.length_cons,List.take_succ_cons,htake]
    ·rw [hv,Nat.pow_succ,Nat.add_mul,Nat.add_assoc]
     congr 2
     rw [Nat.mul_comm (128 ^ i) 128,←Nat.mul_assoc,Nat.mul_comm m 128]
   ·by_cases h3:c=0∧0<i
    ·rw [zfd h3] at h;simp at h
    ·rw [zev h1 (by omega) h3] at h
     simp only [Prod.mk.injEq,and_true] at h
     obtain ⟨rfl,rfl⟩:=h
     have hb:=(zeK n c i hc (by omega) hn).2.1
     have hs:=zcQ (v:=c) (by omega)
     refine ⟨c,by rw [hs];rfl,by rw [hs];simp,by rw [hs];simp,?_,fun h=>by omega,hb⟩
     rw [Nat.mod_eq_of_lt (by omega)]
theorem zey {l:List Nat} {v r:Nat} (h8:∀x∈l,x<256) (h:zbQ l=(v,r,0)) :
  r=(zae v).length∧r≤l.length∧l.take r=zae v∧v<18446744073709551616:=by
 obtain ⟨m,hr,hlen,htake,hv,_,hlt⟩:=znA l 0 0 v r (by omega) (by decide) h8 h
 simp at hr hv
 subst hv;subst hr
 exact ⟨rfl,hlen,htake,hlt⟩
theorem zki (r:List Nat) (m:Nat):∀(i n:Nat),i≤9→(i=0∨m≠0)→m * 128 ^ i<18446744073709551616→zb9 i n (zae m ++ r)=(n+m * 128 ^ i,i+(zae m).length,0):=by
 induction m using Nat.strongRecOn with
 | _ m ih =>
  intro i n hi h0 hb
  have e9:(128:Nat) ^ 9=9223372036854775808:=by decide
  by_cases hm:m<128
  ·rw [zcQ hm,List.singleton_append,zev ?_ hm (by omega),Nat.mod_eq_of_lt hm]
   ·rfl
   ·rintro ⟨rfl,h1⟩
    rw [e9] at hb
    omega
  ·have hi8:i≠9:=by
    rintro rfl
    rw [e9] at hb
    omega
   have hp:m / 128 * 128 ^ (i+1)+m % 128 * 128 ^ i=m * 128 ^ i:=by
    rw [Nat.pow_succ,Nat.mul_comm (128 ^ i) 128,←Nat.mul_assoc,←Nat.add_mul]
    congr 1
    omega
   rw [zew (by omega),List.cons_append,ze5 (by omega) (by omega),ih (m / 128) (by omega) (i+1) _ (by omega) (.inr (by omega)) (by omega)]
   have e:(m % 128+128) % 128=m % 128:=by omega
   rw [e,List.length_cons]
   simp only [Prod.mk.injEq,and_true]
   omega
theorem zha (v:Nat) (r:List Nat) (hv:v<18446744073709551616):zbQ (zae v ++ r)=(v,(zae v).length,0):=by
 have h:=zki r v 0 0 (by omega) (.inl rfl) (by simpa using hv)
 rw [zbQ,h]
 simp
def zar:Nat→Nat→List Nat
 | _,0=>[]
 | v,n+1=>zar (v / 256) n ++ [v % 256]
theorem zbt (n:Nat):∀v,(zar v n).length=n:=by
 induction n with
 | zero=>intro v;rfl
 | succ n ih=>intro v;rw [zar,List.length_append,ih];rfl
theorem zkV (n:Nat):∀v,∀x∈zar v n,x<256:=by
 induction n with
 | zero=>intro v x hx;cases hx
 | succ n ih =>
  intro v x hx
  rw [zar] at hx
  rcases List.mem_append.1 hx with h | h
  ·exact ih _ x h
  ·simp at h;omega
def numN (l:List Nat):Nat:=l.foldl (fun a c=>a * 256+c) 0
theorem zhp (l:List Nat) (c:Nat):numN (l ++ [c])=numN l * 256+c:=by simp [numN]
theorem zkI {l:List Nat} {k:Nat} (h:k<l.length):numN (l.take (k+1))=numN (l.take k) * 256+l[k]:=by
 rw [List.take_succ_eq_append_getElem h,zhp]
theorem zqW (l:List Nat) (h8:∀x∈l,x<256) (k:Nat):numN (l.take k)<256 ^ k:=by
 induction k with
 | zero=>simp [numN]
 | succ k ih =>
  by_cases h:k<l.length
  ·rw [zkI h,Nat.pow_succ]
   have:=h8 _ (List.getElem_mem h)
   omega
  ·rw [List.take_of_length_le (by omega)] at ih
   rw [List.take_of_length_le (by omega),Nat.pow_succ]
   omega
theorem zk1 (n:Nat):∀v,numN (zar v n)=v % 256 ^ n:=by
 induction n with
 | zero=>intro v;simp [zar,numN,Nat.mod_one]
 | succ n ih =>
  intro v
  rw [zar,zhp,ih,Nat.pow_succ,Nat.mul_comm (256 ^ n) 256,Nat.mod_mul]
  omega
theorem zuz {k:Nat} (h:k≤7):(256:Nat) ^ k≤72057594037927936:=by
 have:(256:Nat) ^ k≤256 ^ 7:=Nat.pow_le_pow_right (by decide) h
 have e:(256:Nat) ^ 7=72057594037927936:=by decide
 omega
theorem znK (m c:Nat) (hm:m<72057594037927936) (hc:c<256):bits BinOp.or IntKind.u64 (IntKind.u64.wrap ((m:Int) * 256)) (c:Int)=((m * 256+c:Nat):Int):=by
 have e:IntKind.u64.wrap ((m:Int) * 256)=((m * 256:Nat):Int):=by simp only [IntKind.wrap_u64];omega
 rw [e,u64_or_nat _ _ (by omega) (by omega),nat_join 8 _ _ (by omega) (by omega)]
theorem zfz (k:Nat) (tail:List Nat) (x:Nat):(List.replicate (k+1) 0 ++ tail).set k x=List.replicate k 0 ++ x :: tail:=by
 rw [List.replicate_succ',List.append_assoc,List.set_append_right _ _ (by simp)]
 simp
end Go.Proofs.YtnjdckoljmgcjaaGreatDoor
namespace Go.Proofs.YtnjdckoljmgcjaaGreatDoor
open Go.Lib
structure K where
 kind:Int
 num:Int
 foot:ByteArray
 req:Int
 path:ByteArray
 mode:Int
 n:Int
 time:Int
deriving DecidableEq
def okK (c:K):Prop:=(0≤c.num∧c.num<18446744073709551616)∧(0≤c.req∧c.req<18446744073709551616)∧(0≤c.n∧c.n<18446744073709551616)∧(-9223372036854775808≤c.kind∧c.kind≤9223372036854775807)∧(-9223372036854775808≤c.mode∧c.mode≤9223372036854775807)∧-9223372036854775808≤c.time∧c.time≤9223372036854775807
def h0 (k:Int):Bool:=decide (1≤k∧k≤8)
def h1 (k:Int):Bool:=decide (1≤k∧k≤7)
def h2 (k:Int):Bool:=decide (4≤k∧k≤7)
def h3 (k:Int):Bool:=decide (k=4∨k=5)
def h4 (k:Int):Bool:=decide (k=1∨k=7)
def h5 (k:Int):Bool:=decide (k=1∨k=3∨k=8)
def isK (k:Int):Bool:=decide (0≤k∧k<9)
def Sig (k:Int) (a b c d e f:Bool):Prop:=h0 k=a∧h1 k=b∧h2 k=c∧h3 k=d∧h4 k=e∧h5 k=f
theorem zei (k:Int):(Sig k false false false false false false∧¬(1≤k∧k≤8))∨(k=1∧Sig k true true false false true true)∨(k=2∧Sig k true true false false false false)∨(k=3∧Sig k true true false false false true) ∨
  ((k=4∨k=5)∧Sig k true true true true false false)∨(k=6∧Sig k true true true false false false)∨(k=7∧Sig k true true true false true false)∨(k=8∧Sig k true false false false false true):=by
 rcases Decidable.em (1≤k∧k≤8) with h | h
 ·have:k=1∨k=2∨k=3∨k=4∨k=5∨k=6∨k=7∨k=8:=by omega
  rcases this with rfl | rfl | rfl | rfl | rfl | rfl | rfl | rfl <;> simp [Sig,h0,h1,h2,h3,h4,h5]
 ·left
  refine ⟨⟨?_,?_,?_,?_,?_,?_⟩,h⟩
  ·exact decide_eq_false h
  ·exact decide_eq_false (by omega)
  ·exact decide_eq_false (by omega)
  ·exact decide_eq_false (by omega)
  ·exact decide_eq_false (by omega)
  ·exact decide_eq_false (by omega)
def own (c:K):K:=⟨c.kind,if h0 c.kind then c.num else 0,if h0 c.kind then c.foot else ⟨#[]⟩,if h1 c.kind then c.req else 0,if h2 c.kind then c.path else ⟨#[]⟩,if h3 c.kind then c.mode else 0,if h4 c.kind then c.n else 0,if h5 c.kind then c.time else 0⟩
def zgp (k:Int):Int:=if k=1 then 1048576 else 9223372036854775807
def in0 (c:K):Bool:=!h0 c.kind || right (L c.foot)
def in1 (c:K):Bool:=!h1 c.kind || decide (1≤c.req)
def in2 (c:K):Bool:=!h2 c.kind || right (L c.path)
def in3 (c:K):Bool:=!h3 c.kind || decide (c.mode=1∨c.mode=2)
def in4 (c:K):Bool:=!h4 c.kind || decide (1≤c.n∧c.n≤zgp c.kind)
def in5 (c:K):Bool:=!h5 c.kind || decide (0≤c.time∧c.time≤1099511627776)
def zaA (c:K):Bool:=in0 c && in1 c && in2 c && in3 c && in4 c && in5 c
def zaF (c:K):Bool:=isK c.kind && decide (c=own c) && zaA c
def zaG (c:K):Bool:=(!h0 c.kind && (decide (c.num≠0) || decide (L c.foot≠[]))) || (!h1 c.kind && decide (c.req≠0)) || (!h2 c.kind && decide (L c.path≠[])) || (!h3 c.kind && decide (c.mode≠0)) || (!h4 c.kind && decide (c.n≠0)) || (!h5 c.kind && decide (c.time≠0))
def docK (c:K):Bool:=isK c.kind && !zaG c && !((h0 c.kind && !right (L c.foot)) || (h1 c.kind && decide (c.req=0)) || (h2 c.kind && !right (L c.path))) &&
 !((h3 c.kind && decide (c.mode<1∨2<c.mode)) || (h4 c.kind && decide (c.n=0)) || (h4 c.kind && decide (c.kind=1) && decide (1048576<c.n)) || (h4 c.kind && decide (9223372036854775807<c.n))) && decide (0≤c.time) && decide (c.time≤1099511627776)
theorem zuy {s:ByteArray}:L s=[] ↔ s=⟨#[]⟩:=by
 constructor
 ·intro h
  exact zuA.1 h
 ·rintro rfl;rfl
theorem zs9 (c:K):c=own c ↔ zaG c=false:=by
 obtain ⟨k,u,f,q,p,m,n,t⟩:=c
 unfold own zaG
 cases h0 k <;> cases h1 k <;> cases h2 k <;> cases h3 k <;> cases h4 k <;> cases h5 k <;> simp [zuy,and_assoc]
theorem zqV (c:K) (h:zaG c=false):h5 c.kind=false→c.time=0:=by
 intro h5
 unfold zaG at h
 simp [h5] at h
 exact h.2
theorem zo9 (c:K) (ho:okK c):docK c=zaF c:=by
 obtain ⟨_,⟨o1,_⟩,⟨o2,_⟩,_⟩:=ho
 unfold docK zaF
 cases hk:isK c.kind
 ·simp
 have ho:=zs9 c
 cases hl:zaG c
 case true =>
  have:¬c=own c:=by rw [ho,hl];decide
  simp [this]
 have h1':c=own c:=by rw [ho];exact hl
 have ht:=zqV c hl
 rw [decide_eq_true h1']
 unfold zaA in0 in1 in2 in3 in4 in5 zgp
 rcases zei c.kind with ⟨⟨a,b,d,e,f,g⟩,hh⟩ | ⟨hh,a,b,d,e,f,g⟩ | ⟨hh,a,b,d,e,f,g⟩ | ⟨hh,a,b,d,e,f,g⟩ | ⟨hh,a,b,d,e,f,g⟩ | ⟨hh,a,b,d,e,f,g⟩ | ⟨hh,a,b,d,e,f,g⟩ | ⟨hh,a,b,d,e,f,g⟩
 all_goals
  cases right (L c.foot) <;> cases right (L c.path) <;> (rw [Bool.eq_iff_iff];simp [a,b,d,e,f,g] at ht ⊢ <;> (try rw [ht]) <;> (try simp [hh]) <;> omega)
end Go.Proofs.YtnjdckoljmgcjaaGreatDoor
