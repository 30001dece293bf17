/-
  A vault in memory: its block, its map of states, its index. The contracts of empty, Generation, other, and of span's.
-/
import Derived.Test.YtnjdckoljmgcjaaGreatDoorW14
import Derived.Deep.RegionHeld
set_option maxRecDepth 100000
set_option maxHeartbeats 4000000
namespace Go.Proofs.YtnjdckoljmgcjaaGreatDoor
open Go.ChangeShapes Go.WideShapes Go.ChangeAt Go.RowKit
set_option linter.unusedVariables false
structure Dk where
 sz:Int
 l:Nat→List Nat
 s:Nat→Nat
 arm:Bool
 un:Int
 dn:Bool
def updD {α:Type} (f:Nat→α) (k:Nat) (x:α):Nat→α:=fun i=>if i=k then x else f i
theorem zbK {α:Type} (f:Nat→α) (k:Nat) (x:α):updD f k x k=x:=by simp [updD]
theorem zbB {α:Type} (f:Nat→α) {k i:Nat} (x:α) (h:i≠k):updD f k x i=f i:=by simp [updD,h]
theorem zrr {α:Type} (f:Nat→α) (k:Nat) (x y:α):updD (updD f k x) k y=updD f k y:=by
 funext i;unfold updD;split <;> rfl
theorem zqc {α:Type} (f:Nat→α) (k:Nat):updD f k (f k)=f:=by
 funext i;unfold updD;split
 ·next h=>rw [h]
 ·rfl
structure Dk.Ok (d:Dk):Prop where
 sz0:0≤d.sz
 sz1:d.sz≤4194304
 room:((d.l 0).length:Int)+((d.l 1).length:Int)≤d.sz
 safe:∀k,k<2→d.s k≤(d.l k).length
 un0:0≤d.un
 un1:d.un≤9223372036854775807
theorem Dk.Ok.len {d:Dk} (h:d.Ok) {k:Nat} (hk:k<2):(d.l k).length≤4194304:=by
 have h1:=h.room;have h2:=h.sz1
 match k,hk with
 | 0,_=>omega
 | 1,_=>omega
def hasD (f:Int):Bool:=decide (0≤f) && decide (f<2)
theorem zjk {f:Int}:hasD f=true ↔ ∃k:Nat,k<2∧f=k:=by
 unfold hasD
 simp only [Bool.and_eq_true,decide_eq_true_eq]
 constructor
 ·rintro ⟨h1,h2⟩;exact ⟨f.toNat,by omega,by omega⟩
 ·rintro ⟨k,h1,rfl⟩;omega
def mayD (d:Dk) (f:Int):Int:=if hasD f then (if d.dn then 40 else 0) else 12
theorem zfH {d:Dk} {f:Int} (h:mayD d f=0):∃k:Nat,k<2∧f=k∧d.dn=false:=by
 unfold mayD at h
 split at h
 ·next h1 =>
  obtain ⟨k,hk,rfl⟩:=zjk.1 h1
  split at h
  ·omega
  ·next h2=>exact ⟨k,hk,rfl,by simpa using h2⟩
 ·omega
theorem zi6 {d:Dk} {k:Nat} (hk:k<2) (hd:d.dn=false):mayD d (k:Int)=0:=by
 unfold mayD
 rw [if_pos (zjk.2 ⟨k,hk,rfl⟩),hd]
 rfl
def zcV (d:Dk):Int:=d.sz - ((d.l 0).length:Int) - ((d.l 1).length:Int)
def zeW (d:Dk) (n:Nat):Nat:=if d.arm=true then min n d.un.toNat else n
def zcb (d:Dk) (n:Nat):Bool:=d.arm && decide (d.un<(n:Int))
def errD (d:Dk) (n:Nat):Int:=if zcb d n then 40 else 0
def zaL (d:Dk) (n:Nat):Dk:=if d.arm=true then { d with un:=d.un - (min n d.un.toNat:Nat),dn:=d.dn || zcb d n } else d
theorem zdB (d:Dk) (n:Nat):(zaL d n).l=d.l:=by unfold zaL;split <;> rfl
theorem zmq (d:Dk) (n:Nat):(zaL d n).s=d.s:=by unfold zaL;split <;> rfl
theorem zfE (d:Dk) (n:Nat):(zaL d n).sz=d.sz:=by unfold zaL;split <;> rfl
theorem zrg (d:Dk) (n:Nat):zeW d n≤n:=by unfold zeW;split <;> omega
theorem zfp {d:Dk} (h:d.Ok) (n:Nat):(zaL d n).Ok:=by
 have h1:=h.un0;have h2:=h.un1
 refine ⟨by rw [zfE];exact h.sz0,by rw [zfE];exact h.sz1,by rw [zfE,zdB];exact h.room,by rw [zdB,zmq];exact h.safe,?_,?_⟩
 ·unfold zaL;split
  ·simp only;omega
  ·exact h1
 ·unfold zaL;split
  ·simp only;omega
  ·exact h2
def putD (d:Dk) (k:Nat) (b:List Nat):Dk:={ d with l:=updD d.l k (d.l k ++ b) }
def appD (d:Dk) (f:Int) (b:List Nat):Dk × Int :=
 if mayD d f=0 then
  if zcV d<(b.length:Int) then (d,14)
  else (putD (zaL d b.length) f.toNat (b.take (zeW d b.length)),errD d b.length)
 else (d,mayD d f)
def ziG (d:Dk) (k:Nat):Dk:={ d with s:=updD d.s k (d.l k).length }
def ze3 (d:Dk) (f:Int):Dk × Int :=
 if mayD d f=0 then
  if zcb d 1 then (zaL d 1,40) else (ziG (zaL d 1) f.toNat,0)
 else (d,mayD d f)
def cutD (d:Dk) (k n:Nat):Dk:={ d with l:=updD d.l k ((d.l k).take n),s:=updD d.s k (min (d.s k) n) }
def zc7 (d:Dk) (f n:Int):Dk × Int :=
 if mayD d f=0 then
  if n<0∨((d.l f.toNat).length:Int)<n then (d,12)
  else if zcb d 1 then (zaL d 1,40) else (cutD (zaL d 1) f.toNat n.toNat,0)
 else (d,mayD d f)
def armD (d:Dk) (n:Int):Dk:={ d with arm:=true,un:=if n<0 then 0 else n }
def zdK (d:Dk) (k:Nat) (n:Int):Nat:=d.s k+min n.toNat ((d.l k).length - d.s k)
def zdL (d:Dk) (k:Nat) (n:Int):Dk:={ d with l:=updD d.l k ((d.l k).take (zdK d k n)),s:=updD d.s k (zdK d k n) }
def upD (d:Dk):Dk:={ d with arm:=false,un:=0,dn:=false }
def zeC (d:Dk) (a b:Int):Dk:=upD (zdL (zdL d 0 a) 1 b)
theorem Dk.Ok.put {d:Dk} (h:d.Ok) {k:Nat} (hk:k<2) {b:List Nat} (hb:(b.length:Int)≤zcV d):(putD d k b).Ok:=by
 unfold zcV at hb
 have h1:=h.safe k hk
 match k,hk with
 | 0,_ =>
  refine ⟨h.sz0,h.sz1,?_,?_,h.un0,h.un1⟩
  ·show (((updD d.l 0 (d.l 0 ++ b)) 0).length:Int)+((updD d.l 0 (d.l 0 ++ b)) 1).length≤d.sz
   rw [zbK,zbB _ _ (by decide),List.length_append];omega
  ·intro k hk
   show d.s k≤(updD d.l 0 (d.l 0 ++ b) k).length
   match k,hk with
   | 0,_=>rw [zbK,List.length_append];omega
   | 1,_=>rw [zbB _ _ (by decide)];exact h.safe 1 (by decide)
 | 1,_ =>
  refine ⟨h.sz0,h.sz1,?_,?_,h.un0,h.un1⟩
  ·show (((updD d.l 1 (d.l 1 ++ b)) 0).length:Int)+((updD d.l 1 (d.l 1 ++ b)) 1).length≤d.sz
   rw [zbK,zbB _ _ (by decide),List.length_append];omega
  ·intro k hk
   show d.s k≤(updD d.l 1 (d.l 1 ++ b) k).length
   match k,hk with
   | 1,_=>rw [zbK,List.length_append];omega
   | 0,_=>rw [zbB _ _ (by decide)];exact h.safe 0 (by decide)
theorem Dk.Ok.turn {d:Dk} (h:d.Ok) {k:Nat} (hk:k<2) {l:List Nat} {s:Nat} (hl:l.length≤(d.l k).length) (hs:s≤l.length):({ d with l:=updD d.l k l,s:=updD d.s k s }:Dk).Ok:=by
 have h1:=h.room
 match k,hk with
 | 0,_ =>
  refine ⟨h.sz0,h.sz1,?_,?_,h.un0,h.un1⟩
  ·show (((updD d.l 0 l) 0).length:Int)+((updD d.l 0 l) 1).length≤d.sz
   rw [zbK,zbB _ _ (by decide)];omega
  ·intro k hk
   show updD d.s 0 s k≤(updD d.l 0 l k).length
   match k,hk with
   | 0,_=>rw [zbK,zbK];exact hs
   | 1,_=>rw [zbB _ _ (by decide),zbB _ _ (by decide)];exact h.safe 1 (by decide)
 | 1,_ =>
  refine ⟨h.sz0,h.sz1,?_,?_,h.un0,h.un1⟩
  ·show (((updD d.l 1 l) 0).length:Int)+((updD d.l 1 l) 1).length≤d.sz
   rw [zbK,zbB _ _ (by decide)];omega
  ·intro k hk
   show updD d.s 1 s k≤(updD d.l 1 l k).length
   match k,hk with
   | 1,_=>rw [zbK,zbK];exact hs
   | 0,_=>rw [zbB _ _ (by decide),zbB _ _ (by decide)];exact h.safe 0 (by decide)
theorem zsG {d:Dk} (h:d.Ok) {k:Nat} (hk:k<2):(ziG d k).Ok:=by
 have:=h.turn hk (l:=d.l k) (s:=(d.l k).length) (Nat.le_refl _) (Nat.le_refl _)
 rw [zqc] at this
 exact this
theorem zk5 {d:Dk} (h:d.Ok) {k:Nat} (hk:k<2) {n:Nat} (hn:n≤(d.l k).length):(cutD d k n).Ok :=
 h.turn hk (by rw [List.length_take];omega) (by rw [List.length_take];omega)
theorem zjb {d:Dk} (h:d.Ok) {k:Nat} (hk:k<2) (n:Int):zdK d k n≤(d.l k).length:=by
 have:=h.safe k hk
 unfold zdK;omega
theorem zd3 {d:Dk} (h:d.Ok) {k:Nat} (hk:k<2) (n:Int):(zdL d k n).Ok:=by
 have:=zjb h hk n
 exact h.turn hk (by rw [List.length_take];omega) (by rw [List.length_take];omega)
theorem zuY {d:Dk} (h:d.Ok):(upD d).Ok:=⟨h.sz0,h.sz1,h.room,h.safe,by show (0:Int)≤0;decide,by show (0:Int)≤9223372036854775807;decide⟩
theorem zoM {d:Dk} (h:d.Ok) (a b:Int):(zeC d a b).Ok:=zuY (zd3 (zd3 h (by decide) a) (by decide) b)
theorem ztu {d:Dk} (h:d.Ok) {n:Int} (hn:n≤9223372036854775807):(armD d n).Ok :=
 ⟨h.sz0,h.sz1,h.room,h.safe,by show 0≤(if n<0 then 0 else n);split <;> omega,by show (if n<0 then 0 else n)≤_;split <;> omega⟩
theorem zrj {d:Dk} (h:d.Ok) (f n:Int):(zc7 d f n).1.Ok:=by
 unfold zc7
 split
 ·next h1 =>
  obtain ⟨k,hk,rfl,_⟩:=zfH h1
  split
  ·exact h
  ·split
   ·exact zfp h 1
   ·next h2 _ =>
    refine zk5 (zfp h 1) (by simpa using hk) ?_
    rw [zdB]
    omega
 ·exact h
theorem zmo (P:Program) (a b m:Int) (h:(if a<b then b else a)=m) (w:World) (ts:Array TypeId) (t:TypeId):(Builtin.max_ ts t #[.int .i64 a,.int .i64 b]).run P w=.ok (.int .i64 m) w:=by
 subst h
 by_cases h:a<b <;> simp [Builtin.max_,Builtin.max2,h]
theorem zgx (P:Program) (a b m:Int) (h:min a b=m) (w:World) (ts:Array TypeId) (t:TypeId):(Builtin.min_ ts t #[.int .i64 a,.int .i64 b]).run P w=.ok (.int .i64 m) w:=by
 subst h
 rcases (show b<a∨a≤b by omega) with h | h
 ·have:min a b=b:=by omega
  rw [this]
  simp [Builtin.min_,Builtin.min2,h]
 ·have:min a b=a:=by omega
  rw [this]
  simp [Builtin.min_,Builtin.min2,show ¬b<a by omega]
structure zai (S:Nat→Prop) (w w':World):Prop where
 os:w'.os=w.os
 tape:w'.tape=w.tape
 output:w'.output=w.output
 size:w.heap.size≤w'.heap.size
 block:∀i,i<w.heap.size→¬S i→w'.heap[i]?=w.heap[i]?
theorem zai.refl (S:Nat→Prop) (w:World):zai S w w:=⟨rfl,rfl,rfl,Nat.le_refl _,fun _ _ _=>rfl⟩
theorem zai.of_below {S:Nat→Prop} {w w':World} (h:Below w.heap.size w w'):zai S w w':=⟨h.os,h.tape,h.output,h.size,fun i hi _=>h.block i hi⟩
theorem zai.of_grown {S:Nat→Prop} {w w':World} {row:Option Nat} (h:w.grownBy w' row) (hr:∀b,row=some b→S b):zai S w w' :=
 ⟨h.os,h.tape,h.output,h.size,fun i hi hs=>h.block i hi (fun e=>hs (hr i e.symm))⟩
theorem zai.trans {S T:Nat→Prop} {a b c:World} (h:zai S a b) (k:zai T b c) (hT:∀i,i<a.heap.size→T i→S i):zai S a c :=
 ⟨k.os.trans h.os,k.tape.trans h.tape,k.output.trans h.output,Nat.le_trans h.size k.size,fun i hi hs=>(k.block i (Nat.lt_of_lt_of_le hi h.size) (fun t=>hs (hT i hi t))).trans (h.block i hi hs)⟩
theorem zai.then {S:Nat→Prop} {a b c:World} (h:zai S a b) (k:Below b.heap.size b c):zai S a c:=h.trans (T:=S) (zai.of_below k) (fun _ _ h=>h)
theorem zai.below {S:Nat→Prop} {w w':World} {B:Nat} (h:zai S w w') (hB:B≤w.heap.size) (hS:∀i,i<B→¬S i):Below B w w':=⟨h.os,h.tape,h.output,h.size,fun i hi=>h.block i (by omega) (hS i hi)⟩
theorem zai.set {S:Nat→Prop} {a w:World} (h:zai S a w) {p:Addr} (hp:S p.block∨a.heap.size≤p.block) (u:Value):zai S a (w.setCell p u) :=
 ⟨h.os,h.tape,h.output,by simpa [World.setCell] using h.size,fun i hi hs=>(Below.heap_setCell w p u i (by
  rintro rfl
  rcases hp with hp | hp
  ·exact hs hp
  ·omega)).trans (h.block i hi hs)⟩
theorem zai.more {S T:Nat→Prop} {w w':World} (h:zai S w w') (hT:∀i,i<w.heap.size→S i→T i):zai T w w':=⟨h.os,h.tape,h.output,h.size,fun i hi hs=>h.block i hi (fun t=>hs (hT i hi t))⟩
theorem zai.drew {S:Nat→Prop} {a w:World} (h:zai S a w):zai S a w.drew:=⟨h.os,h.tape,h.output,h.size,h.block⟩
theorem zai.drewN {S:Nat→Prop} {a w:World} (h:zai S a w) (n:Nat):zai S a (w.drewN n):=⟨h.os,h.tape,h.output,h.size,h.block⟩
theorem Blk.turns {S:Nat→Prop} {w w':World} {g:Nat} {t:TypeId} {cs:Array Value} (h:Blk w g t cs) (k:zai S w w') (hg:¬S g):Blk w' g t cs:=(k.block g h.lt hg).trans h
theorem zpD {S:Nat→Prop} {w w':World} {base n:Nat} {e:TypeId} {v:Value} {xs:List Value} (h:w.ownsRow base e 1 v n xs) (k:zai S w w') (hv:∀b,v.ownBlock=some b→¬S b):w'.ownsRow base e 1 v n xs:=by
 refine ⟨h.1,?_⟩
 rcases h.2 with hn | ⟨g,cap,cur,rfl,hb,hgg,rest⟩
 ·exact .inl hn
 ·refine .inr ⟨g,cap,cur,rfl,hb,?_,rest⟩
  rw [k.block g (Array.getElem?_eq_some_iff.1 hgg).1 (hv g rfl)]
  exact hgg
def zd6 (S:Nat→Prop) (w:World) (A:Option Addr) (l:List Nat):Prop :=
 ∀(j x:Nat),l[j]?=some x→∃b o,A=some ⟨b,o,none⟩∧b<w.heap.size∧¬S b∧w.cell? ⟨b,o+j,none⟩=some (.int .u8 (x:Int))
theorem zd6.sees {S:Nat→Prop} {w:World} {A:Option Addr} {l:List Nat} (h:zd6 S w A l):Sees .u8 w A l:=fun j x hj=>by
 obtain ⟨b,o,hA,hb,_,hc⟩:=h j x hj
 exact ⟨b,o,hA,hb,hc⟩
theorem zd6.turns {S T:Nat→Prop} {w w':World} {A:Option Addr} {l:List Nat} (h:zd6 S w A l) (k:zai S w w') (hT:∀i,i<w.heap.size→T i→S i):zd6 T w' A l:=fun j x hj=>by
 obtain ⟨b,o,hA,hb,hS,hc⟩:=h j x hj
 exact ⟨b,o,hA,Nat.lt_of_lt_of_le hb k.size,fun t=>hS (hT b hb t),(World.cell?_of_block (w:=w) (by simpa using k.block b hb hS)).trans hc⟩
theorem zd6.of_sees {S:Nat→Prop} {w:World} {A:Option Addr} {l:List Nat} (h:Sees .u8 w A l) (hS:∀b o,A=some ⟨b,o,none⟩→l≠[]→¬S b):zd6 S w A l:=fun j x hj=>by
 obtain ⟨b,o,hA,hb,hc⟩:=h j x hj
 exact ⟨b,o,hA,hb,hS b o hA (by rintro rfl;simp at hj),hc⟩
theorem zd6.below {S:Nat→Prop} {w w':World} {A:Option Addr} {l:List Nat} (h:zd6 S w A l) (k:Below w.heap.size w w'):zd6 S w' A l:=h.turns (T:=S) (zai.of_below k) (fun _ _ h=>h)
theorem zd6.nil (S:Nat→Prop) (w:World) (A:Option Addr):zd6 S w A []:=fun j x h=>by simp at h
theorem zgT {P:Program} (w:World) (base:Nat) (t ty e:TypeId) (i:TypeInfo) (z:Value) (bytes:Nat) (ht:P.underlying t=some (.slice e)) (hi:P.info? e=some i) (hz:i.zero=some z) (hsize:i.size=1) (hby:i.bytes=bytes) (hzs:z.cells.size=1)
  (v:Value) (n:Nat) (xs:List Value) (hown:w.ownsRow base e 1 v n xs) (A:Option Addr) (c:Nat) (l:List Nat) (m:Nat) (hm:l.length=m) (hnone:A=none→c=0) (hS:Sees .u8 w A l) (h63:n+m≤maxLen) (hbytes:(n+m) * bytes≤140737488355328) (hbase:base≤w.heap.size) :
  ∃v' w',(Builtin.append_ #[t,t] ty #[v,.slice A m c]).run P w=.ok v' w'∧w'.ownsRow base e 1 v' (n+m) (xs ++ l.map fun y:Nat=>Value.int .u8 (y:Int))∧w.grownBy w' v.ownBlock∧(v'.ownBlock=v.ownBlock∨v'.ownBlock=some w.heap.size):=by
 subst hm
 cases A with
 | none =>
  have hl:l=[]:=by
   cases l with
   | nil=>rfl
   | cons y l=>obtain ⟨b,o,he,_⟩:=hS 0 y rfl;cases he
  subst hl
  rw [hnone rfl]
  refine ⟨v,w,?_,by simpa using hown,World.grownBy.refl w _,.inl rfl⟩
  exact run_append_owned_none (P:=P) (w:=w) base t ty e i 1 ht hi v n xs hown
 | some ad =>
  obtain ⟨v',w',hr,h1,h2,_,h4⟩:=run_append_own_at (P:=P) w base t ty e i z 1 bytes ht hi hz hsize hby hzs (by decide) v n xs hown ad l.length c (l.map fun y:Nat=>Value.int .u8 (y:Int)) (by simp)
   (fun j u hu=>by
    rw [List.getElem?_map] at hu
    cases hj:l[j]? with
    | none=>rw [hj] at hu;cases hu
    | some y =>
     rw [hj] at hu
     obtain ⟨b,off,he,_,hc⟩:=hS j y hj
     injection he with he
     subst he
     rw [add_plain,hc]
     exact hu)
   (fun u hu=>by
    obtain ⟨y,_,rfl⟩:=List.mem_map.1 hu
    rfl) h63 hbytes hbase
  exact ⟨v',w',hr,h1,h2,h4⟩
theorem zgl {P:Program} (w:World) {ops:Array Oper} {o:Oper} {a:Act} {K:Act→World→Prop} {Q:Exit→Act→World→Prop} {E:Prop} (hgd:o.guard=none) (s x:Operand) (t:TypeId)
  (ho:o.op=.call { callee:=.builtin .append,args:=#[s,x],argTypes:=#[t,t] })
  (base:Nat) (e:TypeId) (i:TypeInfo) (z:Value) (bytes:Nat) (ht:P.underlying t=some (.slice e)) (hi:P.info? e=some i) (hz:i.zero=some z) (hsize:i.size=1) (hby:i.bytes=bytes) (hzs:z.cells.size=1)
  (v:Value) (n:Nat) (xs:List Value) (hs:a.eval s=v) (hown:w.ownsRow base e 1 v n xs) (A:Option Addr) (c:Nat) (l:List Nat) (m:Nat) (hm:l.length=m) (hx:a.eval x=.slice A m c) (hnone:A=none→c=0) (hS:Sees .u8 w A l) (h63:n+m≤maxLen) (hbytes:(n+m) * bytes≤140737488355328) (hbase:base≤w.heap.size)
  (h:∀v' w',w'.ownsRow base e 1 v' (n+m) (xs ++ l.map fun y:Nat=>Value.int .u8 (y:Int))→w.grownBy w' v.ownBlock→(v'.ownBlock=v.ownBlock∨v'.ownBlock=some w.heap.size)→K (a.put o.dst v') w') :
  if Region.wanted o (yielded ops a.tmps)=true then Oper.wp P o a w K Q else E:=by
 have hw:Region.wanted o (yielded ops a.tmps)=true:=by simp [Region.wanted,hgd]
 rw [if_pos hw]
 obtain ⟨v',w',hr,h1,h2,h3⟩:=zgT (P:=P) w base t o.type e i z bytes ht hi hz hsize hby hzs v n xs hown A c l m hm hnone hS h63 hbytes hbase
 unfold Oper.wp execOp
 simp only [ho,resolve,invoke,builtin,Sem.run_bind,Sem.run_pure,Result.andThen_ok,List.map_toArray,List.map_cons,List.map_nil,hs,hx,hr]
 exact h v' w' h1 h2 h3
end Go.Proofs.YtnjdckoljmgcjaaGreatDoor
namespace Go.Proofs.YtnjdckoljmgcjaaGreatDoor
open Go.ChangeShapes Go.WideShapes Go.ChangeAt Go.RowKit
set_option linter.unusedVariables false
set_option linter.unusedSimpArgs false
def dkC (d:Dk) (v:Nat→Value):Array Value:=#[.int .i64 d.sz,v 0,.int .i64 (d.s 0:Int),v 1,.int .i64 (d.s 1:Int),.bool d.arm,.int .i64 d.un,.bool d.dn]
def OwnD (g:Nat) (v:Nat→Value) (b:Nat):Prop:=b=g∨(v 0).ownBlock=some b∨(v 1).ownBlock=some b
structure zaj (w:World) (base g:Nat) (d:Dk) (v:Nat→Value):Prop where
 blk:Blk w g 71 (dkC d v)
 low:base≤g
 row:∀k,k<2→w.ownsRow base 5 1 (v k) (d.l k).length ((d.l k).map fun y:Nat=>Value.int .u8 (y:Int))
 apart:∀b,(v 0).ownBlock=some b→(v 1).ownBlock≠some b
theorem zlY {w:World} {base n g:Nat} {T:TypeId} {cs:Array Value} {v:Value} {xs:List Value} (h:w.ownsRow base 5 1 v n xs) (hg:Blk w g T cs) (hne:5≠T):v.ownBlock≠some g:=by
 rcases h.2 with ⟨rfl,_⟩ | ⟨g',cap,cur,rfl,_,hh,_⟩
 ·simp [Value.ownBlock]
 ·intro he
  have:g'=g:=by simpa [Value.ownBlock] using he
  subst this
  unfold Blk at hg
  rw [hh] at hg
  injection hg with hg
  injection hg with _ ht
  exact hne ht
theorem zaj.lt {w:World} {base g:Nat} {d:Dk} {v:Nat→Value} (h:zaj w base g d v):g<w.heap.size:=h.blk.lt
theorem zaj.ne {w:World} {base g:Nat} {d:Dk} {v:Nat→Value} (h:zaj w base g d v) {k:Nat} (hk:k<2):(v k).ownBlock≠some g:=zlY (h.row k hk) h.blk (by decide)
theorem zaj.own {w:World} {base g:Nat} {d:Dk} {v:Nat→Value} (h:zaj w base g d v) {b:Nat} (hb:OwnD g v b):base≤b∧b<w.heap.size:=by
 rcases hb with rfl | hb | hb
 ·exact ⟨h.low,h.lt⟩
 ·exact (h.row 0 (by decide)).lt b hb
 ·exact (h.row 1 (by decide)).lt b hb
theorem OwnD.of {g:Nat} {v:Nat→Value} {k b:Nat} (hk:k<2) (h:(v k).ownBlock=some b):OwnD g v b:=by
 match k,hk with
 | 0,_=>exact .inr (.inl h)
 | 1,_=>exact .inr (.inr h)
theorem zaj.stay {S:Nat→Prop} {w w':World} {base g:Nat} {d:Dk} {v:Nat→Value} (h:zaj w base g d v) (t:zai S w w') (hS:∀b,OwnD g v b→¬S b):zaj w' base g d v :=
 ⟨h.blk.turns t (hS g (.inl rfl)),h.low,fun k hk=>zpD (h.row k hk) t (fun b hb=>hS b (OwnD.of hk hb)),h.apart⟩
theorem zaj.on {w w':World} {base g:Nat} {d:Dk} {v:Nat→Value} (h:zaj w base g d v) (hb:Below w.heap.size w w'):zaj w' base g d v :=
 h.stay (S:=fun _=>False) (zai.of_below hb) (fun _ _ h=>h)
theorem zaj.drew {w:World} {base g:Nat} {d:Dk} {v:Nat→Value} (h:zaj w base g d v):zaj w.drew base g d v:=h.on (zag (Below.refl _ _))
theorem zaj.drewN {w:World} {base g:Nat} {d:Dk} {v:Nat→Value} (h:zaj w base g d v) (n:Nat):zaj (w.drewN n) base g d v:=h.on (zav (Below.refl _ _) n)
theorem zaj.base_le {w:World} {base g:Nat} {d:Dk} {v:Nat→Value} (h:zaj w base g d v):base≤w.heap.size:=by have:=h.lt;have:=h.low;omega
theorem zpx (d:Dk) (v:Nat→Value):∀k,k<2→(dkC d v)[1+k * 2]?=some (v k)
 | 0,_=>rfl
 | 1,_=>rfl
theorem zrm (d:Dk) (v:Nat→Value):∀k,k<2→(dkC d v)[1+k * 2+1]?=some (.int .i64 (d.s k:Int))
 | 0,_=>rfl
 | 1,_=>rfl
theorem ztg (d:Dk) (v:Nat→Value) (u:Value) (l:List Nat):∀k,k<2→(dkC d v).setIfInBounds (1+k * 2) u=dkC { d with l:=updD d.l k l } (updD v k u)
 | 0,_=>rfl
 | 1,_=>rfl
theorem zjv (d:Dk) (v:Nat→Value) (n:Nat):∀k,k<2→(dkC d v).setIfInBounds (1+k * 2+1) (.int .i64 (n:Int))=dkC { d with s:=updD d.s k n } v
 | 0,_=>rfl
 | 1,_=>rfl
theorem zaj.cells {w:World} {base g:Nat} {d:Dk} {v:Nat→Value} (h:zaj w base g d v) :
  w.cell? ⟨g,0,none⟩=some (.int .i64 d.sz)∧w.cell? ⟨g,1,none⟩=some (v 0)∧w.cell? ⟨g,2,none⟩=some (.int .i64 (d.s 0:Int))∧w.cell? ⟨g,3,none⟩=some (v 1)∧w.cell? ⟨g,4,none⟩=some (.int .i64 (d.s 1:Int)) ∧
   w.cell? ⟨g,5,none⟩=some (.bool d.arm)∧w.cell? ⟨g,6,none⟩=some (.int .i64 d.un)∧w.cell? ⟨g,7,none⟩=some (.bool d.dn) :=
 ⟨(h.blk.cell 0).trans rfl,(h.blk.cell 1).trans rfl,(h.blk.cell 2).trans rfl,(h.blk.cell 3).trans rfl,(h.blk.cell 4).trans rfl,(h.blk.cell 5).trans rfl,(h.blk.cell 6).trans rfl,(h.blk.cell 7).trans rfl⟩
theorem zaj.file {w:World} {base g:Nat} {d:Dk} {v:Nat→Value} (h:zaj w base g d v) {k:Nat} (hk:k<2) :
  w.cell? ⟨g,1+k * 2,none⟩=some (v k)∧w.cell? ⟨g,1+k * 2+1,none⟩=some (.int .i64 (d.s k:Int)) :=
 ⟨(h.blk.cell _).trans (zpx d v k hk),(h.blk.cell _).trans (zrm d v k hk)⟩
theorem zaj.slice {w:World} {base g:Nat} {d:Dk} {v:Nat→Value} (h:zaj w base g d v) {k:Nat} (hk:k<2) :
  ∃A c,v k=.slice A (d.l k).length c∧(A=none→c=0)∧(d.l k).length≤c∧Sees .u8 w A (d.l k):=zda (h.row k hk)
def zby (base g:Nat) (v:Nat→Value) (d':Dk) (r:Value) (w:World) (en:Ending) (w':World):Prop :=
 ∃v',en=.returned r∧zaj w' base g d' v'∧zai (OwnD g v) w w'∧∀b,OwnD g v' b→OwnD g v b∨w.heap.size≤b
theorem zaj.put {w:World} {base g:Nat} {d d':Dk} {v:Nat→Value} (h:zaj w base g d v) (i:Nat) (u:Value) (hc:(dkC d v).setIfInBounds i u=dkC d' v) (hl:d'.l=d.l):zaj (w.setCell ⟨g,i,none⟩ u) base g d' v:=by
 refine ⟨hc ▸ h.blk.set_ i u,h.low,fun k hk=>?_,h.apart⟩
 rw [hl]
 exact (h.row k hk).kept (row:=some g) (zaD (World.grownBy.refl _ _) (.inl rfl) _) (.inr (h.ne hk))
theorem zai.at_ {g:Nat} {v:Nat→Value} {a w:World} (h:zai (OwnD g v) a w) (i:Nat) (u:Value):zai (OwnD g v) a (w.setCell ⟨g,i,none⟩ u):=h.set (.inl (.inl rfl)) u
theorem zaj.turn {w w1:World} {base g:Nat} {d:Dk} {v:Nat→Value} (h:zaj w base g d v) {k:Nat} (hk:k<2) {u:Value} {l:List Nat} {row:Option Nat} (gr:w.grownBy w1 row) (hr:∀b,row=some b→(v k).ownBlock=some b) {n:Nat} (hn:l.length=n)
  (hown:w1.ownsRow base 5 1 u n (l.map fun y:Nat=>Value.int .u8 (y:Int))) (hat:∀b,u.ownBlock=some b→(v k).ownBlock=some b∨w.heap.size≤b) :
  zaj (w1.setCell ⟨g,1+k * 2,none⟩ u) base g { d with l:=updD d.l k l } (updD v k u)∧zai (OwnD g v) w (w1.setCell ⟨g,1+k * 2,none⟩ u)∧∀b,OwnD g (updD v k u) b→OwnD g v b∨w.heap.size≤b:=by
 subst hn
 have t1:zai (OwnD g v) w w1:=zai.of_grown gr (fun b hb=>OwnD.of hk (hr b hb))
 have hb1:Blk w1 g 71 (dkC d v):=h.blk.grown gr (fun e=>h.ne hk (hr g e.symm))
 have hu:u.ownBlock≠some g:=zlY hown hb1 (by decide)
 have g2:w1.grownBy (w1.setCell ⟨g,1+k * 2,none⟩ u) (some g):=zaD (World.grownBy.refl _ _) (.inl rfl) _
 have other:∀i,i<2→i≠k→w1.ownsRow base 5 1 (v i) (d.l i).length ((d.l i).map fun y:Nat=>Value.int .u8 (y:Int)):=fun i hi hne=>(h.row i hi).kept gr (by
  cases hv:(v i).ownBlock with
  | none=>exact .inl rfl
  | some b =>
   refine .inr (fun e=>?_)
   have h2:=hr b e.symm
   match i,k,hi,hk with
   | 0,0,_,_=>exact hne rfl
   | 1,1,_,_=>exact hne rfl
   | 0,1,_,_=>exact h.apart b hv h2
   | 1,0,_,_=>exact h.apart b h2 hv)
 refine ⟨⟨?_,h.low,fun i hi=>?_,fun b hb hb2=>?_⟩,t1.at_ _ _,fun b hb=>?_⟩
 ·rw [←ztg d v u l k hk]
  exact hb1.set_ _ _
 ·by_cases he:i=k
  ·subst he
   show World.ownsRow _ base 5 1 (updD v i u i) (updD d.l i l i).length ((updD d.l i l i).map fun y:Nat=>Value.int .u8 (y:Int))
   rw [zbK,zbK]
   exact hown.kept g2 (.inr hu)
  ·show World.ownsRow _ base 5 1 (updD v k u i) (updD d.l k l i).length ((updD d.l k l i).map fun y:Nat=>Value.int .u8 (y:Int))
   rw [zbB _ _ he,zbB _ _ he]
   exact (other i hi he).kept g2 (.inr (zlY (other i hi he) hb1 (by decide)))
 ·match k,hk with
  | 0,_ =>
   rw [zbK] at hb
   rw [zbB _ _ (by decide)] at hb2
   rcases hat b hb with h1 | h1
   ·exact h.apart b h1 hb2
   ·have:=((h.row 1 (by decide)).lt b hb2).2;omega
  | 1,_ =>
   rw [zbB _ _ (by decide)] at hb
   rw [zbK] at hb2
   rcases hat b hb2 with h1 | h1
   ·exact h.apart b hb h1
   ·have:=((h.row 0 (by decide)).lt b hb).2;omega
 ·match k,hk with
  | 0,_ =>
   rcases hb with hb | hb | hb
   ·exact .inl (.inl hb)
   ·rw [zbK] at hb
    exact (hat b hb).imp (fun h=>.inr (.inl h)) id
   ·rw [zbB _ _ (by decide)] at hb
    exact .inl (.inr (.inr hb))
  | 1,_ =>
   rcases hb with hb | hb | hb
   ·exact .inl (.inl hb)
   ·rw [zbB _ _ (by decide)] at hb
    exact .inl (.inr (.inl hb))
   ·rw [zbK] at hb
    exact (hat b hb).imp (fun h=>.inr (.inr h)) id
theorem zpK (p:Option Addr) (f:Int) (w:World):Calls Tryz.prog 41 #[.pointer p,.int .i64 f] w fun e w'=>e=.returned (.bool (hasD f))∧w=w':=by
 rcases (show f<0∨(0≤f∧f<2)∨2≤f by omega) with h | h | h
 ·have HE:Hid (hasD f=false):=hid (by unfold hasD;simp;omega)
  go_enter Tryz.func41,Tryz.ntmps41
  go_wp2
  go_ret
  exact ⟨zab HE.out.symm,rfl⟩
 ·obtain ⟨h1,h2⟩:=h
  have HE:Hid (hasD f=true):=hid (by unfold hasD;simp;omega)
  go_enter Tryz.func41,Tryz.ntmps41
  go_wp2
  go_ret
  exact ⟨zab HE.out.symm,rfl⟩
 ·have HE:Hid (hasD f=false):=hid (by unfold hasD;simp;omega)
  have h3:0≤f:=by omega
  go_enter Tryz.func41,Tryz.ntmps41
  go_wp2
  go_ret
  exact ⟨zab (by rw [HE.out];simp;omega),rfl⟩
theorem zgM (g:Nat) (d:Dk) (f:Int) (w:World) (c7:w.cell? ⟨g,7,none⟩=some (.bool d.dn)):Calls Tryz.prog 32 #[.pointer (some ⟨g,0,none⟩),.int .i64 f] w fun e w'=>e=.returned (.int .i64 (mayD d f))∧w=w':=by
 have HM:Hid (mayD d f=if hasD f then (if d.dn then 40 else 0) else 12):=hid rfl
 obtain ⟨b,hb⟩:∃b,hasD f=b:=⟨_,rfl⟩
 obtain ⟨n,hn⟩:∃n,d.dn=n:=⟨_,rfl⟩
 have HH:=hid (fun p w=>zpK p f w)
 rw [hb,hn] at HM
 rw [hb] at HH
 rw [hn] at c7
 clear hb hn
 cases b
 ·go_enter Tryz.func32,Tryz.ntmps32
  go_wp2_with fail
  with_reducible refine (HH.out _ _).mono ?_
  rintro e w' ⟨rfl,rfl⟩
  go_wp2
  go_ret
  exact ⟨zba HM.out.symm,rfl⟩
 ·cases n
  ·go_enter Tryz.func32,Tryz.ntmps32
   go_wp2_with fail
   with_reducible refine (HH.out _ _).mono ?_
   rintro e w' ⟨rfl,rfl⟩
   go_wp2
   go_ret
   exact ⟨zba HM.out.symm,rfl⟩
  ·go_enter Tryz.func32,Tryz.ntmps32
   go_wp2_with fail
   with_reducible refine (HH.out _ _).mono ?_
   rintro e w' ⟨rfl,rfl⟩
   go_wp2
   go_ret
   exact ⟨zba HM.out.symm,rfl⟩
theorem zfP (base g:Nat) (d:Dk) (v:Nat→Value) (w:World) (h:zaj w base g d v) (ho:d.Ok):Calls Tryz.prog 29 #[.pointer (some ⟨g,0,none⟩)] w fun e w'=>e=.returned (.int .i64 (zcV d))∧∃n,w.drewN n=w':=by
 obtain ⟨c0,c1,_,c3,_⟩:=h.cells
 obtain ⟨A0,k0,e0,_⟩:=h.slice (k:=0) (by decide)
 obtain ⟨A1,k1,e1,_⟩:=h.slice (k:=1) (by decide)
 have h0:=ho.sz0
 have h1:=ho.sz1
 have h2:=ho.room
 have HL:Hid (zcV d=d.sz - ((d.l 0).length:Int) - ((d.l 1).length:Int)):=hid rfl
 rw [e0] at c1
 rw [e1] at c3
 obtain ⟨n0,hn0⟩:∃n,(d.l 0).length=n:=⟨_,rfl⟩
 obtain ⟨n1,hn1⟩:∃n,(d.l 1).length=n:=⟨_,rfl⟩
 rw [hn0] at c1 h2 HL
 rw [hn1] at c3 h2 HL
 clear e0 e1 hn0 hn1 h ho
 have q1:IntKind.i64.wrap (d.sz - (n0:Int))=d.sz - (n0:Int):=IntWalk.i64_in _ (by omega)
 have q2:IntKind.i64.wrap (d.sz - (n0:Int) - (n1:Int))=d.sz - (n0:Int) - (n1:Int):=IntWalk.i64_in _ (by omega)
 go_enter Tryz.func29,Tryz.ntmps29
 go_wp2_with fail
 go_quiet (fail)
 go_wp2
 go_ret
 exact ⟨zba HL.out.symm,_,rfl⟩
theorem zm5 (g:Nat) (d:Dk) (w:World) (c0:w.cell? ⟨g,0,none⟩=some (.int .i64 d.sz)):Calls Tryz.prog 58 #[.pointer (some ⟨g,0,none⟩)] w fun e w'=>e=.returned (.int .i64 d.sz)∧w=w':=by
 go_enter Tryz.func58,Tryz.ntmps58
 go_wp2
 go_ret
 exact ⟨rfl,rfl⟩
theorem zgC (base g:Nat) (d:Dk) (v:Nat→Value) (k:Nat) (f:Int) (w:World) (h:zaj w base g d v) (ho:d.Ok) (hf:f=k) (hk:k<2):Calls Tryz.prog 15 #[.pointer (some ⟨g,0,none⟩),.int .i64 f] w (zcy (d.l k) w):=by
 subst hf
 obtain ⟨c0,_⟩:=h.file hk
 obtain ⟨A,c,e0,hA,hc,hS⟩:=h.slice hk
 have HL:=ho.len hk
 rw [e0] at c0
 have HH:=hid (fun p w=>zpK p (k:Int) w)
 rw [show hasD (k:Int)=true from zjk.2 ⟨k,hk,rfl⟩] at HH
 have HC:=hid (zfu A (d.l k) _ c w rfl (by omega) hA hS)
 have hk2:(k:Int)<2:=by omega
 clear e0 hA hc hS h
 go_enter Tryz.func15,Tryz.ntmps15
 go_wp2_with fail
 with_reducible refine (HH.out _ _).mono ?_
 rintro e w' ⟨rfl,rfl⟩
 go_wp2_with fail
 with_reducible refine HC.out.mono ?_
 rintro e w1 ⟨s,rfl,hown,hb⟩
 have HO:=hid hown
 have HB:=hid hb
 clear hown hb
 go_wp2
 go_ret
 exact ⟨s,rfl,HO.out,HB.out⟩
theorem zfe {P:Program} {ops:Array Oper} {Q:Exit→Act→World→Prop} {a:Act} {w:World} {rest:List Oper} {o:Oper} (hw:Region.wanted o (yielded ops a.tmps)=true)
  (h:∀K:Act→World→Prop,(∀a w,wpList P ops Q rest a w→K a w)→o.wp P a w K Q):wpList P ops Q (o :: rest) a w :=
 wpList_step fun K hK=>by simp only [hw,if_true];exact h K hK
theorem zas {P:Program} {ops:Array Oper} {rest:List Oper} {op:Oper} {a:Act} {w:World} {Q:Exit→Act→World→Prop} (hw:Region.wanted op (yielded ops a.tmps)=true) (ty:TypeId) (x:Operand) (ho:op.op=.load ty x)
  (b o:Nat) (hx:a.eval x=.pointer (some ⟨b,o,none⟩)) (cs:List Value) (d:TypeDesc) (hc:w.rangeAt b o cs)
  (hu:P.underlying ty=some d) (hd:d.isRow=true) (hi:(P.info? ty).map (·.size)=some cs.length)
  (h:wpList P ops Q rest (a.put op.dst (.agg cs.toArray)) w):wpList P ops Q (op :: rest) a w :=
 zfe hw fun _ hK=>wp_load_mid ty x ho b o hx cs d hc hu hd hi (hK _ _ h)
theorem zaO {P:Program} {ops:Array Oper} {rest:List Oper} {o:Oper} {a:Act} {w:World} {Q:Exit→Act→World→Prop} (hw:Region.wanted o (yielded ops a.tmps)=true) (ty:TypeId) (x:Operand) (ho:o.op=.load ty x)
  (g:Nat) (hx:a.eval x=.pointer (some ⟨g,0,none⟩)) (t:TypeId) (cs:Array Value) (fr:Nat × Nat) (d:TypeDesc) (hg:w.heap[g]?=some (.cells cs t fr))
  (hu:P.underlying ty=some d) (hd:(match d with | .struct _ | .array _ _=>true | _=>false)=true) (hi:(P.info? ty).map (·.size)=some cs.size)
  (h:wpList P ops Q rest (a.put o.dst (.agg cs)) w):wpList P ops Q (o :: rest) a w :=
 zfe hw fun _ hK=>wp_load_row ty x ho g hx t cs fr d hg hu hd hi (hK _ _ h)
theorem zjN:(Tryz.prog.info? 66).map (·.size)=some 22:=by kernel_rfl
theorem zaE (x:J):(Tryz.prog.info? 66).map (·.size)=some (rowJ x).size:=by rw [zdX];exact zjN
theorem zaW (x y:J):(rowJ x).size=(rowJ y).size:=rfl
theorem zaS (x:J):(rowJ x).all (·.oneCell')=true:=by simp [rowJ,Value.oneCell']
section
variable {w:World} {g:Nat} {T:TypeId} {x:J}
theorem Blk.j0 (h:Blk w g T (rowJ x)):w.cell? ⟨g,0,none⟩=some (.int .i64 x.r):=(h.cell 0).trans rfl
theorem Blk.j1 (h:Blk w g T (rowJ x)):w.cell? ⟨g,1,none⟩=some (.int .i64 x.s):=(h.cell 1).trans rfl
theorem Blk.j2 (h:Blk w g T (rowJ x)):w.cell? ⟨g,2,none⟩=some (.int .i64 x.st):=(h.cell 2).trans rfl
theorem Blk.j3 (h:Blk w g T (rowJ x)):w.cell? ⟨g,3,none⟩=some (.int .u32 x.bal):=(h.cell 3).trans rfl
theorem Blk.j4 (h:Blk w g T (rowJ x)):w.cell? ⟨g,4,none⟩=some (.int .u32 x.vote):=(h.cell 4).trans rfl
theorem Blk.j5 (h:Blk w g T (rowJ x)):w.cell? ⟨g,5,none⟩=some (.bool x.same):=(h.cell 5).trans rfl
abbrev lsK (c:K):List Value:=[.int .i64 c.kind,.int .u64 c.num,.string c.foot,.int .u64 c.req,.string c.path,.int .i64 c.mode,.int .u64 c.n,.int .i64 c.time]
abbrev ls8 (f:Nat→Int):List Value:=[.int .i64 (f 0),.int .i64 (f 1),.int .i64 (f 2),.int .i64 (f 3),.int .i64 (f 4),.int .i64 (f 5),.int .i64 (f 6),.int .i64 (f 7)]
theorem Blk.jc (h:Blk w g T (rowJ x)):w.rangeAt g 6 (lsK x.c):=by
 intro j v hv
 have hj:j<8:=(List.getElem?_eq_some_iff.1 hv).1
 have e:j=0∨j=1∨j=2∨j=3∨j=4∨j=5∨j=6∨j=7:=by omega
 rw [h.cell,←hv]
 rcases e with rfl | rfl | rfl | rfl | rfl | rfl | rfl | rfl <;> rfl
theorem Blk.ja (h:Blk w g T (rowJ x)):w.rangeAt g 14 (ls8 x.f):=by
 intro j v hv
 have hj:j<8:=(List.getElem?_eq_some_iff.1 hv).1
 have e:j=0∨j=1∨j=2∨j=3∨j=4∨j=5∨j=6∨j=7:=by omega
 rw [h.cell,←hv]
 rcases e with rfl | rfl | rfl | rfl | rfl | rfl | rfl | rfl <;> rfl
end
theorem zcI (c:K):(Tryz.prog.info? 61).map (·.size)=some (lsK c).length:=by kernel_rfl
theorem zdn (f:Nat→Int):(Tryz.prog.info? 64).map (·.size)=some (ls8 f).length:=by kernel_rfl
theorem zuV (r s:Int):Value.agg #[.int .i64 r,.int .i64 s,.int .i64 0,.int .u32 0,.int .u32 0,.bool false,.int .i64 0,.int .u64 0,.string ⟨#[]⟩,.int .u64 0,.string ⟨#[]⟩,.int .i64 0,.int .u64 0,.int .i64 0,.int .i64 0,.int .i64 0,.int .i64 0,.int .i64 0,.int .i64 0,.int .i64 0,.int .i64 0,.int .i64 0]=.agg (rowJ (newJ r s)):=rfl
theorem ziQ (r s:Int) (w:World) :
  Calls Tryz.prog 70 #[nm r s] w fun e w'=>e=.returned (.agg (rowJ (newJ r s)))∧Below w.heap.size w w':=by
 go_enter Tryz.func70,Tryz.ntmps70
 go_upto_region 1 with fail
 obtain ⟨W,hW⟩:∃W,(w.alloc (.cells #[.int .i64 r,.int .i64 s] 55)).alloc (.cells (rowJ zau) 66)=W:=⟨_,rfl⟩
 have hW':=hW
 simp only [rowJ,zau] at hW'
 rw [hW']
 clear hW'
 obtain ⟨K0,K1,KB⟩:=zcE hW
 clear hW
 obtain ⟨k,hk⟩:∃k,w.heap.size=k:=⟨_,rfl⟩
 rw [hk] at K0 K1 KB
 rw [hk]
 have HK:=hid hk
 clear hk
 obtain ⟨⟨c0,c1⟩,_,_⟩:=blkn K0.out
 have L1:=hid (zaE (newJ r s))
 have L2:=hid (zaW zau (newJ r s))
 have L3:=hid (zaS (newJ r s))
 go_wp2_with (refine wpList_store_row (o:=⟨none,_,_,_,_,_⟩) rfl 66 (.tmp 2) (.tmp 4) rfl (k+1) (rowJ (newJ r s)) rfl (zuV r s) 66 _ K1.out.heap L1.out L2.out L3.out ?_)
 exact bodyPost_ret (v:=.agg (rowJ (newJ r s))) (results_cell_row (p:=2) (ty:=66) (by kernel_rfl) _ _ (k+1) 66 (rowJ (newJ r s)) (0,0) _ rfl (setRow_heap W (k+1) _ (rowJ (newJ r s)) _ _ K1.out.heap) Tryz.underlying66 rfl L1.out) rfl ⟨rfl,by rw [HK.out];exact zak KB.out (by omega)⟩
theorem zdC (n:Int) (w:World):Calls Tryz.prog 121 #[.int .i64 n] w fun e w'=>e=.returned (.bool (zhR n))∧w=w':=by
 go_enter Tryz.func121,Tryz.ntmps121
 go_wp2
 all_goals go_ret
 all_goals exact ⟨zab (by unfold zhR;rw [Bool.eq_iff_iff];simp;try omega),rfl⟩
theorem zhL (x:J) (w:World) :
  Calls Tryz.prog 170 #[.agg (rowJ x)] w fun e w'=>e=.returned (.bool (zf3 x))∧Below w.heap.size w w':=by
 have HV:Hid (zf3 x=(x.st == 1 && x.vote == 0)):=hid rfl
 go_enter Tryz.func170,Tryz.ntmps170
 go_upto_region 1 with fail
 obtain ⟨W,hW⟩:∃W,w.alloc (.cells (rowJ x) 66)=W:=⟨_,rfl⟩
 rw [hW]
 obtain ⟨K0,KB⟩:=za1 hW
 clear hW
 obtain ⟨k,hk⟩:∃k,w.heap.size=k:=⟨_,rfl⟩
 rw [hk] at K0 KB
 rw [hk]
 have HK:=hid hk
 clear hk
 have c2:=K0.out.j2
 have c4:=K0.out.j4
 rcases Decidable.em (x.st=1) with h | h
 ·have hb:(x.st == 1)=true:=beq_iff_eq.2 h
  go_wp2
  go_ret
  exact ⟨zab (by rw [HV.out,hb];simp),by rw [HK.out];exact KB.out⟩
 ·have hb:(x.st == 1)=false:=beq_eq_false_iff_ne.2 h
  go_wp2
  go_ret
  exact ⟨zab (by rw [HV.out,hb];simp),by rw [HK.out];exact KB.out⟩
theorem zl4 {w W:World} {x y:J} (h:(w.alloc (.cells (rowJ x) 66)).alloc (.cells (rowJ y) 66)=W) :
  Hid (Blk W w.heap.size 66 (rowJ x))∧Hid (Blk W (w.heap.size+1) 66 (rowJ y))∧Hid (Below w.heap.size w W):=zcE h
theorem zkk (x y:J) (w:World) :
  Calls Tryz.prog 97 #[.agg (rowJ x),.agg (rowJ y)] w fun e w'=>e=.returned (.bool (zg3 x y))∧Below w.heap.size w w':=by
 obtain ⟨a,ha⟩:∃a,decide (x.c=y.c)=a:=⟨_,rfl⟩
 obtain ⟨b,hb⟩:∃b,eqA x.f y.f=b:=⟨_,rfl⟩
 have HV:Hid (zg3 x y=(a && b)):=hid (by unfold zg3;rw [ha,hb])
 have EQ1:=zs6 x.c y.c a ha
 have EQ2:=ztm x.f y.f b hb
 dsimp only [val] at EQ1
 have G1:=zmn
 have G2:=znB
 clear ha hb
 go_enter Tryz.func97,Tryz.ntmps97
 go_upto_region 1 with fail
 obtain ⟨W,hW⟩:∃W,(w.alloc (.cells (rowJ x) 66)).alloc (.cells (rowJ y) 66)=W:=⟨_,rfl⟩
 rw [hW]
 obtain ⟨K0,K1,KB⟩:=zl4 hW
 clear hW
 obtain ⟨k,hk⟩:∃k,w.heap.size=k:=⟨_,rfl⟩
 rw [hk] at K0 K1 KB
 rw [hk]
 have HK:=hid hk
 clear hk
 have I1:=hid (zcI x.c)
 have I2:=hid (zcI y.c)
 have I3:=hid (zdn x.f)
 have I4:=hid (zdn y.f)
 cases a
 all_goals
  go_wp2_with (first
   | (with_reducible refine wpList_load_mid (op:=⟨some 6,_,_,_,_,_⟩) rfl 61 (.tmp 5) rfl k 6 rfl (lsK x.c) _ K0.out.jc Tryz.underlying61 rfl I1.out ?_)
   | (with_reducible refine wpList_load_mid (op:=⟨some 8,_,_,_,_,_⟩) rfl 61 (.tmp 7) rfl (k+1) 6 rfl (lsK y.c) _ K1.out.jc Tryz.underlying61 rfl I2.out ?_)
   | (with_reducible refine zas (op:=⟨some 12,_,_,_,_,_⟩) (by kernel_rfl) 64 (.tmp 11) rfl k 14 rfl (ls8 x.f) _ K0.out.ja Tryz.underlying64 rfl I3.out ?_)
   | (with_reducible refine zas (op:=⟨some 14,_,_,_,_,_⟩) (by kernel_rfl) 64 (.tmp 13) rfl (k+1) 14 rfl (ls8 y.f) _ K1.out.ja Tryz.underlying64 rfl I4.out ?_))
  go_ret
  exact ⟨zab (by rw [HV.out];simp),by rw [HK.out];exact KB.out⟩
end Go.Proofs.YtnjdckoljmgcjaaGreatDoor
namespace Go.Proofs.YtnjdckoljmgcjaaGreatDoor
open Go.ChangeShapes Go.WideShapes Go.ChangeAt Go.RowKit Go.Maps Go.WideMaps
set_option linter.unusedVariables false
set_option linter.unusedSimpArgs false
theorem za7 {P:Program} {ops:Array Oper} {S:World→Prop} {op:Oper} {a:Act} (hw:Region.wanted op (yielded ops a.tmps)=true) (ty:TypeId) (x:Operand) (ho:op.op=.load ty x)
  (b o:Nat) (hx:a.eval x=.pointer (some ⟨b,o,none⟩)) (cs:List Value) (d:TypeDesc) (hS:∀w,S w→w.rangeAt b o cs)
  (hu:P.underlying ty=some d) (hd:d.isRow=true) (hi:(P.info? ty).map (·.size)=some cs.length):YieldsIf P ops S op (.agg cs.toArray) a :=
 .inl ⟨hw,fun w hw'=>by
  unfold execOp
  simp only [ho,hx,Sem.run_bind,Sem.run_pure,Result.andThen_ok,run_loadAt_mid w b o ty cs d (hS w hw') hu hd hi]⟩
theorem zbk {P:Program} {o:Oper} {a:Act} {w:World} {K:Act→World→Prop} {Q:Exit→Act→World→Prop} {k2:Prop} [Decidable k2] {z:Prop} (hw:k2) (ty:TypeId) (x y:Operand) (ho:o.op=.store ty x y)
  (g:Nat) (cells:Array Value) (hx:a.eval x=.pointer (some ⟨g,0,none⟩)) (hy:a.eval y=.agg cells)
  (t:TypeId) (old:Array Value) (hg:w.heap[g]?=some (.cells old t (0,0))) (hi:(P.info? ty).map (·.size)=some cells.size)
  (hold:old.size=cells.size) (h1:cells.all (·.oneCell')=true)
  (h:K (a.put o.dst undef) (w.setRow g cells)):if k2 then o.wp P a w K Q else z:=by
 rw [if_pos hw]
 exact wp_store_row ty x y ho g cells hx hy t old hg hi hold h1 h
def zaP (l:List J):List Nt:=l.foldl (fun n x=>zdt n x.c x.r x.s (x.f 0)) []
theorem zho (l:List J) (x:J):zaP (l ++ [x])=zdt (zaP l) x.c x.r x.s (x.f 0):=by simp [zaP]
theorem zq3 (n:List Nt) (c:K) (r s q:Int):(zdt n c r s q).length≤n.length+1:=by
 unfold zdt
 split <;> simp
theorem zeH:∀(l:List J),(zaP l).length≤l.length:=by
 have h:∀(l:List J) (n:List Nt),(l.foldl (fun n x=>zdt n x.c x.r x.s (x.f 0)) n).length≤n.length+l.length:=by
  intro l
  induction l with
  | nil=>intro n;simp
  | cons x l ih =>
   intro n
   rw [List.foldl_cons,List.length_cons]
   have h1:=ih (zdt n x.c x.r x.s (x.f 0))
   have h2:=zq3 n x.c x.r x.s (x.f 0)
   omega
 intro l
 have:=h l []
 simpa [zaP] using this
def vaC (g:Nat) (cur gen:Int) (m x:Nat) (lo hi:Int):Array Value:=#[.pointer (some ⟨g,0,none⟩),.int .i64 cur,.int .u64 gen,.map (some m),.pointer (some ⟨x,0,none⟩),.int .i64 lo,.int .i64 hi]
def OwnV (v m mi b:Nat):Prop:=b=v∨b=m∨b=mi
structure VAt (w:World) (base v g:Nat) (cur gen:Int) (m x mi:Nat) (l:List J) (nl:List Nt):Prop where
 blk:∃lo hi,Blk w v 97 (vaC g cur gen m x lo hi)
 st:StM w m l.length l
 ix:Ix w x mi nl
 ints:zfR l
 ne:m≠mi
 low:base≤v∧base≤m∧base≤x∧base≤mi
abbrev zbZ (w:World) (base v g:Nat) (cur gen:Int) (m x mi:Nat) (l:List J):Prop:=VAt w base v g cur gen m x mi l (zaP l)
section
variable {w w':World} {base v g:Nat} {cur gen:Int} {m x mi:Nat} {l:List J} {nl:List Nt}
theorem VAt.lts (h:VAt w base v g cur gen m x mi l nl):v<w.heap.size∧m<w.heap.size∧x<w.heap.size∧mi<w.heap.size:=by
 obtain ⟨lo,hi,hb⟩:=h.blk
 exact ⟨hb.lt,h.st.lt,h.ix.lt.1,h.ix.lt.2⟩
theorem VAt.cells_ne (h:VAt w base v g cur gen m x mi l nl) {b:Nat} {T:TypeId} {cs:Array Value} {fr:Nat × Nat} (hb:w.heap[b]?=some (.cells cs T fr)):b≠m∧b≠mi:=by
 constructor
 ·rintro rfl
  obtain ⟨es,clock,hm⟩:=h.st.isMap
  rw [hm] at hb
  cases hb
 ·rintro rfl
  obtain ⟨D,⟨es,clock,hm,_⟩,_⟩:=h.ix.2.1
  rw [hm] at hb
  cases hb
theorem VAt.type_ne (h:VAt w base v g cur gen m x mi l nl) {b:Nat} {T:TypeId} {cs:Array Value} {fr:Nat × Nat} (hb:w.heap[b]?=some (.cells cs T fr)) (hT:T≠97):¬OwnV v m mi b:=by
 rintro (rfl | h1)
 ·obtain ⟨lo,hi,hv⟩:=h.blk
  unfold Blk at hv
  rw [hv] at hb
  injection hb with hb
  injection hb with _ h2 _
  exact hT h2.symm
 ·exact h1.elim (h.cells_ne hb).1 (h.cells_ne hb).2
theorem VAt.nexs (h:VAt w base v g cur gen m x mi l nl):v≠m∧v≠mi∧x≠m∧x≠mi∧x≠v:=by
 obtain ⟨lo,hi,hb⟩:=h.blk
 obtain ⟨a1,a2⟩:=h.cells_ne hb
 obtain ⟨b1,b2⟩:=h.cells_ne h.ix.1
 exact ⟨a1,a2,b1,b2,fun e=>h.type_ne h.ix.1 (by decide) (.inl e)⟩
theorem VAt.stay {S:Nat→Prop} (h:VAt w base v g cur gen m x mi l nl) (t:zai S w w') (hS:¬S v∧¬S m∧¬S x∧¬S mi):VAt w' base v g cur gen m x mi l nl:=by
 obtain ⟨lo,hi,hb⟩:=h.blk
 obtain ⟨l1,l2,l3,l4⟩:=h.lts
 exact ⟨⟨lo,hi,hb.turns t hS.1⟩,h.st.same (t.block m l2 hS.2.1),⟨h.ix.1.turns t hS.2.2.1,h.ix.2.1.same (t.block mi l4 hS.2.2.2),h.ix.2.2⟩,h.ints,h.ne,h.low⟩
theorem VAt.on (h:VAt w base v g cur gen m x mi l nl) (hb:Below w.heap.size w w'):VAt w' base v g cur gen m x mi l nl :=
 h.stay (S:=fun _=>False) (zai.of_below hb) ⟨id,id,id,id⟩
theorem VAt.drew (h:VAt w base v g cur gen m x mi l nl):VAt w.drew base v g cur gen m x mi l nl:=h.on (zag (Below.refl _ _))
theorem VAt.lower {base':Nat} (h:VAt w base v g cur gen m x mi l nl) (hb:base'≤base):VAt w base' v g cur gen m x mi l nl :=
 ⟨h.blk,h.st,h.ix,h.ints,h.ne,Nat.le_trans hb h.low.1,Nat.le_trans hb h.low.2.1,Nat.le_trans hb h.low.2.2.1,Nat.le_trans hb h.low.2.2.2⟩
theorem VAt.parts (h:VAt w base v g cur gen m x mi l nl) (hP:zad w) (hg:0<base) (t:zai (OwnV v m mi) w w'):zad w':=by
 have hl:=h.lts
 have hw:=h.low
 unfold zad World.var? at *
 rw [zcx] at *
 simp only [Option.bind_some] at *
 rw [t.block 0 (by omega) (by unfold OwnV;omega)]
 exact hP
theorem VAt.put {cur' gen':Int} (h:VAt w base v g cur gen m x mi l nl) (i:Nat) (u:Value) (hc:∀lo hi,∃lo' hi',(vaC g cur gen m x lo hi).setIfInBounds i u=vaC g cur' gen' m x lo' hi') :
  VAt (w.setCell ⟨v,i,none⟩ u) base v g cur' gen' m x mi l nl∧zai (fun b=>b=v) w (w.setCell ⟨v,i,none⟩ u):=by
 obtain ⟨lo,hi,hb⟩:=h.blk
 obtain ⟨lo',hi',e⟩:=hc lo hi
 obtain ⟨n1,n2,n3,n4,n5⟩:=h.nexs
 have t:zai (fun b=>b=v) w (w.setCell ⟨v,i,none⟩ u):=(zai.refl (fun b=>b=v) w).set (p:=⟨v,i,none⟩) (.inl rfl) u
 obtain ⟨l1,l2,l3,l4⟩:=h.lts
 exact ⟨⟨⟨lo',hi',e ▸ hb.set_ i u⟩,h.st.same (t.block m l2 (Ne.symm n1)),⟨h.ix.1.turns t n5,h.ix.2.1.same (t.block mi l4 (Ne.symm n2)),h.ix.2.2⟩,h.ints,h.ne,h.low⟩,t⟩
end
theorem zbw {w:World} {v g:Nat} {cur gen:Int} {m x:Nat} {lo hi:Int} (h:Blk w v 97 (vaC g cur gen m x lo hi)) :
  (w.cell? ⟨v,0,none⟩=some (.pointer (some ⟨g,0,none⟩))∧w.cell? ⟨v,1,none⟩=some (.int .i64 cur)∧w.cell? ⟨v,2,none⟩=some (.int .u64 gen)∧w.cell? ⟨v,3,none⟩=some (.map (some m))∧w.cell? ⟨v,4,none⟩=some (.pointer (some ⟨x,0,none⟩)) ∧
   w.cell? ⟨v,5,none⟩=some (.int .i64 lo)∧w.cell? ⟨v,6,none⟩=some (.int .i64 hi))∧∀i,w.frozen? ⟨v,i,none⟩=false :=
 ⟨⟨(h.cell 0).trans rfl,(h.cell 1).trans rfl,(h.cell 2).trans rfl,(h.cell 3).trans rfl,(h.cell 4).trans rfl,(h.cell 5).trans rfl,(h.cell 6).trans rfl⟩,h.frozen⟩
theorem zhY (v:Nat) (gen:Int) (w:World) (c2:w.cell? ⟨v,2,none⟩=some (.int .u64 gen)):Calls Tryz.prog 16 #[.pointer (some ⟨v,0,none⟩)] w fun e w'=>e=.returned (.int .u64 gen)∧w=w':=by
 go_enter Tryz.func16,Tryz.ntmps16
 go_wp2
 go_ret
 exact ⟨rfl,rfl⟩
theorem znx (v:Nat) (w:World) (c1:w.cell? ⟨v,1,none⟩=some (.int .i64 0)):Calls Tryz.prog 52 #[.pointer (some ⟨v,0,none⟩)] w fun e w'=>e=.returned (.int .i64 1)∧w=w':=by
 go_enter Tryz.func52,Tryz.ntmps52
 go_wp2
 go_ret
 exact ⟨rfl,rfl⟩
def zua (base v g:Nat) (cur gen:Int) (m x mi:Nat) (l:List J) (nl:List Nt) (w:World) (e:Ending) (w':World):Prop:=e=.returned (.tuple #[])∧VAt w' base v g cur gen m x mi l nl∧zai (fun b=>b=v) w w'
theorem zfb (base v g:Nat) (cur gen:Int) (m x mi:Nat) (l:List J) (nl:List Nt) (n:Int) (w:World) (h:VAt w base v g cur gen m x mi l nl) :
  Calls Tryz.prog 65 #[.pointer (some ⟨v,5,none⟩),.int .i64 n] w (zua base v g cur gen m x mi l nl w):=by
 obtain ⟨lo,hi,hb⟩:=h.blk
 have p1:=h.put 5 (.int .i64 (IntKind.i64.wrap (lo+n))) (cur':=cur) (gen':=gen) (fun lo' hi=>⟨IntKind.i64.wrap (lo+n),hi,rfl⟩)
 obtain ⟨q1,q2⟩:=p1.1.put 6 (.int .i64 (IntKind.i64.wrap (hi+n))) (fun lo hi'=>⟨lo,IntKind.i64.wrap (hi+n),rfl⟩)
 have HQ:=hid q1
 have HT:=hid (p1.2.trans q2 (fun _ _ h=>h))
 obtain ⟨⟨_,_,_,_,_,c5,c6⟩,f⟩:=zbw hb
 have f5:=f 5
 have f6:=f 6
 clear h hb p1 q1 q2 f
 obtain ⟨y,hy⟩:∃y,IntKind.i64.wrap (lo+n)=y:=⟨_,rfl⟩
 obtain ⟨z,hz⟩:∃z,IntKind.i64.wrap (hi+n)=z:=⟨_,rfl⟩
 rw [hy,hz] at HQ HT
 go_enter Tryz.func65,Tryz.ntmps65
 go_wp2
 refine bodyPost_ret (v:=.tuple #[]) (results_none (by kernel_rfl) _ _ _) rfl ⟨rfl,HQ.out,HT.out⟩
theorem zk8 (base v g:Nat) (cur gen:Int) (m x mi:Nat) (l:List J) (nl:List Nt) (w:World) (h:VAt w base v g cur gen m x mi l nl) :
  Calls Tryz.prog 64 #[.pointer (some ⟨v,5,none⟩)] w (zua base v g cur gen m x mi l nl w):=by
 obtain ⟨lo,hi,hb⟩:=h.blk
 obtain ⟨q1,q2⟩:=h.put 6 (.int .i64 (IntKind.i64.wrap (hi+128))) (fun lo hi'=>⟨lo,IntKind.i64.wrap (hi+128),rfl⟩)
 have HQ:=hid q1
 have HT:=hid q2
 obtain ⟨⟨_,_,_,_,_,c5,c6⟩,f⟩:=zbw hb
 have f6:=f 6
 clear h hb q1 q2 f
 obtain ⟨z,hz⟩:∃z,IntKind.i64.wrap (hi+128)=z:=⟨_,rfl⟩
 rw [hz] at HQ HT
 go_enter Tryz.func64,Tryz.ntmps64
 go_wp2
 refine bodyPost_ret (v:=.tuple #[]) (results_none (by kernel_rfl) _ _ _) rfl ⟨rfl,HQ.out,HT.out⟩
theorem znd (w:World) (hg:0<w.heap.size) :
  Calls Tryz.prog 78 #[] w fun e w'=>e=.returned (.pointer (some ⟨w.heap.size+1,0,none⟩))∧Ix w' (w.heap.size+1) w.heap.size []∧Below w.heap.size w w':=by
 have hmm:=@run_makeMap Tryz.prog
 go_enter Tryz.func78,Tryz.ntmps78
 go_wp2
 go_ret
 have h1:zdP (w.alloc (.map #[] 0)) w.heap.size 0 []:=zdP.made w
 have h2:Blk ((w.alloc (.map #[] 0)).alloc (.cells #[.map (some w.heap.size)] 178)) (w.heap.size+1) 178 #[.map (some w.heap.size)]:=by
  have h:=Blk.new (w.alloc (.map #[] 0)) 178 #[.map (some w.heap.size)]
  simpa using h
 refine ⟨rfl,⟨h2,h1.same ?_,zcA.nil,hg⟩,((Below.refl _ _).alloc (Nat.le_refl _) _).alloc (by simp) _⟩
 exact ((Below.refl (w.heap.size+1) (w.alloc (.map #[] 0))).alloc (by simp) _).block w.heap.size (by omega)
theorem zhZ (g:Nat) (cur:Int) (w:World) (hg:0<w.heap.size) :
  Calls Tryz.prog 46 #[.pointer (some ⟨g,0,none⟩),.int .i64 cur] w fun e w'=>∃v m x mi,e=.returned (.pointer (some ⟨v,0,none⟩))∧zbZ w' w.heap.size v g cur 0 m x mi []∧Below w.heap.size w w':=by
 have hmm:=@run_makeMap Tryz.prog
 have HN:=hid (znd (w.alloc (.map #[] 0)) (by simp <;> omega))
 go_enter Tryz.func46,Tryz.ntmps46
 go_wp2_with (go_at_call 78;refine HN.out.mono ?_;rintro e w1 ⟨rfl,hx,hb⟩;have HX:=hid hx;have HB:=hid hb;clear hx hb)
 go_ret
 have hB1:Below w.heap.size w w1:=((Below.refl _ w).alloc (Nat.le_refl _) (.map #[] 0)).trans (HB.out.mono (by simp))
 have hx:=HX.out.alloc (.cells (vaC g cur 0 w.heap.size ((w.alloc (.map #[] 0)).heap.size+1) 0 0) 97)
 have hs:=HX.out.lt
 have hst:StM (w1.alloc (.cells (vaC g cur 0 w.heap.size ((w.alloc (.map #[] 0)).heap.size+1) 0 0) 97)) w.heap.size 0 [] :=
  (StM.made w).same (((Below.refl w1.heap.size w1).alloc (Nat.le_refl _) _).block w.heap.size (by simp at hs;omega) |>.trans (HB.out.block w.heap.size (by simp)))
 simp only [World.size_alloc] at *
 exact ⟨_,_,_,_,rfl,⟨⟨0,0,Blk.new w1 _ _⟩,hst,hx,fun x hx=>by simp at hx,by omega,by omega,Nat.le_refl _,by omega,by omega⟩,hB1.alloc hB1.size _⟩
end Go.Proofs.YtnjdckoljmgcjaaGreatDoor
