/-
  Contracts of names of instances (package mark): Right, Word, OfWord, Compare, and the document's Right.
-/
import Derived.Test.YtnjdckoljmgcjaaGreatDoorW00
import Derived.Maps.AppendAt
import Derived.Maps.RangeWalk
import Derived.Deep.AppendLies
import Derived.Deep.Draws
import Derived.Deep.MidRow
import Derived.IntWalk
import Derived.Deep.RegionHeld3
import Derived.ChangeKeysEq
import Derived.Deep.Cut
import Derived.RegionTactic
import Derived.Laws.StructEq
import Derived.Test.YtnjdckoljmgcjaaGreatDoorWMini
set_option maxRecDepth 100000
set_option maxHeartbeats 4000000
namespace Go.Proofs.YtnjdckoljmgcjaaGreatDoor
open Go.ChangeShapes Go.WideShapes Go.ChangeAt Go.RowKit
def Held (B:Nat) (w:World) (A:Option Addr) (l:List Nat):Prop :=
 ∀(j x:Nat),l[j]?=some x→∃b o,A=some ⟨b,o,none⟩∧b<B∧w.cell? ⟨b,o+j,none⟩=some (.int .u8 (x:Int))
theorem Sees.held {w:World} {A:Option Addr} {l:List Nat} (h:Sees .u8 w A l):Held w.heap.size w A l:=h
theorem Held.sees {B:Nat} {w:World} {A:Option Addr} {l:List Nat} (h:Held B w A l) (hB:B≤w.heap.size):Sees .u8 w A l:=fun j x hj=>by
 obtain ⟨b,o,hA,hb,hc⟩:=h j x hj
 exact ⟨b,o,hA,by omega,hc⟩
theorem Held.below {B:Nat} {w w':World} {A:Option Addr} {l:List Nat} (h:Held B w A l) (hb:Below B w w'):Held B w' A l:=fun j x hj=>by
 obtain ⟨b,o,hA,hlt,hc⟩:=h j x hj
 exact ⟨b,o,hA,hlt,(hb.cell (by exact hlt)).trans hc⟩
theorem Held.nil (B:Nat) (w:World) (A:Option Addr):Held B w A []:=fun j x h=>by simp at h
theorem Held.take {B:Nat} {w:World} {A:Option Addr} {l:List Nat} (h:Held B w A l) (i:Nat):Held B w A (l.take i):=fun j x hj=>by
 refine h j x ?_
 rw [List.getElem?_take] at hj
 split at hj
 ·exact hj
 ·cases hj
theorem Held.rest {B:Nat} {w:World} {b o i:Nat} {l:List Nat} (h:Held B w (some ⟨b,o,none⟩) l):Held B w (some ⟨b,o+i,none⟩) (l.drop i):=fun j x hj=>by
 rw [List.getElem?_drop] at hj
 obtain ⟨b',o',hA',hlt,hc⟩:=h _ x hj
 injection hA' with h1
 injection h1 with h2 h3
 subst h2;subst h3
 exact ⟨b,o+i,rfl,hlt,by rw [Nat.add_assoc];exact hc⟩
theorem zpW {P:Program} (t e:TypeId) (i:TypeInfo) (ht:P.underlying t=some (.slice e)) (hi:P.info? e=some i) {B:Nat} {w0:World} {A:Option Addr} {l:List Nat} {n c k:Nat} (hk:k≤n) (hc:n≤c) (h:Held B w0 A l) (hA:A=none→c=0) :
  ∃A1,(∀w,(Instr.slice t (.slice A n c) none (some (.int .i64 (k:Int))) (some (.int .i64 (k:Int)))).run P w=.ok (.slice A1 k k) w)∧(A1=none→k=0)∧Held B w0 A1 (l.take k):=by
 have he:P.elem t=e:=by simp [Program.elem,ht]
 have hsz:∀w,(sizeOf (P.elem t)).run P w=.ok i.size w:=fun w=>by rw [he];simp [sizeOf,typeInfo,hi]
 refine ⟨if k=0 then A else A.map (·.add (0 * i.size)),fun w=>?_,fun hn'=>?_,?_⟩
 ·rw [run_slice_hm (P:=P) w t A n c (by rw [ht,he]) .i64 .i64 (k:Int) (k:Int) (by omega) (by omega) (by omega),hsz]
  simp [Result.andThen,sliced]
 ·by_cases h0:k=0
  ·exact h0
  ·rw [if_neg h0] at hn'
   cases A with
   | none=>have:=hA rfl;omega
   | some a=>cases hn'
 ·by_cases h0:k=0
  ·rw [h0,List.take_zero]
   exact Held.nil _ _ _
  ·rw [if_neg h0,Nat.zero_mul]
   have e:A.map (·.add 0)=A:=by cases A <;> simp [Addr.add]
   rw [e]
   exact h.take k
theorem zmu {P:Program} (t e:TypeId) (i:TypeInfo) (ht:P.underlying t=some (.slice e)) (hi:P.info? e=some i) (hs:i.size=1) {B:Nat} {w0:World} {A:Option Addr} {l:List Nat} {n c k:Nat} (hn:l.length=n) (hk:k≤n) (hc:n≤c) (h:Held B w0 A l) (hA:A=none→c=0) :
  ∃A1,(∀w,(Instr.slice t (.slice A n c) (some (.int .i64 (k:Int))) none none).run P w=.ok (.slice A1 (n - k) (c - k)) w)∧(A1=none→c - k=0)∧Held B w0 A1 (l.drop k):=by
 have he:P.elem t=e:=by simp [Program.elem,ht]
 have hsz:∀w,(sizeOf (P.elem t)).run P w=.ok i.size w:=fun w=>by rw [he];simp [sizeOf,typeInfo,hi]
 refine ⟨if c=k then A else A.map (·.add (k * i.size)),fun w=>?_,fun hn'=>?_,?_⟩
 ·rw [run_slice_l (P:=P) w t A n c (by rw [ht,he]) .i64 (k:Int) (by omega) (by omega),hsz]
  simp [Result.andThen,sliced]
 ·by_cases h0:c=k
  ·omega
  ·rw [if_neg h0] at hn'
   cases A with
   | none=>have:=hA rfl;omega
   | some a=>cases hn'
 ·by_cases h0:k<n
  ·rw [if_neg (by omega),hs,Nat.mul_one]
   obtain ⟨b,o,rfl,_,_⟩:=h 0 l[0] (List.getElem?_eq_getElem (by omega))
   rw [show (some (⟨b,o,none⟩:Addr)).map (·.add k)=some ⟨b,o+k,none⟩ by simp [add_plain]]
   exact h.rest
  ·rw [List.drop_of_length_le (by omega)]
   exact Held.nil _ _ _
theorem zt1 {P:Program} (t e:TypeId) (i:TypeInfo) (ht:P.underlying t=some (.slice e)) (hi:P.info? e=some i) (hs:i.size=1) {B:Nat} {w0:World} {A:Option Addr} {l:List Nat} {n c k m:Nat} (hn:l.length=n) (hk:k≤m) (hm:m≤n) (hc:n≤c) (h:Held B w0 A l) (hA:A=none→c=0) :
  ∃A1,(∀w,(Instr.slice t (.slice A n c) (some (.int .i64 (k:Int))) (some (.int .i64 (m:Int))) none).run P w=.ok (.slice A1 (m - k) (c - k)) w)∧(A1=none→c - k=0)∧Held B w0 A1 ((l.drop k).take (m - k)):=by
 have he:P.elem t=e:=by simp [Program.elem,ht]
 have hsz:∀w,(sizeOf (P.elem t)).run P w=.ok i.size w:=fun w=>by rw [he];simp [sizeOf,typeInfo,hi]
 refine ⟨if c=k then A else A.map (·.add (k * i.size)),fun w=>?_,fun hn'=>?_,?_⟩
 ·rw [run_slice_lh (P:=P) w t A n c (by rw [ht,he]) .i64 .i64 (k:Int) (m:Int) (by omega) (by omega) (by omega),hsz]
  simp [Result.andThen,sliced]
 ·by_cases h0:c=k
  ·omega
  ·rw [if_neg h0] at hn'
   cases A with
   | none=>have:=hA rfl;omega
   | some a=>cases hn'
 ·by_cases h0:k<n
  ·rw [if_neg (by omega),hs,Nat.mul_one]
   obtain ⟨b,o,rfl,_,_⟩:=h 0 l[0] (List.getElem?_eq_getElem (by omega))
   rw [show (some (⟨b,o,none⟩:Addr)).map (·.add k)=some ⟨b,o+k,none⟩ by simp [add_plain]]
   exact h.rest.take _
  ·rw [List.drop_of_length_le (by omega),List.take_nil]
   exact Held.nil _ _ _
def Blk (w:World) (g:Nat) (t:TypeId) (cs:Array Value):Prop:=w.heap[g]?=some (.cells cs t (0,0))
section
variable {w w':World} {g:Nat} {t:TypeId} {cs:Array Value}
theorem Blk.lt (h:Blk w g t cs):g<w.heap.size:=by
 rcases Nat.lt_or_ge g w.heap.size with hlt | hge
 ·exact hlt
 ·unfold Blk at h;rw [Array.getElem?_eq_none hge] at h;cases h
theorem Blk.heap (h:Blk w g t cs):w.heap[g]?=some (.cells cs t (0,0)):=h
theorem Blk.cell (h:Blk w g t cs) (i:Nat):w.cell? ⟨g,i,none⟩=cs[i]?:=cell_of_row w g i cs t (0,0) h
theorem Blk.frozen (h:Blk w g t cs) (i:Nat):w.frozen? ⟨g,i,none⟩=false:=by
 unfold Blk at h
 simp [World.frozen?,h]
theorem Blk.new (w:World) (t:TypeId) (cs:Array Value):Blk (w.alloc (.cells cs t)) w.heap.size t cs:=heap_alloc_new w _
theorem Blk.drew (h:Blk w g t cs):Blk w.drew g t cs:=h
theorem Blk.alloc (h:Blk w g t cs) (o:Obj):Blk (w.alloc o) g t cs:=(Below.heap_alloc w o g h.lt).trans h
theorem Blk.set_ (h:Blk w g t cs) (i:Nat) (u:Value):Blk (w.setCell ⟨g,i,none⟩ u) g t (cs.setIfInBounds i u):=by
 unfold Blk at h ⊢
 simp [World.setCell,Array.getElem?_modify,h]
theorem Blk.far (h:Blk w g t cs) {p:Addr} (hp:g≠p.block) (u:Value):Blk (w.setCell p u) g t cs:=(Below.heap_setCell w p u g hp).trans h
theorem Blk.below {B:Nat} (h:Blk w g t cs) (hb:Below B w w') (hg:g<B):Blk w' g t cs:=(hb.block g hg).trans h
theorem Blk.grown {row:Option Nat} (h:Blk w g t cs) (hb:w.grownBy w' row) (hg:some g≠row):Blk w' g t cs:=(hb.block g h.lt hg).trans h
end
theorem zaD {a w:World} {g:Nat} (h:a.grownBy w (some g)) {p:Addr} (hp:p.block=g∨a.heap.size≤p.block) (u:Value):a.grownBy (w.setCell p u) (some g) :=
 ⟨h.os,h.tape,h.output,by simpa [World.setCell] using h.size,fun i hi hne=>(Below.heap_setCell w p u i (by
  rintro rfl
  rcases hp with hp | hp
  ·exact hne (by rw [hp])
  ·omega)).trans (h.block i hi hne)⟩
theorem zam {a w:World} (h:Below a.heap.size a w) (row:Option Nat):a.grownBy w row:=⟨h.os,h.tape,h.output,h.size,fun i hi _=>h.block i hi⟩
theorem zci {B g:Nat} {a w:World} (h:a.grownBy w (some g)) (hB:B≤g) (hg:B≤a.heap.size):Below B a w :=
 ⟨h.os,h.tape,h.output,h.size,fun i hi=>h.block i (by omega) (by simp;omega)⟩
theorem zb2 {a b c:World} {g:Nat} (h:a.grownBy b (some g)) (k:Below b.heap.size b c):a.grownBy c (some g):=h.trans (zam k _)
def lsA (f:Nat→Int):List Value:=(List.range 8).map fun i=>Value.int .i64 (f i)
def lsD (f:Nat→Int):List Value:=(List.range 7).map fun i=>Value.int .i64 (f (i+1))
def rowA (f:Nat→Int):Array Value:=(lsA f).toArray
def upd (f:Nat→Int) (k:Nat) (x:Int):Nat→Int:=fun i=>if i=k then x else f i
theorem zcp (f:Nat→Int):(rowA f).size=8:=by simp [rowA,lsA]
theorem zk7 (f:Nat→Int):(lsD f).length=7:=by simp [lsD]
theorem zfC (f:Nat→Int) {i:Nat} (h:i<8):(rowA f)[i]?=some (.int .i64 (f i)):=by
 simp [rowA,lsA,List.getElem?_range h]
theorem zhK (f:Nat→Int) {i:Nat} (h:i<7):(lsD f)[i]?=some (.int .i64 (f (i+1))):=by
 simp [lsD,List.getElem?_range h]
theorem zfZ {f g:Nat→Int} (h:∀i,i<8→f i=g i):rowA f=rowA g:=by
 unfold rowA lsA
 congr 1
 refine List.map_congr_left fun i hi=>?_
 rw [h i (List.mem_range.1 hi)]
theorem zcX {f g:Nat→Int} (h:rowA f=rowA g) {i:Nat} (hi:i<8):f i=g i:=by
 have h1:=zfC f hi
 rw [h,zfC g hi] at h1
 injection h1 with h1
 injection h1 with _ h1
 exact h1.symm
theorem zrG (f:Nat→Int) (k:Nat) (x:Int):(rowA f).setIfInBounds k (.int .i64 x)=rowA (upd f k x):=by
 apply Array.ext
 ·simp [zcp]
 ·intro i h1 h2
  have hi:i<8:=by rw [zcp] at h2;exact h2
  have e1:=zfC f hi
  have e2:=zfC (upd f k x) hi
  rw [Array.getElem_setIfInBounds (by rw [zcp];exact hi)]
  have e3:=(Array.getElem?_eq_some_iff.1 e2).2
  rw [e3]
  have e4:=(Array.getElem?_eq_some_iff.1 e1).2
  unfold upd
  by_cases e:k=i
  ·subst e;simp
  ·rw [if_neg e,if_neg (Ne.symm e)];exact e4
theorem zdF (f:Nat→Int):(rowA f).all (·.oneCell')=true:=by
 simp [rowA,lsA,Value.oneCell']
theorem zrW (f:Nat→Int) (k:Nat):upd f k (f k)=f:=by
 funext i;unfold upd;split
 ·next h=>rw [h]
 ·rfl
def mx (f g:Nat→Int):Nat→Int:=fun i=>if f i<g i then g i else f i
def mxTo (f g:Nat→Int) (k:Nat):Nat→Int:=fun i=>if i<k then (if f i<g i then g i else f i) else f i
theorem zfl (f g:Nat→Int) (k:Nat):rowA (upd (mxTo f g k) k (if f k<g k then g k else f k))=rowA (mxTo f g (k+1)):=zfZ fun i _=>by
 unfold upd mxTo
 by_cases h:i=k
 ·subst h;simp
 ·rw [if_neg h]
  by_cases h2:i<k
  ·simp only [if_pos h2,if_pos (show i<k+1 by omega)]
  ·simp only [if_neg h2,if_neg (show ¬i<k+1 by omega)]
theorem zlc (f g:Nat→Int) (k:Nat):mxTo f g k k=f k:=by unfold mxTo;rw [if_neg (by omega)]
theorem zht (f g:Nat→Int):mxTo f g 0=f:=by funext i;unfold mxTo;rw [if_neg (by omega)]
theorem zl9 (f g:Nat→Int) {k:Nat} (h:8≤k):rowA (mxTo f g k)=rowA (mx f g):=zfZ fun i hi=>by
 unfold mxTo mx;simp only [if_pos (show i<k by omega)]
theorem zkC {f g:Nat→Int} {k:Nat} (h:¬f k<g k):rowA (mxTo f g k)=rowA (mxTo f g (k+1)):=by
 rw [←zfl,if_neg h,←zlc f g k,zrW]
theorem zmD {f g:Nat→Int} {k:Nat} (h:f k<g k):rowA (upd (mxTo f g k) k (g k))=rowA (mxTo f g (k+1)):=by
 rw [←zfl,if_pos h]
def okB (f:Nat→Int):Bool:=decide (0≤f 0∧f 0≤1073741824) && (List.range 7).all fun i=>decide (0≤f (i+1)∧f (i+1)≤1024)
theorem zem {f:Nat→Int}:okB f=true ↔ (0≤f 0∧f 0≤1073741824)∧∀i,i<7→0≤f (i+1)∧f (i+1)≤1024:=by simp [okB,List.all_eq_true]
theorem Blk.att {w:World} {g:Nat} {T:TypeId} {f:Nat→Int} (h:Blk w g T (rowA f)) {i:Nat} (hi:i<8):w.cell? ⟨g,i,none⟩=some (.int .i64 (f i)):=(h.cell i).trans (zfC f hi)
theorem Blk.attSet {w:World} {g:Nat} {T:TypeId} {f:Nat→Int} (h:Blk w g T (rowA f)) (i:Nat) (x:Int):Blk (w.setCell ⟨g,i,none⟩ (.int .i64 x)) g T (rowA (upd f i x)):=by
 have:=h.set_ i (.int .i64 x)
 rwa [zrG] at this
theorem Blk.range {w:World} {g:Nat} {T:TypeId} {f:Nat→Int} (h:Blk w g T (rowA f)):w.rangeAt g 1 (lsD f):=by
 intro j v hv
 have hj:j<7:=by rw [←zk7 f];exact (List.getElem?_eq_some_iff.1 hv).1
 rw [zhK f hj] at hv
 rw [h.att (by omega),←hv,Nat.add_comm 1 j]
theorem Blk.as {w:World} {g:Nat} {T:TypeId} {cs ds:Array Value} (h:Blk w g T cs) (e:cs=ds):Blk w g T ds:=e ▸ h
end Go.Proofs.YtnjdckoljmgcjaaGreatDoor
namespace Go.Proofs.YtnjdckoljmgcjaaGreatDoor
def repB (r:Int):Bool:=decide (0≤r∧r≤6)
def zds (r s:Int):Bool:=decide (0≤r∧r≤6∧0≤s∧s≤1023)
def zmB (n r:Int):Bool:=decide ((n=0∧r=0)∨(0<n∧n≤16777215∧0≤r∧r≤6))
def zcC (b:Nat):Bool:=decide (b=0∨(8≤b∧b / 8≤16777215∧b % 8<7))
theorem zkD (b:Nat):zmB ((b / 8:Nat):Int) ((b % 8:Nat):Int)=zcC b:=by
 unfold zmB zcC
 rw [decide_eq_decide]
 omega
end Go.Proofs.YtnjdckoljmgcjaaGreatDoor
namespace Go.Proofs.YtnjdckoljmgcjaaGreatDoor
open Go.ChangeShapes Go.WideShapes Go.ChangeAt Go.RowKit
theorem zcW (r:Int) (w:World) :
  Calls Tryz.prog 140 #[.int .i64 r] w fun e w'=>e=.returned (.bool (repB r))∧w=w':=by
 go_enter Tryz.func140,Tryz.ntmps140
 go_wp2
 all_goals go_ret
 all_goals exact ⟨zab (by unfold repB;rw [Bool.eq_iff_iff];simp;try omega),rfl⟩
theorem zpe (b:Nat) (w:World) (hb:b<4294967296) :
  Calls Tryz.prog 168 #[.int .u32 (b:Int)] w fun e w'=>e=.returned (.int .i64 ((b / 8:Nat):Int))∧w=w':=by
 go_enter Tryz.func168,Tryz.ntmps168
 go_wp2
 go_ret
 exact ⟨zba (by go_num),rfl⟩
theorem zkZ (b:Nat) (w:World) (hb:b<4294967296) :
  Calls Tryz.prog 169 #[.int .u32 (b:Int)] w fun e w'=>e=.returned (.int .i64 ((b % 8:Nat):Int))∧w=w':=by
 go_enter Tryz.func169,Tryz.ntmps169
 go_wp2
 go_ret
 exact ⟨zba (by go_num),rfl⟩
theorem zku (n r:Int) (w:World) :
  Calls Tryz.prog 167 #[.int .i64 n,.int .i64 r] w fun e w'=>e=.returned (.bool (zmB n r))∧w=w':=by
 go_enter Tryz.func167,Tryz.ntmps167
 go_wp2_with (go_at_call 140;refine (zcW _ _).mono ?_;rintro e w' ⟨rfl,rfl⟩)
 all_goals go_ret
 all_goals refine ⟨zab ?_,rfl⟩
 all_goals (unfold zmB;try unfold repB)
 all_goals (rw [Bool.eq_iff_iff];simp only [beq_iff_eq,beq_eq_false_iff_ne,ne_eq,decide_eq_true_eq,Bool.false_eq_true,false_iff] at *)
 all_goals omega
theorem zdo (b:Nat) (w:World) (hb:b<4294967296) :
  Calls Tryz.prog 134 #[.int .u32 (b:Int)] w fun e w'=>e=.returned (.bool (zcC b))∧w=w':=by
 have HP:=hid (zkD b)
 go_enter Tryz.func134,Tryz.ntmps134
 go_wp2_with (first
  | (go_at_call 168;refine (zpe _ _ hb).mono ?_;rintro e w' ⟨rfl,rfl⟩)
  | (go_at_call 169;refine (zkZ _ _ hb).mono ?_;rintro e w' ⟨rfl,rfl⟩)
  | (go_at_call 167;refine (zku _ _ _).mono ?_;rintro e w' ⟨rfl,rfl⟩))
 go_ret
 exact ⟨zab HP.out,rfl⟩
theorem zi5 (b:Nat) (w:World) (hb:b<4294967296) :
  Calls Tryz.prog 93 #[.int .u32 (b:Int)] w fun e w'=>e=.returned (.bool (zcC b))∧w=w':=by
 obtain ⟨q,hq⟩:∃q:Int,(b:Int) / 8=q:=⟨_,rfl⟩
 obtain ⟨r,hr⟩:∃r:Int,(b:Int) % 8=r:=⟨_,rfl⟩
 have HB:Hid (zcC b=decide (b=0∨(0<q∧q≤16777215∧r<7))):=hid (by unfold zcC;rw [decide_eq_decide];omega)
 have HQ:Hid (q=0→(b:Int)=r):=hid (by omega)
 have HP:=hid (show 0≤q by omega)
 go_enter Tryz.func93,Tryz.ntmps93
 rcases Decidable.em (q=0) with h0 | h0
 ·have HR:=hid (HQ.out h0)
  subst h0
  go_wp2
  all_goals go_ret
  all_goals exact ⟨zab (by rw [HB.out];rw [Bool.eq_iff_iff];simp),rfl⟩
 ·have hz:((q:Int) == 0)=false:=beq_eq_false_iff_ne.2 h0
  rcases Int.lt_or_le q 16777216 with h1 | h1
  ·go_wp2
   all_goals go_ret
   all_goals exact ⟨zab (by have:=HP.out;rw [HB.out];rw [Bool.eq_iff_iff];simp;omega),rfl⟩
  ·go_wp2
   all_goals go_ret
   all_goals exact ⟨zab (by have:=HP.out;rw [HB.out];rw [Bool.eq_iff_iff];simp;omega),rfl⟩
end Go.Proofs.YtnjdckoljmgcjaaGreatDoor
namespace Go.Proofs.YtnjdckoljmgcjaaGreatDoor
open Go.ChangeShapes Go.WideShapes Go.ChangeAt Go.RowKit
set_option linter.unusedVariables false
theorem zak {B:Nat} {a w:World} {g:Nat} {cs:Array Value} (h:Below B a w) (hg:B≤g):Below B a (w.setRow g cs) :=
 h.trans ⟨rfl,rfl,rfl,by simp,fun k hk=>setRow_other w g k cs (by omega)⟩
theorem zhm:(Tryz.prog.info? 64).map (·.size)=some 8:=by kernel_rfl
theorem zm7:(Tryz.prog.info? 62).map (·.size)=some 7:=by kernel_rfl
theorem zhk:(#[.int .i64 0,.int .i64 0,.int .i64 0,.int .i64 0,.int .i64 0,.int .i64 0,.int .i64 0,.int .i64 0]:Array Value)=rowA fun _=>0:=rfl
theorem zjM {w W:World} {T U V:TypeId} {a b c:Array Value} (h:((w.alloc (.cells a T)).alloc (.cells b U)).alloc (.cells c V)=W) :
  Hid (Blk W w.heap.size T a)∧Hid (Blk W (w.heap.size+1) U b)∧Hid (Blk W (w.heap.size+1+1) V c)∧Hid (Below w.heap.size w W):=by
 subst h
 have h1:=Blk.new w T a
 have h2:=Blk.new (w.alloc (.cells a T)) U b
 have h3:=Blk.new ((w.alloc (.cells a T)).alloc (.cells b U)) V c
 rw [show (w.alloc (.cells a T)).heap.size=w.heap.size+1 by simp] at h2
 rw [show ((w.alloc (.cells a T)).alloc (.cells b U)).heap.size=w.heap.size+1+1 by simp] at h3
 exact ⟨hid ((h1.alloc _).alloc _),hid (h2.alloc _),hid h3,hid ((((Below.refl _ w).alloc (Nat.le_refl _) _).alloc (by simp) _).alloc (by simp <;> omega) _)⟩
theorem zhF (f:Nat→Int):(Tryz.prog.info? 62).map (·.size)=some (lsD f).length:=by rw [zk7];exact zm7
theorem zml (f:Nat→Int):(Tryz.prog.info? 64).map (·.size)=some (rowA f).size:=by rw [zcp];exact zhm
theorem zgG (f:Nat→Int):(rowA fun _=>0).size=(rowA f).size:=by rw [zcp,zcp]
theorem zdc (cs:Array Value) (j:Nat) (v:Value) (hj:j<7) (hv:cs[j]?=some v) (w:World):(Instr.index 62 (.agg cs) (.int .i64 (j:Int))).run Tryz.prog w=.ok v w:=by
 obtain ⟨i,hi⟩:∃i,Tryz.prog.info? 3=some i:=Option.isSome_iff_exists.1 (show (Tryz.prog.info? 3).isSome=true by kernel_rfl)
 have hs:=run_sizeOf (P:=Tryz.prog) w hi
 rw [show Tryz.prog.cellsOf 3=1 by kernel_rfl] at hs
 have hp:=run_part_plain (P:=Tryz.prog) (w:=w) (e:=3) (by kernel_rfl) hv
 have h1:(0:Int)≤(j:Int)∧(j:Int)<((7:Nat):Int):=by omega
 simp only [Instr.index,asIntOf,Sem.run_bind,Sem.run_pure,run_underlying Tryz.underlying62,Result.andThen_ok,Sem.run_ite,if_pos h1,hs,Int.toNat_natCast,Nat.mul_one,hp]
theorem zrR (P:Program) (a b m:Int) (h:(if a<b then b else a)=m) (w:World) (ts:Array TypeId) (t:TypeId):(Builtin.max_ ts t #[.int .i64 a,.int .i64 b]).run P w=.ok (.int .i64 m) w:=by
 subst h
 by_cases h:a<b <;> simp [Builtin.max_,Builtin.max2,h]
theorem zrT (P:Program) (a b m:Int) (h:min a b=m) (w:World) (ts:Array TypeId) (t:TypeId):(Builtin.min_ ts t #[.int .i64 a,.int .i64 b]).run P w=.ok (.int .i64 m) w:=by
 subst h
 rcases (show b<a∨a≤b by omega) with h | h
 ·have:min a b=b:=by omega
  rw [this]
  simp [Builtin.min_,Builtin.min2,h]
 ·have:min a b=a:=by omega
  rw [this]
  have h2:¬b<a:=by omega
  simp [Builtin.min_,Builtin.min2,h2]
theorem zqO (f g:Nat→Int) (w:World) :
  Calls Tryz.prog 141 #[.agg (rowA f),.agg (rowA g)] w fun e w'=>e=.returned (.agg (rowA (mx f g)))∧Below w.heap.size w w':=by
 go_enter Tryz.func141,Tryz.ntmps141
 go_upto_region 1 with fail
 obtain ⟨W,hW⟩:∃W,((w.alloc (.cells (rowA f) 64)).alloc (.cells (rowA g) 64)).alloc (.cells #[.int .i64 0,.int .i64 0,.int .i64 0,.int .i64 0,.int .i64 0,.int .i64 0,.int .i64 0,.int .i64 0] 64)=W:=⟨_,rfl⟩
 rw [hW]
 obtain ⟨K0,K1,K2,KB⟩:=zjM hW
 rw [zhk] at K2
 clear hW
 obtain ⟨k,hk⟩:∃k,w.heap.size=k:=⟨_,rfl⟩
 rw [hk] at K0 K1 K2 KB
 rw [hk]
 have c0:=K0.out.att (i:=0) (by decide)
 have d0:=K1.out.att (i:=0) (by decide)
 have f0:=K0.out.frozen 0
 have H7:=hid (zhF g)
 go_upto_region 2 with fail
 obtain ⟨W1,hW1⟩:∃W1,W.setCell ⟨k,0,none⟩ (.int .i64 (if f 0<g 0 then g 0 else f 0))=W1:=⟨_,rfl⟩
 rw [hW1]
 have M0:Hid (Blk W1 k 64 (rowA (mxTo f g 1))):=hid (by rw [←hW1,←zfl f g 0,zht];exact K0.out.attSet 0 _)
 have M1:Hid (Blk W1 (k+1) 64 (rowA g)):=hid (by rw [←hW1];exact K1.out.far (by simp) _)
 have M2:Hid (Blk W1 (k+1+1) 64 (rowA fun _=>0)):=hid (by rw [←hW1];exact K2.out.far (by simp <;> omega) _)
 have MB:Hid (Below k w W1):=hid (by rw [←hW1];exact KB.out.setCell (Nat.le_refl _) _)
 have MR:=hid M1.out.range
 clear hW1 K0 K1 K2 KB c0 d0 f0
 generalize (if f 0<g 0 then g 0 else f 0)=m0
 go_wp2_with (with_reducible refine wpList_load_mid (op:=⟨some 14,_,_,_,_,_⟩) rfl 62 (.tmp 13) rfl (k+1) 1 rfl (lsD g) _ MR.out Tryz.underlying62 rfl H7.out ?_)
 have HI:Hid (∀j:Nat,j<7→(lsD g)[j]?=some (.int .i64 (g (1+j)))):=hid (fun j hj=>by rw [zhK g hj,Nat.add_comm])
 have HN:=hid (zk7 g)
 obtain ⟨ds,hds⟩:∃ds,lsD g=ds:=⟨_,rfl⟩
 rw [hds] at HI HN
 rw [hds]
 clear hds MR H7
 go_loopw [15] (fun iv wr=>∃j:Nat,j≤7∧iv=.int .i64 j∧Hid (Blk wr k 64 (rowA (mxTo f g (1+j))))∧Hid (Blk wr (k+1+1) 64 (rowA fun _=>0))∧Hid (Below k w wr)) (fun iv _=>7 - (intOf iv).toNat)
 case atStart=>exact ⟨0,by omega,rfl,M0,M2,MB⟩
 case round =>
  obtain ⟨j,hj,rfl,H0,H2,HB⟩:=hrel
  by_cases hlt:j<7
  ·have hx:=zdc ds.toArray j _ hlt ((List.getElem?_toArray ..).trans (HI.out j hlt))
   have c1:=H0.out.att (i:=1+j) (by omega)
   rw [zlc] at c1
   have f1:=H0.out.frozen (1+j)
   have HS:=H0.out.attSet (1+j) (if f (1+j)<g (1+j) then g (1+j) else f (1+j))
   rw [zfl] at HS
   have HS:=hid HS
   have HB2:=hid (HB.out.setCell (p:=⟨k,1+j,none⟩) (Nat.le_refl _) (.int .i64 (if f (1+j)<g (1+j) then g (1+j) else f (1+j))))
   have H3:=hid (H2.out.far (p:=⟨k,1+j,none⟩) (by simp <;> omega) (.int .i64 (if f (1+j)<g (1+j) then g (1+j) else f (1+j))))
   go_wp2
   go_roundw
   case rel=>exact ⟨j+1,by omega,by go_num,HS,H3,HB2⟩
   case measure=>simp only [intOf];omega
  ·have hj7:1+j=8:=by omega
   rw [hj7,zl9 f g (Nat.le_refl _)] at H0
   have L1:=hid (zml (mx f g))
   have L2:=hid (zgG (mx f g))
   have L3:=hid (zdF (mx f g))
   clear hj7
   go_wp2_with (first
    | (with_reducible refine wpList_load_row (o:=⟨some 29,_,_,_,_,_⟩) rfl 64 (.tmp 2) rfl k rfl 64 (rowA (mx f g)) (0,0) _ H0.out.heap Tryz.underlying64 rfl L1.out ?_)
    | (with_reducible refine wpList_store_row (o:=⟨none,_,_,_,_,_⟩) rfl 64 (.tmp 4) (.tmp 29) rfl (k+1+1) (rowA (mx f g)) rfl rfl 64 _ H2.out.heap L1.out L2.out L3.out ?_))
   exact bodyPost_ret (v:=.agg (rowA (mx f g))) (results_cell_row (p:=4) (ty:=64) (by kernel_rfl) _ _ (k+1+1) 64 (rowA (mx f g)) (0,0) _ rfl (setRow_heap wr (k+1+1) _ (rowA (mx f g)) _ _ H2.out.heap) Tryz.underlying64 rfl L1.out) rfl ⟨rfl,by rw [hk];exact zak HB.out (by omega)⟩
theorem za1 {w W:World} {T:TypeId} {a:Array Value} (h:w.alloc (.cells a T)=W):Hid (Blk W w.heap.size T a)∧Hid (Below w.heap.size w W):=by
 subst h
 exact ⟨hid (Blk.new w T a),hid ((Below.refl _ w).alloc (Nat.le_refl _) _)⟩
theorem zcE {w W:World} {T U:TypeId} {a b:Array Value} (h:(w.alloc (.cells a T)).alloc (.cells b U)=W) :
  Hid (Blk W w.heap.size T a)∧Hid (Blk W (w.heap.size+1) U b)∧Hid (Below w.heap.size w W):=by
 subst h
 have h2:=Blk.new (w.alloc (.cells a T)) U b
 rw [show (w.alloc (.cells a T)).heap.size=w.heap.size+1 by simp] at h2
 exact ⟨hid ((Blk.new w T a).alloc _),hid h2,hid (((Below.refl _ w).alloc (Nat.le_refl _) _).alloc (by simp) _)⟩
theorem zor {f:Nat→Int} (h:¬(0≤f 0∧f 0≤1073741824)):okB f=false:=by
 rw [Bool.eq_false_iff];intro hh;exact h (zem.1 hh).1
theorem zpN {f:Nat→Int} {j:Nat} (hj:j<7) (h:¬(0≤f (1+j)∧f (1+j)≤1024)):okB f=false:=by
 rw [Bool.eq_false_iff];intro hh;rw [Nat.add_comm] at h;exact h ((zem.1 hh).2 j hj)
theorem zoJ {f:Nat→Int} {j:Nat} (hj:7≤j) (h0:0≤f 0∧f 0≤1073741824) (h:∀i,i<j→0≤f (1+i)∧f (1+i)≤1024):okB f=true :=
 zem.2 ⟨h0,fun i hi=>by have:=h i (by omega);rwa [Nat.add_comm] at this⟩
theorem zuo {f:Nat→Int} {j:Nat} (hj:7≤j) (h:∀i,i<j→0≤f (1+i)∧f (1+i)≤1024):okB f=decide (0≤f 0∧f 0≤1073741824):=by
 by_cases h0:0≤f 0∧f 0≤1073741824
 ·rw [zoJ hj h0 h,decide_eq_true h0]
 ·rw [zor h0,decide_eq_false h0]
theorem zna (f:Nat→Int) (w:World) :
  Calls Tryz.prog 165 #[.agg (rowA f)] w fun e w'=>e=.returned (.bool (okB f))∧Below w.heap.size w w':=by
 go_enter Tryz.func165,Tryz.ntmps165
 go_upto_region 1 with fail
 obtain ⟨W,hW⟩:∃W,w.alloc (.cells (rowA f) 64)=W:=⟨_,rfl⟩
 rw [hW]
 obtain ⟨K0,KB⟩:=za1 hW
 clear hW
 obtain ⟨k,hk⟩:∃k,w.heap.size=k:=⟨_,rfl⟩
 rw [hk] at K0 KB
 rw [hk]
 have HK:=hid hk
 clear hk
 have c0:=K0.out.att (i:=0) (by decide)
 by_cases hs:0≤f 0∧f 0≤1073741824
 ·have HS:=hid hs
  obtain ⟨h1,h2⟩:=hs
  have H7:=hid (zhF f)
  have MR:=hid K0.out.range
  go_wp2_with (with_reducible refine wpList_load_mid (op:=⟨some 14,_,_,_,_,_⟩) rfl 62 (.tmp 13) rfl k 1 rfl (lsD f) _ MR.out Tryz.underlying62 rfl H7.out ?_)
  have HI:Hid (∀j:Nat,j<7→(lsD f)[j]?=some (.int .i64 (f (1+j)))):=hid (fun j hj=>by rw [zhK f hj,Nat.add_comm])
  obtain ⟨ds,hds⟩:∃ds,lsD f=ds:=⟨_,rfl⟩
  rw [hds] at HI
  rw [hds]
  clear hds MR H7 c0
  go_loop [15] (fun iv=>∃j:Nat,j≤7∧iv=.int .i64 j∧Hid (∀i,i<j→0≤f (1+i)∧f (1+i)≤1024)) (fun iv=>7 - (intOf iv).toNat)
  case atStart=>exact ⟨0,by omega,rfl,hid (fun i hi=>absurd hi (by omega))⟩
  case round =>
   obtain ⟨j,hj,rfl,H⟩:=hrel
   by_cases hlt:j<7
   ·have hx:=zdc ds.toArray j _ hlt ((List.getElem?_toArray ..).trans (HI.out j hlt))
    have HF:=hid (fun h=>zpN (f:=f) hlt h)
    have HN:Hid (0≤f (1+j)∧f (1+j)≤1024→∀i,i<j+1→0≤f (1+i)∧f (1+i)≤1024):=hid (fun h i hi=>by
     rcases (show i<j∨i=j by omega) with h2 | h2
     ·exact H.out i h2
     ·rw [h2];exact h)
    generalize f (1+j)=x at hx HF HN
    rcases (show x<0∨1024<x∨(0≤x∧x≤1024) by omega) with h | h | h
    ·have HV:=hid (HF.out (by omega))
     go_wp2
     go_ret
     exact ⟨zab HV.out.symm,by rw [HK.out];exact KB.out⟩
    ·have HV:=hid (HF.out (by omega))
     go_wp2
     go_ret
     exact ⟨zab HV.out.symm,by rw [HK.out];exact KB.out⟩
    ·have HV:=hid (HN.out h)
     obtain ⟨h3,h4⟩:=h
     go_wp2
     go_round
     case rel=>exact ⟨j+1,by omega,by go_num,HV⟩
     case measure=>simp only [intOf];omega
   ·have HV:=hid (zoJ (f:=f) (by omega) HS.out H.out)
    go_wp2
    go_ret
    exact ⟨zab HV.out.symm,by rw [HK.out];exact KB.out⟩
 ·have HV:=hid (zor hs)
  rcases (show f 0<0∨1073741824<f 0 by omega) with h | h
  all_goals
   clear hs
   go_wp2
   go_ret
   exact ⟨zab HV.out.symm,by rw [HK.out];exact KB.out⟩
theorem zjz (f:Nat→Int) (w:World) :
  Calls Tryz.prog 95 #[.agg (rowA f)] w fun e w'=>e=.returned (.bool (okB f))∧Below w.heap.size w w':=by
 go_enter Tryz.func95,Tryz.ntmps95
 go_upto_region 1 with fail
 obtain ⟨W,hW⟩:∃W,w.alloc (.cells (rowA f) 81)=W:=⟨_,rfl⟩
 rw [hW]
 obtain ⟨K0,KB⟩:=za1 hW
 clear hW
 obtain ⟨k,hk⟩:∃k,w.heap.size=k:=⟨_,rfl⟩
 rw [hk] at K0 KB
 rw [hk]
 have HK:=hid hk
 clear hk
 go_wp2
 go_loop [3] (fun iv=>∃j:Nat,j≤7∧iv=.int .i64 j∧Hid (∀i,i<j→0≤f (1+i)∧f (1+i)≤1024)) (fun iv=>7 - (intOf iv).toNat)
 case atStart=>exact ⟨0,by omega,rfl,hid (fun i hi=>absurd hi (by omega))⟩
 case round =>
  obtain ⟨j,hj,rfl,H⟩:=hrel
  by_cases hlt:j<7
  ·have c1:=K0.out.att (i:=1+j) (by omega)
   have HF:=hid (fun h=>zpN (f:=f) hlt h)
   have HN:Hid (0≤f (1+j)∧f (1+j)≤1024→∀i,i<j+1→0≤f (1+i)∧f (1+i)≤1024):=hid (fun h i hi=>by
    rcases (show i<j∨i=j by omega) with h2 | h2
    ·exact H.out i h2
    ·rw [h2];exact h)
   generalize f (1+j)=x at c1 HF HN
   rcases (show x<0∨1024<x∨(0≤x∧x≤1024) by omega) with h | h | h
   ·have HV:=hid (HF.out (by omega))
    go_wp2
    go_ret
    exact ⟨zab HV.out.symm,by rw [HK.out];exact KB.out⟩
   ·have HV:=hid (HF.out (by omega))
    go_wp2
    go_ret
    exact ⟨zab HV.out.symm,by rw [HK.out];exact KB.out⟩
   ·have HV:=hid (HN.out h)
    obtain ⟨h3,h4⟩:=h
    go_wp2
    go_round
    case rel=>exact ⟨j+1,by omega,by go_num,HV⟩
    case measure=>simp only [intOf];omega
  ·have HV:=hid (zuo (f:=f) (by omega) H.out)
   have c0:=K0.out.att (i:=0) (by decide)
   generalize f 0=x at c0 HV
   rcases (show x<0∨1073741824<x∨(0≤x∧x≤1073741824) by omega) with h | h | ⟨h,h2⟩
   all_goals
    go_wp2
    go_ret
    exact ⟨zab (by rw [HV.out];rw [Bool.eq_iff_iff];simp;try omega),by rw [HK.out];exact KB.out⟩
theorem zqL:(Tryz.prog.info? 81).map (·.size)=some 8:=by kernel_rfl
theorem zrw (f:Nat→Int):(Tryz.prog.info? 81).map (·.size)=some (rowA f).size:=by rw [zcp];exact zqL
theorem zjC (f g:Nat→Int) (w:World) :
  Calls Tryz.prog 72 #[.agg (rowA f),.agg (rowA g)] w fun e w'=>e=.returned (.agg (rowA (mx f g)))∧Below w.heap.size w w':=by
 go_enter Tryz.func72,Tryz.ntmps72
 go_upto_region 1 with fail
 obtain ⟨W,hW⟩:∃W,((w.alloc (.cells (rowA f) 81)).alloc (.cells (rowA g) 81)).alloc (.cells #[.int .i64 0,.int .i64 0,.int .i64 0,.int .i64 0,.int .i64 0,.int .i64 0,.int .i64 0,.int .i64 0] 81)=W:=⟨_,rfl⟩
 rw [hW]
 obtain ⟨K0,K1,K2,KB⟩:=zjM hW
 rw [zhk] at K2
 clear hW
 obtain ⟨k,hk⟩:∃k,w.heap.size=k:=⟨_,rfl⟩
 rw [hk] at K0 K1 K2 KB
 rw [hk]
 have HK:=hid hk
 clear hk
 have c0:=K0.out.att (i:=0) (by decide)
 have d0:=K1.out.att (i:=0) (by decide)
 have f0:=K0.out.frozen 0
 have HP:Hid (f 0<g 0→Blk (W.setCell ⟨k,0,none⟩ (.int .i64 (g 0))) k 81 (rowA (mxTo f g 1))):=hid (fun h=>by
  rw [←zmD (k:=0) h,zht];exact K0.out.attSet 0 _)
 have HQ:Hid (¬f 0<g 0→Blk W k 81 (rowA (mxTo f g 1))):=hid (fun h=>by
  rw [←zkC (k:=0) h,zht];exact K0.out)
 generalize f 0=x at c0 HP HQ
 generalize g 0=y at d0 HP HQ
 rcases (show x<y∨¬x<y by omega) with h | h
 case' inl =>
  have M0:=hid (HP.out h)
  go_upto_region 3 with fail
  have M1:Hid (Blk (W.setCell ⟨k,0,none⟩ (.int .i64 y)) (k+1) 81 (rowA g)):=hid (K1.out.far (by simp) _)
  have M2:Hid (Blk (W.setCell ⟨k,0,none⟩ (.int .i64 y)) (k+1+1) 81 (rowA fun _=>0)):=hid (K2.out.far (by simp <;> omega) _)
  have MB:Hid (Below k w (W.setCell ⟨k,0,none⟩ (.int .i64 y))):=hid (KB.out.setCell (Nat.le_refl _) _)
  generalize W.setCell ⟨k,0,none⟩ (.int .i64 y)=W1 at M0 M1 M2 MB ⊢
 case' inr =>
  have M0:=hid (HQ.out h)
  have M1:=K1
  have M2:=K2
  have MB:=KB
  have hle:y≤x:=by omega
  go_upto_region 3 with fail
  obtain ⟨W1,hW1⟩:∃W1,W=W1:=⟨_,rfl⟩
  rw [hW1] at M0 M1 M2 MB ⊢
  clear hW1 hle
 all_goals
  clear h HP HQ K0 K1 K2 KB c0 d0 f0
  go_wp2_with fail
  go_loopw [5] (fun iv wr=>∃j:Nat,j≤7∧iv=.int .i64 j∧Hid (Blk wr k 81 (rowA (mxTo f g (1+j))))∧Hid (Blk wr (k+1) 81 (rowA g))∧Hid (Blk wr (k+1+1) 81 (rowA fun _=>0))∧Hid (Below k w wr)) (fun iv _=>7 - (intOf iv).toNat)
  case atStart=>exact ⟨0,by omega,rfl,M0,M1,M2,MB⟩
  case round =>
   obtain ⟨j,hj,rfl,H0,H1,H2,HB⟩:=hrel
   by_cases hlt:j<7
   ·have c1:=H0.out.att (i:=1+j) (by omega)
    rw [zlc] at c1
    have d1:=H1.out.att (i:=1+j) (by omega)
    have c2:(wr.drewN 1).cell? ⟨k,1+j,none⟩=_:=c1
    have f1:=H0.out.frozen (1+j)
    have HP:Hid (f (1+j)<g (1+j)→Blk (wr.setCell ⟨k,1+j,none⟩ (.int .i64 (g (1+j)))) k 81 (rowA (mxTo f g (1+j+1)))):=hid (fun h=>by
     rw [←zmD h];exact H0.out.attSet (1+j) _)
    have HQ:Hid (¬f (1+j)<g (1+j)→Blk wr k 81 (rowA (mxTo f g (1+j+1)))):=hid (fun h=>by
     rw [←zkC h];exact H0.out)
    generalize f (1+j)=x at c1 c2 HP HQ
    generalize g (1+j)=y at d1 HP HQ
    rcases (show x<y∨¬x<y by omega) with h | h
    ·have N0:=hid (HP.out h)
     have N1:=hid (H1.out.far (p:=⟨k,1+j,none⟩) (by simp) (.int .i64 y))
     have N2:=hid (H2.out.far (p:=⟨k,1+j,none⟩) (by simp <;> omega) (.int .i64 y))
     go_wp2_with fail
     go_quiet (fail)
     go_wp2
     go_roundw
     case rel=>exact ⟨j+1,by omega,by go_num,N0,N1,N2,hid ((zav HB.out _).setCell (p:=⟨k,1+j,none⟩) (Nat.le_refl _) (.int .i64 y))⟩
     case measure=>simp only [intOf];omega
    ·have N0:=hid (HQ.out h)
     have hle:y≤x:=by omega
     go_wp2_with fail
     go_quiet (fail)
     go_wp2
     go_roundw
     case rel=>exact ⟨j+1,by omega,by go_num,N0,H1,H2,hid (zav HB.out _)⟩
     case measure=>simp only [intOf];omega
   ·have hj7:1+j=8:=by omega
    rw [hj7,zl9 f g (Nat.le_refl _)] at H0
    have L1:=hid (zrw (mx f g))
    have L2:=hid (zgG (mx f g))
    have L3:=hid (zdF (mx f g))
    clear hj7
    go_wp2_with (first
     | (with_reducible refine wpList_load_row (o:=⟨some 34,_,_,_,_,_⟩) rfl 81 (.tmp 2) rfl k rfl 81 (rowA (mx f g)) (0,0) _ H0.out.heap Tryz.underlying81 rfl L1.out ?_)
     | (with_reducible refine wpList_store_row (o:=⟨none,_,_,_,_,_⟩) rfl 81 (.tmp 4) (.tmp 34) rfl (k+1+1) (rowA (mx f g)) rfl rfl 81 _ H2.out.heap L1.out L2.out L3.out ?_))
    exact bodyPost_ret (v:=.agg (rowA (mx f g))) (results_cell_row (p:=4) (ty:=81) (by kernel_rfl) _ _ (k+1+1) 81 (rowA (mx f g)) (0,0) _ rfl (setRow_heap wr (k+1+1) _ (rowA (mx f g)) _ _ H2.out.heap) Tryz.underlying81 rfl L1.out) rfl ⟨rfl,by rw [HK.out];exact zak HB.out (by omega)⟩
end Go.Proofs.YtnjdckoljmgcjaaGreatDoor
namespace Go.Proofs.YtnjdckoljmgcjaaGreatDoor
open Go.ChangeShapes Go.WideShapes Go.ChangeAt Go.RowKit
set_option linter.unusedVariables false
set_option linter.unusedSimpArgs false
abbrev cs8 (f:Nat→Int):Array Value:=#[.int .i64 (f 0),.int .i64 (f 1),.int .i64 (f 2),.int .i64 (f 3),.int .i64 (f 4),.int .i64 (f 5),.int .i64 (f 6),.int .i64 (f 7)]
abbrev cs7 (f:Nat→Int):Array Value:=#[.int .i64 (f 1),.int .i64 (f 2),.int .i64 (f 3),.int .i64 (f 4),.int .i64 (f 5),.int .i64 (f 6),.int .i64 (f 7)]
abbrev va (f:Nat→Int):Value:=.agg (cs8 f)
theorem zoB (f:Nat→Int) {i:Nat} (h:i<7):(cs7 f)[i]?=some (.int .i64 (f (i+1))):=by
 have e:cs7 f=(lsD f).toArray:=rfl
 rw [e,List.getElem?_toArray];exact zhK f h
def eqD (f g:Nat→Int):Bool:=(List.range 7).all fun i=>f (i+1) == g (i+1)
def eqA (f g:Nat→Int):Bool:=f 0 == g 0 && eqD f g
theorem ztV {f g:Nat→Int}:eqD f g=true ↔ ∀i,i<7→f (i+1)=g (i+1):=by simp [eqD,List.all_eq_true]
theorem zdG {f g:Nat→Int}:eqA f g=true ↔ ∀i,i<8→f i=g i:=by
 unfold eqA
 rw [Bool.and_eq_true,beq_iff_eq,ztV]
 constructor
 ·rintro ⟨h0,h⟩ i hi
  cases i with
  | zero=>exact h0
  | succ i=>exact h i (by omega)
 ·intro h
  exact ⟨h 0 (by decide),fun i hi=>h (i+1) (by omega)⟩
theorem zmJ (f:Nat→Int):eqA f f=true:=zdG.2 fun _ _=>rfl
theorem zhD (f g:Nat→Int) (d:Nat) (w:World):∀is:List Nat,(∀i∈is,i<7)→(Op.eqItems (d+1) 3 1 (cs7 f) (cs7 g) is).run Tryz.prog w=.ok (is.all fun i=>f (i+1) == g (i+1)) w
 | [],_=>by simp [Op.eqItems]
 | i :: is,h=>by
  have hi:(cs7 f)[i * 1]?=some (.int .i64 (f (i+1))):=by rw [Nat.mul_one];exact zoB f (h i (by simp))
  have hj:(cs7 g)[i * 1]?=some (.int .i64 (g (i+1))):=by rw [Nat.mul_one];exact zoB g (h i (by simp))
  have hp:=run_part_plain (P:=Tryz.prog) (w:=w) (e:=3) (by kernel_rfl) hi
  have hq:=run_part_plain (P:=Tryz.prog) (w:=w) (e:=3) (by kernel_rfl) hj
  have he:=run_equalIn_int (P:=Tryz.prog) w d 3 .i64 .i64 (f (i+1)) (g (i+1)) Tryz.underlying3
  have ih:=zhD f g d w is (fun j hj=>h j (by simp [hj]))
  obtain ⟨x,hx⟩:∃x,(f (i+1) == g (i+1))=x:=⟨_,rfl⟩
  rw [hx] at he
  simp only [Op.eqItems,Sem.run_bind,hp,hq,Result.andThen_ok,he,List.all_cons,hx]
  cases x
  ·simp
  ·simpa using ih
theorem zgy (f g:Nat→Int) (d:Nat) (w:World):(Op.equalIn (d+2) 62 (.agg (cs7 f)) (.agg (cs7 g))).run Tryz.prog w=.ok (eqD f g) w:=by
 obtain ⟨i,hi⟩:∃i,Tryz.prog.info? 3=some i:=Option.isSome_iff_exists.1 (show (Tryz.prog.info? 3).isSome=true by kernel_rfl)
 rw [run_equalIn_array w (d+1) _ _ Tryz.underlying62 hi]
 have hc:Tryz.prog.cellsOf 3=1:=by kernel_rfl
 rw [hc]
 exact zhD f g d w _ (fun i hi=>List.mem_range.1 hi)
theorem zcP (f:Nat→Int) (w:World):(part 62 (cs8 f) 1).run Tryz.prog w=.ok (.agg (cs7 f)) w:=by
 simp [go_sem,part]
theorem ztm (f g:Nat→Int) (b:Bool) (hb:eqA f g=b) (w:World):(Op.equalIn 10000 64 (.agg #[.int .i64 (f 0),.int .i64 (f 1),.int .i64 (f 2),.int .i64 (f 3),.int .i64 (f 4),.int .i64 (f 5),.int .i64 (f 6),.int .i64 (f 7)]) (.agg #[.int .i64 (g 0),.int .i64 (g 1),.int .i64 (g 2),.int .i64 (g 3),.int .i64 (g 4),.int .i64 (g 5),.int .i64 (g 6),.int .i64 (g 7)])).run Tryz.prog w=.ok b w:=by
 have ht:Tryz.prog.underlying 64=some (.struct (Tryz.prog.fieldsOf 64)):=by kernel_rfl
 have hp:Tryz.prog.stoodInHeld 64=false:=by kernel_rfl
 rw [run_equalIn_struct w 9999 _ _ _ ht hp]
 have p0:=run_part_plain (P:=Tryz.prog) (w:=w) (e:=3) (by kernel_rfl) (xs:=cs8 f) (off:=0) rfl
 have q0:=run_part_plain (P:=Tryz.prog) (w:=w) (e:=3) (by kernel_rfl) (xs:=cs8 g) (off:=0) rfl
 have p1:=zcP f w
 have q1:=zcP g w
 have e0:=run_equalIn_int (P:=Tryz.prog) w 9998 3 .i64 .i64 (f 0) (g 0) Tryz.underlying3
 have e1:=zgy f g 9997 w
 subst hb
 unfold eqA
 obtain ⟨x,hx⟩:∃x,(f 0 == g 0)=x:=⟨_,rfl⟩
 rw [hx] at e0 ⊢
 obtain ⟨y,hy⟩:∃y,eqD f g=y:=⟨_,rfl⟩
 rw [hy] at e1 ⊢
 cases x <;> cases y <;> simp [Program.fieldsOf,Tryz.underlying64,Op.eqFields,p0,p1,q0,q1,e0,e1,Sem.run_bind,Sem.run_ite,Result.andThen_ok]
theorem zlb (f g:Nat→Int) (b:Bool) (hb:eqA f g=b) (w:World):(Op.equalIn 10000 81 (.agg #[.int .i64 (f 0),.int .i64 (f 1),.int .i64 (f 2),.int .i64 (f 3),.int .i64 (f 4),.int .i64 (f 5),.int .i64 (f 6),.int .i64 (f 7)]) (.agg #[.int .i64 (g 0),.int .i64 (g 1),.int .i64 (g 2),.int .i64 (g 3),.int .i64 (g 4),.int .i64 (g 5),.int .i64 (g 6),.int .i64 (g 7)])).run Tryz.prog w=.ok b w:=by
 have ht:Tryz.prog.underlying 81=some (.struct (Tryz.prog.fieldsOf 81)):=by kernel_rfl
 have hp:Tryz.prog.stoodInHeld 81=false:=by kernel_rfl
 rw [run_equalIn_struct w 9999 _ _ _ ht hp]
 have p0:=run_part_plain (P:=Tryz.prog) (w:=w) (e:=3) (by kernel_rfl) (xs:=cs8 f) (off:=0) rfl
 have q0:=run_part_plain (P:=Tryz.prog) (w:=w) (e:=3) (by kernel_rfl) (xs:=cs8 g) (off:=0) rfl
 have p1:=zcP f w
 have q1:=zcP g w
 have e0:=run_equalIn_int (P:=Tryz.prog) w 9998 3 .i64 .i64 (f 0) (g 0) Tryz.underlying3
 have e1:=zgy f g 9997 w
 subst hb
 unfold eqA
 obtain ⟨x,hx⟩:∃x,(f 0 == g 0)=x:=⟨_,rfl⟩
 rw [hx] at e0 ⊢
 obtain ⟨y,hy⟩:∃y,eqD f g=y:=⟨_,rfl⟩
 rw [hy] at e1 ⊢
 cases x <;> cases y <;> simp [Program.fieldsOf,Tryz.underlying81,Op.eqFields,p0,p1,q0,q1,e0,e1,Sem.run_bind,Sem.run_ite,Result.andThen_ok]
theorem znB:Tryz.prog.eqGuardType Tryz.prog.depth 64=false:=by kernel_rfl
theorem zfU:Tryz.prog.eqGuardType Tryz.prog.depth 81=false:=by kernel_rfl
theorem zuj (f g:Nat→Int) (w:World):Calls Tryz.prog 141 #[.agg #[.int .i64 (f 0),.int .i64 (f 1),.int .i64 (f 2),.int .i64 (f 3),.int .i64 (f 4),.int .i64 (f 5),.int .i64 (f 6),.int .i64 (f 7)],.agg #[.int .i64 (g 0),.int .i64 (g 1),.int .i64 (g 2),.int .i64 (g 3),.int .i64 (g 4),.int .i64 (g 5),.int .i64 (g 6),.int .i64 (g 7)]] w fun e w'=>e=.returned (.agg #[.int .i64 (mx f g 0),.int .i64 (mx f g 1),.int .i64 (mx f g 2),.int .i64 (mx f g 3),.int .i64 (mx f g 4),.int .i64 (mx f g 5),.int .i64 (mx f g 6),.int .i64 (mx f g 7)])∧Below w.heap.size w w':=zqO f g w
theorem zqs (f g:Nat→Int) (w:World):Calls Tryz.prog 72 #[.agg #[.int .i64 (f 0),.int .i64 (f 1),.int .i64 (f 2),.int .i64 (f 3),.int .i64 (f 4),.int .i64 (f 5),.int .i64 (f 6),.int .i64 (f 7)],.agg #[.int .i64 (g 0),.int .i64 (g 1),.int .i64 (g 2),.int .i64 (g 3),.int .i64 (g 4),.int .i64 (g 5),.int .i64 (g 6),.int .i64 (g 7)]] w fun e w'=>e=.returned (.agg #[.int .i64 (mx f g 0),.int .i64 (mx f g 1),.int .i64 (mx f g 2),.int .i64 (mx f g 3),.int .i64 (mx f g 4),.int .i64 (mx f g 5),.int .i64 (mx f g 6),.int .i64 (mx f g 7)])∧Below w.heap.size w w':=zjC f g w
theorem zjp (f:Nat→Int) (w:World):Calls Tryz.prog 165 #[.agg #[.int .i64 (f 0),.int .i64 (f 1),.int .i64 (f 2),.int .i64 (f 3),.int .i64 (f 4),.int .i64 (f 5),.int .i64 (f 6),.int .i64 (f 7)]] w fun e w'=>e=.returned (.bool (okB f))∧Below w.heap.size w w':=zna f w
def zuv (w:World) (g:Nat) (f:Nat→Int):Prop :=
 w.cell? ⟨g,0,none⟩=some (.int .i64 (f 0))∧w.cell? ⟨g,1,none⟩=some (.int .i64 (f 1))∧w.cell? ⟨g,2,none⟩=some (.int .i64 (f 2))∧w.cell? ⟨g,3,none⟩=some (.int .i64 (f 3)) ∧
  w.cell? ⟨g,4,none⟩=some (.int .i64 (f 4))∧w.cell? ⟨g,5,none⟩=some (.int .i64 (f 5))∧w.cell? ⟨g,6,none⟩=some (.int .i64 (f 6))∧w.cell? ⟨g,7,none⟩=some (.int .i64 (f 7))
theorem Blk.eight {w:World} {g:Nat} {T:TypeId} {f:Nat→Int} (h:Blk w g T (rowA f)):zuv w g f :=
 ⟨h.att (by decide),h.att (by decide),h.att (by decide),h.att (by decide),h.att (by decide),h.att (by decide),h.att (by decide),h.att (by decide)⟩
end Go.Proofs.YtnjdckoljmgcjaaGreatDoor
namespace Go.Proofs.YtnjdckoljmgcjaaGreatDoor
open Go.ChangeShapes Go.WideShapes Go.ChangeAt Go.RowKit
abbrev nm (r s:Int):Value:=.agg #[.int .i64 r,.int .i64 s]
theorem blkn {w:World} {g:Nat} {T:TypeId} {a b:Value} (h:Blk w g T #[a,b]):(w.cell? ⟨g,0,none⟩=some a∧w.cell? ⟨g,1,none⟩=some b)∧w.frozen? ⟨g,0,none⟩=false∧w.frozen? ⟨g,1,none⟩=false :=
 ⟨⟨(h.cell 0).trans rfl,(h.cell 1).trans rfl⟩,h.frozen 0,h.frozen 1⟩
theorem zfi (r s:Int) (w:World) :
  Calls Tryz.prog 92 #[nm r s] w fun e w'=>e=.returned (.bool (zds r s))∧Below w.heap.size w w':=by
 go_enter Tryz.func92,Tryz.ntmps92
 go_wp2
 all_goals go_ret
 all_goals exact ⟨zab (by unfold zds;rw [Bool.eq_iff_iff];simp;try omega),(Below.refl _ _).alloc (Nat.le_refl _) _⟩
theorem zeJ (r s:Int) (w:World) :
  Calls Tryz.prog 101 #[nm r s] w fun e w'=>e=.returned (.bool (zds r s))∧Below w.heap.size w w':=by
 obtain ⟨x,hx⟩:∃x,repB r=x:=⟨_,rfl⟩
 have HX:=hid hx
 clear hx
 cases x
 all_goals
  go_enter Tryz.func101,Tryz.ntmps101
  go_wp2_with (go_at_call 140;refine (zcW _ _).mono ?_;rintro e w' ⟨rfl,rfl⟩;rw [HX.out])
  all_goals go_ret
  all_goals exact ⟨zab (by have h:=HX.out;unfold repB at h;simp only [decide_eq_true_eq,decide_eq_false_iff_not] at h;unfold zds;rw [Bool.eq_iff_iff];simp;try omega),(Below.refl _ _).alloc (Nat.le_refl _) _⟩
theorem zt4 (r s r2 s2:Int) (b:Bool) (hb:(r == r2 && s == s2)=b) (w:World) :
  (Op.equalIn 10000 55 (.agg #[.int .i64 r,.int .i64 s]) (.agg #[.int .i64 r2,.int .i64 s2])).run Tryz.prog w=.ok b w:=by
 have ht:Tryz.prog.underlying 55=some (.struct (Tryz.prog.fieldsOf 55)):=by kernel_rfl
 have hp:Tryz.prog.stoodInHeld 55=false:=by kernel_rfl
 rw [run_equalIn_struct w 9999 _ _ _ ht hp]
 have p1:=run_part_plain (P:=Tryz.prog) (w:=w) (e:=3) (by kernel_rfl) (xs:=#[.int .i64 r,.int .i64 s]) (off:=0) rfl
 have p2:=run_part_plain (P:=Tryz.prog) (w:=w) (e:=3) (by kernel_rfl) (xs:=#[.int .i64 r,.int .i64 s]) (off:=1) rfl
 have p3:=run_part_plain (P:=Tryz.prog) (w:=w) (e:=3) (by kernel_rfl) (xs:=#[.int .i64 r2,.int .i64 s2]) (off:=0) rfl
 have p4:=run_part_plain (P:=Tryz.prog) (w:=w) (e:=3) (by kernel_rfl) (xs:=#[.int .i64 r2,.int .i64 s2]) (off:=1) rfl
 have q1:=run_equalIn_int (P:=Tryz.prog) w 9998 3 .i64 .i64 r r2 Tryz.underlying3
 have q2:=run_equalIn_int (P:=Tryz.prog) w 9998 3 .i64 .i64 s s2 Tryz.underlying3
 subst hb
 cases h:(r == r2) <;> simp [Program.fieldsOf,Tryz.underlying55,Op.eqFields,p1,p2,p3,p4,q1,q2,h,Sem.run_bind,Sem.run_ite,Result.andThen_ok]
 by_cases h2:s=s2 <;> simp [h2]
theorem zsz:Tryz.prog.eqGuardType Tryz.prog.depth 55=false:=by kernel_rfl
def zuU (r s:Int):Nat:=if zds r s then r.toNat * 4294967296+s.toNat else 0
theorem ze9 {r s:Int} (h:zds r s=true):∃a b:Nat,r=a∧s=b∧a<7∧b<1024∧zuU r s=a * 4294967296+b:=by
 have h2:=h
 unfold zds at h2
 rw [decide_eq_true_eq] at h2
 refine ⟨r.toNat,s.toNat,by omega,by omega,by omega,by omega,?_⟩
 unfold zuU;rw [if_pos h]
def cmpN (a b:Int):Int:=if a<b then -1 else if b<a then 1 else 0
def zky (r s r2 s2:Int):Int:=if cmpN r r2≠0 then cmpN r r2 else cmpN s s2
theorem zhc (a:Int) (w:World):Calls Tryz.prog 112 #[.int .i64 a] w fun e w'=>e=.returned (.bool false)∧w=w':=by
 go_enter Tryz.func112,Tryz.ntmps112
 go_wp2
 go_ret
 exact ⟨zab (by simp),rfl⟩
theorem zfV (a b:Int) (w:World):Calls Tryz.prog 77 #[.int .i64 a,.int .i64 b] w fun e w'=>e=.returned (.int .i64 (cmpN a b))∧w=w':=by
 rcases (show a<b∨b<a∨a=b by omega) with h | h | h
 ·have HV:Hid (cmpN a b=-1):=hid (by unfold cmpN;rw [if_pos h])
  go_enter Tryz.func77,Tryz.ntmps77
  go_wp2_with (go_at_call 112;refine (zhc _ _).mono ?_;rintro e w' ⟨rfl,rfl⟩)
  go_ret
  exact ⟨zba HV.out.symm,rfl⟩
 ·have HV:Hid (cmpN a b=1):=hid (by unfold cmpN;rw [if_neg (by omega),if_pos h])
  go_enter Tryz.func77,Tryz.ntmps77
  go_wp2_with (go_at_call 112;refine (zhc _ _).mono ?_;rintro e w' ⟨rfl,rfl⟩)
  go_ret
  exact ⟨zba HV.out.symm,rfl⟩
 ·subst h
  have HV:Hid (cmpN a a=0):=hid (by unfold cmpN;rw [if_neg (by omega),if_neg (by omega)])
  go_enter Tryz.func77,Tryz.ntmps77
  go_wp2_with (go_at_call 112;refine (zhc _ _).mono ?_;rintro e w' ⟨rfl,rfl⟩)
  go_ret
  exact ⟨zba HV.out.symm,rfl⟩
end Go.Proofs.YtnjdckoljmgcjaaGreatDoor
