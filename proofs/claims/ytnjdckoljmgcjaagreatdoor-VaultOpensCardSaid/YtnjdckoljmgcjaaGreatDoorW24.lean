/-
  The contracts of records (of states), frames, sizeOf, own (package vault).
-/
import Derived.Test.YtnjdckoljmgcjaaGreatDoorW23
import Derived.Handy
set_option maxRecDepth 100000
set_option maxHeartbeats 4000000
namespace Go.Proofs.YtnjdckoljmgcjaaGreatDoor
open Go.ChangeShapes Go.WideShapes Go.ChangeAt Go.RowKit
set_option linter.unusedVariables false
set_option linter.unusedSimpArgs false
theorem ztG {w W:World} {T:TypeId} {a:Array Value} (h:w.alloc (.cells a T)=W):Hid (Blk W w.heap.size T a)∧Hid (Below w.heap.size w W):=by
 subst h
 exact ⟨hid (Blk.new w T a),hid ((Below.refl _ w).alloc (Nat.le_refl _) _)⟩
def zfa (d:Dk) (a b:Int):Nat→Dk
 | 0=>d
 | 1=>zdL d 0 a
 | _=>zdL (zdL d 0 a) 1 b
def zmV (a b:Int) (j:Nat):Int:=if j=0 then a else b
theorem zpy {d:Dk} (h:d.Ok) (a b:Int):∀j,j≤2→(zfa d a b j).Ok
 | 0,_=>h
 | 1,_=>zd3 h (by decide) a
 | 2,_=>zd3 (zd3 h (by decide) a) (by decide) b
theorem zk9 (d:Dk) (a b:Int):∀j,j<2→zfa d a b (j+1)=zdL (zfa d a b j) j (zmV a b j)
 | 0,_=>rfl
 | 1,_=>rfl
theorem zpO {w:World} {p:Nat} {t:TypeId} {a b:Int} (h:Blk w p t #[.int .i64 a,.int .i64 b]):∀j,j<2→w.cell? ⟨p,j,none⟩=some (.int .i64 (zmV a b j))
 | 0,_=>(h.cell 0).trans rfl
 | 1,_=>(h.cell 1).trans rfl
def zlW (w wr:World) (base g p:Nat) (d:Dk) (v:Nat→Value) (a b:Int) (j:Nat):Prop :=
 ∃v',zaj wr base g (zfa d a b j) v'∧zai (OwnD g v) w wr∧(∀b,OwnD g v' b→OwnD g v b∨w.heap.size≤b)∧Blk wr p 24 #[.int .i64 a,.int .i64 b]∧¬OwnD g v' p
theorem zfn (base g:Nat) (d:Dk) (v:Nat→Value) (a b:Int) (w:World) (h:zaj w base g d v) (ho:d.Ok) :
  Calls Tryz.prog 13 #[.pointer (some ⟨g,0,none⟩),.agg #[.int .i64 a,.int .i64 b]] w (zby base g v (zeC d a b) (.tuple #[]) w):=by
 have HD:=hid h
 have HO:=hid ho
 clear h ho
 go_enter Tryz.func13,Tryz.ntmps13
 go_upto_region 1 with fail
 obtain ⟨W,hW⟩:∃W,w.alloc (.cells #[.int .i64 a,.int .i64 b] 24)=W:=⟨_,rfl⟩
 rw [hW]
 obtain ⟨K0,KB⟩:=ztG hW
 clear hW
 have D0:=hid (HD.out.on KB.out)
 obtain ⟨p,hp⟩:∃p,w.heap.size=p:=⟨_,rfl⟩
 have HP:=hid hp
 have C0:Hid (zlW w W base g p d v a b 0):=hid ⟨v,D0.out,.of_below KB.out,fun b hb=>.inl hb,hp ▸ K0.out,fun h=>by have:=(HD.out.own h).2;omega⟩
 rw [hp]
 clear hp K0 KB D0
 go_wp2_with fail
 go_loopw [5] (fun iv wr=>∃j:Nat,j≤2∧iv=.int .i64 j∧Hid (zlW w wr base g p d v a b j)) (fun iv _=>2 - (intOf iv).toNat)
 case atStart=>exact ⟨0,by decide,rfl,C0⟩
 case round =>
  clear C0
  obtain ⟨j,hj,rfl,HC⟩:=hrel
  by_cases hlt:j<2
  ·obtain ⟨v1,D,T,O,B,N⟩:=HC.out
   have D1:=hid D
   have T1:=hid T
   have O1:=hid O
   have B1:=hid B
   have N1:=hid N
   have HN:=hid (zk9 d a b j hlt)
   have HL:=hid (fun W (h:zaj W base g (zfa d a b j) v1)=>zrA base g _ v1 j (zmV a b j) W h (zpy HO.out a b j (by omega)) hlt)
   obtain ⟨q,hq⟩:∃q,zmV a b j=q:=⟨_,rfl⟩
   have KC:=hid (fun W (h:Blk W p 24 #[.int .i64 a,.int .i64 b])=>zpO h j hlt)
   rw [hq] at HN HL KC
   have hj2:(j:Int)<2:=by omega
   clear D T O B N HC hq
   have c0:=KC.out _ B1.out
   go_wp2_with fail
   go_region_with (go_at_call 34;(with_reducible refine (HL.out _ D1.out.drew).mono ?_);rintro e w1 ⟨v2,rfl,D,T,O⟩)
   have C1:Hid (zlW w w1 base g p d v a b (j+1)):=hid ⟨v2,HN.out ▸ D,T1.out.drew.trans T (fun i hi h=>(O1.out i h).resolve_right (Nat.not_le_of_lt hi)),fun b hb=>(O b hb).elim (O1.out b) (fun h=>.inr (Nat.le_trans T1.out.size h)),B1.out.drew.turns T N1.out,fun h=>(O p h).elim N1.out (Nat.not_le_of_lt B1.out.lt)⟩
   clear D T O D1 T1 O1 B1 N1 HL KC c0 HN
   go_wp2
   go_roundw
   case rel=>exact ⟨j+1,by omega,by go_num,C1⟩
   case measure=>simp only [intOf];omega
  ·obtain rfl:j=2:=by omega
   obtain ⟨v1,D,T,O,_,_⟩:=HC.out
   obtain ⟨_,_,_,_,_,c5,c6,c7⟩:=D.cells
   have f5:=D.blk.frozen 5
   have f6:=D.blk.frozen 6
   have f7:=D.blk.frozen 7
   have HW:Hid (zby base g v (zeC d a b) (.tuple #[]) w (.returned (.tuple #[])) (((wr.setCell ⟨g,5,none⟩ (.bool false)).setCell ⟨g,6,none⟩ (.int .i64 0)).setCell ⟨g,7,none⟩ (.bool false))):=hid
    ⟨v1,rfl,(((D.put 5 _ (d':={ zfa d a b 2 with arm:=false }) rfl rfl).put 6 _ (d':={ zfa d a b 2 with arm:=false,un:=0 }) rfl rfl).put 7 _ (d':=zeC d a b) rfl rfl),((T.at_ _ _).at_ _ _).at_ _ _,O⟩
   clear D T O HC HD HO
   go_wp2
   refine bodyPost_ret (v:=.tuple #[]) (results_none (by kernel_rfl) _ _ _) rfl HW.out
theorem zsc {W w':World} {base g:Nat} {d:Dk} {v:Nat→Value} (D:zaj W base g d v) {k:Nat} (hk:k<2) {A1:Option Addr} {k1:Nat} (hv:v k=.slice A1 (d.l k).length k1) {l:List Nat} {n:Nat} (hl:l.length=n) {u:Value}
  (hown:w'.ownsRow base 5 1 u ((d.l k).length+n) (((d.l k).map fun y:Nat=>Value.int .u8 (y:Int)) ++ l.map fun y:Nat=>Value.int .u8 (y:Int))) (hg:W.grownBy w' (Value.slice A1 (d.l k).length k1).ownBlock)
  (hat:u.ownBlock=(Value.slice A1 (d.l k).length k1).ownBlock∨u.ownBlock=some W.heap.size) :
  (zaj (w'.setCell ⟨g,1+k * 2,none⟩ u) base g (putD d k l) (updD v k u)∧zai (OwnD g v) W (w'.setCell ⟨g,1+k * 2,none⟩ u)∧∀b,OwnD g (updD v k u) b→OwnD g v b∨W.heap.size≤b) ∧
   w'.frozen? ⟨g,1+k * 2,none⟩=false∧w'.cell? ⟨g,1+k * 2,none⟩=some (.slice A1 (d.l k).length k1):=by
 rw [←hv] at hg hat
 rw [←List.map_append] at hown
 refine ⟨D.turn hk hg (fun b hb=>hb) (by rw [List.length_append,hl]) hown (fun b hb=>?_),?_,?_⟩
 ·rcases hat with h | h
  ·exact .inl (h ▸ hb)
  ·rw [h] at hb
   injection hb with hb
   exact .inr (by omega)
 ·exact (D.blk.grown hg (fun e=>D.ne hk e.symm)).frozen _
 ·rw [←hv]
  exact ((D.blk.grown hg (fun e=>D.ne hk e.symm)).cell _).trans (zpx d v k hk)
theorem zpQ {d:Dk} {k:Nat} (hk:k<2) (hd:d.dn=false) (b:List Nat) :
  appD d (k:Int) b=if zcV d<(b.length:Int) then (d,14) else (putD (zaL d b.length) k (b.take (zeW d b.length)),errD d b.length):=by
 unfold appD
 rw [if_pos (zi6 hk hd)]
 rfl
theorem zdZ (base g:Nat) (d:Dk) (v:Nat→Value) (f:Int) (A:Option Addr) (b:List Nat) (n c:Nat) (w:World) (h:zaj w base g d v) (ho:d.Ok) (hn:b.length=n) (hA0:A=none→c=0) (hc:n≤c) (hcm:c≤maxLen) (hA:zd6 (OwnD g v) w A b) :
  Calls Tryz.prog 11 #[.pointer (some ⟨g,0,none⟩),.int .i64 f,.slice A n c] w (zby base g v (appD d f b).1 (.int .i64 (appD d f b).2) w):=by
 obtain ⟨_,_,_,_,_,_,_,c7⟩:=h.cells
 have HR:=hid (zgM g d f w c7)
 have HD:=hid h
 have HLf:=hid (fun w (h:zaj w base g d v)=>zfP base g d v w h ho)
 have HF:Hid (mayD d f≠0→(appD d f b)=(d,mayD d f)):=hid (fun h=>by unfold appD;rw [if_neg h])
 by_cases hm:mayD d f=0
 ·obtain ⟨k,hk,rfl,hd⟩:=zfH hm
  rw [hm] at HR
  have HY:=hid (zpQ hk hd b)
  rw [hn] at HY
  have hk2:(k:Int)<2:=by omega
  obtain ⟨lf,hlf⟩:∃l,zcV d=l:=⟨_,rfl⟩
  rw [hlf] at HY HLf
  have hl4:lf≤4194304:=by
   have h1:=ho.sz1
   unfold zcV at hlf
   omega
  rcases (show lf<(n:Int)∨(n:Int)≤lf by omega) with hlt | hlt
  ·have HW:Hid (∀q,zby base g v (appD d (k:Int) b).1 (.int .i64 (appD d (k:Int) b).2) w (.returned (.int .i64 14)) (w.drewN q)):=hid (fun q=>by
    rw [HY.out,if_pos hlt]
    exact .same (HD.out.drewN q) rfl ((zai.refl _ _).drewN q))
   clear h ho HY HF hm hd hA0 hA hn hlf
   go_enter Tryz.func11,Tryz.ntmps11
   go_wp2_with fail
   with_reducible refine HR.out.mono ?_
   rintro e w1 ⟨rfl,rfl⟩
   go_wp2_with fail
   with_reducible refine (HLf.out _ HD.out).mono ?_
   rintro e w1 ⟨rfl,q,rfl⟩
   have HW2:=hid (HW.out q)
   clear HLf HD HW
   go_wp2
   go_ret
   exact HW2.out
  ·obtain ⟨i0,hi,hz0,hz1,hz2⟩:=info_parts zcD
   have HY2:Hid (appD d (k:Int) b=(putD (zaL d n) k (b.take (zeW d n)),errD d n)):=hid (by rw [HY.out,if_neg (by omega)])
   have HO:=hid (fun w (h:zaj w base g d v)=>zoZ base g d v n (n:Int) w h ho rfl (by omega))
   have HLE:Hid (((zaL d n).l k).length≤4194304):=hid (by rw [zdB];exact ho.len hk)
   have HDN:=hid (zrg d n)
   obtain ⟨dn,hdn⟩:∃x,zeW d n=x:=⟨_,rfl⟩
   obtain ⟨er,her⟩:∃x,errD d n=x:=⟨_,rfl⟩
   obtain ⟨d1,hd1⟩:∃x,zaL d n=x:=⟨_,rfl⟩
   rw [hdn,her,hd1] at HO HY2
   rw [hdn] at HDN
   rw [hd1] at HLE
   have HB:=hid hA
   have HA0:=hid hA0
   have HBL:=hid hn
   have hdn2:dn≤n:=HDN.out
   have hcut:=fun w=>zkm (P:=Tryz.prog) 45 5 i0 Tryz.underlying45 hi A hdn2 hc w
   have HI:=hid (And.intro hi (And.intro hz0 (And.intro hz1 hz2)))
   clear h ho HY HF hm hd hA0 hA hn hlf hdn her hd1 hi hz0 hz1 hz2
   go_enter Tryz.func11,Tryz.ntmps11
   go_wp2_with fail
   with_reducible refine HR.out.mono ?_
   rintro e w1 ⟨rfl,rfl⟩
   go_wp2_with fail
   with_reducible refine (HLf.out _ HD.out).mono ?_
   rintro e w1 ⟨rfl,q,rfl⟩
   go_wp2_with fail
   with_reducible refine (HO.out _ (HD.out.drewN q)).mono ?_
   rintro e w1 ⟨v1,rfl,D,T,O⟩
   have D1:=hid D
   have T1:=hid T
   have O1:=hid O
   have B1:=hid (((HB.out.turns (T:=OwnD g v) ((zai.refl _ w).drewN q) (fun _ _ h=>h)).turns T (fun i hi h=>(O i h).resolve_right (Nat.not_le_of_lt hi))).sees.take dn)
   obtain ⟨c0,_⟩:=D.file hk
   obtain ⟨A1,k1,e1,_⟩:=D.slice hk
   have HV:=hid e1
   rw [e1] at c0
   have HRow:Hid (w1.drew.ownsRow base 5 1 (.slice A1 (d1.l k).length k1) (d1.l k).length ((d1.l k).map fun y:Nat=>Value.int .u8 (y:Int))):=hid (by rw [←e1];exact D.drew.row k hk)
   have HTL:Hid ((b.take dn).length=dn):=hid (by rw [List.length_take,HBL.out];omega)
   have HDone:=hid (fun (w':World) (u:Value) h1 h2 h3=>zsc D1.out.drew hk HV.out HTL.out (w':=w') (u:=u) h1 h2 h3)
   have HBS:=hid D.drew.base_le
   clear D T O e1 HO HLf HR
   obtain ⟨hi,hz0,hz1,hz2⟩:=HI.out
   obtain ⟨ln,hln⟩:∃l,(d1.l k).length=l:=⟨_,rfl⟩
   rw [hln] at c0 HRow HDone HLE
   go_wp2_with fail
   go_region_law (refine zgl w1.drew rfl (.tmp 36) (.tmp 39) 45 rfl base 5 i0 (.int .u8 0) 1 Tryz.underlying45 hi hz0 hz1 hz2 rfl (.slice A1 ln k1) ln _ (by simp [Act.eval,Act.put]) HRow.out A c (b.take dn) dn HTL.out (by simp [Act.eval,Act.put]) HA0.out B1.out (by unfold maxLen;have:=HLE.out;omega) (by have:=HLE.out;omega) HBS.out ?_;intro u w2 h1 h2 h3;obtain ⟨HX,f2,c2⟩:=HDone.out w2 u h1 h2 h3;obtain ⟨A3,k3,rfl⟩:=zcJ h1;have HX2:=hid HX;clear HX h1 h2 h3)
   have HW:Hid (zby base g v (appD d (k:Int) b).1 (.int .i64 (appD d (k:Int) b).2) w (.returned (.int .i64 er)) (w2.setCell ⟨g,1+k * 2,none⟩ (.slice A3 (ln+dn) k3))):=hid (by
    rw [HY2.out]
    exact ⟨_,rfl,HX2.out.1,((((zai.refl _ w).drewN q).trans T1.out (fun _ _ h=>h)).drew).trans HX2.out.2.1 (fun i hi h=>(O1.out i h).resolve_right (Nat.not_le_of_lt hi)),
     fun b hb=>(HX2.out.2.2 b hb).elim (O1.out b) (fun h=>.inr (Nat.le_trans T1.out.size h))⟩)
   clear HX2 HDone HRow T1 O1 B1 HV D1 f2 c2
   go_wp2
   go_ret
   exact HW.out
 ·obtain ⟨m,hm2⟩:∃m,mayD d f=m:=⟨_,rfl⟩
  have HF2:=hid (HF.out hm)
  rw [hm2] at HR HF2 hm
  have HW:Hid (zby base g v (appD d f b).1 (.int .i64 (appD d f b).2) w (.returned (.int .i64 m)) w):=hid (by
   rw [HF2.out]
   exact .same h rfl (.refl _ _))
  have hm3:(m != 0)=true:=by rw [bne_iff_ne];exact hm
  clear h ho c7 HD HF HF2 hm2 HLf hA hA0 hn
  go_enter Tryz.func11,Tryz.ntmps11
  go_wp2_with fail
  with_reducible refine HR.out.mono ?_
  rintro e w1 ⟨rfl,rfl⟩
  go_wp2
  go_ret
  exact HW.out
def newD (size:Int):Dk:=⟨size,fun _=>[],fun _=>0,false,0,false⟩
def noV:Nat→Value:=fun _=>.slice none 0 0
theorem zkj (size:Int) (w:World) (h0:1024≤size) (h1:size≤4194304) :
  Calls Tryz.prog 6 #[.int .i64 size] w fun e w'=>e=.returned (.tuple #[.pointer (some ⟨w.heap.size,0,none⟩),.int .i64 0])∧zaj w' w.heap.size w.heap.size (newD size) noV∧Below w.heap.size w w':=by
 have HR:Hid (zaj (w.alloc (.cells #[.int .i64 size,.slice none 0 0,.int .i64 0,.slice none 0 0,.int .i64 0,.bool false,.int .i64 0,.bool false] 71)) w.heap.size w.heap.size (newD size) noV):=hid
  ⟨Blk.new w _ _,Nat.le_refl _,fun _ _=>World.ownsRow_nil _ _ _ _,fun b hb=>by cases hb⟩
 go_enter Tryz.func6,Tryz.ntmps6
 go_wp2
 refine bodyPost_ret (v:=.tuple #[.pointer (some ⟨w.heap.size,0,none⟩),.int .i64 0]) (by simp [results,Tryz.results6,go_sem]) rfl ⟨rfl,HR.out,(Below.refl _ _).alloc (Nat.le_refl _) _⟩
end Go.Proofs.YtnjdckoljmgcjaaGreatDoor
namespace Go.Proofs.YtnjdckoljmgcjaaGreatDoor
open Go.ChangeShapes Go.WideShapes Go.ChangeAt Go.RowKit Go.Maps Go.WideMaps
set_option linter.unusedVariables false
set_option linter.unusedSimpArgs false
theorem zbj {P:Program} {w:World} {ops:Array Oper} {rest:List Oper} {o:Oper} {a:Act} {Q:Exit→Act→World→Prop} (hg:o.guard=none) (t e:TypeId) (x:Operand) (ho:o.op=.buildSlice t 1 #[(0,x)]) (cs:Array Value) (hx:a.eval x=.agg cs)
  (hrun:∀w,(Instr.buildSlice t 1 #[(0,.agg cs)]).run P w=.ok (.slice (some ⟨w.heap.size,0,none⟩) 1 1) (w.alloc (.cells cs e)))
  (h:wpList P ops Q rest (a.put o.dst (.slice (some ⟨w.heap.size,0,none⟩) 1 1)) (w.alloc (.cells cs e))):wpList P ops Q (o :: rest) a w:=by
 refine wpList_plain hg fun K' hK'=>?_
 unfold Oper.wp
 simp [execOp,ho,hx,hrun,Result.andThen]
 exact hK' _ _ h
theorem zip (x:J) (w:World):(Instr.buildSlice 22 1 #[(0,.agg (rowJ x))]).run Tryz.prog w=.ok (.slice (some ⟨w.heap.size,0,none⟩) 1 1) (w.alloc (.cells (rowJ x) 66)):=by kernel_rfl
theorem zeD (x:J):(jC x).toArray=rowJ x:=rfl
theorem zim (x:J):(Tryz.prog.info? 66).map (·.size)=some (jC x).length:=zjN
theorem zcS {w W:World} {z cs:Array Value} {T:TypeId} (h:(w.alloc (.cells z T)).setRow w.heap.size cs=W):Hid (Blk W w.heap.size T cs)∧Hid (Below w.heap.size w W):=by
 subst h
 exact ⟨hid (Blk.rowAt (Blk.new w _ z)),hid (zak ((Below.refl _ w).alloc (Nat.le_refl _) _) (Nat.le_refl _))⟩
theorem zgb (x:J) (T:TypeId) (w:World):(storeCells ⟨w.heap.size,0,none⟩ (rowJ x).toList).run Tryz.prog (w.alloc (.cells #[.int .i64 0,.int .i64 0,.int .i64 0,.int .u32 0,.int .u32 0,.bool false,.int .i64 0,.int .u64 0,.string ⟨#[]⟩,.int .u64 0,.string ⟨#[]⟩,.int .i64 0,.int .u64 0,.int .i64 0,.int .i64 0,.int .i64 0,.int .i64 0,.int .i64 0,.int .i64 0,.int .i64 0,.int .i64 0,.int .i64 0] T))=.ok () ((w.alloc (.cells #[.int .i64 0,.int .i64 0,.int .i64 0,.int .u32 0,.int .u32 0,.bool false,.int .i64 0,.int .u64 0,.string ⟨#[]⟩,.int .u64 0,.string ⟨#[]⟩,.int .i64 0,.int .u64 0,.int .i64 0,.int .i64 0,.int .i64 0,.int .i64 0,.int .i64 0,.int .i64 0,.int .i64 0,.int .i64 0,.int .i64 0] T)).setRow w.heap.size (rowJ x)) :=
 zbL (Blk.new w T #[.int .i64 0,.int .i64 0,.int .i64 0,.int .u32 0,.int .u32 0,.bool false,.int .i64 0,.int .u64 0,.string ⟨#[]⟩,.int .u64 0,.string ⟨#[]⟩,.int .i64 0,.int .u64 0,.int .i64 0,.int .i64 0,.int .i64 0,.int .i64 0,.int .i64 0,.int .i64 0,.int .i64 0,.int .i64 0,.int .i64 0]) (rowJ x) rfl (zaS x)
def zcw (w:World) (A:Option Addr) (l:List J):Prop:=∀(j:Nat) (x:J),l[j]?=some x→∃b o,A=some ⟨b,o,none⟩∧b<w.heap.size∧w.rangeAt b (o+j * 22) (jC x)
theorem zcw.nil (w:World) (A:Option Addr):zcw w A []:=fun j x h=>by simp at h
theorem zcw.turns {S:Nat→Prop} {w w':World} {A:Option Addr} {l:List J} (h:zcw w A l) (t:zai S w w') (hS:∀b o,A=some ⟨b,o,none⟩→l≠[]→¬S b):zcw w' A l:=fun j x hj=>by
 obtain ⟨b,o,h1,h2,h3⟩:=h j x hj
 exact ⟨b,o,h1,Nat.lt_of_lt_of_le h2 t.size,fun i v hv=>(World.cell?_of_block (w:=w) (by simpa using t.block b h2 (hS b o h1 (by rintro rfl;simp at hj)))).trans (h3 i v hv)⟩
theorem zcw.below {w w':World} {A:Option Addr} {l:List J} (h:zcw w A l) (hb:Below w.heap.size w w'):zcw w' A l:=h.turns (S:=fun _=>False) (zai.of_below hb) (fun _ _ _ _ h=>h)
theorem zcw.one (w:World) (x:J) (T:TypeId):zcw (w.alloc (.cells (rowJ x) T)) (some ⟨w.heap.size,0,none⟩) [x]:=fun j y hj=>by
 have h0:j=0:=by have:=(List.getElem?_eq_some_iff.1 hj).1;simpa using this
 subst h0
 simp at hj
 subst hj
 refine ⟨w.heap.size,0,rfl,by simp,fun i v hv=>?_⟩
 rw [Nat.zero_mul,Nat.zero_add]
 (try rw [Nat.zero_add])
 rw [(Blk.new w T (rowJ x)).cell i]
 exact (List.getElem?_toArray ..).trans hv
def zbv (x:J):Prop:=okJ x∧okK x.c∧zbr x=true
theorem zbv.ok {x:J} (h:zbv x):okJ x:=h.1
theorem zbv.okk {x:J} (h:zbv x):okK x.c:=h.2.1
theorem zbv.right {x:J} (h:zbv x):zbr x=true:=h.2.2
def zbe (x:J):List Nat:=2 :: encJ x
theorem zcz {x:J} (h:zbv x):(zbe x).length≤414:=by
 have:=zst x h.1 h.2.1 h.2.2
 unfold zbe
 rw [List.length_cons]
 omega
theorem zhz {x:J} (h:zbv x):∀y∈zbe x,y<256:=fun y hy=>by
 unfold zbe at hy
 rcases List.mem_cons.1 hy with rfl | hy
 ·decide
 ·exact zjK x h.1 h.2.1 h.2.2 y hy
def zo2 (rs:List (List Nat)) (base:Nat) (w:World) (v i:Value) (wr:World):Prop :=
 ∃(k:Nat) (xs:List Value),k≤rs.length∧i=.int .i64 (k:Int)∧wr.ownsRow base 45 1 v k xs∧Recs wr base xs (rs.take k)∧Below base w wr
theorem zqK {rs:List (List Nat)} {base k:Nat} {w wr w2 w3:World} {v v':Value} {xs:List Value} {B:Option Addr} {c:Nat} {r:List Nat} {o:Obj} (hk:k<rs.length) (hr:r=rs[k])
  (hown:wr.ownsRow base 45 1 v k xs) (hrec:Recs wr base xs (rs.take k)) (hbel:Below base w wr) (hsz:base≤wr.heap.size) (hb2:Below wr.heap.size wr w2)
  (h1:B=none→c=0) (h2:Sees .u8 w2 B r) (h3:∀b o,B=some ⟨b,o,none⟩→0<r.length→b<base∨∃cs fz,w2.heap[b]?=some (.cells cs 5 fz))
  (hown':w3.ownsRow base 45 1 v' (k+1) (xs ++ [.slice B r.length c])) (hg:(w2.alloc o).grownBy w3 v.ownBlock):zo2 rs base w v' (.int .i64 ((k:Int)+1)) w3:=by
 subst hr
 have hal:Below w2.heap.size w2 (w2.alloc o):=(Below.refl _ _).alloc (Nat.le_refl _) _
 have hown2:=zdr hown hb2
 refine ⟨k+1,_,hk,by go_num,hown',?_,zdy (hbel.trans (hb2.mono hsz)) (Nat.le_trans hsz hb2.size) hown2 hg⟩
 rw [List.take_succ_eq_append_getElem hk]
 exact (((hrec.below hb2).snoc h1 h2 h3).below hal).grown (hown2.alloc o) (by decide) hg
def ztX (rs:List (List Nat)) (w:World) (e:Ending) (w':World):Prop :=
 ∃A c,e=.returned (.slice A rs.length c)∧(A=none→c=0)∧rs.length≤c∧zbg w' A rs∧zcn w' A rs.length∧Below w.heap.size w w'
theorem zej (A:Option Addr) (xs:List J) (n ca:Nat) (w:World) (hn:xs.length=n) (hl:n≤1000) (hA:zcw w A xs) (hG:∀x∈xs,zbv x) (hP:zad w) :
  Calls Tryz.prog 27 #[.int .u8 2,.slice A n ca] w (ztX (xs.map zbe) w):=by
 obtain ⟨ir,hir,hr0,hr1,hr2⟩:=info_parts zgA
 have HA:=hid hA
 have HG:=hid hG
 have HP:=hid hP
 have HN:=hid hn
 have hlt:=hP.lt
 clear hA hG hP hn
 go_enter Tryz.func27,Tryz.ntmps27
 go_wp2
 go_loopw [5,11] (fun v i wr=>zo2 (xs.map zbe) w.heap.size w v i wr) (fun _ i _=>n - (intOf i).toNat)
 case atStart=>exact ⟨0,[],Nat.zero_le _,rfl,World.ownsRow_nil _ _ _ _,Recs.nil _ _,Below.refl _ _⟩
 case round =>
  obtain ⟨k,ys,hk,rfl,hown,hrec,hbel⟩:=hrel
  have hkx:k≤xs.length:=by simpa using hk
  have hkn:k≤n:=by rw [←HN.out];exact hkx
  have hsz:=hbel.size
  by_cases hlt2:k<xs.length
  ·have hltn:k<n:=by rw [←HN.out];exact hlt2
   obtain ⟨b,o,rfl,hbl,hra⟩:=HA.out k xs[k] (List.getElem?_eq_getElem hlt2)
   have HRA:=hid (fun i v hv=>(hbel.cell (p:=⟨b,o+k * 22+i,none⟩) (by exact hbl)).trans (hra i v hv))
   have HRA2:Hid (wr.rangeAt b (o+k * 22) (jC xs[k])):=hid HRA.out
   have HGo:=hid (HG.out _ (List.getElem_mem hlt2))
   have HST:=hid (fun (w2 w3:World) (v':Value) (B:Option Addr) (c2:Nat) (o:Obj)=>zqK (w2:=w2) (w3:=w3) (v':=v') (B:=B) (c:=c2) (o:=o) (rs:=xs.map zbe) (k:=k) (r:=zbe xs[k]) (by simpa using hlt2) (by simp) hown hrec hbel hsz)
   have HOW:=hid hown
   have PW:=hid (HP.out.below hbel)
   clear hra HRA hown hrec hbel
   obtain ⟨x,hx⟩:∃x,xs[k]=x:=⟨_,rfl⟩
   rw [hx] at HRA2 HGo HST
   clear hx
   have LJ:=hid (zim x)
   have L1:=hid (zaE x)
   have L3:=hid (zaS x)
   have LS:=hid (zaW zau x)
   obtain ⟨q,hq⟩:∃q,(zbe x).length=q:=⟨_,rfl⟩
   have HQ:=hid hq
   have hq9:q≤414:=by rw [←hq];exact zcz HGo.out
   clear hq
   have hst:=zgb x 66 wr
   go_upto_region 5 with (first
    | (with_reducible refine wpList_load_mid (op:=⟨some 14,_,_,_,_,_⟩) rfl 66 (.tmp 13) rfl b (o+k * 22) rfl (jC x) _ HRA2.out Tryz.underlying66 rfl LJ.out ?_;rw [zeD]))
   clear hst
   obtain ⟨W,hW⟩:∃W,(wr.alloc (.cells #[.int .i64 0,.int .i64 0,.int .i64 0,.int .u32 0,.int .u32 0,.bool false,.int .i64 0,.int .u64 0,.string ⟨#[]⟩,.int .u64 0,.string ⟨#[]⟩,.int .i64 0,.int .u64 0,.int .i64 0,.int .i64 0,.int .i64 0,.int .i64 0,.int .i64 0,.int .i64 0,.int .i64 0,.int .i64 0,.int .i64 0] 66)).setRow wr.heap.size (rowJ x)=W:=⟨_,rfl⟩
   rw [hW]
   obtain ⟨K0,KB⟩:=zcS hW
   clear hW
   have HOut:Hid (zaB (W.alloc (.cells #[.slice none 0 0] 139)) W.heap.size W.heap.size []):=hid (zoP W)
   have K1:=hid (K0.out.alloc (.cells #[.slice none 0 0] 139))
   have KB1:=hid (KB.out.alloc KB.out.size (.cells #[.slice none 0 0] 139))
   have P1:=hid (PW.out.below KB1.out)
   have hgl:Hid (wr.heap.size<W.heap.size):=hid K0.out.lt
   go_wp2_with fail
   with_reducible refine (zaT W.heap.size W.heap.size [] 2 _ _ HOut.out (by first | rfl | omega) (by simp)).mono ?_
   rintro en w1 ⟨⟨rfl,ho,hb1⟩,hs1⟩
   have O1:=hid ho
   have B1:=hid hb1
   have K2:=hid (hs1.2 _ _ _ (by have:=hgl.out;omega) (by decide) K1.out)
   have P2:=hid (P1.out.under (base:=W.heap.size) (by have:=hgl.out;omega) hb1)
   clear ho hb1 hs1 HOut K1 P1
   go_wp2_with (with_reducible refine wpList_load_row (o:=⟨some 18,_,_,_,_,_⟩) rfl 66 (.tmp 7) rfl wr.heap.size rfl 66 (rowJ x) (0,0) _ K2.out.heap Tryz.underlying66 rfl L1.out ?_)
   with_reducible refine (zsH W.heap.size W.heap.size [2] x _ O1.out P2.out (by have:=hgl.out;omega) HGo.out.ok HGo.out.okk HGo.out.right (by simp)).mono ?_
   rintro en w2 ⟨rfl,ho,hb1,hs1⟩
   have O2:=hid ho
   have B2:=hid (B1.out.trans hb1)
   clear ho hb1 hs1 O1 B1 K2 P2
   have hq2:([2] ++ encJ x).length=q:=HQ.out
   go_wp2_with (first
    | (go_at_call 57;(with_reducible refine (zf9 W.heap.size W.heap.size ([2] ++ encJ x) _ O2.out (by omega)).mono ?_);rintro en w3 ⟨s,rfl,hown2,hb3⟩;obtain ⟨B,c2,rfl,hk2,_,hs2,ht2⟩:=zg5 rfl hown2;rw [hq2];have HK2:=hid hk2;have HS2:=hid hs2;have HT2:=hid ht2;have HB3:Hid (Below wr.heap.size wr w3):=hid ((KB1.out.trans (B2.out.mono (Nat.le_of_lt hgl.out))).trans (hb3.mono (Nat.le_trans (Nat.le_of_lt hgl.out) (Nat.le_trans (by simp) B2.out.size))));have HO3:=hid (zdr HOW.out HB3.out);have hsz3:w.heap.size≤w3.heap.size:=Nat.le_trans hsz HB3.out.size;clear hk2 hs2 ht2 hb3 hown2)
    | (at_builtin;refine wpList_append_own _ rfl (.tmp 22) (.tmp 25) 89 rfl w.heap.size 45 ir (.slice none 0 0) 1 24 Tryz.underlying89 hir hr0 hr1 hr2 rfl (by decide) _ _ _ rfl (HO3.out.alloc _) ⟨w3.heap.size,0,none⟩ 1 1 [.slice B q c2] rfl rfl (zl1 _) zkh (by unfold maxLen;omega) (by omega) (by simp;omega) ?_;intro v' w4 hown3 hg3 _))
   have R:=hid (HST.out w3 w4 v' B c2 _ HB3.out HK2.out HS2.out (fun b o h1 h2=>.inr (HT2.out b o h1 h2)) (by rw [HQ.out];exact hown3) hg3)
   clear hown3 hg3
   go_roundw
   case rel=>exact R.out
   case measure=>simp only [intOf];omega
  ·have hkn2:¬k<n:=by rw [←HN.out];exact hlt2
   have hke:k=(xs.map zbe).length:=by rw [List.length_map];omega
   have x8:∀r∈xs.map zbe,∀y∈r,y<256:=fun r hr y hy=>by
    obtain ⟨x,hx,rfl⟩:=List.mem_map.1 hr
    exact zhz (HG.out x hx) y hy
   have xl:∀r∈xs.map zbe,r.length≤9223372036854775807:=fun r hr=>by
    obtain ⟨x,hx,rfl⟩:=List.mem_map.1 hr
    have:=zcz (HG.out x hx)
    omega
   rw [hke,List.take_length] at hrec
   obtain ⟨A1,c1,rfl,h1,h2,h3,h4⟩:=zhs hown hrec x8 xl
   have HF:=hid (And.intro h1 (And.intro h2 (And.intro h3 (And.intro h4 hbel))))
   clear h1 h2 h3 h4 hrec hown hbel x8 xl
   go_wp2
   go_ret
   exact ⟨A1,c1,rfl,HF.out⟩
theorem ze6 (A:Option Addr) (ls:List (List Nat)) (n ca:Nat) (w:World) (hln:ls.length=n) (hl:n≤9223372036854775807) (hrs:∀r∈ls,r.length≤16384) (hN:(zaf ls).length≤1000000) (hA:zbg w A ls) (hB:zcn w A ls.length) :
  Calls Tryz.prog 26 #[.slice A n ca] w (zcy (zaf ls) w):=by
 have HC:=hid (zoT A ls n ca w hln hl hrs hN hA hB)
 clear hln hl hrs hN hA hB
 go_enter Tryz.func26,Tryz.ntmps26
 go_wp2_with fail
 with_reducible refine HC.out.mono ?_
 rintro e w1 ⟨s,rfl,hown,hb⟩
 have HM:Hid (zcy (zaf ls) w (.returned s) w1):=hid ⟨s,rfl,hown,hb⟩
 clear hown hb HC
 go_wp2
 go_ret
 exact HM.out
theorem zhJ {x:J} (h:zbv x):(zaf [zbe x]).length≤421:=by
 rw [zbu,zdi,List.append_nil]
 have h1:=zcz h
 have h2:=zdI (r:=zbe x) (by omega)
 omega
theorem zhl (x:J) (w:World) (hP:zad w) (hG:zbv x) :
  Calls Tryz.prog 66 #[.agg (rowJ x)] w fun e w'=>e=.returned (.int .i64 ((zaf [zbe x]).length:Int))∧Below w.heap.size w w':=by
 have hf:=zhJ hG
 have hs:=zcz hG
 have HB:=hid (zip x)
 have HG:=hid hG
 have HP:=hid hP
 have L1:=hid (zaE x)
 clear hP hG
 go_enter Tryz.func66,Tryz.ntmps66
 go_upto_region 1 with fail
 obtain ⟨W,hW⟩:∃W,w.alloc (.cells (rowJ x) 66)=W:=⟨_,rfl⟩
 rw [hW]
 obtain ⟨K0,KB⟩:=za1 hW
 clear hW
 have HP1:=hid (HP.out.below KB.out)
 have hwW:=KB.out.size
 go_wp2_with (first
  | (with_reducible refine wpList_load_row (o:=⟨some 3,_,_,_,_,_⟩) rfl 66 (.tmp 1) rfl w.heap.size rfl 66 (rowJ x) (0,0) _ K0.out.heap Tryz.underlying66 rfl L1.out ?_)
  | (with_reducible refine zbj (o:=⟨some 4,_,_,_,_,_⟩) rfl 22 66 (.tmp 3) rfl (rowJ x) rfl HB.out ?_)
  | (go_at_call 27;(with_reducible refine (zej (some ⟨W.heap.size,0,none⟩) [x] 1 1 _ rfl (by decide) (zcw.one W x _) (by simpa using HG.out) (HP1.out.alloc _)).mono ?_);rintro e w1 ⟨A,c,rfl,h1,h2,h3,h4,h5⟩;have H3:Hid (zbg w1 A [zbe x]):=hid h3;have H4:Hid (zcn w1 A [zbe x].length):=hid h4;have H5:=hid ((KB.out.alloc hwW (.cells (rowJ x) 66)).trans (h5.mono (by simp;omega)));clear h1 h2 h3 h4 h5)
  | (go_at_call 26;(with_reducible refine (ze6 A [zbe x] 1 c _ rfl (by decide) (by intro r hr;simp at hr;subst hr;omega) (by omega) H3.out H4.out).mono ?_);rintro e w2 ⟨s,rfl,hown,hb⟩;obtain ⟨B,cB,rfl⟩:=zcJ hown;have H6:=hid (H5.out.trans (hb.mono H5.out.size));clear hown hb))
 go_ret
 exact ⟨rfl,H6.out⟩
theorem zmF (x:J) (w:World) (hf:x.c.foot.size≤1000) (hp:x.c.path.size≤1000) :
  Calls Tryz.prog 67 #[.agg (rowJ x)] w fun e w'=>e=.returned (.agg (rowJ x))∧Below w.heap.size w w':=by
 have HC1:=hid (fun w=>zdQ x.c.foot w (by omega))
 have HC2:=hid (fun w=>zdQ x.c.path w (by omega))
 have L1:=hid (zaE x)
 have L3:=hid (zaS x)
 have LS:=hid (zaW zau x)
 go_enter Tryz.func67,Tryz.ntmps67
 go_upto_region 1 with fail
 obtain ⟨W,hW⟩:∃W,(w.alloc (.cells (rowJ x) 66)).alloc (.cells zrow 66)=W:=⟨_,rfl⟩
 rw [hW]
 obtain ⟨K0,K1,KB⟩:=zcE hW
 clear hW
 obtain ⟨k,hk⟩:∃k,w.heap.size=k:=⟨_,rfl⟩
 rw [hk] at K0 K1 KB
 rw [hk]
 have HK:=hid hk
 clear hk
 have c8:W.cell? ⟨k,8,none⟩=some (.string x.c.foot):=(K0.out.cell 8).trans rfl
 go_wp2_with fail
 with_reducible refine (HC1.out _).mono ?_
 rintro e w1 ⟨rfl,hb⟩
 have D0:=hid (K0.out.below hb K0.out.lt)
 have D1:=hid (K1.out.below hb K1.out.lt)
 have DB:=hid (KB.out.trans (hb.mono (by have:=K0.out.lt;omega)))
 clear hb c8 K0 K1 KB
 have c8:w1.cell? ⟨k,8,none⟩=some (.string x.c.foot):=(D0.out.cell 8).trans rfl
 have f8:=D0.out.frozen 8
 go_upto_region 2 with fail
 obtain ⟨W,hW⟩:∃W,w1.setCell ⟨k,8,none⟩ (.string x.c.foot)=W:=⟨_,rfl⟩
 rw [hW]
 have E0:Hid (Blk W k 66 (rowJ x)):=hid (by rw [←hW];exact (D0.out.set_ 8 _).as rfl)
 have E1:Hid (Blk W (k+1) 66 (rowJ zau)):=hid (by rw [←hW];exact D1.out.far (by show k+1≠k;omega) _)
 have EB:Hid (Below k w W):=hid (by rw [←hW];exact DB.out.setCell (p:=⟨k,8,none⟩) (Nat.le_refl _) _)
 clear hW c8 f8 D0 D1 DB
 have c10:W.cell? ⟨k,10,none⟩=some (.string x.c.path):=(E0.out.cell 10).trans rfl
 go_wp2_with fail
 with_reducible refine (HC2.out _).mono ?_
 rintro e w1 ⟨rfl,hb⟩
 have D0:=hid (E0.out.below hb E0.out.lt)
 have D1:=hid (E1.out.below hb E1.out.lt)
 have DB:=hid (EB.out.trans (hb.mono (by have:=E0.out.lt;omega)))
 clear hb c10 E0 E1 EB
 have c10:w1.cell? ⟨k,10,none⟩=some (.string x.c.path):=(D0.out.cell 10).trans rfl
 have f10:=D0.out.frozen 10
 go_upto_region 3 with fail
 obtain ⟨W,hW⟩:∃W,w1.setCell ⟨k,10,none⟩ (.string x.c.path)=W:=⟨_,rfl⟩
 rw [hW]
 have E0:Hid (Blk W k 66 (rowJ x)):=hid (by rw [←hW];exact (D0.out.set_ 10 _).as rfl)
 have E1:Hid (Blk W (k+1) 66 (rowJ zau)):=hid (by rw [←hW];exact D1.out.far (by show k+1≠k;omega) _)
 have EB:Hid (Below k w W):=hid (by rw [←hW];exact DB.out.setCell (p:=⟨k,10,none⟩) (Nat.le_refl _) _)
 clear hW c10 f10 D0 D1 DB
 go_wp2_with (first
  | (with_reducible refine wpList_load_row (o:=⟨some 17,_,_,_,_,_⟩) rfl 66 (.tmp 1) rfl k rfl 66 (rowJ x) (0,0) _ E0.out.heap Tryz.underlying66 rfl L1.out ?_)
  | ((with_reducible refine wpList_store_row (o:=⟨none,_,_,_,_,_⟩) rfl 66 (.tmp 2) (.tmp 17) rfl (k+1) (rowJ x) rfl ?hy 66 (rowJ zau) E1.out.heap L1.out LS.out L3.out ?_);(case hy=>rfl)))
 exact bodyPost_ret (v:=.agg (rowJ x)) (results_cell_row (p:=2) (ty:=66) (by kernel_rfl) _ _ (k+1) 66 (rowJ x) (0,0) _ rfl (setRow_heap W (k+1) _ _ _ _ E1.out.heap) Tryz.underlying66 rfl L1.out) rfl ⟨rfl,by rw [HK.out];exact zak EB.out (by omega)⟩
end Go.Proofs.YtnjdckoljmgcjaaGreatDoor
