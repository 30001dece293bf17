/-
  What stands between a text's slashes: contracts of strings.Cut at a slash, path.pieces and what it hands back.
-/
import Derived.Test.YtnjdckoljmgcjaaGreatDoorW03
import Derived.Test.YtnjdckoljmgcjaaGreatDoorShelf
import Derived.Lib.Strings
import Derived.OwnWalk
import Derived.RangeFuncNested
import Derived.RangeFuncBound
import Derived.RangeFuncCalls
import Derived.RangeFuncLeaves
import Derived.Shelf.Abstract
import Derived.Shelf.RegionOpen
import Derived.OwnWalkIn
import Derived.TacticsInMore
import Derived.LoopNIn
import Derived.LoopIn
set_option maxRecDepth 100000
set_option maxHeartbeats 4000000
namespace Go.Proofs.YtnjdckoljmgcjaaGreatDoor
structure Nt where
 foot:ByteArray
 num:Int
 att:Nat→Int
def sup (p:Nt→Bool) (g:Nt→Int):List Nt→Int
 | []=>0
 | n :: l=>if p n then (if g n<sup p g l then sup p g l else g n) else sup p g l
theorem zie (p:Nt→Bool) (g:Nt→Int):∀l,0≤sup p g l
 | []=>Int.le_refl _
 | n :: l=>by
  have:=zie p g l
  unfold sup
  split
  ·split <;> omega
  ·exact this
theorem ztb {p:Nt→Bool} {g:Nt→Int} {b:Int} (h0:0≤b):∀{l:List Nt},(∀n∈l,p n=true→g n≤b)→sup p g l≤b
 | [],_=>h0
 | n :: l,h=>by
  have h1:=ztb (p:=p) (g:=g) h0 (l:=l) (fun m hm=>h m (by simp [hm]))
  unfold sup
  split
  ·next hp =>
   have:=h n (by simp) hp
   split <;> omega
  ·exact h1
theorem zjr (p:Nt→Bool) (g:Nt→Int) (n:Nt):∀l,sup p g (l ++ [n])=if p n then (if sup p g l<g n then g n else sup p g l) else sup p g l
 | []=>by
  show (if p n=true then (if g n<0 then 0 else g n) else 0)=if p n=true then (if 0<g n then g n else 0) else 0
  by_cases h:p n=true
  ·rw [if_pos h,if_pos h]
   by_cases h1:g n<0
   ·rw [if_pos h1,if_neg (by omega)]
   ·rw [if_neg h1]
    by_cases h2:0<g n
    ·rw [if_pos h2]
    ·rw [if_neg h2];omega
  ·rw [if_neg h,if_neg h]
 | m :: l=>by
  have ih:=zjr p g n l
  simp only [List.cons_append,sup]
  rw [ih]
  by_cases h:p n=true
  ·simp only [if_pos h]
   by_cases h2:p m=true
   ·simp only [if_pos h2]
    split <;> split <;> (try split) <;> (try split) <;> omega
   ·simp only [if_neg h2]
  ·simp only [if_neg h]
def zgm (f:ByteArray) (u:Int) (n:Nt):Bool:=decide (n.foot=f∧n.num=u)
theorem zdg {f:ByteArray} {u:Int} {n:Nt}:zgm f u n=true ↔ n.foot=f∧n.num=u:=by simp [zgm]
def zbq (l:List Nt) (f:ByteArray) (u:Int):Nat→Int:=fun i=>sup (zgm f u) (fun n=>n.att i) l
def told (l:List Nt) (f:ByteArray) (u:Int):Bool:=l.any (zgm f u)
theorem zeT {l:List Nt} {f:ByteArray} {u:Int}:told l f u=true ↔ ∃n∈l,n.foot=f∧n.num=u:=by
 simp [told,List.any_eq_true,zdg]
theorem zfA (l:List Nt) (n:Nt) (f:ByteArray) (u:Int):told (l ++ [n]) f u=(told l f u || zgm f u n):=by simp [told]
def Fair (n:Nt):Prop:=okB n.att=true∧(∀i,8≤i→n.att i=0)∧0≤n.num∧n.num<18446744073709551616∧n.foot.size≤200
def zcA (l:List Nt):Prop:=∀n∈l,Fair n
theorem zcA.snoc {l:List Nt} {n:Nt} (h:zcA l) (hn:Fair n):zcA (l ++ [n]):=fun m hm=>by
 rcases List.mem_append.1 hm with h1 | h1
 ·exact h m h1
 ·rw [List.mem_singleton.1 h1];exact hn
theorem zcA.nil:zcA []:=fun _ h=>absurd h (by simp)
theorem Fair.at {n:Nt} (h:Fair n) (i:Nat):0≤n.att i∧n.att i≤1073741824:=by
 obtain ⟨h1,h2,_⟩:=h
 obtain ⟨h3,h4⟩:=zem.1 h1
 by_cases hi:8≤i
 ·rw [h2 i hi];omega
 ·cases i with
  | zero=>exact h3
  | succ i=>have:=h4 i (by omega);omega
theorem zer (l:List Nt) (n:Nt) (f:ByteArray) (u:Int) (h:zgm f u n=true):zbq (l ++ [n]) f u=mx (zbq l f u) n.att:=by
 funext i
 unfold zbq mx
 rw [zjr,if_pos h]
theorem zed (l:List Nt) (n:Nt) (f:ByteArray) (u:Int) (h:zgm f u n=false):zbq (l ++ [n]) f u=zbq l f u:=by
 funext i
 unfold zbq
 rw [zjr,if_neg (by rw [h];simp)]
theorem zif {l:List Nt} {f:ByteArray} {u:Int} (h:told l f u=false):zbq l f u=fun _=>0:=by
 funext i
 refine Int.le_antisymm (ztb (Int.le_refl _) fun n hn hp=>?_) (zie _ _ _)
 have:told l f u=true:=zeT.2 ⟨n,hn,zdg.1 hp⟩
 rw [h] at this
 cases this
def cutS (s:Int):Int:=if s<0 then 0 else if s > 1073741824 then 1073741824 else s
end Go.Proofs.YtnjdckoljmgcjaaGreatDoor
namespace Go.Proofs.YtnjdckoljmgcjaaGreatDoor
open Go.ChangeShapes Go.WideShapes Go.ChangeAt Go.RowKit Go.Lib
set_option linter.unusedSimpArgs false
set_option linter.unusedVariables false
theorem zvr (k u:Int) (f:ByteArray) (q:Int) (s:ByteArray) (m n t:Int) (w:World) (hP:zad w) (hs:Sig k false false false false false false) :
  Calls Tryz.prog 193 #[val ⟨k,u,f,q,s,m,n,t⟩] w fun e w'=>e=.returned (val ⟨k,0,⟨#[]⟩,0,⟨#[]⟩,0,0,0⟩)∧Below w.heap.size w w':=by
 obtain ⟨s0,s1,s2,s3,s4,s5⟩:=hs
 have S0:=hid s0
 have S1:=hid s1
 have S2:=hid s2
 have S3:=hid s3
 have S4:=hid s4
 have S5:=hid s5
 have A0:=hid ((Boxed.start hP ⟨k,u,f,q,s,m,n,t⟩).alloc (.cells (cellsOf ⟨0,0,⟨#[]⟩,0,⟨#[]⟩,0,0,0⟩) 61))
 have R0:Hid (Boxed w ((w.alloc (.cells (cellsOf ⟨k,u,f,q,s,m,n,t⟩) 61)).alloc (.cells (cellsOf ⟨0,0,⟨#[]⟩,0,⟨#[]⟩,0,0,0⟩) 61)) (w.heap.size+1) ⟨0,0,⟨#[]⟩,0,⟨#[]⟩,0,0,0⟩):=hid ⟨by have h:=Blk.new (w.alloc (.cells (cellsOf ⟨k,u,f,q,s,m,n,t⟩) 61)) 61 (cellsOf ⟨0,0,⟨#[]⟩,0,⟨#[]⟩,0,0,0⟩);simpa using h,by omega,A0.out.below,hP⟩
 clear s0 s1 s2 s3 s4 s5 hP
 go_enter Tryz.func193,Tryz.ntmps193
 go_wp2_with fail
 with_reducible refine (zb3 ⟨k,u,f,q,s,m,n,t⟩ false _ S0.out A0.out.parts).mono ?_
 rintro e w1 ⟨rfl,hb⟩
 have A1:=hid (A0.out.on hb)
 have R1:=hid (R0.out.on hb)
 clear hb A0 R0 S0
 obtain ⟨⟨c0,c1,c2,c3,c4,c5,c6,c7⟩,f0,f1,f2,f3,f4,f5,f6,f7⟩:=zaa A1.out.1
 have A1s:=hid ((A1.out.set_ 1 (.int .u64 0) ⟨k,0,f,q,s,m,n,t⟩ rfl).set_ 2 (.string ⟨#[]⟩) ⟨k,0,⟨#[]⟩,q,s,m,n,t⟩ rfl)
 have R1s:=hid ((R1.out.far (p:=⟨w.heap.size,1,none⟩) (by simp) (Nat.le_refl _) (.int .u64 0)).far (p:=⟨w.heap.size,2,none⟩) (by simp) (Nat.le_refl _) (.string ⟨#[]⟩))
 clear A1 R1
 go_wp2_with fail
 with_reducible refine (zb7 ⟨k,0,⟨#[]⟩,q,s,m,n,t⟩ false _ S1.out A1s.out.parts).mono ?_
 rintro e w2 ⟨rfl,hb⟩
 have A2:=hid (A1s.out.on hb)
 have R2:=hid (R1s.out.on hb)
 clear hb A1s R1s S1 c0 c1 c2 c3 c4 c5 c6 c7 f0 f1 f2 f3 f4 f5 f6 f7
 obtain ⟨⟨c0,c1,c2,c3,c4,c5,c6,c7⟩,f0,f1,f2,f3,f4,f5,f6,f7⟩:=zaa A2.out.1
 have A2s:=hid (A2.out.set_ 3 (.int .u64 0) ⟨k,0,⟨#[]⟩,0,s,m,n,t⟩ rfl)
 have R2s:=hid (R2.out.far (p:=⟨w.heap.size,3,none⟩) (by simp) (Nat.le_refl _) (.int .u64 0))
 clear A2 R2
 go_wp2_with fail
 with_reducible refine (zb5 ⟨k,0,⟨#[]⟩,0,s,m,n,t⟩ false _ S2.out A2s.out.parts).mono ?_
 rintro e w3 ⟨rfl,hb⟩
 have A3:=hid (A2s.out.on hb)
 have R3:=hid (R2s.out.on hb)
 clear hb A2s R2s S2 c0 c1 c2 c3 c4 c5 c6 c7 f0 f1 f2 f3 f4 f5 f6 f7
 obtain ⟨⟨c0,c1,c2,c3,c4,c5,c6,c7⟩,f0,f1,f2,f3,f4,f5,f6,f7⟩:=zaa A3.out.1
 have A3s:=hid (A3.out.set_ 4 (.string ⟨#[]⟩) ⟨k,0,⟨#[]⟩,0,⟨#[]⟩,m,n,t⟩ rfl)
 have R3s:=hid (R3.out.far (p:=⟨w.heap.size,4,none⟩) (by simp) (Nat.le_refl _) (.string ⟨#[]⟩))
 clear A3 R3
 go_wp2_with fail
 with_reducible refine (zca ⟨k,0,⟨#[]⟩,0,⟨#[]⟩,m,n,t⟩ false _ S3.out A3s.out.parts).mono ?_
 rintro e w4 ⟨rfl,hb⟩
 have A4:=hid (A3s.out.on hb)
 have R4:=hid (R3s.out.on hb)
 clear hb A3s R3s S3 c0 c1 c2 c3 c4 c5 c6 c7 f0 f1 f2 f3 f4 f5 f6 f7
 obtain ⟨⟨c0,c1,c2,c3,c4,c5,c6,c7⟩,f0,f1,f2,f3,f4,f5,f6,f7⟩:=zaa A4.out.1
 have A4s:=hid (A4.out.set_ 5 (.int .i64 0) ⟨k,0,⟨#[]⟩,0,⟨#[]⟩,0,n,t⟩ rfl)
 have R4s:=hid (R4.out.far (p:=⟨w.heap.size,5,none⟩) (by simp) (Nat.le_refl _) (.int .i64 0))
 clear A4 R4
 go_wp2_with fail
 with_reducible refine (zbT ⟨k,0,⟨#[]⟩,0,⟨#[]⟩,0,n,t⟩ false _ S4.out A4s.out.parts).mono ?_
 rintro e w5 ⟨rfl,hb⟩
 have A5:=hid (A4s.out.on hb)
 have R5:=hid (R4s.out.on hb)
 clear hb A4s R4s S4 c0 c1 c2 c3 c4 c5 c6 c7 f0 f1 f2 f3 f4 f5 f6 f7
 obtain ⟨⟨c0,c1,c2,c3,c4,c5,c6,c7⟩,f0,f1,f2,f3,f4,f5,f6,f7⟩:=zaa A5.out.1
 have A5s:=hid (A5.out.set_ 6 (.int .u64 0) ⟨k,0,⟨#[]⟩,0,⟨#[]⟩,0,0,t⟩ rfl)
 have R5s:=hid (R5.out.far (p:=⟨w.heap.size,6,none⟩) (by simp) (Nat.le_refl _) (.int .u64 0))
 clear A5 R5
 go_wp2_with fail
 with_reducible refine (zb4 ⟨k,0,⟨#[]⟩,0,⟨#[]⟩,0,0,t⟩ false _ S5.out A5s.out.parts).mono ?_
 rintro e w6 ⟨rfl,hb⟩
 have A6:=hid (A5s.out.on hb)
 have R6:=hid (R5s.out.on hb)
 clear hb A5s R5s S5 c0 c1 c2 c3 c4 c5 c6 c7 f0 f1 f2 f3 f4 f5 f6 f7
 obtain ⟨⟨c0,c1,c2,c3,c4,c5,c6,c7⟩,f0,f1,f2,f3,f4,f5,f6,f7⟩:=zaa A6.out.1
 have A6s:=hid (A6.out.set_ 7 (.int .i64 0) ⟨k,0,⟨#[]⟩,0,⟨#[]⟩,0,0,0⟩ rfl)
 have R6s:=hid (R6.out.far (p:=⟨w.heap.size,7,none⟩) (by simp) (Nat.le_refl _) (.int .i64 0))
 clear A6 R6
 obtain ⟨⟨d0,d1,d2,d3,d4,d5,d6,d7⟩,g0,g1,g2,g3,g4,g5,g6,g7⟩:=zaa R6s.out.1
 have E:=hid (R6s.out.put ⟨k,0,⟨#[]⟩,0,⟨#[]⟩,0,0,0⟩)
 go_wp2
 refine bodyPost_ret (v:=val ⟨k,0,⟨#[]⟩,0,⟨#[]⟩,0,0,0⟩) (by simp [results,Tryz.results193,go_sem,d0,d1,d2,d3,d4,d5,d6,d7]) rfl ⟨rfl,E.out.below⟩
theorem zvn (k u:Int) (f:ByteArray) (q:Int) (s:ByteArray) (m n t:Int) (w:World) (hP:zad w) (hs:Sig k true true false false true true) :
  Calls Tryz.prog 193 #[val ⟨k,u,f,q,s,m,n,t⟩] w fun e w'=>e=.returned (val ⟨k,u,f,q,⟨#[]⟩,0,n,t⟩)∧Below w.heap.size w w':=by
 obtain ⟨s0,s1,s2,s3,s4,s5⟩:=hs
 have S0:=hid s0
 have S1:=hid s1
 have S2:=hid s2
 have S3:=hid s3
 have S4:=hid s4
 have S5:=hid s5
 have A0:=hid ((Boxed.start hP ⟨k,u,f,q,s,m,n,t⟩).alloc (.cells (cellsOf ⟨0,0,⟨#[]⟩,0,⟨#[]⟩,0,0,0⟩) 61))
 have R0:Hid (Boxed w ((w.alloc (.cells (cellsOf ⟨k,u,f,q,s,m,n,t⟩) 61)).alloc (.cells (cellsOf ⟨0,0,⟨#[]⟩,0,⟨#[]⟩,0,0,0⟩) 61)) (w.heap.size+1) ⟨0,0,⟨#[]⟩,0,⟨#[]⟩,0,0,0⟩):=hid ⟨by have h:=Blk.new (w.alloc (.cells (cellsOf ⟨k,u,f,q,s,m,n,t⟩) 61)) 61 (cellsOf ⟨0,0,⟨#[]⟩,0,⟨#[]⟩,0,0,0⟩);simpa using h,by omega,A0.out.below,hP⟩
 clear s0 s1 s2 s3 s4 s5 hP
 go_enter Tryz.func193,Tryz.ntmps193
 go_wp2_with fail
 with_reducible refine (zb3 ⟨k,u,f,q,s,m,n,t⟩ true _ S0.out A0.out.parts).mono ?_
 rintro e w1 ⟨rfl,hb⟩
 have A1:=hid (A0.out.on hb)
 have R1:=hid (R0.out.on hb)
 clear hb A0 R0 S0
 obtain ⟨⟨c0,c1,c2,c3,c4,c5,c6,c7⟩,f0,f1,f2,f3,f4,f5,f6,f7⟩:=zaa A1.out.1
 go_wp2_with fail
 with_reducible refine (zb7 ⟨k,u,f,q,s,m,n,t⟩ true _ S1.out A1.out.parts).mono ?_
 rintro e w2 ⟨rfl,hb⟩
 have A2:=hid (A1.out.on hb)
 have R2:=hid (R1.out.on hb)
 clear hb A1 R1 S1 c0 c1 c2 c3 c4 c5 c6 c7 f0 f1 f2 f3 f4 f5 f6 f7
 obtain ⟨⟨c0,c1,c2,c3,c4,c5,c6,c7⟩,f0,f1,f2,f3,f4,f5,f6,f7⟩:=zaa A2.out.1
 go_wp2_with fail
 with_reducible refine (zb5 ⟨k,u,f,q,s,m,n,t⟩ false _ S2.out A2.out.parts).mono ?_
 rintro e w3 ⟨rfl,hb⟩
 have A3:=hid (A2.out.on hb)
 have R3:=hid (R2.out.on hb)
 clear hb A2 R2 S2 c0 c1 c2 c3 c4 c5 c6 c7 f0 f1 f2 f3 f4 f5 f6 f7
 obtain ⟨⟨c0,c1,c2,c3,c4,c5,c6,c7⟩,f0,f1,f2,f3,f4,f5,f6,f7⟩:=zaa A3.out.1
 have A3s:=hid (A3.out.set_ 4 (.string ⟨#[]⟩) ⟨k,u,f,q,⟨#[]⟩,m,n,t⟩ rfl)
 have R3s:=hid (R3.out.far (p:=⟨w.heap.size,4,none⟩) (by simp) (Nat.le_refl _) (.string ⟨#[]⟩))
 clear A3 R3
 go_wp2_with fail
 with_reducible refine (zca ⟨k,u,f,q,⟨#[]⟩,m,n,t⟩ false _ S3.out A3s.out.parts).mono ?_
 rintro e w4 ⟨rfl,hb⟩
 have A4:=hid (A3s.out.on hb)
 have R4:=hid (R3s.out.on hb)
 clear hb A3s R3s S3 c0 c1 c2 c3 c4 c5 c6 c7 f0 f1 f2 f3 f4 f5 f6 f7
 obtain ⟨⟨c0,c1,c2,c3,c4,c5,c6,c7⟩,f0,f1,f2,f3,f4,f5,f6,f7⟩:=zaa A4.out.1
 have A4s:=hid (A4.out.set_ 5 (.int .i64 0) ⟨k,u,f,q,⟨#[]⟩,0,n,t⟩ rfl)
 have R4s:=hid (R4.out.far (p:=⟨w.heap.size,5,none⟩) (by simp) (Nat.le_refl _) (.int .i64 0))
 clear A4 R4
 go_wp2_with fail
 with_reducible refine (zbT ⟨k,u,f,q,⟨#[]⟩,0,n,t⟩ true _ S4.out A4s.out.parts).mono ?_
 rintro e w5 ⟨rfl,hb⟩
 have A5:=hid (A4s.out.on hb)
 have R5:=hid (R4s.out.on hb)
 clear hb A4s R4s S4 c0 c1 c2 c3 c4 c5 c6 c7 f0 f1 f2 f3 f4 f5 f6 f7
 obtain ⟨⟨c0,c1,c2,c3,c4,c5,c6,c7⟩,f0,f1,f2,f3,f4,f5,f6,f7⟩:=zaa A5.out.1
 go_wp2_with fail
 with_reducible refine (zb4 ⟨k,u,f,q,⟨#[]⟩,0,n,t⟩ true _ S5.out A5.out.parts).mono ?_
 rintro e w6 ⟨rfl,hb⟩
 have A6:=hid (A5.out.on hb)
 have R6:=hid (R5.out.on hb)
 clear hb A5 R5 S5 c0 c1 c2 c3 c4 c5 c6 c7 f0 f1 f2 f3 f4 f5 f6 f7
 obtain ⟨⟨c0,c1,c2,c3,c4,c5,c6,c7⟩,f0,f1,f2,f3,f4,f5,f6,f7⟩:=zaa A6.out.1
 obtain ⟨⟨d0,d1,d2,d3,d4,d5,d6,d7⟩,g0,g1,g2,g3,g4,g5,g6,g7⟩:=zaa R6.out.1
 have E:=hid (R6.out.put ⟨k,u,f,q,⟨#[]⟩,0,n,t⟩)
 go_wp2
 refine bodyPost_ret (v:=val ⟨k,u,f,q,⟨#[]⟩,0,n,t⟩) (by simp [results,Tryz.results193,go_sem,d0,d1,d2,d3,d4,d5,d6,d7]) rfl ⟨rfl,E.out.below⟩
theorem zvf (k u:Int) (f:ByteArray) (q:Int) (s:ByteArray) (m n t:Int) (w:World) (hP:zad w) (hs:Sig k true true false false false false) :
  Calls Tryz.prog 193 #[val ⟨k,u,f,q,s,m,n,t⟩] w fun e w'=>e=.returned (val ⟨k,u,f,q,⟨#[]⟩,0,0,0⟩)∧Below w.heap.size w w':=by
 obtain ⟨s0,s1,s2,s3,s4,s5⟩:=hs
 have S0:=hid s0
 have S1:=hid s1
 have S2:=hid s2
 have S3:=hid s3
 have S4:=hid s4
 have S5:=hid s5
 have A0:=hid ((Boxed.start hP ⟨k,u,f,q,s,m,n,t⟩).alloc (.cells (cellsOf ⟨0,0,⟨#[]⟩,0,⟨#[]⟩,0,0,0⟩) 61))
 have R0:Hid (Boxed w ((w.alloc (.cells (cellsOf ⟨k,u,f,q,s,m,n,t⟩) 61)).alloc (.cells (cellsOf ⟨0,0,⟨#[]⟩,0,⟨#[]⟩,0,0,0⟩) 61)) (w.heap.size+1) ⟨0,0,⟨#[]⟩,0,⟨#[]⟩,0,0,0⟩):=hid ⟨by have h:=Blk.new (w.alloc (.cells (cellsOf ⟨k,u,f,q,s,m,n,t⟩) 61)) 61 (cellsOf ⟨0,0,⟨#[]⟩,0,⟨#[]⟩,0,0,0⟩);simpa using h,by omega,A0.out.below,hP⟩
 clear s0 s1 s2 s3 s4 s5 hP
 go_enter Tryz.func193,Tryz.ntmps193
 go_wp2_with fail
 with_reducible refine (zb3 ⟨k,u,f,q,s,m,n,t⟩ true _ S0.out A0.out.parts).mono ?_
 rintro e w1 ⟨rfl,hb⟩
 have A1:=hid (A0.out.on hb)
 have R1:=hid (R0.out.on hb)
 clear hb A0 R0 S0
 obtain ⟨⟨c0,c1,c2,c3,c4,c5,c6,c7⟩,f0,f1,f2,f3,f4,f5,f6,f7⟩:=zaa A1.out.1
 go_wp2_with fail
 with_reducible refine (zb7 ⟨k,u,f,q,s,m,n,t⟩ true _ S1.out A1.out.parts).mono ?_
 rintro e w2 ⟨rfl,hb⟩
 have A2:=hid (A1.out.on hb)
 have R2:=hid (R1.out.on hb)
 clear hb A1 R1 S1 c0 c1 c2 c3 c4 c5 c6 c7 f0 f1 f2 f3 f4 f5 f6 f7
 obtain ⟨⟨c0,c1,c2,c3,c4,c5,c6,c7⟩,f0,f1,f2,f3,f4,f5,f6,f7⟩:=zaa A2.out.1
 go_wp2_with fail
 with_reducible refine (zb5 ⟨k,u,f,q,s,m,n,t⟩ false _ S2.out A2.out.parts).mono ?_
 rintro e w3 ⟨rfl,hb⟩
 have A3:=hid (A2.out.on hb)
 have R3:=hid (R2.out.on hb)
 clear hb A2 R2 S2 c0 c1 c2 c3 c4 c5 c6 c7 f0 f1 f2 f3 f4 f5 f6 f7
 obtain ⟨⟨c0,c1,c2,c3,c4,c5,c6,c7⟩,f0,f1,f2,f3,f4,f5,f6,f7⟩:=zaa A3.out.1
 have A3s:=hid (A3.out.set_ 4 (.string ⟨#[]⟩) ⟨k,u,f,q,⟨#[]⟩,m,n,t⟩ rfl)
 have R3s:=hid (R3.out.far (p:=⟨w.heap.size,4,none⟩) (by simp) (Nat.le_refl _) (.string ⟨#[]⟩))
 clear A3 R3
 go_wp2_with fail
 with_reducible refine (zca ⟨k,u,f,q,⟨#[]⟩,m,n,t⟩ false _ S3.out A3s.out.parts).mono ?_
 rintro e w4 ⟨rfl,hb⟩
 have A4:=hid (A3s.out.on hb)
 have R4:=hid (R3s.out.on hb)
 clear hb A3s R3s S3 c0 c1 c2 c3 c4 c5 c6 c7 f0 f1 f2 f3 f4 f5 f6 f7
 obtain ⟨⟨c0,c1,c2,c3,c4,c5,c6,c7⟩,f0,f1,f2,f3,f4,f5,f6,f7⟩:=zaa A4.out.1
 have A4s:=hid (A4.out.set_ 5 (.int .i64 0) ⟨k,u,f,q,⟨#[]⟩,0,n,t⟩ rfl)
 have R4s:=hid (R4.out.far (p:=⟨w.heap.size,5,none⟩) (by simp) (Nat.le_refl _) (.int .i64 0))
 clear A4 R4
 go_wp2_with fail
 with_reducible refine (zbT ⟨k,u,f,q,⟨#[]⟩,0,n,t⟩ false _ S4.out A4s.out.parts).mono ?_
 rintro e w5 ⟨rfl,hb⟩
 have A5:=hid (A4s.out.on hb)
 have R5:=hid (R4s.out.on hb)
 clear hb A4s R4s S4 c0 c1 c2 c3 c4 c5 c6 c7 f0 f1 f2 f3 f4 f5 f6 f7
 obtain ⟨⟨c0,c1,c2,c3,c4,c5,c6,c7⟩,f0,f1,f2,f3,f4,f5,f6,f7⟩:=zaa A5.out.1
 have A5s:=hid (A5.out.set_ 6 (.int .u64 0) ⟨k,u,f,q,⟨#[]⟩,0,0,t⟩ rfl)
 have R5s:=hid (R5.out.far (p:=⟨w.heap.size,6,none⟩) (by simp) (Nat.le_refl _) (.int .u64 0))
 clear A5 R5
 go_wp2_with fail
 with_reducible refine (zb4 ⟨k,u,f,q,⟨#[]⟩,0,0,t⟩ false _ S5.out A5s.out.parts).mono ?_
 rintro e w6 ⟨rfl,hb⟩
 have A6:=hid (A5s.out.on hb)
 have R6:=hid (R5s.out.on hb)
 clear hb A5s R5s S5 c0 c1 c2 c3 c4 c5 c6 c7 f0 f1 f2 f3 f4 f5 f6 f7
 obtain ⟨⟨c0,c1,c2,c3,c4,c5,c6,c7⟩,f0,f1,f2,f3,f4,f5,f6,f7⟩:=zaa A6.out.1
 have A6s:=hid (A6.out.set_ 7 (.int .i64 0) ⟨k,u,f,q,⟨#[]⟩,0,0,0⟩ rfl)
 have R6s:=hid (R6.out.far (p:=⟨w.heap.size,7,none⟩) (by simp) (Nat.le_refl _) (.int .i64 0))
 clear A6 R6
 obtain ⟨⟨d0,d1,d2,d3,d4,d5,d6,d7⟩,g0,g1,g2,g3,g4,g5,g6,g7⟩:=zaa R6s.out.1
 have E:=hid (R6s.out.put ⟨k,u,f,q,⟨#[]⟩,0,0,0⟩)
 go_wp2
 refine bodyPost_ret (v:=val ⟨k,u,f,q,⟨#[]⟩,0,0,0⟩) (by simp [results,Tryz.results193,go_sem,d0,d1,d2,d3,d4,d5,d6,d7]) rfl ⟨rfl,E.out.below⟩
theorem zvB (k u:Int) (f:ByteArray) (q:Int) (s:ByteArray) (m n t:Int) (w:World) (hP:zad w) (hs:Sig k true true false false false true) :
  Calls Tryz.prog 193 #[val ⟨k,u,f,q,s,m,n,t⟩] w fun e w'=>e=.returned (val ⟨k,u,f,q,⟨#[]⟩,0,0,t⟩)∧Below w.heap.size w w':=by
 obtain ⟨s0,s1,s2,s3,s4,s5⟩:=hs
 have S0:=hid s0
 have S1:=hid s1
 have S2:=hid s2
 have S3:=hid s3
 have S4:=hid s4
 have S5:=hid s5
 have A0:=hid ((Boxed.start hP ⟨k,u,f,q,s,m,n,t⟩).alloc (.cells (cellsOf ⟨0,0,⟨#[]⟩,0,⟨#[]⟩,0,0,0⟩) 61))
 have R0:Hid (Boxed w ((w.alloc (.cells (cellsOf ⟨k,u,f,q,s,m,n,t⟩) 61)).alloc (.cells (cellsOf ⟨0,0,⟨#[]⟩,0,⟨#[]⟩,0,0,0⟩) 61)) (w.heap.size+1) ⟨0,0,⟨#[]⟩,0,⟨#[]⟩,0,0,0⟩):=hid ⟨by have h:=Blk.new (w.alloc (.cells (cellsOf ⟨k,u,f,q,s,m,n,t⟩) 61)) 61 (cellsOf ⟨0,0,⟨#[]⟩,0,⟨#[]⟩,0,0,0⟩);simpa using h,by omega,A0.out.below,hP⟩
 clear s0 s1 s2 s3 s4 s5 hP
 go_enter Tryz.func193,Tryz.ntmps193
 go_wp2_with fail
 with_reducible refine (zb3 ⟨k,u,f,q,s,m,n,t⟩ true _ S0.out A0.out.parts).mono ?_
 rintro e w1 ⟨rfl,hb⟩
 have A1:=hid (A0.out.on hb)
 have R1:=hid (R0.out.on hb)
 clear hb A0 R0 S0
 obtain ⟨⟨c0,c1,c2,c3,c4,c5,c6,c7⟩,f0,f1,f2,f3,f4,f5,f6,f7⟩:=zaa A1.out.1
 go_wp2_with fail
 with_reducible refine (zb7 ⟨k,u,f,q,s,m,n,t⟩ true _ S1.out A1.out.parts).mono ?_
 rintro e w2 ⟨rfl,hb⟩
 have A2:=hid (A1.out.on hb)
 have R2:=hid (R1.out.on hb)
 clear hb A1 R1 S1 c0 c1 c2 c3 c4 c5 c6 c7 f0 f1 f2 f3 f4 f5 f6 f7
 obtain ⟨⟨c0,c1,c2,c3,c4,c5,c6,c7⟩,f0,f1,f2,f3,f4,f5,f6,f7⟩:=zaa A2.out.1
 go_wp2_with fail
 with_reducible refine (zb5 ⟨k,u,f,q,s,m,n,t⟩ false _ S2.out A2.out.parts).mono ?_
 rintro e w3 ⟨rfl,hb⟩
 have A3:=hid (A2.out.on hb)
 have R3:=hid (R2.out.on hb)
 clear hb A2 R2 S2 c0 c1 c2 c3 c4 c5 c6 c7 f0 f1 f2 f3 f4 f5 f6 f7
 obtain ⟨⟨c0,c1,c2,c3,c4,c5,c6,c7⟩,f0,f1,f2,f3,f4,f5,f6,f7⟩:=zaa A3.out.1
 have A3s:=hid (A3.out.set_ 4 (.string ⟨#[]⟩) ⟨k,u,f,q,⟨#[]⟩,m,n,t⟩ rfl)
 have R3s:=hid (R3.out.far (p:=⟨w.heap.size,4,none⟩) (by simp) (Nat.le_refl _) (.string ⟨#[]⟩))
 clear A3 R3
 go_wp2_with fail
 with_reducible refine (zca ⟨k,u,f,q,⟨#[]⟩,m,n,t⟩ false _ S3.out A3s.out.parts).mono ?_
 rintro e w4 ⟨rfl,hb⟩
 have A4:=hid (A3s.out.on hb)
 have R4:=hid (R3s.out.on hb)
 clear hb A3s R3s S3 c0 c1 c2 c3 c4 c5 c6 c7 f0 f1 f2 f3 f4 f5 f6 f7
 obtain ⟨⟨c0,c1,c2,c3,c4,c5,c6,c7⟩,f0,f1,f2,f3,f4,f5,f6,f7⟩:=zaa A4.out.1
 have A4s:=hid (A4.out.set_ 5 (.int .i64 0) ⟨k,u,f,q,⟨#[]⟩,0,n,t⟩ rfl)
 have R4s:=hid (R4.out.far (p:=⟨w.heap.size,5,none⟩) (by simp) (Nat.le_refl _) (.int .i64 0))
 clear A4 R4
 go_wp2_with fail
 with_reducible refine (zbT ⟨k,u,f,q,⟨#[]⟩,0,n,t⟩ false _ S4.out A4s.out.parts).mono ?_
 rintro e w5 ⟨rfl,hb⟩
 have A5:=hid (A4s.out.on hb)
 have R5:=hid (R4s.out.on hb)
 clear hb A4s R4s S4 c0 c1 c2 c3 c4 c5 c6 c7 f0 f1 f2 f3 f4 f5 f6 f7
 obtain ⟨⟨c0,c1,c2,c3,c4,c5,c6,c7⟩,f0,f1,f2,f3,f4,f5,f6,f7⟩:=zaa A5.out.1
 have A5s:=hid (A5.out.set_ 6 (.int .u64 0) ⟨k,u,f,q,⟨#[]⟩,0,0,t⟩ rfl)
 have R5s:=hid (R5.out.far (p:=⟨w.heap.size,6,none⟩) (by simp) (Nat.le_refl _) (.int .u64 0))
 clear A5 R5
 go_wp2_with fail
 with_reducible refine (zb4 ⟨k,u,f,q,⟨#[]⟩,0,0,t⟩ true _ S5.out A5s.out.parts).mono ?_
 rintro e w6 ⟨rfl,hb⟩
 have A6:=hid (A5s.out.on hb)
 have R6:=hid (R5s.out.on hb)
 clear hb A5s R5s S5 c0 c1 c2 c3 c4 c5 c6 c7 f0 f1 f2 f3 f4 f5 f6 f7
 obtain ⟨⟨c0,c1,c2,c3,c4,c5,c6,c7⟩,f0,f1,f2,f3,f4,f5,f6,f7⟩:=zaa A6.out.1
 obtain ⟨⟨d0,d1,d2,d3,d4,d5,d6,d7⟩,g0,g1,g2,g3,g4,g5,g6,g7⟩:=zaa R6.out.1
 have E:=hid (R6.out.put ⟨k,u,f,q,⟨#[]⟩,0,0,t⟩)
 go_wp2
 refine bodyPost_ret (v:=val ⟨k,u,f,q,⟨#[]⟩,0,0,t⟩) (by simp [results,Tryz.results193,go_sem,d0,d1,d2,d3,d4,d5,d6,d7]) rfl ⟨rfl,E.out.below⟩
theorem zu2 (k u:Int) (f:ByteArray) (q:Int) (s:ByteArray) (m n t:Int) (w:World) (hP:zad w) (hs:Sig k true true true true false false) :
  Calls Tryz.prog 193 #[val ⟨k,u,f,q,s,m,n,t⟩] w fun e w'=>e=.returned (val ⟨k,u,f,q,s,m,0,0⟩)∧Below w.heap.size w w':=by
 obtain ⟨s0,s1,s2,s3,s4,s5⟩:=hs
 have S0:=hid s0
 have S1:=hid s1
 have S2:=hid s2
 have S3:=hid s3
 have S4:=hid s4
 have S5:=hid s5
 have A0:=hid ((Boxed.start hP ⟨k,u,f,q,s,m,n,t⟩).alloc (.cells (cellsOf ⟨0,0,⟨#[]⟩,0,⟨#[]⟩,0,0,0⟩) 61))
 have R0:Hid (Boxed w ((w.alloc (.cells (cellsOf ⟨k,u,f,q,s,m,n,t⟩) 61)).alloc (.cells (cellsOf ⟨0,0,⟨#[]⟩,0,⟨#[]⟩,0,0,0⟩) 61)) (w.heap.size+1) ⟨0,0,⟨#[]⟩,0,⟨#[]⟩,0,0,0⟩):=hid ⟨by have h:=Blk.new (w.alloc (.cells (cellsOf ⟨k,u,f,q,s,m,n,t⟩) 61)) 61 (cellsOf ⟨0,0,⟨#[]⟩,0,⟨#[]⟩,0,0,0⟩);simpa using h,by omega,A0.out.below,hP⟩
 clear s0 s1 s2 s3 s4 s5 hP
 go_enter Tryz.func193,Tryz.ntmps193
 go_wp2_with fail
 with_reducible refine (zb3 ⟨k,u,f,q,s,m,n,t⟩ true _ S0.out A0.out.parts).mono ?_
 rintro e w1 ⟨rfl,hb⟩
 have A1:=hid (A0.out.on hb)
 have R1:=hid (R0.out.on hb)
 clear hb A0 R0 S0
 obtain ⟨⟨c0,c1,c2,c3,c4,c5,c6,c7⟩,f0,f1,f2,f3,f4,f5,f6,f7⟩:=zaa A1.out.1
 go_wp2_with fail
 with_reducible refine (zb7 ⟨k,u,f,q,s,m,n,t⟩ true _ S1.out A1.out.parts).mono ?_
 rintro e w2 ⟨rfl,hb⟩
 have A2:=hid (A1.out.on hb)
 have R2:=hid (R1.out.on hb)
 clear hb A1 R1 S1 c0 c1 c2 c3 c4 c5 c6 c7 f0 f1 f2 f3 f4 f5 f6 f7
 obtain ⟨⟨c0,c1,c2,c3,c4,c5,c6,c7⟩,f0,f1,f2,f3,f4,f5,f6,f7⟩:=zaa A2.out.1
 go_wp2_with fail
 with_reducible refine (zb5 ⟨k,u,f,q,s,m,n,t⟩ true _ S2.out A2.out.parts).mono ?_
 rintro e w3 ⟨rfl,hb⟩
 have A3:=hid (A2.out.on hb)
 have R3:=hid (R2.out.on hb)
 clear hb A2 R2 S2 c0 c1 c2 c3 c4 c5 c6 c7 f0 f1 f2 f3 f4 f5 f6 f7
 obtain ⟨⟨c0,c1,c2,c3,c4,c5,c6,c7⟩,f0,f1,f2,f3,f4,f5,f6,f7⟩:=zaa A3.out.1
 go_wp2_with fail
 with_reducible refine (zca ⟨k,u,f,q,s,m,n,t⟩ true _ S3.out A3.out.parts).mono ?_
 rintro e w4 ⟨rfl,hb⟩
 have A4:=hid (A3.out.on hb)
 have R4:=hid (R3.out.on hb)
 clear hb A3 R3 S3 c0 c1 c2 c3 c4 c5 c6 c7 f0 f1 f2 f3 f4 f5 f6 f7
 obtain ⟨⟨c0,c1,c2,c3,c4,c5,c6,c7⟩,f0,f1,f2,f3,f4,f5,f6,f7⟩:=zaa A4.out.1
 go_wp2_with fail
 with_reducible refine (zbT ⟨k,u,f,q,s,m,n,t⟩ false _ S4.out A4.out.parts).mono ?_
 rintro e w5 ⟨rfl,hb⟩
 have A5:=hid (A4.out.on hb)
 have R5:=hid (R4.out.on hb)
 clear hb A4 R4 S4 c0 c1 c2 c3 c4 c5 c6 c7 f0 f1 f2 f3 f4 f5 f6 f7
 obtain ⟨⟨c0,c1,c2,c3,c4,c5,c6,c7⟩,f0,f1,f2,f3,f4,f5,f6,f7⟩:=zaa A5.out.1
 have A5s:=hid (A5.out.set_ 6 (.int .u64 0) ⟨k,u,f,q,s,m,0,t⟩ rfl)
 have R5s:=hid (R5.out.far (p:=⟨w.heap.size,6,none⟩) (by simp) (Nat.le_refl _) (.int .u64 0))
 clear A5 R5
 go_wp2_with fail
 with_reducible refine (zb4 ⟨k,u,f,q,s,m,0,t⟩ false _ S5.out A5s.out.parts).mono ?_
 rintro e w6 ⟨rfl,hb⟩
 have A6:=hid (A5s.out.on hb)
 have R6:=hid (R5s.out.on hb)
 clear hb A5s R5s S5 c0 c1 c2 c3 c4 c5 c6 c7 f0 f1 f2 f3 f4 f5 f6 f7
 obtain ⟨⟨c0,c1,c2,c3,c4,c5,c6,c7⟩,f0,f1,f2,f3,f4,f5,f6,f7⟩:=zaa A6.out.1
 have A6s:=hid (A6.out.set_ 7 (.int .i64 0) ⟨k,u,f,q,s,m,0,0⟩ rfl)
 have R6s:=hid (R6.out.far (p:=⟨w.heap.size,7,none⟩) (by simp) (Nat.le_refl _) (.int .i64 0))
 clear A6 R6
 obtain ⟨⟨d0,d1,d2,d3,d4,d5,d6,d7⟩,g0,g1,g2,g3,g4,g5,g6,g7⟩:=zaa R6s.out.1
 have E:=hid (R6s.out.put ⟨k,u,f,q,s,m,0,0⟩)
 go_wp2
 refine bodyPost_ret (v:=val ⟨k,u,f,q,s,m,0,0⟩) (by simp [results,Tryz.results193,go_sem,d0,d1,d2,d3,d4,d5,d6,d7]) rfl ⟨rfl,E.out.below⟩
theorem zu9 (k u:Int) (f:ByteArray) (q:Int) (s:ByteArray) (m n t:Int) (w:World) (hP:zad w) (hs:Sig k true true true false false false) :
  Calls Tryz.prog 193 #[val ⟨k,u,f,q,s,m,n,t⟩] w fun e w'=>e=.returned (val ⟨k,u,f,q,s,0,0,0⟩)∧Below w.heap.size w w':=by
 obtain ⟨s0,s1,s2,s3,s4,s5⟩:=hs
 have S0:=hid s0
 have S1:=hid s1
 have S2:=hid s2
 have S3:=hid s3
 have S4:=hid s4
 have S5:=hid s5
 have A0:=hid ((Boxed.start hP ⟨k,u,f,q,s,m,n,t⟩).alloc (.cells (cellsOf ⟨0,0,⟨#[]⟩,0,⟨#[]⟩,0,0,0⟩) 61))
 have R0:Hid (Boxed w ((w.alloc (.cells (cellsOf ⟨k,u,f,q,s,m,n,t⟩) 61)).alloc (.cells (cellsOf ⟨0,0,⟨#[]⟩,0,⟨#[]⟩,0,0,0⟩) 61)) (w.heap.size+1) ⟨0,0,⟨#[]⟩,0,⟨#[]⟩,0,0,0⟩):=hid ⟨by have h:=Blk.new (w.alloc (.cells (cellsOf ⟨k,u,f,q,s,m,n,t⟩) 61)) 61 (cellsOf ⟨0,0,⟨#[]⟩,0,⟨#[]⟩,0,0,0⟩);simpa using h,by omega,A0.out.below,hP⟩
 clear s0 s1 s2 s3 s4 s5 hP
 go_enter Tryz.func193,Tryz.ntmps193
 go_wp2_with fail
 with_reducible refine (zb3 ⟨k,u,f,q,s,m,n,t⟩ true _ S0.out A0.out.parts).mono ?_
 rintro e w1 ⟨rfl,hb⟩
 have A1:=hid (A0.out.on hb)
 have R1:=hid (R0.out.on hb)
 clear hb A0 R0 S0
 obtain ⟨⟨c0,c1,c2,c3,c4,c5,c6,c7⟩,f0,f1,f2,f3,f4,f5,f6,f7⟩:=zaa A1.out.1
 go_wp2_with fail
 with_reducible refine (zb7 ⟨k,u,f,q,s,m,n,t⟩ true _ S1.out A1.out.parts).mono ?_
 rintro e w2 ⟨rfl,hb⟩
 have A2:=hid (A1.out.on hb)
 have R2:=hid (R1.out.on hb)
 clear hb A1 R1 S1 c0 c1 c2 c3 c4 c5 c6 c7 f0 f1 f2 f3 f4 f5 f6 f7
 obtain ⟨⟨c0,c1,c2,c3,c4,c5,c6,c7⟩,f0,f1,f2,f3,f4,f5,f6,f7⟩:=zaa A2.out.1
 go_wp2_with fail
 with_reducible refine (zb5 ⟨k,u,f,q,s,m,n,t⟩ true _ S2.out A2.out.parts).mono ?_
 rintro e w3 ⟨rfl,hb⟩
 have A3:=hid (A2.out.on hb)
 have R3:=hid (R2.out.on hb)
 clear hb A2 R2 S2 c0 c1 c2 c3 c4 c5 c6 c7 f0 f1 f2 f3 f4 f5 f6 f7
 obtain ⟨⟨c0,c1,c2,c3,c4,c5,c6,c7⟩,f0,f1,f2,f3,f4,f5,f6,f7⟩:=zaa A3.out.1
 go_wp2_with fail
 with_reducible refine (zca ⟨k,u,f,q,s,m,n,t⟩ false _ S3.out A3.out.parts).mono ?_
 rintro e w4 ⟨rfl,hb⟩
 have A4:=hid (A3.out.on hb)
 have R4:=hid (R3.out.on hb)
 clear hb A3 R3 S3 c0 c1 c2 c3 c4 c5 c6 c7 f0 f1 f2 f3 f4 f5 f6 f7
 obtain ⟨⟨c0,c1,c2,c3,c4,c5,c6,c7⟩,f0,f1,f2,f3,f4,f5,f6,f7⟩:=zaa A4.out.1
 have A4s:=hid (A4.out.set_ 5 (.int .i64 0) ⟨k,u,f,q,s,0,n,t⟩ rfl)
 have R4s:=hid (R4.out.far (p:=⟨w.heap.size,5,none⟩) (by simp) (Nat.le_refl _) (.int .i64 0))
 clear A4 R4
 go_wp2_with fail
 with_reducible refine (zbT ⟨k,u,f,q,s,0,n,t⟩ false _ S4.out A4s.out.parts).mono ?_
 rintro e w5 ⟨rfl,hb⟩
 have A5:=hid (A4s.out.on hb)
 have R5:=hid (R4s.out.on hb)
 clear hb A4s R4s S4 c0 c1 c2 c3 c4 c5 c6 c7 f0 f1 f2 f3 f4 f5 f6 f7
 obtain ⟨⟨c0,c1,c2,c3,c4,c5,c6,c7⟩,f0,f1,f2,f3,f4,f5,f6,f7⟩:=zaa A5.out.1
 have A5s:=hid (A5.out.set_ 6 (.int .u64 0) ⟨k,u,f,q,s,0,0,t⟩ rfl)
 have R5s:=hid (R5.out.far (p:=⟨w.heap.size,6,none⟩) (by simp) (Nat.le_refl _) (.int .u64 0))
 clear A5 R5
 go_wp2_with fail
 with_reducible refine (zb4 ⟨k,u,f,q,s,0,0,t⟩ false _ S5.out A5s.out.parts).mono ?_
 rintro e w6 ⟨rfl,hb⟩
 have A6:=hid (A5s.out.on hb)
 have R6:=hid (R5s.out.on hb)
 clear hb A5s R5s S5 c0 c1 c2 c3 c4 c5 c6 c7 f0 f1 f2 f3 f4 f5 f6 f7
 obtain ⟨⟨c0,c1,c2,c3,c4,c5,c6,c7⟩,f0,f1,f2,f3,f4,f5,f6,f7⟩:=zaa A6.out.1
 have A6s:=hid (A6.out.set_ 7 (.int .i64 0) ⟨k,u,f,q,s,0,0,0⟩ rfl)
 have R6s:=hid (R6.out.far (p:=⟨w.heap.size,7,none⟩) (by simp) (Nat.le_refl _) (.int .i64 0))
 clear A6 R6
 obtain ⟨⟨d0,d1,d2,d3,d4,d5,d6,d7⟩,g0,g1,g2,g3,g4,g5,g6,g7⟩:=zaa R6s.out.1
 have E:=hid (R6s.out.put ⟨k,u,f,q,s,0,0,0⟩)
 go_wp2
 refine bodyPost_ret (v:=val ⟨k,u,f,q,s,0,0,0⟩) (by simp [results,Tryz.results193,go_sem,d0,d1,d2,d3,d4,d5,d6,d7]) rfl ⟨rfl,E.out.below⟩
theorem zvw (k u:Int) (f:ByteArray) (q:Int) (s:ByteArray) (m n t:Int) (w:World) (hP:zad w) (hs:Sig k true true true false true false) :
  Calls Tryz.prog 193 #[val ⟨k,u,f,q,s,m,n,t⟩] w fun e w'=>e=.returned (val ⟨k,u,f,q,s,0,n,0⟩)∧Below w.heap.size w w':=by
 obtain ⟨s0,s1,s2,s3,s4,s5⟩:=hs
 have S0:=hid s0
 have S1:=hid s1
 have S2:=hid s2
 have S3:=hid s3
 have S4:=hid s4
 have S5:=hid s5
 have A0:=hid ((Boxed.start hP ⟨k,u,f,q,s,m,n,t⟩).alloc (.cells (cellsOf ⟨0,0,⟨#[]⟩,0,⟨#[]⟩,0,0,0⟩) 61))
 have R0:Hid (Boxed w ((w.alloc (.cells (cellsOf ⟨k,u,f,q,s,m,n,t⟩) 61)).alloc (.cells (cellsOf ⟨0,0,⟨#[]⟩,0,⟨#[]⟩,0,0,0⟩) 61)) (w.heap.size+1) ⟨0,0,⟨#[]⟩,0,⟨#[]⟩,0,0,0⟩):=hid ⟨by have h:=Blk.new (w.alloc (.cells (cellsOf ⟨k,u,f,q,s,m,n,t⟩) 61)) 61 (cellsOf ⟨0,0,⟨#[]⟩,0,⟨#[]⟩,0,0,0⟩);simpa using h,by omega,A0.out.below,hP⟩
 clear s0 s1 s2 s3 s4 s5 hP
 go_enter Tryz.func193,Tryz.ntmps193
 go_wp2_with fail
 with_reducible refine (zb3 ⟨k,u,f,q,s,m,n,t⟩ true _ S0.out A0.out.parts).mono ?_
 rintro e w1 ⟨rfl,hb⟩
 have A1:=hid (A0.out.on hb)
 have R1:=hid (R0.out.on hb)
 clear hb A0 R0 S0
 obtain ⟨⟨c0,c1,c2,c3,c4,c5,c6,c7⟩,f0,f1,f2,f3,f4,f5,f6,f7⟩:=zaa A1.out.1
 go_wp2_with fail
 with_reducible refine (zb7 ⟨k,u,f,q,s,m,n,t⟩ true _ S1.out A1.out.parts).mono ?_
 rintro e w2 ⟨rfl,hb⟩
 have A2:=hid (A1.out.on hb)
 have R2:=hid (R1.out.on hb)
 clear hb A1 R1 S1 c0 c1 c2 c3 c4 c5 c6 c7 f0 f1 f2 f3 f4 f5 f6 f7
 obtain ⟨⟨c0,c1,c2,c3,c4,c5,c6,c7⟩,f0,f1,f2,f3,f4,f5,f6,f7⟩:=zaa A2.out.1
 go_wp2_with fail
 with_reducible refine (zb5 ⟨k,u,f,q,s,m,n,t⟩ true _ S2.out A2.out.parts).mono ?_
 rintro e w3 ⟨rfl,hb⟩
 have A3:=hid (A2.out.on hb)
 have R3:=hid (R2.out.on hb)
 clear hb A2 R2 S2 c0 c1 c2 c3 c4 c5 c6 c7 f0 f1 f2 f3 f4 f5 f6 f7
 obtain ⟨⟨c0,c1,c2,c3,c4,c5,c6,c7⟩,f0,f1,f2,f3,f4,f5,f6,f7⟩:=zaa A3.out.1
 go_wp2_with fail
 with_reducible refine (zca ⟨k,u,f,q,s,m,n,t⟩ false _ S3.out A3.out.parts).mono ?_
 rintro e w4 ⟨rfl,hb⟩
 have A4:=hid (A3.out.on hb)
 have R4:=hid (R3.out.on hb)
 clear hb A3 R3 S3 c0 c1 c2 c3 c4 c5 c6 c7 f0 f1 f2 f3 f4 f5 f6 f7
 obtain ⟨⟨c0,c1,c2,c3,c4,c5,c6,c7⟩,f0,f1,f2,f3,f4,f5,f6,f7⟩:=zaa A4.out.1
 have A4s:=hid (A4.out.set_ 5 (.int .i64 0) ⟨k,u,f,q,s,0,n,t⟩ rfl)
 have R4s:=hid (R4.out.far (p:=⟨w.heap.size,5,none⟩) (by simp) (Nat.le_refl _) (.int .i64 0))
 clear A4 R4
 go_wp2_with fail
 with_reducible refine (zbT ⟨k,u,f,q,s,0,n,t⟩ true _ S4.out A4s.out.parts).mono ?_
 rintro e w5 ⟨rfl,hb⟩
 have A5:=hid (A4s.out.on hb)
 have R5:=hid (R4s.out.on hb)
 clear hb A4s R4s S4 c0 c1 c2 c3 c4 c5 c6 c7 f0 f1 f2 f3 f4 f5 f6 f7
 obtain ⟨⟨c0,c1,c2,c3,c4,c5,c6,c7⟩,f0,f1,f2,f3,f4,f5,f6,f7⟩:=zaa A5.out.1
 go_wp2_with fail
 with_reducible refine (zb4 ⟨k,u,f,q,s,0,n,t⟩ false _ S5.out A5.out.parts).mono ?_
 rintro e w6 ⟨rfl,hb⟩
 have A6:=hid (A5.out.on hb)
 have R6:=hid (R5.out.on hb)
 clear hb A5 R5 S5 c0 c1 c2 c3 c4 c5 c6 c7 f0 f1 f2 f3 f4 f5 f6 f7
 obtain ⟨⟨c0,c1,c2,c3,c4,c5,c6,c7⟩,f0,f1,f2,f3,f4,f5,f6,f7⟩:=zaa A6.out.1
 have A6s:=hid (A6.out.set_ 7 (.int .i64 0) ⟨k,u,f,q,s,0,n,0⟩ rfl)
 have R6s:=hid (R6.out.far (p:=⟨w.heap.size,7,none⟩) (by simp) (Nat.le_refl _) (.int .i64 0))
 clear A6 R6
 obtain ⟨⟨d0,d1,d2,d3,d4,d5,d6,d7⟩,g0,g1,g2,g3,g4,g5,g6,g7⟩:=zaa R6s.out.1
 have E:=hid (R6s.out.put ⟨k,u,f,q,s,0,n,0⟩)
 go_wp2
 refine bodyPost_ret (v:=val ⟨k,u,f,q,s,0,n,0⟩) (by simp [results,Tryz.results193,go_sem,d0,d1,d2,d3,d4,d5,d6,d7]) rfl ⟨rfl,E.out.below⟩
theorem zvA (k u:Int) (f:ByteArray) (q:Int) (s:ByteArray) (m n t:Int) (w:World) (hP:zad w) (hs:Sig k true false false false false true) :
  Calls Tryz.prog 193 #[val ⟨k,u,f,q,s,m,n,t⟩] w fun e w'=>e=.returned (val ⟨k,u,f,0,⟨#[]⟩,0,0,t⟩)∧Below w.heap.size w w':=by
 obtain ⟨s0,s1,s2,s3,s4,s5⟩:=hs
 have S0:=hid s0
 have S1:=hid s1
 have S2:=hid s2
 have S3:=hid s3
 have S4:=hid s4
 have S5:=hid s5
 have A0:=hid ((Boxed.start hP ⟨k,u,f,q,s,m,n,t⟩).alloc (.cells (cellsOf ⟨0,0,⟨#[]⟩,0,⟨#[]⟩,0,0,0⟩) 61))
 have R0:Hid (Boxed w ((w.alloc (.cells (cellsOf ⟨k,u,f,q,s,m,n,t⟩) 61)).alloc (.cells (cellsOf ⟨0,0,⟨#[]⟩,0,⟨#[]⟩,0,0,0⟩) 61)) (w.heap.size+1) ⟨0,0,⟨#[]⟩,0,⟨#[]⟩,0,0,0⟩):=hid ⟨by have h:=Blk.new (w.alloc (.cells (cellsOf ⟨k,u,f,q,s,m,n,t⟩) 61)) 61 (cellsOf ⟨0,0,⟨#[]⟩,0,⟨#[]⟩,0,0,0⟩);simpa using h,by omega,A0.out.below,hP⟩
 clear s0 s1 s2 s3 s4 s5 hP
 go_enter Tryz.func193,Tryz.ntmps193
 go_wp2_with fail
 with_reducible refine (zb3 ⟨k,u,f,q,s,m,n,t⟩ true _ S0.out A0.out.parts).mono ?_
 rintro e w1 ⟨rfl,hb⟩
 have A1:=hid (A0.out.on hb)
 have R1:=hid (R0.out.on hb)
 clear hb A0 R0 S0
 obtain ⟨⟨c0,c1,c2,c3,c4,c5,c6,c7⟩,f0,f1,f2,f3,f4,f5,f6,f7⟩:=zaa A1.out.1
 go_wp2_with fail
 with_reducible refine (zb7 ⟨k,u,f,q,s,m,n,t⟩ false _ S1.out A1.out.parts).mono ?_
 rintro e w2 ⟨rfl,hb⟩
 have A2:=hid (A1.out.on hb)
 have R2:=hid (R1.out.on hb)
 clear hb A1 R1 S1 c0 c1 c2 c3 c4 c5 c6 c7 f0 f1 f2 f3 f4 f5 f6 f7
 obtain ⟨⟨c0,c1,c2,c3,c4,c5,c6,c7⟩,f0,f1,f2,f3,f4,f5,f6,f7⟩:=zaa A2.out.1
 have A2s:=hid (A2.out.set_ 3 (.int .u64 0) ⟨k,u,f,0,s,m,n,t⟩ rfl)
 have R2s:=hid (R2.out.far (p:=⟨w.heap.size,3,none⟩) (by simp) (Nat.le_refl _) (.int .u64 0))
 clear A2 R2
 go_wp2_with fail
 with_reducible refine (zb5 ⟨k,u,f,0,s,m,n,t⟩ false _ S2.out A2s.out.parts).mono ?_
 rintro e w3 ⟨rfl,hb⟩
 have A3:=hid (A2s.out.on hb)
 have R3:=hid (R2s.out.on hb)
 clear hb A2s R2s S2 c0 c1 c2 c3 c4 c5 c6 c7 f0 f1 f2 f3 f4 f5 f6 f7
 obtain ⟨⟨c0,c1,c2,c3,c4,c5,c6,c7⟩,f0,f1,f2,f3,f4,f5,f6,f7⟩:=zaa A3.out.1
 have A3s:=hid (A3.out.set_ 4 (.string ⟨#[]⟩) ⟨k,u,f,0,⟨#[]⟩,m,n,t⟩ rfl)
 have R3s:=hid (R3.out.far (p:=⟨w.heap.size,4,none⟩) (by simp) (Nat.le_refl _) (.string ⟨#[]⟩))
 clear A3 R3
 go_wp2_with fail
 with_reducible refine (zca ⟨k,u,f,0,⟨#[]⟩,m,n,t⟩ false _ S3.out A3s.out.parts).mono ?_
 rintro e w4 ⟨rfl,hb⟩
 have A4:=hid (A3s.out.on hb)
 have R4:=hid (R3s.out.on hb)
 clear hb A3s R3s S3 c0 c1 c2 c3 c4 c5 c6 c7 f0 f1 f2 f3 f4 f5 f6 f7
 obtain ⟨⟨c0,c1,c2,c3,c4,c5,c6,c7⟩,f0,f1,f2,f3,f4,f5,f6,f7⟩:=zaa A4.out.1
 have A4s:=hid (A4.out.set_ 5 (.int .i64 0) ⟨k,u,f,0,⟨#[]⟩,0,n,t⟩ rfl)
 have R4s:=hid (R4.out.far (p:=⟨w.heap.size,5,none⟩) (by simp) (Nat.le_refl _) (.int .i64 0))
 clear A4 R4
 go_wp2_with fail
 with_reducible refine (zbT ⟨k,u,f,0,⟨#[]⟩,0,n,t⟩ false _ S4.out A4s.out.parts).mono ?_
 rintro e w5 ⟨rfl,hb⟩
 have A5:=hid (A4s.out.on hb)
 have R5:=hid (R4s.out.on hb)
 clear hb A4s R4s S4 c0 c1 c2 c3 c4 c5 c6 c7 f0 f1 f2 f3 f4 f5 f6 f7
 obtain ⟨⟨c0,c1,c2,c3,c4,c5,c6,c7⟩,f0,f1,f2,f3,f4,f5,f6,f7⟩:=zaa A5.out.1
 have A5s:=hid (A5.out.set_ 6 (.int .u64 0) ⟨k,u,f,0,⟨#[]⟩,0,0,t⟩ rfl)
 have R5s:=hid (R5.out.far (p:=⟨w.heap.size,6,none⟩) (by simp) (Nat.le_refl _) (.int .u64 0))
 clear A5 R5
 go_wp2_with fail
 with_reducible refine (zb4 ⟨k,u,f,0,⟨#[]⟩,0,0,t⟩ true _ S5.out A5s.out.parts).mono ?_
 rintro e w6 ⟨rfl,hb⟩
 have A6:=hid (A5s.out.on hb)
 have R6:=hid (R5s.out.on hb)
 clear hb A5s R5s S5 c0 c1 c2 c3 c4 c5 c6 c7 f0 f1 f2 f3 f4 f5 f6 f7
 obtain ⟨⟨c0,c1,c2,c3,c4,c5,c6,c7⟩,f0,f1,f2,f3,f4,f5,f6,f7⟩:=zaa A6.out.1
 obtain ⟨⟨d0,d1,d2,d3,d4,d5,d6,d7⟩,g0,g1,g2,g3,g4,g5,g6,g7⟩:=zaa R6.out.1
 have E:=hid (R6.out.put ⟨k,u,f,0,⟨#[]⟩,0,0,t⟩)
 go_wp2
 refine bodyPost_ret (v:=val ⟨k,u,f,0,⟨#[]⟩,0,0,t⟩) (by simp [results,Tryz.results193,go_sem,d0,d1,d2,d3,d4,d5,d6,d7]) rfl ⟨rfl,E.out.below⟩
theorem zq4 (c:K) (w:World) (hP:zad w):Calls Tryz.prog 193 #[val c] w fun e w'=>e=.returned (val (own c))∧Below w.heap.size w w':=by
 obtain ⟨k,u,f,q,s,m,n,t⟩:=c
 rcases zei k with ⟨h,_⟩ | ⟨_,h⟩ | ⟨_,h⟩ | ⟨_,h⟩ | ⟨_,h⟩ | ⟨_,h⟩ | ⟨_,h⟩ | ⟨_,h⟩
 ·have hc:=zvr k u f q s m n t w hP h
  obtain ⟨s0,s1,s2,s3,s4,s5⟩:=h
  have he:own ⟨k,u,f,q,s,m,n,t⟩=⟨k,0,⟨#[]⟩,0,⟨#[]⟩,0,0,0⟩:=by simp [own,s0,s1,s2,s3,s4,s5]
  rw [he];exact hc
 ·have hc:=zvn k u f q s m n t w hP h
  obtain ⟨s0,s1,s2,s3,s4,s5⟩:=h
  have he:own ⟨k,u,f,q,s,m,n,t⟩=⟨k,u,f,q,⟨#[]⟩,0,n,t⟩:=by simp [own,s0,s1,s2,s3,s4,s5]
  rw [he];exact hc
 ·have hc:=zvf k u f q s m n t w hP h
  obtain ⟨s0,s1,s2,s3,s4,s5⟩:=h
  have he:own ⟨k,u,f,q,s,m,n,t⟩=⟨k,u,f,q,⟨#[]⟩,0,0,0⟩:=by simp [own,s0,s1,s2,s3,s4,s5]
  rw [he];exact hc
 ·have hc:=zvB k u f q s m n t w hP h
  obtain ⟨s0,s1,s2,s3,s4,s5⟩:=h
  have he:own ⟨k,u,f,q,s,m,n,t⟩=⟨k,u,f,q,⟨#[]⟩,0,0,t⟩:=by simp [own,s0,s1,s2,s3,s4,s5]
  rw [he];exact hc
 ·have hc:=zu2 k u f q s m n t w hP h
  obtain ⟨s0,s1,s2,s3,s4,s5⟩:=h
  have he:own ⟨k,u,f,q,s,m,n,t⟩=⟨k,u,f,q,s,m,0,0⟩:=by simp [own,s0,s1,s2,s3,s4,s5]
  rw [he];exact hc
 ·have hc:=zu9 k u f q s m n t w hP h
  obtain ⟨s0,s1,s2,s3,s4,s5⟩:=h
  have he:own ⟨k,u,f,q,s,m,n,t⟩=⟨k,u,f,q,s,0,0,0⟩:=by simp [own,s0,s1,s2,s3,s4,s5]
  rw [he];exact hc
 ·have hc:=zvw k u f q s m n t w hP h
  obtain ⟨s0,s1,s2,s3,s4,s5⟩:=h
  have he:own ⟨k,u,f,q,s,m,n,t⟩=⟨k,u,f,q,s,0,n,0⟩:=by simp [own,s0,s1,s2,s3,s4,s5]
  rw [he];exact hc
 ·have hc:=zvA k u f q s m n t w hP h
  obtain ⟨s0,s1,s2,s3,s4,s5⟩:=h
  have he:own ⟨k,u,f,q,s,m,n,t⟩=⟨k,u,f,0,⟨#[]⟩,0,0,t⟩:=by simp [own,s0,s1,s2,s3,s4,s5]
  rw [he];exact hc
end Go.Proofs.YtnjdckoljmgcjaaGreatDoor
namespace Go.Proofs.YtnjdckoljmgcjaaGreatDoor
open Go.ChangeShapes Go.WideShapes Go.ChangeAt Go.RowKit Go.Shelf
attribute [local go_sem] Oper.semAt_some
theorem zhu:∀l:List UInt8,(Lib.indexByte l 47=-1∧zat l=[l])∨∃k:Nat,Lib.indexByte l 47=(k:Int)∧k<l.length∧zat l=l.take k :: zat (l.drop (k+1))
 | []=>.inl ⟨rfl,rfl⟩
 | c :: l=>by
  by_cases hc:c=47
  ·subst hc
   exact .inr ⟨0,rfl,by simp,by rw [zdq];rfl⟩
  ·have hb:(c == 47)=false:=by simpa using hc
   rcases zhu l with ⟨h1,h2⟩ | ⟨k,h1,h2,h3⟩
   ·refine .inl ⟨?_,by rw [zbn hc h2]⟩
    simp only [Lib.indexByte,hb,h1];decide
   ·refine .inr ⟨k+1,?_,by simp;omega,by rw [zbn hc h3];rfl⟩
    have hk:((k:Int) == -1)=false:=by simp
    simp [Lib.indexByte,hb,h1,hk]
theorem zjG (s:ByteArray) (a b:Nat):L (s.extract a b)=((L s).drop a).take (b - a):=Lib.extract_data s a b
theorem zux (s:ByteArray) (a:Nat):L (s.extract a s.size)=(L s).drop a:=Lib.extract_to_end s a
theorem zgv (s t:ByteArray):L (s ++ t)=L s ++ L t:=by
 simp [L]
def zu4 (s a b:ByteArray) (f:Bool):Prop:=(f=true∧zat (L s)=L a :: zat (L b)∧b.size<s.size)∨(f=false∧zat (L s)=[L a]∧b.size≤s.size)
def zuM (s:ByteArray) (w:World) (e:Ending) (w':World):Prop :=
 ∃(a b:ByteArray) (f:Bool),e=.returned (.tuple #[.string a,.string b,.bool f])∧zu4 s a b f∧∃n,w'=w.drewN n
theorem zlv (s:ByteArray) (w:World) (hs:s.size≤4611686018427387904):Calls Tryz.prog 210 #[.string s,.string ⟨#[47]⟩] w (zuM s w):=by
 rcases zhu (L s) with ⟨h1,h2⟩ | ⟨k,h1,h2,h3⟩
 ·have H:=hid h2
  clear h2
  go_enter Tryz.func210,Tryz.ntmps210
  go_wp2_with (go_at_call 212;refine (Tryz.stringslite_Index_one s 47 _).mono ?_;rintro e w' ⟨rfl,rfl⟩;rw [show Lib.indexByte s.data.toList 47=_ from h1])
  go_ret3
  exact ⟨s,⟨#[]⟩,false,rfl,.inr ⟨rfl,H.out,Nat.zero_le _⟩,0,rfl⟩
 ·rw [zbA] at h2
  have H:=hid h3
  have H1:=hid h1
  clear h3 h1
  have c1:(0:Int)≤↑k:=by omega
  have c2:(↑k:Int)≤↑s.size:=by omega
  have c3:(0:Int)≤↑k+1:=by omega
  have c4:(↑k+1:Int)≤↑s.size:=by omega
  go_enter Tryz.func210,Tryz.ntmps210
  go_wp2_with (go_at_call 212;refine (Tryz.stringslite_Index_one s 47 _).mono ?_;rintro e w' ⟨rfl,rfl⟩;rw [show Lib.indexByte s.data.toList 47=_ from H1.out])
  go_region
  go_wp2
  go_ret3
  refine ⟨s.extract 0 k,s.extract (k+1) s.size,true,rfl,.inl ⟨rfl,?_,?_⟩,1,rfl⟩
  ·rw [zux,zjG,H.out];simp
  ·have:=ByteArray.size_extract (a:=s) (b:=k+1) (e:=s.size)
   rw [this];omega
theorem ztq (s:ByteArray) (w:World) (hs:s.size≤4611686018427387904):Calls Tryz.prog 207 #[.string s,.string ⟨#[47]⟩] w (zuM s w):=by
 go_enter Tryz.func207,Tryz.ntmps207
 go_wp2_with fail
 refine (zlv s _ hs).mono ?_
 rintro e w1 ⟨a,b,f,rfl,hc,n,rfl⟩
 have H:=hid hc
 clear hc
 go_wp2
 go_ret3
 exact ⟨a,b,f,rfl,H.out,n,rfl⟩
def zr8 (r m:Value):Nat:=match m,r with
 | .bool true,.string s=>s.size+1
 | _,_=>0
theorem zlh (w:World) (n:Nat):w.grownBy (w.drewN n) none:=⟨rfl,rfl,rfl,Nat.le_refl _,fun _ _ _=>rfl⟩
theorem zkp (n:Nat) (hn:1≤n) (s:ByteArray) (hs:s.size≤4611686018427387903) (g:Nat) (w:World) (hg:g<w.heap.size) (hc:w.cell? ⟨g,0,none⟩=some (.string s)) :
  SeqStopsK Fence.wide n Tryz.prog 206 #[.pointer (some ⟨g,0,none⟩)] (fun x:ByteArray=>#[Value.string x]) (fun _ _=>True)
   (fun ys=>ys.map L=zat (L s)) (fun pre=>pre≠[]∧pre.map L <+: zat (L s)) (s.size+1) w:=fun l J Jx W hW hJ _ hY h0=>by
 have hc':=(hW.cell (p:=⟨g,0,none⟩) hg).trans hc
 have hlen:∀(pre:List ByteArray) (r:ByteArray),pre.map L ++ zat (L r)=zat (L s)→pre.length<s.size+1:=fun pre r h=>by
  have h1:=congrArg List.length h
  have h2:=ziK (L s)
  have h3:0<(zat (L r)).length:=List.length_pos_iff.2 (zdd _)
  rw [zbA] at h2
  rw [List.length_append,List.length_map] at h1
  omega
 have HL:=hid hlen
 have HY:=hid hY
 have HJ:=hid hJ
 clear hlen hY hJ hc
 refine callsIn_of_wp Tryz.func206 rfl trivial ?_ rfl
 simp only [Tryz.ntmps206,List.size_toArray,List.length_cons,List.length_nil,Nat.reduceAdd,Nat.reduceSub,Array.replicate_succ,Array.replicate_zero,List.push_toArray,List.append_toArray,List.nil_append,List.cons_append]
 gi_wp2
 gi_loopw [3,4] (fun r m wr=>∃(pre:List ByteArray) (rest:ByteArray) (more:Bool),r=.string rest∧m=.bool more∧J pre wr∧rest.size≤s.size∧Hid ((more=true∧pre.map L ++ zat (L rest)=zat (L s))∨(more=false∧pre.map L=zat (L s))))
  (fun r m _=>zr8 r m)
 case atStart=>exact ⟨[],s,true,rfl,rfl,h0,Nat.le_refl _,hid (.inl ⟨rfl,rfl⟩)⟩
 case round =>
  obtain ⟨pre,rest,more,rfl,rfl,hJs,hr,H⟩:=hrel
  rcases H.out with ⟨rfl,hp⟩ | ⟨rfl,hp⟩
  ·have HP:=hid hp
   clear hp
   gi_wp2_with fail
   refine ⟨trivial,?_⟩
   refine (callsIn_wide.2 (ztq rest _ (by omega))).mono ?_
   rintro e w1 ⟨a,b,f,rfl,hcut,m,rfl⟩
   have HC:=hid hcut
   clear hcut
   have hJ1:J pre (wr.drewN m):=HJ.out pre wr _ none hJs (zlh wr m) (fun r e=>nomatch e)
   obtain ⟨fn,tmps,assign,body,hy,hR⟩:=HY.out pre a (wr.drewN m) hJ1 (HL.out pre rest HP.out)
   gi_wp2
   refine hR.mono ?_
   rintro e W3 (⟨rfl,hJ3,_⟩ | ⟨rfl,hJx3⟩)
   ·gi_wp2
    go_roundw
    case rel =>
     refine ⟨pre ++ [a],b,f,rfl,rfl,hJ3,?_,hid ?_⟩
     ·rcases HC.out with ⟨_,_,h⟩ | ⟨_,_,h⟩ <;> omega
     ·rcases HC.out with ⟨rfl,h,_⟩ | ⟨rfl,h,_⟩
      ·exact .inl ⟨rfl,by rw [←HP.out,h];simp⟩
      ·exact .inr ⟨rfl,by rw [←HP.out,h];simp⟩
    case measure =>
     rcases HC.out with ⟨rfl,_,h⟩ | ⟨rfl,_,h⟩
     ·show b.size+1<rest.size+1;omega
     ·show 0<rest.size+1;omega
   ·gi_wp2
    refine bodyPost_ret (results_none rfl _ _ _) rfl ?_
    refine ⟨⟨_,rfl⟩,.inr ⟨pre ++ [a],⟨by simp,?_⟩,hJx3⟩⟩
    rcases HC.out with ⟨_,h,_⟩ | ⟨_,h,_⟩
    ·rw [←HP.out,h];exact ⟨zat (L b),by simp⟩
    ·rw [←HP.out,h];exact ⟨[],by simp⟩
  ·have HP:=hid hp
   clear hp
   gi_wp2
   go_end0
   exact ⟨⟨_,rfl⟩,.inl ⟨pre,HP.out,hJs⟩⟩
end Go.Proofs.YtnjdckoljmgcjaaGreatDoor
