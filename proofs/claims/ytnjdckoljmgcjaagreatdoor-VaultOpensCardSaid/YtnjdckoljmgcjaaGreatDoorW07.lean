/-
  The document's own answers: contracts of moothillref04.take, Parts, Join, Normal, Right.
-/
import Derived.Test.YtnjdckoljmgcjaaGreatDoorW06
import Derived.Laws.IdiomCopy
import Derived.Laws.AppendOwn
set_option maxRecDepth 100000
set_option maxHeartbeats 4000000
namespace Go.Proofs.YtnjdckoljmgcjaaGreatDoor
open Go.ChangeShapes Go.WideShapes Go.ChangeAt Go.RowKit Go.Lib
set_option linter.unusedSimpArgs false
set_option linter.unusedVariables false
theorem ztQ (k u:Int) (f:ByteArray) (q:Int) (s:ByteArray) (m n t:Int) (w:World) (hP:zad w) (hf:f.size≤4611686018427387903) (hp:s.size≤4611686018427387903) :
  Calls Tryz.prog 161 #[val ⟨k,u,f,q,s,m,n,t⟩] w fun e w'=>e=.returned (.bool (zaF ⟨k,u,f,q,s,m,n,t⟩))∧Below w.heap.size w w':=by
 have A0:=hid (Boxed.start hP ⟨k,u,f,q,s,m,n,t⟩)
 obtain ⟨x,hx⟩:∃x,isK k=x:=⟨_,rfl⟩
 have X:=hid hx
 obtain ⟨y,hy⟩:∃y,decide ((⟨k,u,f,q,s,m,n,t⟩:K)=own ⟨k,u,f,q,s,m,n,t⟩)=y:=⟨_,rfl⟩
 have Y:=hid hy
 obtain ⟨z,hz⟩:∃z,zaA ⟨k,u,f,q,s,m,n,t⟩=z:=⟨_,rfl⟩
 have Z:=hid hz
 obtain ⟨d,hd⟩:∃d,own ⟨k,u,f,q,s,m,n,t⟩=d:=⟨_,rfl⟩
 have D:=hid hd
 obtain ⟨k',u',f',q',s',m',n',t'⟩:=d
 have EG:=zmn
 have EQ:=fun w=>zs6 ⟨k,u,f,q,s,m,n,t⟩ ⟨k',u',f',q',s',m',n',t'⟩ y (by rw [←hd];exact hy) w
 dsimp only [val] at EQ
 clear hx hy hz hd hP
 have HE:Hid (zaF ⟨k,u,f,q,s,m,n,t⟩=(x && y && z)):=hid (by unfold zaF;rw [X.out,Y.out,Z.out])
 have E0:=zaa A0.out.1
 obtain ⟨⟨c0,c1,c2,c3,c4,c5,c6,c7⟩,f0,f1,f2,f3,f4,f5,f6,f7⟩:=E0
 cases x
 ·go_enter Tryz.func161,Tryz.ntmps161
  go_wp2_with fail
  refine wp_region_held_drew (S:=(fun w'=>w'.cell? ⟨w.heap.size,0,none⟩=some (.int .i64 k)∧w'.cell? ⟨w.heap.size,1,none⟩=some (.int .u64 u)∧w'.cell? ⟨w.heap.size,2,none⟩=some (.string f)∧w'.cell? ⟨w.heap.size,3,none⟩=some (.int .u64 q)∧w'.cell? ⟨w.heap.size,4,none⟩=some (.string s)∧w'.cell? ⟨w.heap.size,5,none⟩=some (.int .i64 m)∧w'.cell? ⟨w.heap.size,6,none⟩=some (.int .u64 n)∧w'.cell? ⟨w.heap.size,7,none⟩=some (.int .i64 t))) (by kernel_rfl) (by exact (zaa A0.out.drew.1).1) (fun hHeld=>?_)
  refine ta 0 rfl hHeld ?_
  refine ta 1 rfl hHeld ?_
  try simp only [Act.put,g1,g2,g3,g4,g5,g6]
  refine wpAnyH_ready (rs:=[2]) (by kernel_rfl) (by simp) ?_
  refine AllReadyH.cons (o:=_) rfl (fun K hK=>?_) AllReadyH.nil
  go_simp
  go_at_call 159
  with_reducible refine (zc2 k _).mono ?_
  rintro e w1 ⟨rfl,rfl⟩
  rw [X.out]
  refine hK.out _ _ (by exact hHeld) (fun hHeld=>?_)
  clear hK K
  try simp only [Act.put,g1,g2,g3,g4,g5,g6]
  refine ta 3 rfl hHeld ?_
  refine tu 4 rfl hHeld ?_
  try simp only [Act.put,g1,g2,g3,g4,g5,g6]
  refine tu 5 rfl hHeld ?_
  try simp only [Act.put,g1,g2,g3,g4,g5,g6]
  refine tu 6 rfl hHeld ?_
  try simp only [Act.put,g1,g2,g3,g4,g5,g6]
  refine tu 7 rfl hHeld ?_
  try simp only [Act.put,g1,g2,g3,g4,g5,g6]
  refine ta 8 rfl hHeld ?_
  refine ta 9 rfl hHeld ?_
  refine tu 10 rfl hHeld ?_
  try simp only [Act.put,g1,g2,g3,g4,g5,g6]
  refine tu 11 rfl hHeld ?_
  try simp only [Act.put,g1,g2,g3,g4,g5,g6]
  refine ta 12 rfl hHeld ?_
  refine ta 13 rfl hHeld ?_
  try simp only [Act.put,g1,g2,g3,g4,g5,g6]
  refine wpAnyH_done (by kernel_rfl) ?_ _
  clear hHeld
  clear c0 c1 c2 c3 c4 c5 c6 c7 f0 f1 f2 f3 f4 f5 f6 f7
  clear EG EQ
  go_wp2
  go_ret
  exact ⟨zab HE.out.symm,A0.out.drew.below⟩
 ·cases y
  ·go_enter Tryz.func161,Tryz.ntmps161
   go_wp2_with fail
   refine wp_region_held_drew (S:=(fun w'=>w'.cell? ⟨w.heap.size,0,none⟩=some (.int .i64 k)∧w'.cell? ⟨w.heap.size,1,none⟩=some (.int .u64 u)∧w'.cell? ⟨w.heap.size,2,none⟩=some (.string f)∧w'.cell? ⟨w.heap.size,3,none⟩=some (.int .u64 q)∧w'.cell? ⟨w.heap.size,4,none⟩=some (.string s)∧w'.cell? ⟨w.heap.size,5,none⟩=some (.int .i64 m)∧w'.cell? ⟨w.heap.size,6,none⟩=some (.int .u64 n)∧w'.cell? ⟨w.heap.size,7,none⟩=some (.int .i64 t))) (by kernel_rfl) (by exact (zaa A0.out.drew.1).1) (fun hHeld=>?_)
   refine ta 0 rfl hHeld ?_
   refine ta 1 rfl hHeld ?_
   try simp only [Act.put,g1,g2,g3,g4,g5,g6]
   refine wpAnyH_ready (rs:=[2]) (by kernel_rfl) (by simp) ?_
   refine AllReadyH.cons (o:=_) rfl (fun K hK=>?_) AllReadyH.nil
   go_simp
   go_at_call 159
   with_reducible refine (zc2 k _).mono ?_
   rintro e w1 ⟨rfl,rfl⟩
   rw [X.out]
   refine hK.out _ _ (by exact hHeld) (fun hHeld=>?_)
   clear hK K
   try simp only [Act.put,g1,g2,g3,g4,g5,g6]
   refine ta 3 rfl hHeld ?_
   refine ta 4 rfl hHeld ?_
   refine ta 5 rfl hHeld ?_
   try simp only [Act.put,g1,g2,g3,g4,g5,g6]
   refine wpAnyH_ready (rs:=[6]) (by kernel_rfl) (by simp) ?_
   refine AllReadyH.cons (o:=_) rfl (fun K hK=>?_) AllReadyH.nil
   go_simp
   go_at_call 193
   with_reducible refine (zq4 ⟨k,u,f,q,s,m,n,t⟩ _ (zad.drew A0.out.parts)).mono ?_
   rintro e w2 ⟨rfl,hb2⟩
   rw [D.out]
   have A2:=hid (A0.out.drew.on hb2)
   refine hK.out _ _ (by exact (zaa A2.out.1).1) (fun hHeld=>?_)
   clear hK K
   try simp only [Act.put,g1,g2,g3,g4,g5,g6]
   refine ta 7 rfl hHeld ?_
   refine ta 8 rfl hHeld ?_
   refine ta 9 rfl hHeld ?_
   refine tu 10 rfl hHeld ?_
   try simp only [Act.put,g1,g2,g3,g4,g5,g6]
   refine tu 11 rfl hHeld ?_
   try simp only [Act.put,g1,g2,g3,g4,g5,g6]
   refine ta 12 rfl hHeld ?_
   refine ta 13 rfl hHeld ?_
   try simp only [Act.put,g1,g2,g3,g4,g5,g6]
   refine wpAnyH_done (by kernel_rfl) ?_ _
   clear hHeld
   clear c0 c1 c2 c3 c4 c5 c6 c7 f0 f1 f2 f3 f4 f5 f6 f7
   clear EG EQ
   go_wp2
   go_ret
   exact ⟨zab HE.out.symm,A2.out.below⟩
  ·go_enter Tryz.func161,Tryz.ntmps161
   go_wp2_with fail
   go_region_held3 (fun w'=>w'.cell? ⟨w.heap.size,0,none⟩=some (.int .i64 k)∧w'.cell? ⟨w.heap.size,1,none⟩=some (.int .u64 u)∧w'.cell? ⟨w.heap.size,2,none⟩=some (.string f)∧w'.cell? ⟨w.heap.size,3,none⟩=some (.int .u64 q)∧w'.cell? ⟨w.heap.size,4,none⟩=some (.string s)∧w'.cell? ⟨w.heap.size,5,none⟩=some (.int .i64 m)∧w'.cell? ⟨w.heap.size,6,none⟩=some (.int .u64 n)∧w'.cell? ⟨w.heap.size,7,none⟩=some (.int .i64 t))
    (first | exact (zaa A0.out.1).1 | exact (zaa A0.out.drew.1).1 | exact (zaa A2.out.1).1 | exact (zaa A3.out.1).1)
    (first
     | (go_at_call 159;(with_reducible refine (zc2 k _).mono ?_);rintro e w1 ⟨rfl,rfl⟩;rw [X.out])
     | (go_at_call 193;(with_reducible refine (zq4 ⟨k,u,f,q,s,m,n,t⟩ _ (zad.drew A0.out.parts)).mono ?_);rintro e w2 ⟨rfl,hb2⟩;rw [D.out];have A2:=hid (A0.out.drew.on hb2))
     | (go_at_call 194;(with_reducible refine (zqr ⟨k,u,f,q,s,m,n,t⟩ _ A2.out.parts hf hp).mono ?_);rintro e w3 ⟨rfl,hb3⟩;rw [Z.out];have A3:=hid (A2.out.on hb3)))
   rename_i hHeld
   clear hHeld
   clear c0 c1 c2 c3 c4 c5 c6 c7 f0 f1 f2 f3 f4 f5 f6 f7
   clear EG EQ
   go_wp2
   go_ret
   exact ⟨zab HE.out.symm,A3.out.below⟩
theorem zaJ (c:K) (w:World) (hP:zad w) (hf:c.foot.size≤4611686018427387903) (hp:c.path.size≤4611686018427387903) :
  Calls Tryz.prog 161 #[val c] w fun e w'=>e=.returned (.bool (zaF c))∧Below w.heap.size w w':=ztQ c.kind c.num c.foot c.req c.path c.mode c.n c.time w hP hf hp
end Go.Proofs.YtnjdckoljmgcjaaGreatDoor
namespace Go.Proofs.YtnjdckoljmgcjaaGreatDoor
open Go.ChangeShapes Go.WideShapes Go.ChangeAt Go.RowKit Go.Lib
theorem zdQ (s:ByteArray) (w:World) (hs:s.size≤281474976710656):Calls Tryz.prog 103 #[.string s] w (Asks (.string s) w):=by
 go_enter Tryz.func103,Tryz.ntmps103
 go_wp2_with fail
 refine (Tryz.stringslite_Clone s _ hs).mono ?_
 rintro e w1 ⟨rfl,hb⟩
 have HB:=hid hb
 clear hb
 go_wp2
 go_ret
 exact ⟨rfl,HB.out⟩
def za9 (c:K):ByteArray × Bool:=if zaF c && h0 c.kind then (if h2 c.kind then c.path else c.foot,true) else (⟨#[]⟩,false)
theorem zrs (c:K) (w:World) (hP:zad w) (hf:c.foot.size≤281474976710656) (hp:c.path.size≤281474976710656) :
  Calls Tryz.prog 139 #[val c] w fun e w'=>e=.returned (.tuple #[.string (za9 c).1,.bool (za9 c).2])∧Below w.heap.size w w':=by
 obtain ⟨k,u,f,q,s,m,n,t⟩:=c
 simp only at hf hp
 obtain ⟨x,hx⟩:∃x,zaF ⟨k,u,f,q,s,m,n,t⟩=x:=⟨_,rfl⟩
 obtain ⟨y,hy⟩:∃x,h0 k=x:=⟨_,rfl⟩
 obtain ⟨z,hz⟩:∃x,h2 k=x:=⟨_,rfl⟩
 have X:=hid hx
 have Y:=hid hy
 have Z:=hid hz
 have A0:=hid (Boxed.start hP ⟨k,u,f,q,s,m,n,t⟩)
 have HE:Hid (za9 ⟨k,u,f,q,s,m,n,t⟩=if x && y then (if z then s else f,true) else (⟨#[]⟩,false)):=hid (by unfold za9;rw [hx,hy,hz])
 rw [HE.out]
 have hf':f.size≤4611686018427387903:=by omega
 have hp':s.size≤4611686018427387903:=by omega
 clear hx hy hz hP HE
 cases x
 ·go_enter Tryz.func139,Tryz.ntmps139
  go_wp2_with fail
  with_reducible refine (zaJ ⟨k,u,f,q,s,m,n,t⟩ _ A0.out.parts hf' hp').mono ?_
  rw [X.out]
  rintro e w1 ⟨rfl,hb⟩
  have A1:=hid (A0.out.on hb)
  clear hb A0
  go_wp2
  go_ret2
  exact ⟨rfl,A1.out.below⟩
 ·go_enter Tryz.func139,Tryz.ntmps139
  go_wp2_with fail
  with_reducible refine (zaJ ⟨k,u,f,q,s,m,n,t⟩ _ A0.out.parts hf' hp').mono ?_
  rw [X.out]
  rintro e w1 ⟨rfl,hb⟩
  have A1:=hid (A0.out.on hb)
  clear hb A0
  obtain ⟨⟨c0,c1,c2,c3,c4,c5,c6,c7⟩,f0,f1,f2,f3,f4,f5,f6,f7⟩:=zaa A1.out.1
  go_wp2_with fail
  with_reducible refine (zb3 ⟨k,u,f,q,s,m,n,t⟩ y _ Y.out A1.out.parts).mono ?_
  rintro e w2 ⟨rfl,hb⟩
  have A2:=hid (A1.out.on hb)
  clear hb A1 c0 c1 c2 c3 c4 c5 c6 c7 f0 f1 f2 f3 f4 f5 f6 f7
  obtain ⟨⟨c0,c1,c2,c3,c4,c5,c6,c7⟩,f0,f1,f2,f3,f4,f5,f6,f7⟩:=zaa A2.out.1
  cases y
  ·go_wp2
   go_ret2
   exact ⟨rfl,A2.out.below⟩
  ·go_wp2_with fail
   with_reducible refine (zb5 ⟨k,u,f,q,s,m,n,t⟩ z _ Z.out A2.out.parts).mono ?_
   rintro e w3 ⟨rfl,hb⟩
   have A3:=hid (A2.out.on hb)
   clear hb A2 c0 c1 c2 c3 c4 c5 c6 c7 f0 f1 f2 f3 f4 f5 f6 f7
   obtain ⟨⟨c0,c1,c2,c3,c4,c5,c6,c7⟩,f0,f1,f2,f3,f4,f5,f6,f7⟩:=zaa A3.out.1
   cases z
   ·go_wp2_with fail
    with_reducible refine (zdQ f _ hf).mono ?_
    rintro e w4 ⟨rfl,hb⟩
    have A4:=hid (A3.out.on hb)
    clear hb A3
    go_wp2
    go_ret2
    exact ⟨rfl,A4.out.below⟩
   ·go_wp2_with fail
    with_reducible refine (zdQ s _ hp).mono ?_
    rintro e w4 ⟨rfl,hb⟩
    have A4:=hid (A3.out.on hb)
    clear hb A3
    go_wp2
    go_ret2
    exact ⟨rfl,A4.out.below⟩
end Go.Proofs.YtnjdckoljmgcjaaGreatDoor
namespace Go.Proofs.YtnjdckoljmgcjaaGreatDoor
open Go.ChangeShapes Go.WideShapes Go.ChangeAt Go.RowKit Go.Lib
set_option linter.unusedSimpArgs false
set_option linter.unusedVariables false
abbrev keyV (f:ByteArray) (u:Int):Value:=.agg #[.string f,.int .u64 u]
abbrev keyC (f:ByteArray) (u:Int):Array Value:=#[.string f,.int .u64 u]
theorem zeY {w:World} {g:Nat} {T:TypeId} {a b:Value} (h:Blk w g T #[a,b]) :
  (w.cell? ⟨g,0,none⟩=some a∧w.cell? ⟨g,1,none⟩=some b)∧w.frozen? ⟨g,0,none⟩=false∧w.frozen? ⟨g,1,none⟩=false :=
 ⟨⟨(h.cell 0).trans rfl,(h.cell 1).trans rfl⟩,h.frozen 0,h.frozen 1⟩
def keyF (c:K):ByteArray:=(za9 c).1
def keyN (c:K):Int:=if (za9 c).2 then c.num else 0
def zns (c:K):Bool:=(za9 c).2
theorem zqq (c:K) (w:World) (hP:zad w) (hf:c.foot.size≤281474976710656) (hp:c.path.size≤281474976710656) :
  Calls Tryz.prog 100 #[val c] w fun e w'=>e=.returned (.tuple #[keyV (keyF c) (keyN c),.bool (zns c)])∧Below w.heap.size w w':=by
 obtain ⟨F,hF⟩:∃F,(za9 c).1=F:=⟨_,rfl⟩
 obtain ⟨B,hB⟩:∃B,(za9 c).2=B:=⟨_,rfl⟩
 have hE:B=false→F=⟨#[]⟩:=by
  intro h
  rw [←hF]
  rw [h] at hB
  unfold za9 at hB ⊢
  split at hB
  ·cases hB
  ·rename_i h;rw [if_neg h]
 have HF:=hid hF
 have HB:=hid hB
 unfold keyF keyN zns
 rw [hF,hB]
 clear hF hB
 obtain ⟨k,u,f,q,s,m,n,t⟩:=c
 simp only at hf hp
 have A0:=hid ((Boxed.start hP ⟨k,u,f,q,s,m,n,t⟩).alloc (.cells (keyC ⟨#[]⟩ 0) 112))
 have R0:Hid (Blk ((w.alloc (.cells (cellsOf ⟨k,u,f,q,s,m,n,t⟩) 61)).alloc (.cells (keyC ⟨#[]⟩ 0) 112)) (w.heap.size+1) 112 (keyC ⟨#[]⟩ 0)):=hid (by have h:=Blk.new (w.alloc (.cells (cellsOf ⟨k,u,f,q,s,m,n,t⟩) 61)) 112 (keyC ⟨#[]⟩ 0);simpa using h)
 clear hP
 go_enter Tryz.func100,Tryz.ntmps100
 obtain ⟨⟨c0,c1,c2,c3,c4,c5,c6,c7⟩,f0,f1,f2,f3,f4,f5,f6,f7⟩:=zaa A0.out.1
 go_wp2_with fail
 with_reducible refine (zrs ⟨k,u,f,q,s,m,n,t⟩ _ A0.out.parts hf hp).mono ?_
 rw [HF.out,HB.out]
 rintro e w1 ⟨rfl,hb⟩
 have A1:=hid (A0.out.on hb)
 have R1:=hid (R0.out.below hb R0.out.lt)
 clear hb A0 R0
 clear c0 c1 c2 c3 c4 c5 c6 c7 f0 f1 f2 f3 f4 f5 f6 f7
 obtain ⟨⟨c0,c1,c2,c3,c4,c5,c6,c7⟩,f0,f1,f2,f3,f4,f5,f6,f7⟩:=zaa A1.out.1
 obtain ⟨⟨d0,d1⟩,g0,g1⟩:=zeY R1.out
 cases B
 ·obtain rfl:=hE rfl
  have G:=hid ((A1.out.far (p:=⟨w.heap.size+1,0,none⟩) (by simp) (by simp) (.string ⟨#[]⟩)).far (p:=⟨w.heap.size+1,1,none⟩) (by simp) (by simp) (.int .u64 0)).below
  have R2:=hid ((R1.out.set_ 0 (.string ⟨#[]⟩)).set_ 1 (.int .u64 0))
  go_wp2
  obtain ⟨⟨e0,e1⟩,i0,i1⟩:=zeY R2.out
  refine bodyPost_ret (v:=.tuple #[keyV ⟨#[]⟩ 0,.bool false]) (by simp [results,Tryz.results100,go_sem,d0,d1,e0,e1]) rfl ⟨rfl,G.out⟩
 ·have G:=hid ((A1.out.far (p:=⟨w.heap.size+1,0,none⟩) (by simp) (by simp) (.string F)).far (p:=⟨w.heap.size+1,1,none⟩) (by simp) (by simp) (.int .u64 u)).below
  have R2:=hid ((R1.out.set_ 0 (.string F)).set_ 1 (.int .u64 u))
  go_wp2
  obtain ⟨⟨e0,e1⟩,i0,i1⟩:=zeY R2.out
  refine bodyPost_ret (v:=.tuple #[keyV F u,.bool true]) (by simp [results,Tryz.results100,go_sem,e0,e1]) rfl ⟨rfl,G.out⟩
theorem zqa (c:K) (n:Nat) (hf:c.foot.size≤n) (hp:c.path.size≤n):(keyF c).size≤n:=by
 unfold keyF za9
 split
 ·dsimp only;split <;> assumption
 ·exact Nat.zero_le _
end Go.Proofs.YtnjdckoljmgcjaaGreatDoor
namespace Go.Proofs.YtnjdckoljmgcjaaGreatDoor
open Go.ChangeShapes Go.WideShapes Go.ChangeAt Go.RowKit Go.Maps Go.WideMaps
set_option linter.unusedVariables false
theorem zrd:laidOutB Tryz.prog=true:=by kernel_rfl
theorem zqu:(112:TypeId)<Tryz.prog.types.size:=of_decide_eq_true (by kernel_rfl)
theorem zr7:(match Tryz.prog.underlying 112 with | some (.array _ _) | some (.struct _)=>true | _=>false)=true:=by kernel_rfl
theorem zex:Keyed Tryz.prog 112:=Keyed.of_law (deep_law_laid zrd (m:=3) (by omega) zqu (by kernel_rfl) zr7)
def klit (f:ByteArray) (u:Int):Lit:=.string (keyBytes [.string f.data.toList,.int .u64 u])
theorem zhI:Tryz.prog.cellsOf 112=2:=by kernel_rfl
theorem zra:Tryz.prog.keyType 112=true:=by kernel_rfl
theorem zjZ:∃n,Tryz.prog.types.size+1=n+2:=by
 obtain ⟨s,hs⟩:∃s:Nat,Tryz.prog.types.size=s:=⟨_,rfl⟩
 have h:(112:Nat)<s:=hs ▸ zqu
 rw [hs]
 exact ⟨s - 1,by omega⟩
theorem znm:Tryz.prog.cellsOf 9=1:=by kernel_rfl
theorem zqI:Tryz.prog.cellsOf 51=1:=by kernel_rfl
theorem zmT (n:Nat) (v0 v1:Value):Tryz.prog.keyLits (n+2) 112 [v0,v1] =
  (match v0 with | .string s=>if s.size≤maxLen then (match v1 with | .int q u=>if q=.u64∧(Lit.int .u64 u).wf=true then some [.string s.data.toList,.int .u64 u] else none | _=>none) else none | _=>none):=by
 unfold Program.keyLits
 rw [Tryz.underlying112]
 simp only [zhI,List.length_cons,List.length_nil]
 rw [if_pos ⟨by decide,by simp⟩]
 simp [List.mapM_cons,znm,zqI,Program.keyLits,Tryz.underlying9,Tryz.underlying51]
 cases v0 <;> simp
 split
 ·cases v1 <;> simp
  split <;> simp
 ·simp
theorem zdY {f:ByteArray} {u:Int} (hf:f.size≤maxLen) (hu:0≤u∧u<18446744073709551616):keyOf Tryz.prog 112 (keyV f u)=some (klit f u):=by
 obtain ⟨n,hn⟩:=zjZ
 unfold keyOf
 rw [Tryz.underlying112]
 simp only
 rw [if_pos (by rw [zra];simp [Value.formed,Tryz.underlying112,zhI]),hn]
 show (Tryz.prog.keyLits (n+2) 112 [.string f,.int .u64 u]).map _=_
 rw [zmT]
 show (if f.size≤maxLen then (if IntKind.u64=.u64∧(Lit.int .u64 u).wf=true then some [Lit.string f.data.toList,Lit.int .u64 u] else none) else none).map (fun ls=>Lit.string (keyBytes ls))=some (klit f u)
 rw [if_pos hf,if_pos ⟨rfl,WalkArith.wf_u64 (by omega)⟩]
 rfl
theorem zfG {v:Value} {kl:Lit} (h:keyOf Tryz.prog 112 v=some kl):∃f u,v=keyV f u∧f.size≤maxLen∧(0≤u∧u<18446744073709551616)∧kl=klit f u:=by
 obtain ⟨n,hn⟩:=zjZ
 unfold keyOf at h
 rw [Tryz.underlying112] at h
 simp only at h
 split at h
 ·next hc =>
  simp only [Bool.and_eq_true] at hc
  have h2:=hc.2
  cases v <;> simp [Value.formed,Tryz.underlying112,zhI] at h2
  rename_i cs
  obtain ⟨l⟩:=cs
  match l,h2 with
  | [v0,v1],_ =>
   rw [hn] at h
   change (Tryz.prog.keyLits (n+2) 112 [v0,v1]).map _=_ at h
   rw [zmT] at h
   cases v0 with
   | string s =>
    cases v1 with
    | int q u =>
     simp at h
     obtain ⟨ls,⟨h1,⟨rfl,h3⟩,rfl⟩,rfl⟩:=h
     refine ⟨s,u,rfl,h1,?_,rfl⟩
     simp [Lit.wf,IntKind.min,IntKind.max,IntKind.bits,IntKind.signed] at h3
     omega
    | _=>simp at h
   | _=>simp at h
 ·cases h
theorem zgz {f g:ByteArray} {u v:Int} (hf:f.size≤maxLen) (hu:0≤u∧u<18446744073709551616) (hg:g.size≤maxLen) (hv:0≤v∧v<18446744073709551616) (h:klit f u=klit g v):f=g∧u=v:=by
 have h1:=zdY hf hu
 have h2:=zdY hg hv
 rw [h] at h1
 have h3:=zex.inj h1 h2
 simp at h3
 exact h3
def datA (f:Nat→Int):DataW Unit:=.agg ((List.range 8).map fun i=>.lit (.int .i64 (f i)))
theorem zmC {f g:Nat→Int} (h:datA f=datA g):rowA f=rowA g:=by
 unfold datA at h
 injection h with h
 refine zfZ fun i hi=>?_
 have h1:((List.range 8).map fun i=>(DataW.lit (.int .i64 (f i)):DataW Unit))[i]?=((List.range 8).map fun i=>(DataW.lit (.int .i64 (g i)):DataW Unit))[i]?:=by rw [h]
 simp [List.getElem?_range hi] at h1
 exact h1
open Classical in
noncomputable def attR (v:Value):Option (DataW Unit × List MemPlace):=if h:∃f:Nat→Int,v=.agg (rowA f) then some (datA h.choose,[]) else none
theorem zlC (f:Nat→Int):attR (.agg (rowA f))=some (datA f,[]):=by
 have h:∃g:Nat→Int,Value.agg (rowA f)=.agg (rowA g):=⟨f,rfl⟩
 unfold attR
 rw [dif_pos h]
 have h1:=h.choose_spec
 injection h1 with h1
 have:datA h.choose=datA f:=by
  unfold datA
  congr 1
  refine List.map_congr_left fun i hi=>?_
  rw [zcX h1 (List.mem_range.1 hi)]
 rw [this]
theorem zmj {v:Value} {y:DataW Unit × List MemPlace} (h:attR v=some y):∃f:Nat→Int,v=.agg (rowA f)∧y=(datA f,[]):=by
 unfold attR at h
 split at h
 ·next hc =>
  injection h with h
  exact ⟨_,hc.choose_spec,h.symm⟩
 ·cases h
def zdP (w:World) (b n:Nat) (l:List Nt):Prop :=
 ∃D:DataW Unit,w.ownsMap Tryz.prog 112 attR b n D∧(∀f u,f.size≤200→0≤u→u<18446744073709551616→Maps.has D (klit f u)=told l f u∧(told l f u=true→∀z,D.atKey (klit f u) z=datA (zbq l f u))) ∧
  ∀kl,Maps.has D kl=true→∃nt∈l,kl=klit nt.foot nt.num
theorem zdP.made (w:World):zdP (w.alloc (.map #[] 0)) w.heap.size 0 [] :=
 ⟨.map [],World.ownsMap_made _ _ _ _,fun _ _ _ _ _=>⟨rfl,fun h=>by simp [told] at h⟩,fun _ h=>by simp [Maps.has] at h⟩
theorem zdP.lt {w:World} {b n:Nat} {l:List Nt} (h:zdP w b n l):b<w.heap.size:=by
 obtain ⟨D,h1,_⟩:=h;exact h1.lt
theorem zdP.same {w w':World} {b n:Nat} {l:List Nt} (h:zdP w b n l) (he:w'.heap[b]?=w.heap[b]?):zdP w' b n l:=by
 obtain ⟨D,⟨es,clock,hb,hr⟩,h2⟩:=h
 exact ⟨D,⟨es,clock,he.trans hb,hr⟩,h2⟩
theorem zuP (w:World):(zeroValue 64).run Tryz.prog w=.ok (.agg (rowA fun _=>0)) w:=by kernel_rfl
theorem zdP.look {w:World} {b n:Nat} {l:List Nt} (h:zdP w b n l) {f:ByteArray} {u:Int} (hf:f.size≤200) (hu:0≤u∧u<18446744073709551616) :
  (Instr.lookup 176 (.map (some b)) (keyV f u) false).run Tryz.prog w=.ok (.agg (rowA (zbq l f u))) w:=by
 obtain ⟨D,h1,h2,_⟩:=h
 obtain ⟨h3,h4⟩:=h2 f u hf hu.1 hu.2
 obtain ⟨v,ps,hrun,hv⟩:=h1.lookup zex Tryz.underlying176 (zuP w) (zlC fun _=>0) (zdY (f:=f) (by unfold maxLen;omega) hu)
 have hd:D.atKey (klit f u) (datA fun _=>0)=datA (zbq l f u):=by
  cases ht:told l f u with
  | true=>exact h4 ht _
  | false=>rw [atKey_of_not_has (by rw [h3,ht]),zif ht]
 rw [hd] at hv
 obtain ⟨g,rfl,hg⟩:=zmj hv
 injection hg with hg _
 rw [hrun,zmC hg]
theorem zdP.put {w:World} {b n:Nat} {l:List Nt} (h:zdP w b n l) (hn:n<maxLen) (nt:Nt) (hl:zcA l) (hnt:Fair nt) :
  ∃w',(Instr.mapUpdate 176 (.map (some b)) (keyV nt.foot nt.num) (.agg (rowA (mx (zbq l nt.foot nt.num) nt.att)))).run Tryz.prog w=.ok () w'∧zdP w' b (n+1) (l ++ [nt])∧w.grownBy w' (some b):=by
 obtain ⟨D,h1,h2,h5⟩:=h
 have hs:∀m∈l,m.foot.size≤maxLen∧(0≤m.num∧m.num<18446744073709551616):=fun m hm=>by
  obtain ⟨_,_,a,b,c⟩:=hl m hm
  exact ⟨by unfold maxLen;omega,a,b⟩
 obtain ⟨_,_,a1,a2,a3⟩:=hnt
 have hs0:nt.foot.size≤maxLen:=by unfold maxLen;omega
 obtain ⟨w',hrun,h3,h4⟩:=h1.update zex Tryz.underlying176 hn (zdY hs0 ⟨a1,a2⟩) (zlC (mx (zbq l nt.foot nt.num) nt.att))
 refine ⟨w',hrun,⟨_,h3,fun f u hf hu1 hu2=>?_,fun kl hk=>?_⟩,h4⟩
 ·have hk:WideAt.IsKeyLit (klit nt.foot nt.num):=zex.key (zdY hs0 ⟨a1,a2⟩)
  by_cases e:klit f u=klit nt.foot nt.num
  ·obtain ⟨rfl,rfl⟩:=zgz (by unfold maxLen;omega) ⟨hu1,hu2⟩ hs0 ⟨a1,a2⟩ e
   have ho:zgm nt.foot nt.num nt=true:=zdg.2 ⟨rfl,rfl⟩
   refine ⟨by rw [has_put_same h1.isMap hk,zfA,ho];simp,fun _ z=>?_⟩
   rw [atKey_put_same h1.isMap hk,zer _ _ _ _ ho]
  ·have ho:zgm f u nt=false:=by
    cases hc:zgm f u nt
    ·rfl
    ·obtain ⟨rfl,rfl⟩:=zdg.1 hc
     exact absurd rfl e
   obtain ⟨k1,k2⟩:=h2 f u hf hu1 hu2
   refine ⟨by rw [has_put_other e,zfA,ho,k1];simp,fun ht z=>?_⟩
   rw [zfA,ho,Bool.or_false] at ht
   rw [atKey_put_other e,zed _ _ _ _ ho]
   exact k2 ht z
 ·by_cases e:kl=klit nt.foot nt.num
  ·exact ⟨nt,by simp,e⟩
  ·rw [has_put_other e] at hk
   obtain ⟨m,hm,hk⟩:=h5 kl hk
   exact ⟨m,by simp [hm],hk⟩
end Go.Proofs.YtnjdckoljmgcjaaGreatDoor
namespace Go.Proofs.YtnjdckoljmgcjaaGreatDoor
open Go.ChangeShapes Go.WideShapes Go.ChangeAt Go.RowKit
def Vals (w:World) (A:Option Addr) (vs:List Value):Prop :=
 ∀(j:Nat) (u:Value),vs[j]?=some u→∃b o,A=some ⟨b,o,none⟩∧b<w.heap.size∧w.cell? ⟨b,o+j,none⟩=some u
theorem Vals.below {w w':World} {A:Option Addr} {vs:List Value} (h:Vals w A vs) (hb:Below w.heap.size w w'):Vals w' A vs:=by
 intro j x hj
 obtain ⟨b,o,hA,hlt,hc⟩:=h j x hj
 exact ⟨b,o,hA,Nat.lt_of_lt_of_le hlt hb.size,(hb.cell (by exact hlt)).trans hc⟩
theorem Vals.nil (w:World) (A:Option Addr):Vals w A []:=fun j x h=>by simp at h
theorem Vals.take {w:World} {A:Option Addr} {vs:List Value} (h:Vals w A vs) (i:Nat):Vals w A (vs.take i):=by
 intro j x hj
 refine h j x ?_
 rw [List.getElem?_take] at hj
 split at hj
 ·exact hj
 ·cases hj
theorem Vals.of_own {w:World} {base n cap:Nat} {A:Option Addr} {vs:List Value} {E:TypeId} (h:w.ownsRow base E 1 (.slice A n cap) n vs):Vals w A vs:=by
 intro j x hj
 have hl:vs.length=n:=by have:=h.1;simpa using this
 have hjn:j<vs.length:=(List.getElem?_eq_some_iff.1 hj).1
 rcases h.2 with ⟨_,h0⟩ | ⟨g,cap',cur,hv,_,hg,_⟩
 ·omega
 ·injection hv with h1 h2 h3
  subst h1;subst h3
  refine ⟨g,0,rfl,(Array.getElem?_eq_some_iff.1 hg).1,?_⟩
  rw [Nat.zero_add,h.cellAt j (by omega)]
  exact hj
theorem zr2 {w:World} {base n:Nat} {e:TypeId} {v:Value} {vs:List Value} (h:w.ownsRow base e 1 v n vs) :
  ∃A c,v=.slice A n c∧vs.length=n∧(A=none→c=0)∧n≤c∧c≤maxLen∧Vals w A vs:=by
 have hn:vs.length=n:=by have:=h.1;simpa using this
 rcases h.2 with ⟨rfl,h0⟩ | ⟨g,cap,cur,rfl,_,_,hc,hm,_⟩
 ·subst h0
  have:vs=[]:=List.eq_nil_of_length_eq_zero hn
  subst this
  exact ⟨none,0,rfl,rfl,fun _=>rfl,Nat.le_refl _,by simp [maxLen],Vals.nil _ _⟩
 ·exact ⟨_,cap,rfl,hn,fun h=>(by cases h),hc,hm,Vals.of_own h⟩
theorem zdu {P:Program} {w:World} {ops:Array Oper} {rest:List Oper} {o:Oper} {a:Act} {Q:Exit→Act→World→Prop} (hgd:o.guard=none) (s x:Operand) (t:TypeId)
  (ho:o.op=.call { callee:=.builtin .append,args:=#[s,x],argTypes:=#[t,t] })
  (base:Nat) (e:TypeId) (i:TypeInfo) (z:Value) (bytes:Nat) (ht:P.underlying t=some (.slice e)) (hi:P.info? e=some i) (hz:i.zero=some z) (hsize:i.size=1) (hby:i.bytes=bytes) (hzs:z.cells.size=1)
  (v:Value) (n:Nat) (xs:List Value) (hs:a.eval s=v) (hown:w.ownsRow base e 1 v n xs) (A:Option Addr) (c:Nat) (vs:List Value) (m:Nat) (hm:vs.length=m) (hx:a.eval x=.slice A m c) (hnone:A=none→c=0) (hS:Vals w A vs) (hone:∀u∈vs,u.oneCell'=true)
  (h63:n+m≤maxLen) (hbytes:(n+m) * bytes≤140737488355328) (hbase:base≤w.heap.size)
  (h:∀v' w',w'.ownsRow base e 1 v' (n+m) (xs ++ vs)→w.grownBy w' v.ownBlock→wpList P ops Q rest (a.put o.dst v') w'):wpList P ops Q (o :: rest) a w:=by
 subst hm
 cases A with
 | none =>
  have hl:vs=[]:=by
   cases vs with
   | nil=>rfl
   | cons y l=>obtain ⟨b,o,he,_⟩:=hS 0 y rfl;cases he
  subst hl
  rw [hnone rfl] at hx
  exact wpList_append_own_none hgd s x t ho base e i 1 ht hi v n xs hs hown hx (h v w (by simpa using hown) (World.grownBy.refl w _))
 | some ad =>
  refine wpList_append_own w hgd s x t ho base e i z 1 bytes ht hi hz hsize hby hzs (by decide) v n xs hs hown ad vs.length c vs hx (by simp) ?_ hone h63 hbytes hbase (fun v' w' h1 h2 _=>h v' w' h1 h2)
  intro j u hu
  obtain ⟨b,off,he,_,hc⟩:=hS j u hu
  injection he with he
  subst he
  rw [add_plain,hc]
theorem znS {P:Program} (t e:TypeId) (i:TypeInfo) (ht:P.underlying t=some (.slice e)) (hi:P.info? e=some i) {w0:World} {A:Option Addr} {vs:List Value} {n c k:Nat} (hk:k≤n) (hc:n≤c) (h:Vals w0 A vs) (hA:A=none→c=0) :
  ∃A1,(∀w,(Instr.slice t (.slice A n c) none (some (.int .i64 (k:Int))) none).run P w=.ok (.slice A1 k c) w)∧(A1=none→c=0)∧Vals w0 A1 (vs.take k):=by
 have he:P.elem t=e:=by simp [Program.elem,ht]
 have hsz:∀w,(sizeOf (P.elem t)).run P w=.ok i.size w:=fun w=>by rw [he];simp [sizeOf,typeInfo,hi]
 refine ⟨if c=0 then A else A.map (·.add (0 * i.size)),fun w=>?_,fun hn'=>?_,?_⟩
 ·rw [run_slice_h (P:=P) w t A n c (by rw [ht,he]) .i64 (k:Int) (by omega) (by omega),hsz]
  simp [Result.andThen,sliced]
 ·by_cases h0:c=0
  ·exact h0
  ·rw [if_neg h0] at hn'
   cases A with
   | none=>exact hA rfl
   | some a=>cases hn'
 ·have e:(if c=0 then A else A.map (·.add (0 * i.size)))=A:=by
   split
   ·rfl
   ·rw [Nat.zero_mul];cases A <;> simp [Addr.add]
  rw [e]
  exact h.take k
def strs (xs:List ByteArray):List Value:=xs.map Value.string
theorem zhg (xs:List ByteArray):(strs xs).length=xs.length:=by simp [strs]
theorem zrH (xs:List ByteArray):∀u∈strs xs,u.oneCell'=true:=by
 intro u hu
 obtain ⟨x,_,rfl⟩:=List.mem_map.1 hu
 rfl
theorem ztK {w:World} {A:Option Addr} {xs:List ByteArray} (h:Vals w A (strs xs)) {j:Nat} (hj:j<xs.length):∃b o,A=some ⟨b,o,none⟩∧b<w.heap.size∧w.cell? ⟨b,o+j,none⟩=some (.string xs[j]):=by
 have:=h j (.string xs[j]) (by simp [strs,hj])
 exact this
theorem zql (xs:List ByteArray) (k:Nat):(strs xs).take k=strs (xs.take k):=by simp [strs,List.map_take]
theorem zlt (xs ys:List ByteArray):strs xs ++ strs ys=strs (xs ++ ys):=by simp [strs]
def ze0 (w:World) (v:Value) (xs:List ByteArray):Prop:=∃A c,v=.slice A xs.length c∧(A=none→c=0)∧xs.length≤c∧c≤maxLen∧Vals w A (strs xs)
theorem ze0.below {w w':World} {v:Value} {xs:List ByteArray} (h:ze0 w v xs) (hb:Below w.heap.size w w'):ze0 w' v xs:=by
 obtain ⟨A,c,h1,h2,h3,h4,h5⟩:=h
 exact ⟨A,c,h1,h2,h3,h4,h5.below hb⟩
theorem ze0.nil (w:World):ze0 w (.slice none 0 0) []:=⟨none,0,rfl,fun _=>rfl,Nat.le_refl _,by simp [maxLen],Vals.nil _ _⟩
theorem zqg {w:World} {base n:Nat} {e:TypeId} {v:Value} {xs:List ByteArray} (h:w.ownsRow base e 1 v n (strs xs)):ze0 w v xs:=by
 obtain ⟨A,c,h1,h2,h3,h4,h5,h6⟩:=zr2 h
 rw [zhg] at h2
 subst h2
 exact ⟨A,c,h1,h3,h4,h5,h6⟩
theorem zhS {H:Type} {enc:TypeId × Value→H} {P:Program} {W:World} {base:Nat} {t e:TypeId} {k:IntKind} {v:Value} {d:DataW H} {p:List MemPlace} (ht:P.underlying t=some (.slice e)) (he:P.underlying e=some (.int k)) (hc:P.cellsOf e=1)
  (hval:Value.okWide P W .any base t v) (hd:DataW.Trod enc P W 0 (fun _=>true) true t v d p) (hlt:∀x∈p,x.block<W.heap.size) :
  ∃A cap,∃l:List Int,v=.slice A l.length cap∧(A=none→cap=0)∧l.length≤cap∧cap≤maxLen∧Vals W A (l.map (Value.int k))∧(∀x∈l,(Lit.int k x).wf=true)∧(l=[]∨∃es sp,d=.slice es sp∧es.length+sp.length=cap):=by
 obtain ⟨a0,len,cap,rfl⟩:=okWide_slice ht hval
 obtain ⟨fuel,hf⟩:=hd
 rcases open_ints ht he hc hf with ⟨hcs,_⟩ | ⟨a,len',cap',zs,hcs,_,hl,hm,hz,hx,hcell,hwz⟩
 ·simp [Value.cells] at hcs
  obtain ⟨rfl,rfl,rfl⟩:=hcs
  exact ⟨none,0,[],rfl,fun _=>rfl,Nat.le_refl _,by simp [maxLen],Vals.nil _ _,by simp,.inl rfl⟩
 ·simp [Value.cells] at hcs
  obtain ⟨rfl,rfl,rfl⟩:=hcs
  simp only [Prod.mk.injEq] at hx
  obtain ⟨rfl,rfl⟩:=hx
  simp only [if_true] at hz
  have hll:(zs.take len).length=len:=by simp;omega
  refine ⟨some a,cap,zs.take len,by rw [hll],fun h=>(by cases h),by omega,hm,?_,fun x hx=>hwz x (List.mem_of_mem_take hx),.inr ⟨_,_,rfl,by simp [lits];omega⟩⟩
  intro j x hj
  have hjl:j<len:=by have:=(List.getElem?_eq_some_iff.1 hj).1;simp at this;omega
  have hjz:j<zs.length:=by omega
  have hx:x=.int k zs[j]:=by
   rw [List.getElem?_map,List.getElem?_take,if_pos hjl,List.getElem?_eq_getElem hjz] at hj
   simp at hj
   exact hj.symm
  obtain ⟨b,off,spot⟩:=a
  have hspot:spot=none:=by simpa [Addr.add] using World.cell?_spot (hcell 0 (by omega))
  subst hspot
  have hbW:b<W.heap.size:=hlt (.cell b off) (MemPlace.mem_row.2 ⟨0,by omega,by simp⟩)
  refine ⟨b,off,rfl,hbW,?_⟩
  rw [←add_plain,hcell j hjz,hx]
  rw [List.getD_eq_getElem?_getD,List.getElem?_eq_getElem hjz]
  rfl
theorem zma:(Tryz.prog.info? 9).map (fun i=>(i.zero,i.size,i.bytes))=some (some (.string ⟨#[]⟩),1,16):=by kernel_rfl
theorem ztZ {w:World} {x:Value} (E:TypeId):Vals (w.alloc (.cells #[x] E)) (some ⟨w.heap.size,0,none⟩) [x]:=by
 intro j u hj
 match j,hj with
 | 0,hj =>
  simp at hj;subst hj
  exact ⟨_,_,rfl,by simp,by simp⟩
def zmy (xs:List ByteArray) (p:ByteArray) (w:World) (e:Ending) (w':World):Prop :=
 Below w.heap.size w w'∧((zd9 (xs.map L) (L p)=none∧e=.returned (.tuple #[.slice none 0 0,.int .i64 30])) ∨
  ∃v ys,e=.returned (.tuple #[v,.int .i64 0])∧ze0 w' v ys∧zd9 (xs.map L) (L p)=some (ys.map L)∧ys.length≤xs.length+1)
theorem zbp {p:ByteArray} {l:List UInt8} (h:L p=l) (hl:l≠[]):(p.toList.isEmpty=false)∧¬p.toList=[]:=by
 rw [zbh,h]
 exact ⟨by cases l <;> simp_all,hl⟩
theorem zuk {p:ByteArray} {c:List UInt8} (h:L p≠c):(p.toList == c)=false∧¬p.toList=c:=by
 rw [zbh]
 exact ⟨by simpa using h,h⟩
theorem zmm {p:ByteArray} {c:List UInt8} (h:L p=c):(p.toList == c)=true∧p.toList=c:=by
 rw [zbh]
 exact ⟨by simpa using h,h⟩
theorem zpo (v:Value) (xs:List ByteArray) (p:ByteArray) (w:World) (hx:ze0 w v xs) (h:L p=[]∨L p=[46]):Calls Tryz.prog 208 #[v,.string p] w (zmy xs p w):=by
 obtain ⟨A,c,rfl,hA,hc,hm,hv⟩:=hx
 have HT:=hid (zoa (l:=xs.map L) h)
 have HV:=hid hv
 have HA:=hid hA
 clear hA hv
 rcases h with h | h
 ·have e1:p.toList=[]:=by rw [zbh];exact h
  have e2:p.toList.isEmpty=true:=by rw [e1];rfl
  clear h
  go_enter Tryz.func208,Tryz.ntmps208
  go_wp2
  go_ret2
  exact ⟨Below.refl _ _,.inr ⟨_,xs,rfl,⟨A,c,rfl,HA.out,hc,hm,HV.out⟩,HT.out,by omega⟩⟩
 ·obtain ⟨e1,e2⟩:=zbp h (by simp)
  obtain ⟨e3,e4⟩:=zmm h
  clear h
  go_enter Tryz.func208,Tryz.ntmps208
  go_wp2
  go_ret2
  exact ⟨Below.refl _ _,.inr ⟨_,xs,rfl,⟨A,c,rfl,HA.out,hc,hm,HV.out⟩,HT.out,by omega⟩⟩
theorem ztp (v:Value) (xs:List ByteArray) (p:ByteArray) (w:World) (hx:ze0 w v xs) (h:L p=[46,46]):Calls Tryz.prog 208 #[v,.string p] w (zmy xs p w):=by
 obtain ⟨A,c,rfl,hA,hc,hm,hv⟩:=hx
 obtain ⟨i0,hi,hz0,hz1,hz2⟩:=info_parts zma
 obtain ⟨e1,e2⟩:=zbp h (by simp)
 obtain ⟨e3,e4⟩:=zmm h
 have e5:(p.toList == [46])=false:=by rw [e4];decide
 have HT:=hid (zrS (l:=xs.map L))
 have HP:=hid h
 clear h e4
 by_cases h0:xs=[]
 ·subst h0
  clear hA hv hc hm hi hz0 hz1 hz2
  go_enter Tryz.func208,Tryz.ntmps208
  go_wp2
  go_ret2
  exact ⟨Below.refl _ _,.inl ⟨by rw [HP.out,HT.out];rfl,rfl⟩⟩
 ·have hpos:0<xs.length:=List.length_pos_iff.2 h0
  obtain ⟨n,hn⟩:∃n,xs.length=n+1:=⟨xs.length - 1,by omega⟩
  obtain ⟨A1,r1,g1,s1⟩:=znS (P:=Tryz.prog) 253 9 i0 Tryz.underlying253 hi (k:=n) (n:=xs.length) (by omega) hc hv hA
  rw [zql] at s1
  rw [hn] at r1 hc
  have HN:=hid hn
  have HG:=hid g1
  have HS:=hid s1
  rw [hn]
  unfold maxLen at hm
  have hlt:n+1≤9223372036854775807:=by omega
  have hp2:0<n+1:=by omega
  clear hA hv hi hz0 hz1 hz2 hn g1 s1 hpos
  go_enter Tryz.func208,Tryz.ntmps208
  go_wp2
  go_ret2
  have hl:(xs.take n).length=n:=by rw [List.length_take,HN.out];omega
  refine ⟨Below.refl _ _,.inr ⟨.slice A1 n c,xs.take n,rfl,⟨A1,c,by rw [hl],HG.out,by rw [hl];omega,by unfold maxLen;omega,HS.out⟩,?_,by rw [hl,HN.out];omega⟩⟩
  rw [HP.out,HT.out,if_neg (by simpa using h0),List.dropLast_eq_take,List.length_map,HN.out,List.map_take]
  simp
theorem znF {p:ByteArray} {k:Nat} (h:k<p.size) (hl:zbm ((p[k]'h).toNat:Int)=false):zbC (L p)=false :=
 zhN h (by rw [←zeL];exact hl)
theorem zlq {p:ByteArray} (h0:L p≠[]) (h:∀(j:Nat) (hj:j<p.size),zbm ((p[j]'hj).toNat:Int)=true):zbC (L p)=true:=by
 rw [zio (fun j hj=>by rw [←zeL];exact h j hj)]
 cases h:L p <;> simp_all
theorem zp7 (v:Value) (xs:List ByteArray) (p:ByteArray) (w:World) (hx:ze0 w v xs) (h1:¬(L p=[]∨L p=[46])) (h2:L p≠[46,46]) (hp:p.size≤9223372036854775807) (hlen:xs.length≤100000) :
  Calls Tryz.prog 208 #[v,.string p] w (zmy xs p w):=by
 obtain ⟨A,c,rfl,hA,hc,hm,hv⟩:=hx
 obtain ⟨i0,hi,hz0,hz1,hz2⟩:=info_parts zma
 have h0:L p≠[]:=fun h=>h1 (.inl h)
 obtain ⟨e1,e2⟩:=zbp (p:=p) rfl h0
 obtain ⟨e3,e4⟩:=zuk (c:=[46]) (p:=p) (fun h=>h1 (.inr h))
 obtain ⟨e5,e6⟩:=zuk h2
 have HV:=hid hv
 have HA:=hid hA
 have H1:=hid h1
 have H2:=hid h2
 have H0:=hid h0
 clear h1 h2 h0 hv hA
 go_enter Tryz.func208,Tryz.ntmps208
 go_wp2
 go_loop [6] (fun i=>∃k:Nat,k≤p.size∧i=.int .i64 k∧Hid (∀(j:Nat) (hj:j<p.size),j<k→zbm ((p[j]'hj).toNat:Int)=true)) (fun i=>p.size - (intOf i).toNat)
 case atStart=>exact ⟨0,Nat.zero_le _,rfl,hid (fun j _ h=>absurd h (Nat.not_lt_zero _))⟩
 case round =>
  obtain ⟨k,hk,rfl,H⟩:=hrel
  by_cases hlt:k<p.size
  ·cases hl:zbm ((p[k]'hlt).toNat:Int) with
   | true =>
    have HL:=hid hl
    clear hl
    go_wp2_with (go_at_call 211;refine (zis _ _).mono ?_;rintro e w' ⟨rfl,rfl⟩;rw [HL.out])
    go_round
    case rel =>
     refine ⟨k+1,by omega,by go_num,hid (fun j hj hjk=>?_)⟩
     by_cases hjp:j=k
     ·subst hjp;exact HL.out
     ·exact H.out j hj (by omega)
    case measure=>simp [intOf];omega
   | false =>
    have HL:=hid hl
    clear hl
    go_wp2_with (go_at_call 211;refine (zis _ _).mono ?_;rintro e w' ⟨rfl,rfl⟩;rw [HL.out])
    go_ret2
    exact ⟨Below.refl _ _,.inl ⟨zqZ H1.out H2.out (znF hlt HL.out),rfl⟩⟩
  ·have HG:=hid (zlq H0.out (fun j hj=>H.out j hj (by omega)))
   go_wp2_with (first
    | (at_builtin;refine zdu rfl (.tmp 36) (.tmp 37) 253 rfl w.heap.size 9 i0 _ 16 Tryz.underlying253 hi hz0 hz1 hz2 rfl _ 0 [] rfl (World.ownsRow_nil _ _ _ _) A c (strs xs) xs.length (zhg xs) rfl HA.out HV.out (zrH xs) (by unfold maxLen;omega) (by omega) (Nat.le_refl _) ?_;intro v1 w1 hown1 hg1;simp only [Nat.zero_add,List.nil_append] at hown1;have hb1:Below w.heap.size w w1:=(Below.refl _ _).grown hg1 (Nat.le_refl _) (fun k hk=>nomatch hk);have z1:=hb1.size;have HB1:=hid hb1;clear hb1 hg1)
    | (at_builtin;refine zdu rfl (.tmp 39) (.tmp 41) 253 rfl w.heap.size 9 i0 _ 16 Tryz.underlying253 hi hz0 hz1 hz2 rfl _ xs.length (strs xs) rfl (hown1.alloc _) _ 1 [.string p] 1 rfl rfl (fun h=>nomatch h) (ztZ _) (by intro u hu;simp at hu;subst hu;rfl) (by unfold maxLen;omega) (by omega) (by simp;omega) ?_;intro v2 w2 hown2 hg2;have hb2:Below w.heap.size w w2:=(HB1.out.alloc z1 _).grown hg2 (by simp;omega) (fun k hk=>(hown1.lt k hk).1);have HB2:=hid hb2;have HO:=hid hown2;clear hb2 hg2 hown2 hown1))
   go_ret2
   have ho:w2.ownsRow w.heap.size 9 1 v2 (xs.length+1) (strs (xs ++ [p])):=by
    have:=HO.out
    rwa [show ([Value.string p]:List Value)=strs [p] from rfl,zlt] at this
   exact ⟨HB2.out,.inr ⟨v2,xs ++ [p],rfl,zqg ho,by rw [zid HG.out];simp,by simp⟩⟩
theorem zsi (v:Value) (xs:List ByteArray) (p:ByteArray) (w:World) (hx:ze0 w v xs) (hp:p.size≤9223372036854775807) (hlen:xs.length≤100000) :
  Calls Tryz.prog 208 #[v,.string p] w (zmy xs p w):=by
 by_cases h1:L p=[]∨L p=[46]
 ·exact zpo v xs p w hx h1
 ·by_cases h2:L p=[46,46]
  ·exact ztp v xs p w hx h2
  ·exact zp7 v xs p w hx h1 h2 hp hlen
end Go.Proofs.YtnjdckoljmgcjaaGreatDoor
