/-
  Two commands, compared.
-/
import Derived.Test.YtnjdckoljmgcjaaGreatDoorW01
import Derived.LaidEql
set_option maxRecDepth 100000
set_option maxHeartbeats 4000000
namespace Go.Proofs.YtnjdckoljmgcjaaGreatDoor
open Go.ChangeShapes Go.WideShapes Go.ChangeAt Go.RowKit
set_option linter.unusedVariables false
set_option linter.unusedSimpArgs false
def ownB (f:Nat→Int) (r s:Int):Bool:=okB f && zds r s && decide (f (1+r.toNat)=s)
theorem ziJ {w W:World} {f:Nat→Int} {r s:Int} (h:(w.alloc (.cells (#[.int .i64 (f 0),.int .i64 (f 1),.int .i64 (f 2),.int .i64 (f 3),.int .i64 (f 4),.int .i64 (f 5),.int .i64 (f 6),.int .i64 (f 7)]) 64)).alloc (.cells #[.int .i64 r,.int .i64 s] 55)=W) :
  Hid (Blk W w.heap.size 64 (rowA f))∧Hid (Blk W (w.heap.size+1) 55 #[.int .i64 r,.int .i64 s])∧Hid (Below w.heap.size w W):=by
 obtain ⟨h1,h2,h3⟩:=zcE h
 exact ⟨h1,h2,h3⟩
theorem zsq (f:Nat→Int) (r s:Int) (h:okB f=false) (w:World) :
  Calls Tryz.prog 171 #[.agg #[.int .i64 (f 0),.int .i64 (f 1),.int .i64 (f 2),.int .i64 (f 3),.int .i64 (f 4),.int .i64 (f 5),.int .i64 (f 6),.int .i64 (f 7)],nm r s] w fun e w'=>e=.returned (.bool false)∧Below w.heap.size w w':=by
 have HO:=hid h
 clear h
 go_enter Tryz.func171,Tryz.ntmps171
 go_upto_region 1 with fail
 obtain ⟨W,hW⟩:∃W,(w.alloc (.cells #[.int .i64 (f 0),.int .i64 (f 1),.int .i64 (f 2),.int .i64 (f 3),.int .i64 (f 4),.int .i64 (f 5),.int .i64 (f 6),.int .i64 (f 7)] 64)).alloc (.cells #[.int .i64 r,.int .i64 s] 55)=W:=⟨_,rfl⟩
 rw [hW]
 obtain ⟨K0,K1,KB⟩:=ziJ hW
 clear hW
 obtain ⟨k,hk⟩:∃k,w.heap.size=k:=⟨_,rfl⟩
 rw [hk] at K0 K1 KB
 rw [hk]
 have HK:=hid hk
 clear hk
 refine wp_region_held_drew (S:=(fun w'=>(w'.cell? ⟨k,0,none⟩=some (.int .i64 (f 0))∧w'.cell? ⟨k,1,none⟩=some (.int .i64 (f 1))∧w'.cell? ⟨k,2,none⟩=some (.int .i64 (f 2))∧w'.cell? ⟨k,3,none⟩=some (.int .i64 (f 3))∧w'.cell? ⟨k,4,none⟩=some (.int .i64 (f 4))∧w'.cell? ⟨k,5,none⟩=some (.int .i64 (f 5))∧w'.cell? ⟨k,6,none⟩=some (.int .i64 (f 6))∧w'.cell? ⟨k,7,none⟩=some (.int .i64 (f 7)))∧w'.cell? ⟨k+1,0,none⟩=some (.int .i64 r)∧w'.cell? ⟨k+1,1,none⟩=some (.int .i64 s))) (by kernel_rfl) (by exact ⟨K0.out.drew.eight,(blkn K1.out.drew).1⟩) (fun hHeld=>?_)
 refine ta 0 rfl hHeld ?_
 try simp only [Act.put,g1,g2,g3,g4,g5,g6]
 refine wpAnyH_ready (rs:=[1]) (by kernel_rfl) (by simp) ?_
 refine AllReadyH.cons (o:=_) rfl (fun K hK=>?_) AllReadyH.nil
 go_simp
 go_at_call 165
 with_reducible refine (zjp f _).mono ?_
 rw [HO.out]
 rintro e w1 ⟨rfl,hb1⟩
 have D0:=hid (K0.out.drew.below hb1 K0.out.drew.lt)
 have D1:=hid (K1.out.drew.below hb1 K1.out.drew.lt)
 refine hK.out _ _ (by exact ⟨D0.out.eight,(blkn D1.out).1⟩) (fun hHeld=>?_)
 clear hK K
 try simp only [Act.put,g1,g2,g3,g4,g5,g6]
 refine ta 2 rfl hHeld ?_
 refine tu 3 rfl hHeld ?_
 try simp only [Act.put,g1,g2,g3,g4,g5,g6]
 refine tu 4 rfl hHeld ?_
 try simp only [Act.put,g1,g2,g3,g4,g5,g6]
 refine ta 5 rfl hHeld ?_
 refine ta 6 rfl hHeld ?_
 refine tu 7 rfl hHeld ?_
 try simp only [Act.put,g1,g2,g3,g4,g5,g6]
 refine tu 8 rfl hHeld ?_
 try simp only [Act.put,g1,g2,g3,g4,g5,g6]
 refine tu 9 rfl hHeld ?_
 try simp only [Act.put,g1,g2,g3,g4,g5,g6]
 refine tu 10 rfl hHeld ?_
 try simp only [Act.put,g1,g2,g3,g4,g5,g6]
 refine tu 11 rfl hHeld ?_
 try simp only [Act.put,g1,g2,g3,g4,g5,g6]
 refine tu 12 rfl hHeld ?_
 try simp only [Act.put,g1,g2,g3,g4,g5,g6]
 refine tu 13 rfl hHeld ?_
 try simp only [Act.put,g1,g2,g3,g4,g5,g6]
 refine tu 14 rfl hHeld ?_
 try simp only [Act.put,g1,g2,g3,g4,g5,g6]
 refine ta 15 rfl hHeld ?_
 refine ta 16 rfl hHeld ?_
 try simp only [Act.put,g1,g2,g3,g4,g5,g6]
 refine wpAnyH_done (by kernel_rfl) ?_ _
 go_wp2
 go_ret
 exact ⟨rfl,by rw [HK.out];exact (zag KB.out).trans (hb1.mono (show k≤W.heap.size by have:=K0.out.lt;omega))⟩
theorem ztB (f:Nat→Int) (r s:Int) (h:okB f=true) (h2:zds r s=false) (w:World) :
  Calls Tryz.prog 171 #[.agg #[.int .i64 (f 0),.int .i64 (f 1),.int .i64 (f 2),.int .i64 (f 3),.int .i64 (f 4),.int .i64 (f 5),.int .i64 (f 6),.int .i64 (f 7)],nm r s] w fun e w'=>e=.returned (.bool false)∧Below w.heap.size w w':=by
 have HO:=hid h
 have HX:=hid h2
 clear h h2
 go_enter Tryz.func171,Tryz.ntmps171
 go_upto_region 1 with fail
 obtain ⟨W,hW⟩:∃W,(w.alloc (.cells #[.int .i64 (f 0),.int .i64 (f 1),.int .i64 (f 2),.int .i64 (f 3),.int .i64 (f 4),.int .i64 (f 5),.int .i64 (f 6),.int .i64 (f 7)] 64)).alloc (.cells #[.int .i64 r,.int .i64 s] 55)=W:=⟨_,rfl⟩
 rw [hW]
 obtain ⟨K0,K1,KB⟩:=ziJ hW
 clear hW
 obtain ⟨k,hk⟩:∃k,w.heap.size=k:=⟨_,rfl⟩
 rw [hk] at K0 K1 KB
 rw [hk]
 have HK:=hid hk
 clear hk
 refine wp_region_held_drew (S:=(fun w'=>(w'.cell? ⟨k,0,none⟩=some (.int .i64 (f 0))∧w'.cell? ⟨k,1,none⟩=some (.int .i64 (f 1))∧w'.cell? ⟨k,2,none⟩=some (.int .i64 (f 2))∧w'.cell? ⟨k,3,none⟩=some (.int .i64 (f 3))∧w'.cell? ⟨k,4,none⟩=some (.int .i64 (f 4))∧w'.cell? ⟨k,5,none⟩=some (.int .i64 (f 5))∧w'.cell? ⟨k,6,none⟩=some (.int .i64 (f 6))∧w'.cell? ⟨k,7,none⟩=some (.int .i64 (f 7)))∧w'.cell? ⟨k+1,0,none⟩=some (.int .i64 r)∧w'.cell? ⟨k+1,1,none⟩=some (.int .i64 s))) (by kernel_rfl) (by exact ⟨K0.out.drew.eight,(blkn K1.out.drew).1⟩) (fun hHeld=>?_)
 refine ta 0 rfl hHeld ?_
 try simp only [Act.put,g1,g2,g3,g4,g5,g6]
 refine wpAnyH_ready (rs:=[1]) (by kernel_rfl) (by simp) ?_
 refine AllReadyH.cons (o:=_) rfl (fun K hK=>?_) AllReadyH.nil
 go_simp
 go_at_call 165
 with_reducible refine (zjp f _).mono ?_
 rw [HO.out]
 rintro e w1 ⟨rfl,hb1⟩
 have D0:=hid (K0.out.drew.below hb1 K0.out.drew.lt)
 have D1:=hid (K1.out.drew.below hb1 K1.out.drew.lt)
 refine hK.out _ _ (by exact ⟨D0.out.eight,(blkn D1.out).1⟩) (fun hHeld=>?_)
 clear hK K
 try simp only [Act.put,g1,g2,g3,g4,g5,g6]
 refine ta 2 rfl hHeld ?_
 refine ta 3 rfl hHeld ?_
 try simp only [Act.put,g1,g2,g3,g4,g5,g6]
 refine wpAnyH_ready (rs:=[4]) (by kernel_rfl) (by simp) ?_
 refine AllReadyH.cons (o:=_) rfl (fun K hK=>?_) AllReadyH.nil
 go_simp
 go_at_call 101
 with_reducible refine (zeJ r s _).mono ?_
 rw [HX.out]
 rintro e w2 ⟨rfl,hb2⟩
 have E0:=hid (D0.out.below hb2 D0.out.lt)
 have E1:=hid (D1.out.below hb2 D1.out.lt)
 refine hK.out _ _ (by exact ⟨E0.out.eight,(blkn E1.out).1⟩) (fun hHeld=>?_)
 clear hK K
 try simp only [Act.put,g1,g2,g3,g4,g5,g6]
 refine ta 5 rfl hHeld ?_
 refine ta 6 rfl hHeld ?_
 refine tu 7 rfl hHeld ?_
 try simp only [Act.put,g1,g2,g3,g4,g5,g6]
 refine tu 8 rfl hHeld ?_
 try simp only [Act.put,g1,g2,g3,g4,g5,g6]
 refine tu 9 rfl hHeld ?_
 try simp only [Act.put,g1,g2,g3,g4,g5,g6]
 refine tu 10 rfl hHeld ?_
 try simp only [Act.put,g1,g2,g3,g4,g5,g6]
 refine tu 11 rfl hHeld ?_
 try simp only [Act.put,g1,g2,g3,g4,g5,g6]
 refine tu 12 rfl hHeld ?_
 try simp only [Act.put,g1,g2,g3,g4,g5,g6]
 refine tu 13 rfl hHeld ?_
 try simp only [Act.put,g1,g2,g3,g4,g5,g6]
 refine tu 14 rfl hHeld ?_
 try simp only [Act.put,g1,g2,g3,g4,g5,g6]
 refine ta 15 rfl hHeld ?_
 refine ta 16 rfl hHeld ?_
 try simp only [Act.put,g1,g2,g3,g4,g5,g6]
 refine wpAnyH_done (by kernel_rfl) ?_ _
 go_wp2
 go_ret
 exact ⟨rfl,by rw [HK.out];exact ((zag KB.out).trans (hb1.mono (show k≤W.heap.size by have:=K0.out.lt;omega))).trans (hb2.mono (by have:=D0.out.lt;omega))⟩
theorem zrX (f:Nat→Int) (a b:Nat) (ha:a<7) (hb:b<1024) (h:okB f=true) (h2:zds a b=true) (w:World) :
  Calls Tryz.prog 171 #[.agg #[.int .i64 (f 0),.int .i64 (f 1),.int .i64 (f 2),.int .i64 (f 3),.int .i64 (f 4),.int .i64 (f 5),.int .i64 (f 6),.int .i64 (f 7)],nm a b] w fun e w'=>e=.returned (.bool (decide (f (1+a)=(b:Int))))∧Below w.heap.size w w':=by
 have HO:=hid h
 have HX:=hid h2
 clear h h2
 go_enter Tryz.func171,Tryz.ntmps171
 go_upto_region 1 with fail
 obtain ⟨W,hW⟩:∃W,(w.alloc (.cells #[.int .i64 (f 0),.int .i64 (f 1),.int .i64 (f 2),.int .i64 (f 3),.int .i64 (f 4),.int .i64 (f 5),.int .i64 (f 6),.int .i64 (f 7)] 64)).alloc (.cells #[.int .i64 (a:Int),.int .i64 (b:Int)] 55)=W:=⟨_,rfl⟩
 rw [hW]
 obtain ⟨K0,K1,KB⟩:=ziJ hW
 clear hW
 obtain ⟨k,hk⟩:∃k,w.heap.size=k:=⟨_,rfl⟩
 rw [hk] at K0 K1 KB
 rw [hk]
 have HK:=hid hk
 clear hk
 have HI:Hid (∀w':World,Blk w' k 64 (rowA f)→w'.cell? ⟨k,1+a,none⟩=some (.int .i64 (f (1+a)))):=hid (fun w' h=>h.att (by omega))
 obtain ⟨x,hx⟩:∃x,f (1+a)=x:=⟨_,rfl⟩
 rw [hx] at HI
 have HQ:=hid hx
 clear hx
 have ha':(a:Int)<7:=by omega
 go_region_held3 (fun w'=>(w'.cell? ⟨k,0,none⟩=some (.int .i64 (f 0))∧w'.cell? ⟨k,1,none⟩=some (.int .i64 (f 1))∧w'.cell? ⟨k,2,none⟩=some (.int .i64 (f 2))∧w'.cell? ⟨k,3,none⟩=some (.int .i64 (f 3))∧w'.cell? ⟨k,4,none⟩=some (.int .i64 (f 4))∧w'.cell? ⟨k,5,none⟩=some (.int .i64 (f 5))∧w'.cell? ⟨k,6,none⟩=some (.int .i64 (f 6))∧w'.cell? ⟨k,7,none⟩=some (.int .i64 (f 7)))∧w'.cell? ⟨k+1,0,none⟩=some (.int .i64 (a:Int))∧w'.cell? ⟨k+1,1,none⟩=some (.int .i64 (b:Int))∧w'.cell? ⟨k,1+a,none⟩=some (.int .i64 x))
  (first | exact ⟨K0.out.eight,(blkn K1.out).1.1,(blkn K1.out).1.2,HI.out _ K0.out⟩ | exact ⟨K0.out.drew.eight,(blkn K1.out.drew).1.1,(blkn K1.out.drew).1.2,HI.out _ K0.out.drew⟩ | exact ⟨D0.out.eight,(blkn D1.out).1.1,(blkn D1.out).1.2,HI.out _ D0.out⟩ | exact ⟨E0.out.eight,(blkn E1.out).1.1,(blkn E1.out).1.2,HI.out _ E0.out⟩)
  (first
   | (go_at_call 165;(with_reducible refine (zjp f _).mono ?_);rw [HO.out];rintro e w1 ⟨rfl,hb1⟩;have D0:=hid (K0.out.drew.below hb1 K0.out.drew.lt);have D1:=hid (K1.out.drew.below hb1 K1.out.drew.lt))
   | (go_at_call 101;(with_reducible refine (zeJ a b _).mono ?_);rw [HX.out];rintro e w2 ⟨rfl,hb2⟩;have E0:=hid (D0.out.below hb2 D0.out.lt);have E1:=hid (D1.out.below hb2 D1.out.lt)))
 rename_i hHeld
 clear hHeld
 have HE:=hid (((zag KB.out).trans (hb1.mono (show k≤W.heap.size by have:=K0.out.lt;omega))).trans (hb2.mono (by have:=D0.out.lt;omega)))
 clear hb1 hb2 HI
 go_wp2
 go_ret
 exact ⟨zab (by rw [HQ.out,Bool.eq_iff_iff];simp),by rw [HK.out];exact HE.out⟩
theorem zt8 (f:Nat→Int) (r s:Int) (w:World) :
  Calls Tryz.prog 171 #[.agg #[.int .i64 (f 0),.int .i64 (f 1),.int .i64 (f 2),.int .i64 (f 3),.int .i64 (f 4),.int .i64 (f 5),.int .i64 (f 6),.int .i64 (f 7)],nm r s] w fun e w'=>e=.returned (.bool (ownB f r s))∧Below w.heap.size w w':=by
 cases h0:okB f
 ·have e:ownB f r s=false:=by unfold ownB;rw [h0];rfl
  rw [e];exact zsq f r s h0 w
 ·cases h:zds r s
  ·have e:ownB f r s=false:=by unfold ownB;rw [h,h0];rfl
   rw [e];exact ztB f r s h0 h w
  ·obtain ⟨a,b,rfl,rfl,ha,hb,_⟩:=ze9 h
   have e:ownB f a b=decide (f (1+a)=(b:Int)):=by unfold ownB;rw [h,h0];simp
   rw [e];exact zrX f a b ha hb h0 h w
end Go.Proofs.YtnjdckoljmgcjaaGreatDoor
namespace Go.Proofs.YtnjdckoljmgcjaaGreatDoor
structure J where
 r:Int
 s:Int
 st:Int
 bal:Int
 vote:Int
 same:Bool
 c:K
 f:Nat→Int
abbrev za8:K:=⟨0,0,⟨#[]⟩,0,⟨#[]⟩,0,0,0⟩
def okJ (x:J):Prop:=(0≤x.bal∧x.bal<4294967296)∧0≤x.vote∧x.vote<4294967296
def zau:J:=⟨0,0,0,0,0,false,za8,fun _=>0⟩
def eqJ (x y:J):Bool:=(x.r == y.r && x.s == y.s) && ((x.st == y.st) && ((x.bal == y.bal) && ((x.vote == y.vote) && ((x.same == y.same) && (decide (x.c=y.c) && eqA x.f y.f)))))
def balB (b:Int):Bool:=zcC b.toNat
def zcK (x:J):J:=⟨x.r,x.s,0,x.bal,0,false,za8,fun _=>0⟩
def newJ (r s:Int):J:=⟨r,s,0,0,0,false,za8,fun _=>0⟩
def zf3 (x:J):Bool:=x.st == 1 && x.vote == 0
def zhR (n:Int):Bool:=decide (0≤n∧n<4)
def valB (x:J):Bool:=balB x.vote && decide (x.vote≤x.bal) && (!x.same || zf3 x) && zaF x.c && ownB x.f x.r x.s
def zbr (x:J):Bool:=zds x.r x.s && balB x.bal && (if x.st=0 then eqJ x (zcK x) else zhR x.st && valB x)
def zg3 (x y:J):Bool:=decide (x.c=y.c) && eqA x.f y.f
def zqX (x o:J):Bool:=if o.st=3 then x.st == 3 && zg3 x o else if x.st=3 then true else if x.vote=o.vote then (if x.st=o.st then x.same == o.same && zg3 x o else decide (o.st<x.st)) else decide (o.vote<x.vote)
def zbf (x o:J):Bool:=zbr x && zbr o && (x.r == o.r && x.s == o.s) && decide (o.bal≤x.bal) && zqX x o
end Go.Proofs.YtnjdckoljmgcjaaGreatDoor
namespace Go.Proofs.YtnjdckoljmgcjaaGreatDoor
open Go.RowKit
theorem zcD:(Tryz.prog.info? 5).map (fun i=>(i.zero,i.size,i.bytes))=some (some (.int .u8 0),1,1):=by kernel_rfl
theorem zl1 {w:World} {x:Value} (E:TypeId):∀j u,[x][j]?=some u→(w.alloc (.cells #[x] E)).cell? ((⟨w.heap.size,0,none⟩:Addr).add j)=some u:=by
 intro j u hj
 match j,hj with
 | 0,hj=>simp at hj;subst hj;simp [Addr.add]
theorem zl8 {k:IntKind} {x:Int}:∀u∈[Value.int k x],u.oneCell'=true:=by
 intro u hu;simp at hu;subst hu;rfl
def zcy (l:List Nat) (w:World) (e:Ending) (w':World):Prop :=
 ∃s,e=.returned s∧w'.ownsRow w.heap.size 5 1 s l.length (l.map bv)∧Below w.heap.size w w'
theorem zdy {base:Nat} {w wr w1:World} {s:Value} {n:Nat} {xs:List Value} {E:TypeId} {o:Obj} (hb:Below base w wr) (hsz:base≤wr.heap.size)
  (hown:wr.ownsRow base E 1 s n xs) (hg:(wr.alloc o).grownBy w1 s.ownBlock):Below base w w1 :=
 (hb.alloc hsz o).grown hg (by simp;omega) (fun k hk=>(hown.lt k hk).1)
def zro (l:List Nat) (w:World) (e:Ending) (w':World):Prop :=
 ∃A cap,e=.returned (.slice A l.length cap)∧(A=none→cap=0)∧l.length≤cap∧Sees .u8 w' A l∧Below w.heap.size w w'
theorem zcy.hands {l:List Nat} {w:World} {e:Ending} {w':World} (h:zcy l w e w'):zro l w e w':=by
 obtain ⟨s,rfl,hown,hb⟩:=h
 rcases hown.2 with ⟨rfl,h0⟩ | ⟨g,cap,cur,rfl,_,_,hc,_⟩
 ·have:l=[]:=List.eq_nil_of_length_eq_zero h0
  subst this
  exact ⟨none,0,rfl,fun _=>rfl,Nat.le_refl _,Sees.nil _ _ _,hb⟩
 ·exact ⟨_,cap,rfl,fun h=>(by cases h),hc,Sees.of_own hown,hb⟩
end Go.Proofs.YtnjdckoljmgcjaaGreatDoor
namespace Go.Proofs.YtnjdckoljmgcjaaGreatDoor
open Go.ChangeShapes Go.WideShapes Go.ChangeAt Go.RowKit Go.Lib
abbrev val (c:K):Value:=.agg #[.int .i64 c.kind,.int .u64 c.num,.string c.foot,.int .u64 c.req,.string c.path,.int .i64 c.mode,.int .u64 c.n,.int .i64 c.time]
abbrev cellsOf (c:K):Array Value:=#[.int .i64 c.kind,.int .u64 c.num,.string c.foot,.int .u64 c.req,.string c.path,.int .i64 c.mode,.int .u64 c.n,.int .i64 c.time]
theorem zqM {P:Program} {w w':World} {n:String} {cs:Array Value} (h:w.var? P n=some cs) (hb:Below w.heap.size w w'):w'.var? P n=some cs:=by
 unfold World.var? at h ⊢
 cases hg:P.globalNamed n with
 | none=>rw [hg] at h;cases h
 | some g =>
  rw [hg] at h
  simp only [Option.bind_some] at h ⊢
  rcases Nat.lt_or_ge g w.heap.size with hlt | hge
  ·rw [hb.block g hlt];exact h
  ·rw [Array.getElem?_eq_none hge] at h;cases h
def pts:List Int:=[0,51,3,35,15,15,7,23,33]
def ptsV:Array Value:=(pts.map fun x=>Value.int .u8 x).toArray
def zad (w : World) : Prop := w.var? Tryz.prog "moothill/cmd.parts" = some ptsV
theorem zad.below {w w':World} (h:zad w) (hb:Below w.heap.size w w'):zad w':=zqM h hb
theorem zad.drew {w:World} (h:zad w):zad w.drew:=h
theorem zad.alloc {w:World} (h:zad w) (o:Obj):zad (w.alloc o):=h.below ((Below.refl _ _).alloc (Nat.le_refl _) o)
theorem zcx : Tryz.prog.globalNamed "moothill/cmd.parts" = some 0 := by kernel_rfl
theorem zad.cell {w:World} (h:zad w) (i:Nat):w.cell? ⟨0,i,none⟩=ptsV[i]?:=World.var?_cell zcx h i
def hasP (p k:Int):Bool:=if p=1 then h0 k else if p=2 then h1 k else if p=4 then h2 k else if p=8 then h3 k else if p=16 then h4 k else h5 k
def pt (k:Nat):Int:=pts.getD k 0
theorem ztd (k:Nat) (h:k<9):ptsV[k]?=some (.int .u8 (pt k)):=by
 have:k=0∨k=1∨k=2∨k=3∨k=4∨k=5∨k=6∨k=7∨k=8:=by omega
 rcases this with rfl | rfl | rfl | rfl | rfl | rfl | rfl | rfl | rfl <;> rfl
theorem zth (p:Int) (k:Nat) (h:k<9) (hp:p=1∨p=2∨p=4∨p=8∨p=16∨p=32):(bits .and .u8 (pt k) p != 0)=hasP p (k:Int):=by
 have:k=0∨k=1∨k=2∨k=3∨k=4∨k=5∨k=6∨k=7∨k=8:=by omega
 rcases this with rfl | rfl | rfl | rfl | rfl | rfl | rfl | rfl | rfl <;> rcases hp with rfl | rfl | rfl | rfl | rfl | rfl <;> decide
theorem zrI (p k:Int) (h:isK k=false):hasP p k=false:=by
 unfold isK at h
 rw [decide_eq_false_iff_not] at h
 unfold hasP
 repeat' split
 all_goals first | (unfold h0;exact decide_eq_false (by omega)) | (unfold h1;exact decide_eq_false (by omega)) | (unfold h2;exact decide_eq_false (by omega)) | (unfold h3;exact decide_eq_false (by omega)) | (unfold h4;exact decide_eq_false (by omega)) | (unfold h5;exact decide_eq_false (by omega))
theorem zc2 (k:Int) (w:World):Calls Tryz.prog 159 #[.int .i64 k] w fun e w'=>e=.returned (.bool (isK k))∧w=w':=by
 go_enter Tryz.func159,Tryz.ntmps159
 go_wp2
 all_goals go_ret
 all_goals exact ⟨zab (by unfold isK;rw [Bool.eq_iff_iff];simp;try omega),rfl⟩
theorem zh2 (c:K) (p:Int) (b:Bool) (w:World) (hp:p=1∨p=2∨p=4∨p=8∨p=16∨p=32) (hb:hasP p c.kind=b) (hP:zad w) :
  Calls Tryz.prog 173 #[val c,.int .u8 p] w fun e w'=>e=.returned (.bool b)∧Below w.heap.size w w':=by
 obtain ⟨k,u,f,q,s,m,n,t⟩:=c
 simp only at hb ⊢
 subst hb
 cases hk:isK k
 ·rw [zrI p k hk]
  have HK:=hid hk
  clear hk hP hp
  go_enter Tryz.func173,Tryz.ntmps173
  go_wp2_with fail
  with_reducible refine (zc2 k _).mono ?_
  rintro e w' ⟨rfl,rfl⟩
  rw [HK.out]
  go_wp2
  go_ret
  exact ⟨rfl,(Below.refl _ _).alloc (Nat.le_refl _) _⟩
 ·have HK:=hid hk
  obtain ⟨i,rfl,hi⟩:∃i:Nat,k=(i:Int)∧i<9:=by
   unfold isK at hk
   rw [decide_eq_true_eq] at hk
   exact ⟨k.toNat,by omega,by omega⟩
  have HH:=hid (zth p i hi hp)
  have HG:=hid ((zad.alloc hP (.cells (cellsOf ⟨i,u,f,q,s,m,n,t⟩) 61)).cell i)
  have hg:=(HG.out.trans (ztd i hi))
  clear hk hP hp HG
  go_enter Tryz.func173,Tryz.ntmps173
  go_wp2_with fail
  with_reducible refine (zc2 i _).mono ?_
  rintro e w' ⟨rfl,rfl⟩
  rw [HK.out]
  go_wp2
  go_ret
  exact ⟨zab HH.out,(Below.refl _ _).alloc (Nat.le_refl _) _⟩
theorem zb3 (c:K) (b:Bool) (w:World) (hb:h0 c.kind=b) (hP:zad w) :
  Calls Tryz.prog 173 #[val c,.int .u8 1] w fun e w'=>e=.returned (.bool b)∧Below w.heap.size w w':=zh2 c 1 b w (by decide) hb hP
theorem zb7 (c:K) (b:Bool) (w:World) (hb:h1 c.kind=b) (hP:zad w) :
  Calls Tryz.prog 173 #[val c,.int .u8 2] w fun e w'=>e=.returned (.bool b)∧Below w.heap.size w w':=zh2 c 2 b w (by decide) hb hP
theorem zb5 (c:K) (b:Bool) (w:World) (hb:h2 c.kind=b) (hP:zad w) :
  Calls Tryz.prog 173 #[val c,.int .u8 4] w fun e w'=>e=.returned (.bool b)∧Below w.heap.size w w':=zh2 c 4 b w (by decide) hb hP
theorem zca (c:K) (b:Bool) (w:World) (hb:h3 c.kind=b) (hP:zad w) :
  Calls Tryz.prog 173 #[val c,.int .u8 8] w fun e w'=>e=.returned (.bool b)∧Below w.heap.size w w':=zh2 c 8 b w (by decide) hb hP
theorem zbT (c:K) (b:Bool) (w:World) (hb:h4 c.kind=b) (hP:zad w) :
  Calls Tryz.prog 173 #[val c,.int .u8 16] w fun e w'=>e=.returned (.bool b)∧Below w.heap.size w w':=zh2 c 16 b w (by decide) hb hP
theorem zb4 (c:K) (b:Bool) (w:World) (hb:h5 c.kind=b) (hP:zad w) :
  Calls Tryz.prog 173 #[val c,.int .u8 32] w fun e w'=>e=.returned (.bool b)∧Below w.heap.size w w':=zh2 c 32 b w (by decide) hb hP
def Boxed (w0 w:World) (g:Nat) (c:K):Prop:=Blk w g 61 (cellsOf c)∧w0.heap.size≤g∧Below w0.heap.size w0 w∧zad w0
theorem Boxed.parts {w0 w:World} {g:Nat} {c:K} (h:Boxed w0 w g c):zad w:=h.2.2.2.below h.2.2.1
theorem Boxed.below {w0 w:World} {g:Nat} {c:K} (h:Boxed w0 w g c):Below w0.heap.size w0 w:=h.2.2.1
theorem Boxed.on {w0 w w':World} {g:Nat} {c:K} (h:Boxed w0 w g c) (hb:Below w.heap.size w w'):Boxed w0 w' g c :=
 ⟨h.1.below hb h.1.lt,h.2.1,h.2.2.1.trans (hb.mono h.2.2.1.size),h.2.2.2⟩
theorem Boxed.drew {w0 w:World} {g:Nat} {c:K} (h:Boxed w0 w g c):Boxed w0 w.drew g c:=⟨h.1.drew,h.2.1,zag h.2.2.1,h.2.2.2⟩
theorem Boxed.alloc {w0 w:World} {g:Nat} {c:K} (h:Boxed w0 w g c) (o:Obj):Boxed w0 (w.alloc o) g c:=h.on ((Below.refl _ _).alloc (Nat.le_refl _) o)
theorem Boxed.far {w0 w:World} {g:Nat} {c:K} (h:Boxed w0 w g c) {p:Addr} (hp:g≠p.block) (h0:w0.heap.size≤p.block) (u:Value):Boxed w0 (w.setCell p u) g c :=
 ⟨h.1.far hp u,h.2.1,Below.setCell (p:=p) h.2.2.1 h0 u,h.2.2.2⟩
theorem Boxed.start {w:World} (h:zad w) (c:K):Boxed w (w.alloc (.cells (cellsOf c) 61)) w.heap.size c :=
 ⟨Blk.new _ _ _,Nat.le_refl _,(Below.refl _ _).alloc (Nat.le_refl _) _,h⟩
theorem Boxed.set_ {w0 w:World} {g:Nat} {c:K} (h:Boxed w0 w g c) (i:Nat) (u:Value) (c':K) (hc:(cellsOf c).setIfInBounds i u=cellsOf c'):Boxed w0 (w.setCell ⟨g,i,none⟩ u) g c' :=
 ⟨hc ▸ h.1.set_ i u,h.2.1,Below.setCell (p:=⟨g,i,none⟩) h.2.2.1 h.2.1 u,h.2.2.2⟩
theorem zaa {w:World} {g:Nat} {T:TypeId} {a b c d e f x y:Value} (h:Blk w g T #[a,b,c,d,e,f,x,y]) :
  (w.cell? ⟨g,0,none⟩=some a∧w.cell? ⟨g,1,none⟩=some b∧w.cell? ⟨g,2,none⟩=some c∧w.cell? ⟨g,3,none⟩=some d∧w.cell? ⟨g,4,none⟩=some e∧w.cell? ⟨g,5,none⟩=some f∧w.cell? ⟨g,6,none⟩=some x∧w.cell? ⟨g,7,none⟩=some y) ∧
  w.frozen? ⟨g,0,none⟩=false∧w.frozen? ⟨g,1,none⟩=false∧w.frozen? ⟨g,2,none⟩=false∧w.frozen? ⟨g,3,none⟩=false∧w.frozen? ⟨g,4,none⟩=false∧w.frozen? ⟨g,5,none⟩=false∧w.frozen? ⟨g,6,none⟩=false∧w.frozen? ⟨g,7,none⟩=false :=
 ⟨⟨(h.cell 0).trans rfl,(h.cell 1).trans rfl,(h.cell 2).trans rfl,(h.cell 3).trans rfl,(h.cell 4).trans rfl,(h.cell 5).trans rfl,(h.cell 6).trans rfl,(h.cell 7).trans rfl⟩,h.frozen 0,h.frozen 1,h.frozen 2,h.frozen 3,h.frozen 4,h.frozen 5,h.frozen 6,h.frozen 7⟩
theorem zfh (c:K) (w:World):Calls Tryz.prog 205 #[val c] w fun e w'=>e=.returned (.int .u64 (zgp c.kind))∧Below w.heap.size w w':=by
 obtain ⟨k,u,f,q,s,m,n,t⟩:=c
 rcases Decidable.em (k=1) with h | h
 ·subst h
  go_enter Tryz.func205,Tryz.ntmps205
  go_wp2
  go_ret
  exact ⟨rfl,(Below.refl _ _).alloc (Nat.le_refl _) _⟩
 ·have hb:(k == 1)=false:=beq_eq_false_iff_ne.2 h
  have H:Hid (zgp k=9223372036854775807):=hid (if_neg h)
  go_enter Tryz.func205,Tryz.ntmps205
  go_wp2
  go_ret
  exact ⟨by rw [H.out];rfl,(Below.refl _ _).alloc (Nat.le_refl _) _⟩
abbrev putK (w:World) (g:Nat) (c:K):World:=(((((((w.setCell ⟨g,0,none⟩ (.int .i64 c.kind)).setCell ⟨g,1,none⟩ (.int .u64 c.num)).setCell ⟨g,2,none⟩ (.string c.foot)).setCell ⟨g,3,none⟩ (.int .u64 c.req)).setCell ⟨g,4,none⟩ (.string c.path)).setCell ⟨g,5,none⟩ (.int .i64 c.mode)).setCell ⟨g,6,none⟩ (.int .u64 c.n)).setCell ⟨g,7,none⟩ (.int .i64 c.time)
theorem Boxed.put {w0 w:World} {g:Nat} {c:K} (h:Boxed w0 w g c) (d:K):Boxed w0 (putK w g d) g d:=by
 obtain ⟨k,u,f,q,s,m,n,t⟩:=c
 obtain ⟨k',u',f',q',s',m',n',t'⟩:=d
 exact (((((((h.set_ 0 (.int .i64 k') ⟨k',u,f,q,s,m,n,t⟩ rfl).set_ 1 (.int .u64 u') ⟨k',u',f,q,s,m,n,t⟩ rfl).set_ 2 (.string f') ⟨k',u',f',q,s,m,n,t⟩ rfl).set_ 3 (.int .u64 q') ⟨k',u',f',q',s,m,n,t⟩ rfl).set_ 4 (.string s') ⟨k',u',f',q',s',m,n,t⟩ rfl).set_ 5 (.int .i64 m') ⟨k',u',f',q',s',m',n,t⟩ rfl).set_ 6 (.int .u64 n') ⟨k',u',f',q',s',m',n',t⟩ rfl).set_ 7 (.int .i64 t') ⟨k',u',f',q',s',m',n',t'⟩ rfl
theorem zdz (a b:ByteArray):(a.toList == b.toList)=decide (a=b):=by
 rw [zbh,zbh]
 by_cases h:a=b
 ·subst h;simp
 ·rw [decide_eq_false h,beq_eq_false_iff_ne]
  exact fun e=>h (zuA.1 e)
theorem ztO (u:Int) (f:ByteArray) (u2:Int) (f2:ByteArray) (w:World) :
  (Op.equalIn 9999 59 (.agg #[.int .u64 u,.string f]) (.agg #[.int .u64 u2,.string f2])).run Tryz.prog w=.ok (u == u2 && decide (f=f2)) w:=by
 have ht:Tryz.prog.underlying 59=some (.struct (Tryz.prog.fieldsOf 59)):=by kernel_rfl
 have hp:Tryz.prog.stoodInHeld 59=false:=by kernel_rfl
 rw [run_equalIn_struct w 9998 _ _ _ ht hp]
 have p1:=run_part_plain (P:=Tryz.prog) (w:=w) (e:=51) (by kernel_rfl) (xs:=#[.int .u64 u,.string f]) (off:=0) rfl
 have p2:=run_part_plain (P:=Tryz.prog) (w:=w) (e:=9) (by kernel_rfl) (xs:=#[.int .u64 u,.string f]) (off:=1) rfl
 have p3:=run_part_plain (P:=Tryz.prog) (w:=w) (e:=51) (by kernel_rfl) (xs:=#[.int .u64 u2,.string f2]) (off:=0) rfl
 have p4:=run_part_plain (P:=Tryz.prog) (w:=w) (e:=9) (by kernel_rfl) (xs:=#[.int .u64 u2,.string f2]) (off:=1) rfl
 have q1:=run_equalIn_int (P:=Tryz.prog) w 9997 51 .u64 .u64 u u2 Tryz.underlying51
 have q2:=run_equalIn_string (P:=Tryz.prog) w 9997 9 f f2 Tryz.underlying9
 rw [zdz] at q2
 cases h:(u == u2) <;> simp [Program.fieldsOf,Tryz.underlying59,Op.eqFields,p1,p2,p3,p4,q1,q2,h,Sem.run_bind,Sem.run_ite,Result.andThen_ok]
 by_cases h2:f=f2 <;> simp [h2]
theorem zc0 (k u:Int) (f:ByteArray) (q:Int) (s:ByteArray) (m n t:Int) (w:World) :
  (part 59 #[.int .i64 k,.int .u64 u,.string f,.int .u64 q,.string s,.int .i64 m,.int .u64 n,.int .i64 t] 1).run Tryz.prog w=.ok (.agg #[.int .u64 u,.string f]) w:=by
 simp [go_sem,part]
theorem zqw (k u:Int) (f:ByteArray) (q:Int) (s:ByteArray) (m n t k' u':Int) (f':ByteArray) (q':Int) (s':ByteArray) (m' n' t':Int) :
  decide ((⟨k,u,f,q,s,m,n,t⟩:K)=⟨k',u',f',q',s',m',n',t'⟩)=((k == k') && ((u == u' && decide (f=f')) && ((q == q') && (decide (s=s') && ((m == m') && ((n == n') && (t == t'))))))):=by
 rw [Bool.eq_iff_iff]
 simp [and_assoc]
theorem zsn (k u:Int) (f:ByteArray) (q:Int) (s:ByteArray) (m n t k' u':Int) (f':ByteArray) (q':Int) (s':ByteArray) (m' n' t':Int) (w:World) :
  (Op.equalIn 10000 61 (val ⟨k,u,f,q,s,m,n,t⟩) (val ⟨k',u',f',q',s',m',n',t'⟩)).run Tryz.prog w=.ok ((k == k') && ((u == u' && decide (f=f')) && ((q == q') && (decide (s=s') && ((m == m') && ((n == n') && (t == t'))))))) w:=by
 have ht:Tryz.prog.underlying 61=some (.struct (Tryz.prog.fieldsOf 61)):=by kernel_rfl
 have hp:Tryz.prog.stoodInHeld 61=false:=by kernel_rfl
 rw [run_equalIn_struct w 9999 _ _ _ ht hp]
 have s1:=zc0 k u f q s m n t w
 have s2:=zc0 k' u' f' q' s' m' n' t' w
 have s3:=ztO u f u' f' w
 have a0:=run_part_plain (P:=Tryz.prog) (w:=w) (e:=3) (by kernel_rfl) (xs:=#[.int .i64 k,.int .u64 u,.string f,.int .u64 q,.string s,.int .i64 m,.int .u64 n,.int .i64 t]) (off:=0) rfl
 have b0:=run_part_plain (P:=Tryz.prog) (w:=w) (e:=3) (by kernel_rfl) (xs:=#[.int .i64 k',.int .u64 u',.string f',.int .u64 q',.string s',.int .i64 m',.int .u64 n',.int .i64 t']) (off:=0) rfl
 have e0:=run_equalIn_int (P:=Tryz.prog) w 9998 3 .i64 .i64 k k' Tryz.underlying3
 have a1:=run_part_plain (P:=Tryz.prog) (w:=w) (e:=51) (by kernel_rfl) (xs:=#[.int .i64 k,.int .u64 u,.string f,.int .u64 q,.string s,.int .i64 m,.int .u64 n,.int .i64 t]) (off:=3) rfl
 have b1:=run_part_plain (P:=Tryz.prog) (w:=w) (e:=51) (by kernel_rfl) (xs:=#[.int .i64 k',.int .u64 u',.string f',.int .u64 q',.string s',.int .i64 m',.int .u64 n',.int .i64 t']) (off:=3) rfl
 have e1:=run_equalIn_int (P:=Tryz.prog) w 9998 51 .u64 .u64 q q' Tryz.underlying51
 have a2:=run_part_plain (P:=Tryz.prog) (w:=w) (e:=9) (by kernel_rfl) (xs:=#[.int .i64 k,.int .u64 u,.string f,.int .u64 q,.string s,.int .i64 m,.int .u64 n,.int .i64 t]) (off:=4) rfl
 have b2:=run_part_plain (P:=Tryz.prog) (w:=w) (e:=9) (by kernel_rfl) (xs:=#[.int .i64 k',.int .u64 u',.string f',.int .u64 q',.string s',.int .i64 m',.int .u64 n',.int .i64 t']) (off:=4) rfl
 have e2:=run_equalIn_string (P:=Tryz.prog) w 9998 9 s s' Tryz.underlying9
 rw [zdz] at e2
 have a3:=run_part_plain (P:=Tryz.prog) (w:=w) (e:=3) (by kernel_rfl) (xs:=#[.int .i64 k,.int .u64 u,.string f,.int .u64 q,.string s,.int .i64 m,.int .u64 n,.int .i64 t]) (off:=5) rfl
 have b3:=run_part_plain (P:=Tryz.prog) (w:=w) (e:=3) (by kernel_rfl) (xs:=#[.int .i64 k',.int .u64 u',.string f',.int .u64 q',.string s',.int .i64 m',.int .u64 n',.int .i64 t']) (off:=5) rfl
 have e3:=run_equalIn_int (P:=Tryz.prog) w 9998 3 .i64 .i64 m m' Tryz.underlying3
 have a4:=run_part_plain (P:=Tryz.prog) (w:=w) (e:=51) (by kernel_rfl) (xs:=#[.int .i64 k,.int .u64 u,.string f,.int .u64 q,.string s,.int .i64 m,.int .u64 n,.int .i64 t]) (off:=6) rfl
 have b4:=run_part_plain (P:=Tryz.prog) (w:=w) (e:=51) (by kernel_rfl) (xs:=#[.int .i64 k',.int .u64 u',.string f',.int .u64 q',.string s',.int .i64 m',.int .u64 n',.int .i64 t']) (off:=6) rfl
 have e4:=run_equalIn_int (P:=Tryz.prog) w 9998 51 .u64 .u64 n n' Tryz.underlying51
 have a5:=run_part_plain (P:=Tryz.prog) (w:=w) (e:=3) (by kernel_rfl) (xs:=#[.int .i64 k,.int .u64 u,.string f,.int .u64 q,.string s,.int .i64 m,.int .u64 n,.int .i64 t]) (off:=7) rfl
 have b5:=run_part_plain (P:=Tryz.prog) (w:=w) (e:=3) (by kernel_rfl) (xs:=#[.int .i64 k',.int .u64 u',.string f',.int .u64 q',.string s',.int .i64 m',.int .u64 n',.int .i64 t']) (off:=7) rfl
 have e5:=run_equalIn_int (P:=Tryz.prog) w 9998 3 .i64 .i64 t t' Tryz.underlying3
 obtain ⟨x0,hx0⟩:∃x,(k == k')=x:=⟨_,rfl⟩
 rw [hx0] at e0 ⊢
 obtain ⟨x1,hx1⟩:∃x,(u == u' && decide (f=f'))=x:=⟨_,rfl⟩
 rw [hx1] at s3 ⊢
 obtain ⟨x2,hx2⟩:∃x,(q == q')=x:=⟨_,rfl⟩
 rw [hx2] at e1 ⊢
 obtain ⟨x3,hx3⟩:∃x,decide (s=s')=x:=⟨_,rfl⟩
 rw [hx3] at e2 ⊢
 obtain ⟨x4,hx4⟩:∃x,(m == m')=x:=⟨_,rfl⟩
 rw [hx4] at e3 ⊢
 obtain ⟨x5,hx5⟩:∃x,(n == n')=x:=⟨_,rfl⟩
 rw [hx5] at e4 ⊢
 obtain ⟨x6,hx6⟩:∃x,(t == t')=x:=⟨_,rfl⟩
 rw [hx6] at e5 ⊢
 clear hx0 hx1 hx2 hx3 hx4 hx5 hx6 ht hp
 simp only [Program.fieldsOf,Tryz.underlying61]
 cases x0 <;> cases x1 <;> cases x2 <;> cases x3 <;> cases x4 <;> cases x5 <;> simp [Op.eqFields,s1,s2,s3,a0,b0,e0,a1,b1,e1,a2,b2,e2,a3,b3,e3,a4,b4,e4,a5,b5,e5,Sem.run_bind,Sem.run_ite,Result.andThen_ok]
 cases x6 <;> rfl
theorem zs6 (c d:K) (b:Bool) (hb:decide (c=d)=b) (w:World):(Op.equalIn 10000 61 (val c) (val d)).run Tryz.prog w=.ok b w:=by
 subst hb
 obtain ⟨k,u,f,q,s,m,n,t⟩:=c
 obtain ⟨k',u',f',q',s',m',n',t'⟩:=d
 rw [zqw]
 exact zsn k u f q s m n t k' u' f' q' s' m' n' t' w
theorem zmn:Tryz.prog.eqGuardType Tryz.prog.depth 61=false:=by kernel_rfl
end Go.Proofs.YtnjdckoljmgcjaaGreatDoor
