/-
  The contract of withTaken (package cmd), once for each class of kinds: off any bytes.
-/
import Derived.Test.YtnjdckoljmgcjaaGreatDoorW17
set_option maxRecDepth 100000
set_option maxHeartbeats 4000000
namespace Go.Proofs.YtnjdckoljmgcjaaGreatDoor
open Go.ChangeShapes Go.WideShapes Go.ChangeAt Go.RowKit Go.Lib
set_option linter.unusedSimpArgs false
set_option linter.unusedVariables false
theorem zsF (g:Nat) (k:Int) (l0:List Nat) (e0:Nat) (w:World) (hP:zad w) (hg:0<g) (hI:InAt w g l0 e0) (hS:zao l0 e0) (hs:Sig k false false false false false false) :
  Calls Tryz.prog 160 #[val ⟨k,0,⟨#[]⟩,0,⟨#[]⟩,0,0,0⟩,.pointer (some ⟨g,0,none⟩)] w (zbE (fun en=>en=.returned (val ⟨k,0,⟨#[]⟩,0,⟨#[]⟩,0,0,0⟩)) g l0 e0 w):=by
 obtain ⟨s0,s1,s2,s3,s4,s5⟩:=hs
 have S0:=hid s0
 have S1:=hid s1
 have S2:=hid s2
 have S3:=hid s3
 have S4:=hid s4
 have S5:=hid s5
 have N0:=hid hS
 have A0:=hid ((zbN.start hI hP hg ⟨k,0,⟨#[]⟩,0,⟨#[]⟩,0,0,0⟩).on ((Below.refl _ _).alloc (Nat.le_refl _) (.cells (cellsOf ⟨0,0,⟨#[]⟩,0,⟨#[]⟩,0,0,0⟩) 61)))
 have R0:Hid (zbN w ((w.alloc (.cells (cellsOf ⟨k,0,⟨#[]⟩,0,⟨#[]⟩,0,0,0⟩) 61)).alloc (.cells (cellsOf ⟨0,0,⟨#[]⟩,0,⟨#[]⟩,0,0,0⟩) 61)) g (w.heap.size+1) ⟨0,0,⟨#[]⟩,0,⟨#[]⟩,0,0,0⟩ l0 e0):=hid ⟨A0.out.1,by have h:=Blk.new (w.alloc (.cells (cellsOf ⟨k,0,⟨#[]⟩,0,⟨#[]⟩,0,0,0⟩) 61)) 61 (cellsOf ⟨0,0,⟨#[]⟩,0,⟨#[]⟩,0,0,0⟩);simpa using h,by omega,A0.out.2.2.2.1,A0.out.2.2.2.2⟩
 clear s0 s1 s2 s3 s4 s5 hP hg hI hS
 go_enter Tryz.func160,Tryz.ntmps160
 go_wp2_with fail
 with_reducible refine (zb3 ⟨k,0,⟨#[]⟩,0,⟨#[]⟩,0,0,0⟩ false _ S0.out A0.out.parts).mono ?_
 rintro e w1 ⟨rfl,hb⟩
 have A1:=hid (A0.out.on hb)
 have R1:=hid (R0.out.on hb)
 clear hb A0 R0
 obtain ⟨⟨c0,c1,c2,c3,c4,c5,c6,c7⟩,f0,f1,f2,f3,f4,f5,f6,f7⟩:=zaa A1.out.2.1
 go_wp2_with fail
 with_reducible refine (zb7 ⟨k,0,⟨#[]⟩,0,⟨#[]⟩,0,0,0⟩ false _ S1.out A1.out.parts).mono ?_
 rintro e w2 ⟨rfl,hb⟩
 have A2:=hid (A1.out.on hb)
 have R2:=hid (R1.out.on hb)
 clear hb A1 R1
 clear c0 c1 c2 c3 c4 c5 c6 c7 f0 f1 f2 f3 f4 f5 f6 f7
 obtain ⟨⟨c0,c1,c2,c3,c4,c5,c6,c7⟩,f0,f1,f2,f3,f4,f5,f6,f7⟩:=zaa A2.out.2.1
 go_wp2_with fail
 with_reducible refine (zb5 ⟨k,0,⟨#[]⟩,0,⟨#[]⟩,0,0,0⟩ false _ S2.out A2.out.parts).mono ?_
 rintro e w3 ⟨rfl,hb⟩
 have A3:=hid (A2.out.on hb)
 have R3:=hid (R2.out.on hb)
 clear hb A2 R2
 clear c0 c1 c2 c3 c4 c5 c6 c7 f0 f1 f2 f3 f4 f5 f6 f7
 obtain ⟨⟨c0,c1,c2,c3,c4,c5,c6,c7⟩,f0,f1,f2,f3,f4,f5,f6,f7⟩:=zaa A3.out.2.1
 go_wp2_with fail
 with_reducible refine (zca ⟨k,0,⟨#[]⟩,0,⟨#[]⟩,0,0,0⟩ false _ S3.out A3.out.parts).mono ?_
 rintro e w4 ⟨rfl,hb⟩
 have A4:=hid (A3.out.on hb)
 have R4:=hid (R3.out.on hb)
 clear hb A3 R3
 clear c0 c1 c2 c3 c4 c5 c6 c7 f0 f1 f2 f3 f4 f5 f6 f7
 obtain ⟨⟨c0,c1,c2,c3,c4,c5,c6,c7⟩,f0,f1,f2,f3,f4,f5,f6,f7⟩:=zaa A4.out.2.1
 go_wp2_with fail
 with_reducible refine (zbT ⟨k,0,⟨#[]⟩,0,⟨#[]⟩,0,0,0⟩ false _ S4.out A4.out.parts).mono ?_
 rintro e w5 ⟨rfl,hb⟩
 have A5:=hid (A4.out.on hb)
 have R5:=hid (R4.out.on hb)
 clear hb A4 R4
 clear c0 c1 c2 c3 c4 c5 c6 c7 f0 f1 f2 f3 f4 f5 f6 f7
 obtain ⟨⟨c0,c1,c2,c3,c4,c5,c6,c7⟩,f0,f1,f2,f3,f4,f5,f6,f7⟩:=zaa A5.out.2.1
 go_wp2_with fail
 with_reducible refine (zb4 ⟨k,0,⟨#[]⟩,0,⟨#[]⟩,0,0,0⟩ false _ S5.out A5.out.parts).mono ?_
 rintro e w6 ⟨rfl,hb⟩
 have A6:=hid (A5.out.on hb)
 have R6:=hid (R5.out.on hb)
 clear hb A5 R5
 clear c0 c1 c2 c3 c4 c5 c6 c7 f0 f1 f2 f3 f4 f5 f6 f7
 obtain ⟨⟨c0,c1,c2,c3,c4,c5,c6,c7⟩,f0,f1,f2,f3,f4,f5,f6,f7⟩:=zaa A6.out.2.1
 obtain ⟨⟨d0,d1,d2,d3,d4,d5,d6,d7⟩,g0,g1,g2,g3,g4,g5,g6,g7⟩:=zaa R6.out.2.1
 have E:=hid (R6.out.put ⟨k,0,⟨#[]⟩,0,⟨#[]⟩,0,0,0⟩)
 clear R6 A6
 go_wp2
 refine bodyPost_ret (v:=val ⟨k,0,⟨#[]⟩,0,⟨#[]⟩,0,0,0⟩) (by simp [results,Tryz.results160,go_sem,d0,d1,d2,d3,d4,d5,d6,d7]) rfl ⟨rfl,E.out.iat,E.out.grown⟩
theorem zrq (g:Nat) (k:Int) (l0:List Nat) (e0:Nat) (l1:List Nat) (e1:Nat) (l2:List Nat) (e2:Nat) (l3:List Nat) (e3:Nat) (l4:List Nat) (e4:Nat) (l5:List Nat) (e5:Nat) (un:Nat) (fb:List Nat) (qn:Nat) (nn:Nat) (tn:Nat) (w:World) (hP:zad w) (hg:0<g) (hI:InAt w g l0 e0) (hS:zao l0 e0) (hs:Sig k true true false false true true) (d0:zb1 l0 e0=(l1,e1,un)) (d1:zc6 l1 e1 64=(l2,e2,fb)) (d2:zal l2 e2 18446744073709551615=(l3,e3,qn)) (d3:zal l3 e3 18446744073709551615=(l4,e4,nn)) (d4:zal l4 e4 1099511627776=(l5,e5,tn)) :
  Calls Tryz.prog 160 #[val ⟨k,0,⟨#[]⟩,0,⟨#[]⟩,0,0,0⟩,.pointer (some ⟨g,0,none⟩)] w (zbE (fun en=>en=.returned (val ⟨k,(un:Int),strN fb,(qn:Int),⟨#[]⟩,0,(nn:Int),(tn:Int)⟩)) g l5 e5 w):=by
 obtain ⟨s0,s1,s2,s3,s4,s5⟩:=hs
 have S0:=hid s0
 have S1:=hid s1
 have S2:=hid s2
 have S3:=hid s3
 have S4:=hid s4
 have S5:=hid s5
 have N0:=hid hS
 have N1:Hid (zao l1 e1):=hid (zbH N0.out d0).1
 have D0:=hid d0
 have N2:Hid (zao l2 e2):=hid (zbi N1.out d1).1
 have D1:=hid d1
 have N3:Hid (zao l3 e3):=hid (zax N2.out d2).1
 have D2:=hid d2
 have N4:Hid (zao l4 e4):=hid (zax N3.out d3).1
 have D3:=hid d3
 have N5:Hid (zao l5 e5):=hid (zax N4.out d4).1
 have W3:IntKind.i64.wrap (tn:Int)=tn:=by have:=(zax N4.out d4).2;rw [IntKind.wrap_i64];omega
 have D4:=hid d4
 have A0:=hid ((zbN.start hI hP hg ⟨k,0,⟨#[]⟩,0,⟨#[]⟩,0,0,0⟩).on ((Below.refl _ _).alloc (Nat.le_refl _) (.cells (cellsOf ⟨0,0,⟨#[]⟩,0,⟨#[]⟩,0,0,0⟩) 61)))
 have R0:Hid (zbN w ((w.alloc (.cells (cellsOf ⟨k,0,⟨#[]⟩,0,⟨#[]⟩,0,0,0⟩) 61)).alloc (.cells (cellsOf ⟨0,0,⟨#[]⟩,0,⟨#[]⟩,0,0,0⟩) 61)) g (w.heap.size+1) ⟨0,0,⟨#[]⟩,0,⟨#[]⟩,0,0,0⟩ l0 e0):=hid ⟨A0.out.1,by have h:=Blk.new (w.alloc (.cells (cellsOf ⟨k,0,⟨#[]⟩,0,⟨#[]⟩,0,0,0⟩) 61)) 61 (cellsOf ⟨0,0,⟨#[]⟩,0,⟨#[]⟩,0,0,0⟩);simpa using h,by omega,A0.out.2.2.2.1,A0.out.2.2.2.2⟩
 clear s0 s1 s2 s3 s4 s5 hP hg hI hS d0 d1 d2 d3 d4
 go_enter Tryz.func160,Tryz.ntmps160
 go_wp2_with fail
 with_reducible refine (zb3 ⟨k,0,⟨#[]⟩,0,⟨#[]⟩,0,0,0⟩ true _ S0.out A0.out.parts).mono ?_
 rintro e w1 ⟨rfl,hb⟩
 have A1:=hid (A0.out.on hb)
 have R1:=hid (R0.out.on hb)
 clear hb A0 R0
 obtain ⟨⟨c0,c1,c2,c3,c4,c5,c6,c7⟩,f0,f1,f2,f3,f4,f5,f6,f7⟩:=zaa A1.out.2.1
 go_wp2_with fail
 with_reducible refine (zcf g l0 e0 l1 e1 un _ A1.out.iat N0.out.fine N0.out.bytes D0.out).mono ?_
 rintro en w2 ⟨rfl,hin,hgr⟩
 have A2t:=hid (A1.out.turn hin hgr)
 have R2t:=hid (R1.out.turn hin hgr)
 clear hin hgr A1 R1
 clear c0 c1 c2 c3 c4 c5 c6 c7 f0 f1 f2 f3 f4 f5 f6 f7
 obtain ⟨⟨c0,c1,c2,c3,c4,c5,c6,c7⟩,f0,f1,f2,f3,f4,f5,f6,f7⟩:=zaa A2t.out.2.1
 have A2:=hid (A2t.out.set_ 1 (.int .u64 (un:Int)) ⟨k,(un:Int),⟨#[]⟩,0,⟨#[]⟩,0,0,0⟩ rfl)
 have R2:=hid (R2t.out.far (p:=⟨w.heap.size,1,none⟩) (by simp) (Nat.le_refl _) (.int .u64 (un:Int)))
 clear A2t R2t
 go_wp2_with fail
 with_reducible refine (zbS g l1 e1 64 64 l2 e2 fb _ A2.out.iat N1.out.fine N1.out.bytes N1.out.len rfl (by decide) D1.out).mono ?_
 rintro en w3 ⟨rfl,hin,hgr⟩
 have A3t:=hid (A2.out.turn hin hgr)
 have R3t:=hid (R2.out.turn hin hgr)
 clear hin hgr A2 R2
 clear c0 c1 c2 c3 c4 c5 c6 c7 f0 f1 f2 f3 f4 f5 f6 f7
 obtain ⟨⟨c0,c1,c2,c3,c4,c5,c6,c7⟩,f0,f1,f2,f3,f4,f5,f6,f7⟩:=zaa A3t.out.2.1
 have A3:=hid (A3t.out.set_ 2 (.string (strN fb)) ⟨k,(un:Int),strN fb,0,⟨#[]⟩,0,0,0⟩ rfl)
 have R3:=hid (R3t.out.far (p:=⟨w.heap.size,2,none⟩) (by simp) (Nat.le_refl _) (.string (strN fb)))
 clear A3t R3t
 go_wp2_with fail
 with_reducible refine (zb7 ⟨k,(un:Int),strN fb,0,⟨#[]⟩,0,0,0⟩ true _ S1.out A3.out.parts).mono ?_
 rintro e w4 ⟨rfl,hb⟩
 have A4:=hid (A3.out.on hb)
 have R4:=hid (R3.out.on hb)
 clear hb A3 R3
 clear c0 c1 c2 c3 c4 c5 c6 c7 f0 f1 f2 f3 f4 f5 f6 f7
 obtain ⟨⟨c0,c1,c2,c3,c4,c5,c6,c7⟩,f0,f1,f2,f3,f4,f5,f6,f7⟩:=zaa A4.out.2.1
 go_wp2_with fail
 with_reducible refine (zbG g l2 e2 l3 e3 qn _ A4.out.iat N2.out D2.out).mono ?_
 rintro en w5 ⟨rfl,hin,hgr⟩
 have A5t:=hid (A4.out.turn hin hgr)
 have R5t:=hid (R4.out.turn hin hgr)
 clear hin hgr A4 R4
 clear c0 c1 c2 c3 c4 c5 c6 c7 f0 f1 f2 f3 f4 f5 f6 f7
 obtain ⟨⟨c0,c1,c2,c3,c4,c5,c6,c7⟩,f0,f1,f2,f3,f4,f5,f6,f7⟩:=zaa A5t.out.2.1
 have A5:=hid (A5t.out.set_ 3 (.int .u64 (qn:Int)) ⟨k,(un:Int),strN fb,(qn:Int),⟨#[]⟩,0,0,0⟩ rfl)
 have R5:=hid (R5t.out.far (p:=⟨w.heap.size,3,none⟩) (by simp) (Nat.le_refl _) (.int .u64 (qn:Int)))
 clear A5t R5t
 go_wp2_with fail
 with_reducible refine (zb5 ⟨k,(un:Int),strN fb,(qn:Int),⟨#[]⟩,0,0,0⟩ false _ S2.out A5.out.parts).mono ?_
 rintro e w6 ⟨rfl,hb⟩
 have A6:=hid (A5.out.on hb)
 have R6:=hid (R5.out.on hb)
 clear hb A5 R5
 clear c0 c1 c2 c3 c4 c5 c6 c7 f0 f1 f2 f3 f4 f5 f6 f7
 obtain ⟨⟨c0,c1,c2,c3,c4,c5,c6,c7⟩,f0,f1,f2,f3,f4,f5,f6,f7⟩:=zaa A6.out.2.1
 go_wp2_with fail
 with_reducible refine (zca ⟨k,(un:Int),strN fb,(qn:Int),⟨#[]⟩,0,0,0⟩ false _ S3.out A6.out.parts).mono ?_
 rintro e w7 ⟨rfl,hb⟩
 have A7:=hid (A6.out.on hb)
 have R7:=hid (R6.out.on hb)
 clear hb A6 R6
 clear c0 c1 c2 c3 c4 c5 c6 c7 f0 f1 f2 f3 f4 f5 f6 f7
 obtain ⟨⟨c0,c1,c2,c3,c4,c5,c6,c7⟩,f0,f1,f2,f3,f4,f5,f6,f7⟩:=zaa A7.out.2.1
 go_wp2_with fail
 with_reducible refine (zbT ⟨k,(un:Int),strN fb,(qn:Int),⟨#[]⟩,0,0,0⟩ true _ S4.out A7.out.parts).mono ?_
 rintro e w8 ⟨rfl,hb⟩
 have A8:=hid (A7.out.on hb)
 have R8:=hid (R7.out.on hb)
 clear hb A7 R7
 clear c0 c1 c2 c3 c4 c5 c6 c7 f0 f1 f2 f3 f4 f5 f6 f7
 obtain ⟨⟨c0,c1,c2,c3,c4,c5,c6,c7⟩,f0,f1,f2,f3,f4,f5,f6,f7⟩:=zaa A8.out.2.1
 go_wp2_with fail
 with_reducible refine (zbG g l3 e3 l4 e4 nn _ A8.out.iat N3.out D3.out).mono ?_
 rintro en w9 ⟨rfl,hin,hgr⟩
 have A9t:=hid (A8.out.turn hin hgr)
 have R9t:=hid (R8.out.turn hin hgr)
 clear hin hgr A8 R8
 clear c0 c1 c2 c3 c4 c5 c6 c7 f0 f1 f2 f3 f4 f5 f6 f7
 obtain ⟨⟨c0,c1,c2,c3,c4,c5,c6,c7⟩,f0,f1,f2,f3,f4,f5,f6,f7⟩:=zaa A9t.out.2.1
 have A9:=hid (A9t.out.set_ 6 (.int .u64 (nn:Int)) ⟨k,(un:Int),strN fb,(qn:Int),⟨#[]⟩,0,(nn:Int),0⟩ rfl)
 have R9:=hid (R9t.out.far (p:=⟨w.heap.size,6,none⟩) (by simp) (Nat.le_refl _) (.int .u64 (nn:Int)))
 clear A9t R9t
 go_wp2_with fail
 with_reducible refine (zb4 ⟨k,(un:Int),strN fb,(qn:Int),⟨#[]⟩,0,(nn:Int),0⟩ true _ S5.out A9.out.parts).mono ?_
 rintro e w10 ⟨rfl,hb⟩
 have A10:=hid (A9.out.on hb)
 have R10:=hid (R9.out.on hb)
 clear hb A9 R9
 clear c0 c1 c2 c3 c4 c5 c6 c7 f0 f1 f2 f3 f4 f5 f6 f7
 obtain ⟨⟨c0,c1,c2,c3,c4,c5,c6,c7⟩,f0,f1,f2,f3,f4,f5,f6,f7⟩:=zaa A10.out.2.1
 go_wp2_with fail
 with_reducible refine (za6 g l4 e4 1099511627776 1099511627776 l5 e5 tn _ A10.out.iat N4.out.fine N4.out.bytes N4.out.len rfl D4.out).mono ?_
 rintro en w11 ⟨rfl,hin,hgr⟩
 have A11t:=hid (A10.out.turn hin hgr)
 have R11t:=hid (R10.out.turn hin hgr)
 clear hin hgr A10 R10
 clear c0 c1 c2 c3 c4 c5 c6 c7 f0 f1 f2 f3 f4 f5 f6 f7
 obtain ⟨⟨c0,c1,c2,c3,c4,c5,c6,c7⟩,f0,f1,f2,f3,f4,f5,f6,f7⟩:=zaa A11t.out.2.1
 have A11:=hid (A11t.out.set_ 7 (.int .i64 (tn:Int)) ⟨k,(un:Int),strN fb,(qn:Int),⟨#[]⟩,0,(nn:Int),(tn:Int)⟩ rfl)
 have R11:=hid (R11t.out.far (p:=⟨w.heap.size,7,none⟩) (by simp) (Nat.le_refl _) (.int .i64 (tn:Int)))
 clear A11t R11t
 obtain ⟨⟨d0,d1,d2,d3,d4,d5,d6,d7⟩,g0,g1,g2,g3,g4,g5,g6,g7⟩:=zaa R11.out.2.1
 have E:=hid (R11.out.put ⟨k,(un:Int),strN fb,(qn:Int),⟨#[]⟩,0,(nn:Int),(tn:Int)⟩)
 clear R11 A11
 go_wp2
 refine bodyPost_ret (v:=val ⟨k,(un:Int),strN fb,(qn:Int),⟨#[]⟩,0,(nn:Int),(tn:Int)⟩) (by simp [results,Tryz.results160,go_sem,d0,d1,d2,d3,d4,d5,d6,d7]) rfl ⟨rfl,E.out.iat,E.out.grown⟩
theorem zso (g:Nat) (k:Int) (l0:List Nat) (e0:Nat) (l1:List Nat) (e1:Nat) (l2:List Nat) (e2:Nat) (l3:List Nat) (e3:Nat) (un:Nat) (fb:List Nat) (qn:Nat) (w:World) (hP:zad w) (hg:0<g) (hI:InAt w g l0 e0) (hS:zao l0 e0) (hs:Sig k true true false false false false) (d0:zb1 l0 e0=(l1,e1,un)) (d1:zc6 l1 e1 64=(l2,e2,fb)) (d2:zal l2 e2 18446744073709551615=(l3,e3,qn)) :
  Calls Tryz.prog 160 #[val ⟨k,0,⟨#[]⟩,0,⟨#[]⟩,0,0,0⟩,.pointer (some ⟨g,0,none⟩)] w (zbE (fun en=>en=.returned (val ⟨k,(un:Int),strN fb,(qn:Int),⟨#[]⟩,0,0,0⟩)) g l3 e3 w):=by
 obtain ⟨s0,s1,s2,s3,s4,s5⟩:=hs
 have S0:=hid s0
 have S1:=hid s1
 have S2:=hid s2
 have S3:=hid s3
 have S4:=hid s4
 have S5:=hid s5
 have N0:=hid hS
 have N1:Hid (zao l1 e1):=hid (zbH N0.out d0).1
 have D0:=hid d0
 have N2:Hid (zao l2 e2):=hid (zbi N1.out d1).1
 have D1:=hid d1
 have N3:Hid (zao l3 e3):=hid (zax N2.out d2).1
 have D2:=hid d2
 have A0:=hid ((zbN.start hI hP hg ⟨k,0,⟨#[]⟩,0,⟨#[]⟩,0,0,0⟩).on ((Below.refl _ _).alloc (Nat.le_refl _) (.cells (cellsOf ⟨0,0,⟨#[]⟩,0,⟨#[]⟩,0,0,0⟩) 61)))
 have R0:Hid (zbN w ((w.alloc (.cells (cellsOf ⟨k,0,⟨#[]⟩,0,⟨#[]⟩,0,0,0⟩) 61)).alloc (.cells (cellsOf ⟨0,0,⟨#[]⟩,0,⟨#[]⟩,0,0,0⟩) 61)) g (w.heap.size+1) ⟨0,0,⟨#[]⟩,0,⟨#[]⟩,0,0,0⟩ l0 e0):=hid ⟨A0.out.1,by have h:=Blk.new (w.alloc (.cells (cellsOf ⟨k,0,⟨#[]⟩,0,⟨#[]⟩,0,0,0⟩) 61)) 61 (cellsOf ⟨0,0,⟨#[]⟩,0,⟨#[]⟩,0,0,0⟩);simpa using h,by omega,A0.out.2.2.2.1,A0.out.2.2.2.2⟩
 clear s0 s1 s2 s3 s4 s5 hP hg hI hS d0 d1 d2
 go_enter Tryz.func160,Tryz.ntmps160
 go_wp2_with fail
 with_reducible refine (zb3 ⟨k,0,⟨#[]⟩,0,⟨#[]⟩,0,0,0⟩ true _ S0.out A0.out.parts).mono ?_
 rintro e w1 ⟨rfl,hb⟩
 have A1:=hid (A0.out.on hb)
 have R1:=hid (R0.out.on hb)
 clear hb A0 R0
 obtain ⟨⟨c0,c1,c2,c3,c4,c5,c6,c7⟩,f0,f1,f2,f3,f4,f5,f6,f7⟩:=zaa A1.out.2.1
 go_wp2_with fail
 with_reducible refine (zcf g l0 e0 l1 e1 un _ A1.out.iat N0.out.fine N0.out.bytes D0.out).mono ?_
 rintro en w2 ⟨rfl,hin,hgr⟩
 have A2t:=hid (A1.out.turn hin hgr)
 have R2t:=hid (R1.out.turn hin hgr)
 clear hin hgr A1 R1
 clear c0 c1 c2 c3 c4 c5 c6 c7 f0 f1 f2 f3 f4 f5 f6 f7
 obtain ⟨⟨c0,c1,c2,c3,c4,c5,c6,c7⟩,f0,f1,f2,f3,f4,f5,f6,f7⟩:=zaa A2t.out.2.1
 have A2:=hid (A2t.out.set_ 1 (.int .u64 (un:Int)) ⟨k,(un:Int),⟨#[]⟩,0,⟨#[]⟩,0,0,0⟩ rfl)
 have R2:=hid (R2t.out.far (p:=⟨w.heap.size,1,none⟩) (by simp) (Nat.le_refl _) (.int .u64 (un:Int)))
 clear A2t R2t
 go_wp2_with fail
 with_reducible refine (zbS g l1 e1 64 64 l2 e2 fb _ A2.out.iat N1.out.fine N1.out.bytes N1.out.len rfl (by decide) D1.out).mono ?_
 rintro en w3 ⟨rfl,hin,hgr⟩
 have A3t:=hid (A2.out.turn hin hgr)
 have R3t:=hid (R2.out.turn hin hgr)
 clear hin hgr A2 R2
 clear c0 c1 c2 c3 c4 c5 c6 c7 f0 f1 f2 f3 f4 f5 f6 f7
 obtain ⟨⟨c0,c1,c2,c3,c4,c5,c6,c7⟩,f0,f1,f2,f3,f4,f5,f6,f7⟩:=zaa A3t.out.2.1
 have A3:=hid (A3t.out.set_ 2 (.string (strN fb)) ⟨k,(un:Int),strN fb,0,⟨#[]⟩,0,0,0⟩ rfl)
 have R3:=hid (R3t.out.far (p:=⟨w.heap.size,2,none⟩) (by simp) (Nat.le_refl _) (.string (strN fb)))
 clear A3t R3t
 go_wp2_with fail
 with_reducible refine (zb7 ⟨k,(un:Int),strN fb,0,⟨#[]⟩,0,0,0⟩ true _ S1.out A3.out.parts).mono ?_
 rintro e w4 ⟨rfl,hb⟩
 have A4:=hid (A3.out.on hb)
 have R4:=hid (R3.out.on hb)
 clear hb A3 R3
 clear c0 c1 c2 c3 c4 c5 c6 c7 f0 f1 f2 f3 f4 f5 f6 f7
 obtain ⟨⟨c0,c1,c2,c3,c4,c5,c6,c7⟩,f0,f1,f2,f3,f4,f5,f6,f7⟩:=zaa A4.out.2.1
 go_wp2_with fail
 with_reducible refine (zbG g l2 e2 l3 e3 qn _ A4.out.iat N2.out D2.out).mono ?_
 rintro en w5 ⟨rfl,hin,hgr⟩
 have A5t:=hid (A4.out.turn hin hgr)
 have R5t:=hid (R4.out.turn hin hgr)
 clear hin hgr A4 R4
 clear c0 c1 c2 c3 c4 c5 c6 c7 f0 f1 f2 f3 f4 f5 f6 f7
 obtain ⟨⟨c0,c1,c2,c3,c4,c5,c6,c7⟩,f0,f1,f2,f3,f4,f5,f6,f7⟩:=zaa A5t.out.2.1
 have A5:=hid (A5t.out.set_ 3 (.int .u64 (qn:Int)) ⟨k,(un:Int),strN fb,(qn:Int),⟨#[]⟩,0,0,0⟩ rfl)
 have R5:=hid (R5t.out.far (p:=⟨w.heap.size,3,none⟩) (by simp) (Nat.le_refl _) (.int .u64 (qn:Int)))
 clear A5t R5t
 go_wp2_with fail
 with_reducible refine (zb5 ⟨k,(un:Int),strN fb,(qn:Int),⟨#[]⟩,0,0,0⟩ false _ S2.out A5.out.parts).mono ?_
 rintro e w6 ⟨rfl,hb⟩
 have A6:=hid (A5.out.on hb)
 have R6:=hid (R5.out.on hb)
 clear hb A5 R5
 clear c0 c1 c2 c3 c4 c5 c6 c7 f0 f1 f2 f3 f4 f5 f6 f7
 obtain ⟨⟨c0,c1,c2,c3,c4,c5,c6,c7⟩,f0,f1,f2,f3,f4,f5,f6,f7⟩:=zaa A6.out.2.1
 go_wp2_with fail
 with_reducible refine (zca ⟨k,(un:Int),strN fb,(qn:Int),⟨#[]⟩,0,0,0⟩ false _ S3.out A6.out.parts).mono ?_
 rintro e w7 ⟨rfl,hb⟩
 have A7:=hid (A6.out.on hb)
 have R7:=hid (R6.out.on hb)
 clear hb A6 R6
 clear c0 c1 c2 c3 c4 c5 c6 c7 f0 f1 f2 f3 f4 f5 f6 f7
 obtain ⟨⟨c0,c1,c2,c3,c4,c5,c6,c7⟩,f0,f1,f2,f3,f4,f5,f6,f7⟩:=zaa A7.out.2.1
 go_wp2_with fail
 with_reducible refine (zbT ⟨k,(un:Int),strN fb,(qn:Int),⟨#[]⟩,0,0,0⟩ false _ S4.out A7.out.parts).mono ?_
 rintro e w8 ⟨rfl,hb⟩
 have A8:=hid (A7.out.on hb)
 have R8:=hid (R7.out.on hb)
 clear hb A7 R7
 clear c0 c1 c2 c3 c4 c5 c6 c7 f0 f1 f2 f3 f4 f5 f6 f7
 obtain ⟨⟨c0,c1,c2,c3,c4,c5,c6,c7⟩,f0,f1,f2,f3,f4,f5,f6,f7⟩:=zaa A8.out.2.1
 go_wp2_with fail
 with_reducible refine (zb4 ⟨k,(un:Int),strN fb,(qn:Int),⟨#[]⟩,0,0,0⟩ false _ S5.out A8.out.parts).mono ?_
 rintro e w9 ⟨rfl,hb⟩
 have A9:=hid (A8.out.on hb)
 have R9:=hid (R8.out.on hb)
 clear hb A8 R8
 clear c0 c1 c2 c3 c4 c5 c6 c7 f0 f1 f2 f3 f4 f5 f6 f7
 obtain ⟨⟨c0,c1,c2,c3,c4,c5,c6,c7⟩,f0,f1,f2,f3,f4,f5,f6,f7⟩:=zaa A9.out.2.1
 obtain ⟨⟨d0,d1,d2,d3,d4,d5,d6,d7⟩,g0,g1,g2,g3,g4,g5,g6,g7⟩:=zaa R9.out.2.1
 have E:=hid (R9.out.put ⟨k,(un:Int),strN fb,(qn:Int),⟨#[]⟩,0,0,0⟩)
 clear R9 A9
 go_wp2
 refine bodyPost_ret (v:=val ⟨k,(un:Int),strN fb,(qn:Int),⟨#[]⟩,0,0,0⟩) (by simp [results,Tryz.results160,go_sem,d0,d1,d2,d3,d4,d5,d6,d7]) rfl ⟨rfl,E.out.iat,E.out.grown⟩
theorem zsh (g:Nat) (k:Int) (l0:List Nat) (e0:Nat) (l1:List Nat) (e1:Nat) (l2:List Nat) (e2:Nat) (l3:List Nat) (e3:Nat) (l4:List Nat) (e4:Nat) (un:Nat) (fb:List Nat) (qn:Nat) (tn:Nat) (w:World) (hP:zad w) (hg:0<g) (hI:InAt w g l0 e0) (hS:zao l0 e0) (hs:Sig k true true false false false true) (d0:zb1 l0 e0=(l1,e1,un)) (d1:zc6 l1 e1 64=(l2,e2,fb)) (d2:zal l2 e2 18446744073709551615=(l3,e3,qn)) (d3:zal l3 e3 1099511627776=(l4,e4,tn)) :
  Calls Tryz.prog 160 #[val ⟨k,0,⟨#[]⟩,0,⟨#[]⟩,0,0,0⟩,.pointer (some ⟨g,0,none⟩)] w (zbE (fun en=>en=.returned (val ⟨k,(un:Int),strN fb,(qn:Int),⟨#[]⟩,0,0,(tn:Int)⟩)) g l4 e4 w):=by
 obtain ⟨s0,s1,s2,s3,s4,s5⟩:=hs
 have S0:=hid s0
 have S1:=hid s1
 have S2:=hid s2
 have S3:=hid s3
 have S4:=hid s4
 have S5:=hid s5
 have N0:=hid hS
 have N1:Hid (zao l1 e1):=hid (zbH N0.out d0).1
 have D0:=hid d0
 have N2:Hid (zao l2 e2):=hid (zbi N1.out d1).1
 have D1:=hid d1
 have N3:Hid (zao l3 e3):=hid (zax N2.out d2).1
 have D2:=hid d2
 have N4:Hid (zao l4 e4):=hid (zax N3.out d3).1
 have W3:IntKind.i64.wrap (tn:Int)=tn:=by have:=(zax N3.out d3).2;rw [IntKind.wrap_i64];omega
 have D3:=hid d3
 have A0:=hid ((zbN.start hI hP hg ⟨k,0,⟨#[]⟩,0,⟨#[]⟩,0,0,0⟩).on ((Below.refl _ _).alloc (Nat.le_refl _) (.cells (cellsOf ⟨0,0,⟨#[]⟩,0,⟨#[]⟩,0,0,0⟩) 61)))
 have R0:Hid (zbN w ((w.alloc (.cells (cellsOf ⟨k,0,⟨#[]⟩,0,⟨#[]⟩,0,0,0⟩) 61)).alloc (.cells (cellsOf ⟨0,0,⟨#[]⟩,0,⟨#[]⟩,0,0,0⟩) 61)) g (w.heap.size+1) ⟨0,0,⟨#[]⟩,0,⟨#[]⟩,0,0,0⟩ l0 e0):=hid ⟨A0.out.1,by have h:=Blk.new (w.alloc (.cells (cellsOf ⟨k,0,⟨#[]⟩,0,⟨#[]⟩,0,0,0⟩) 61)) 61 (cellsOf ⟨0,0,⟨#[]⟩,0,⟨#[]⟩,0,0,0⟩);simpa using h,by omega,A0.out.2.2.2.1,A0.out.2.2.2.2⟩
 clear s0 s1 s2 s3 s4 s5 hP hg hI hS d0 d1 d2 d3
 go_enter Tryz.func160,Tryz.ntmps160
 go_wp2_with fail
 with_reducible refine (zb3 ⟨k,0,⟨#[]⟩,0,⟨#[]⟩,0,0,0⟩ true _ S0.out A0.out.parts).mono ?_
 rintro e w1 ⟨rfl,hb⟩
 have A1:=hid (A0.out.on hb)
 have R1:=hid (R0.out.on hb)
 clear hb A0 R0
 obtain ⟨⟨c0,c1,c2,c3,c4,c5,c6,c7⟩,f0,f1,f2,f3,f4,f5,f6,f7⟩:=zaa A1.out.2.1
 go_wp2_with fail
 with_reducible refine (zcf g l0 e0 l1 e1 un _ A1.out.iat N0.out.fine N0.out.bytes D0.out).mono ?_
 rintro en w2 ⟨rfl,hin,hgr⟩
 have A2t:=hid (A1.out.turn hin hgr)
 have R2t:=hid (R1.out.turn hin hgr)
 clear hin hgr A1 R1
 clear c0 c1 c2 c3 c4 c5 c6 c7 f0 f1 f2 f3 f4 f5 f6 f7
 obtain ⟨⟨c0,c1,c2,c3,c4,c5,c6,c7⟩,f0,f1,f2,f3,f4,f5,f6,f7⟩:=zaa A2t.out.2.1
 have A2:=hid (A2t.out.set_ 1 (.int .u64 (un:Int)) ⟨k,(un:Int),⟨#[]⟩,0,⟨#[]⟩,0,0,0⟩ rfl)
 have R2:=hid (R2t.out.far (p:=⟨w.heap.size,1,none⟩) (by simp) (Nat.le_refl _) (.int .u64 (un:Int)))
 clear A2t R2t
 go_wp2_with fail
 with_reducible refine (zbS g l1 e1 64 64 l2 e2 fb _ A2.out.iat N1.out.fine N1.out.bytes N1.out.len rfl (by decide) D1.out).mono ?_
 rintro en w3 ⟨rfl,hin,hgr⟩
 have A3t:=hid (A2.out.turn hin hgr)
 have R3t:=hid (R2.out.turn hin hgr)
 clear hin hgr A2 R2
 clear c0 c1 c2 c3 c4 c5 c6 c7 f0 f1 f2 f3 f4 f5 f6 f7
 obtain ⟨⟨c0,c1,c2,c3,c4,c5,c6,c7⟩,f0,f1,f2,f3,f4,f5,f6,f7⟩:=zaa A3t.out.2.1
 have A3:=hid (A3t.out.set_ 2 (.string (strN fb)) ⟨k,(un:Int),strN fb,0,⟨#[]⟩,0,0,0⟩ rfl)
 have R3:=hid (R3t.out.far (p:=⟨w.heap.size,2,none⟩) (by simp) (Nat.le_refl _) (.string (strN fb)))
 clear A3t R3t
 go_wp2_with fail
 with_reducible refine (zb7 ⟨k,(un:Int),strN fb,0,⟨#[]⟩,0,0,0⟩ true _ S1.out A3.out.parts).mono ?_
 rintro e w4 ⟨rfl,hb⟩
 have A4:=hid (A3.out.on hb)
 have R4:=hid (R3.out.on hb)
 clear hb A3 R3
 clear c0 c1 c2 c3 c4 c5 c6 c7 f0 f1 f2 f3 f4 f5 f6 f7
 obtain ⟨⟨c0,c1,c2,c3,c4,c5,c6,c7⟩,f0,f1,f2,f3,f4,f5,f6,f7⟩:=zaa A4.out.2.1
 go_wp2_with fail
 with_reducible refine (zbG g l2 e2 l3 e3 qn _ A4.out.iat N2.out D2.out).mono ?_
 rintro en w5 ⟨rfl,hin,hgr⟩
 have A5t:=hid (A4.out.turn hin hgr)
 have R5t:=hid (R4.out.turn hin hgr)
 clear hin hgr A4 R4
 clear c0 c1 c2 c3 c4 c5 c6 c7 f0 f1 f2 f3 f4 f5 f6 f7
 obtain ⟨⟨c0,c1,c2,c3,c4,c5,c6,c7⟩,f0,f1,f2,f3,f4,f5,f6,f7⟩:=zaa A5t.out.2.1
 have A5:=hid (A5t.out.set_ 3 (.int .u64 (qn:Int)) ⟨k,(un:Int),strN fb,(qn:Int),⟨#[]⟩,0,0,0⟩ rfl)
 have R5:=hid (R5t.out.far (p:=⟨w.heap.size,3,none⟩) (by simp) (Nat.le_refl _) (.int .u64 (qn:Int)))
 clear A5t R5t
 go_wp2_with fail
 with_reducible refine (zb5 ⟨k,(un:Int),strN fb,(qn:Int),⟨#[]⟩,0,0,0⟩ false _ S2.out A5.out.parts).mono ?_
 rintro e w6 ⟨rfl,hb⟩
 have A6:=hid (A5.out.on hb)
 have R6:=hid (R5.out.on hb)
 clear hb A5 R5
 clear c0 c1 c2 c3 c4 c5 c6 c7 f0 f1 f2 f3 f4 f5 f6 f7
 obtain ⟨⟨c0,c1,c2,c3,c4,c5,c6,c7⟩,f0,f1,f2,f3,f4,f5,f6,f7⟩:=zaa A6.out.2.1
 go_wp2_with fail
 with_reducible refine (zca ⟨k,(un:Int),strN fb,(qn:Int),⟨#[]⟩,0,0,0⟩ false _ S3.out A6.out.parts).mono ?_
 rintro e w7 ⟨rfl,hb⟩
 have A7:=hid (A6.out.on hb)
 have R7:=hid (R6.out.on hb)
 clear hb A6 R6
 clear c0 c1 c2 c3 c4 c5 c6 c7 f0 f1 f2 f3 f4 f5 f6 f7
 obtain ⟨⟨c0,c1,c2,c3,c4,c5,c6,c7⟩,f0,f1,f2,f3,f4,f5,f6,f7⟩:=zaa A7.out.2.1
 go_wp2_with fail
 with_reducible refine (zbT ⟨k,(un:Int),strN fb,(qn:Int),⟨#[]⟩,0,0,0⟩ false _ S4.out A7.out.parts).mono ?_
 rintro e w8 ⟨rfl,hb⟩
 have A8:=hid (A7.out.on hb)
 have R8:=hid (R7.out.on hb)
 clear hb A7 R7
 clear c0 c1 c2 c3 c4 c5 c6 c7 f0 f1 f2 f3 f4 f5 f6 f7
 obtain ⟨⟨c0,c1,c2,c3,c4,c5,c6,c7⟩,f0,f1,f2,f3,f4,f5,f6,f7⟩:=zaa A8.out.2.1
 go_wp2_with fail
 with_reducible refine (zb4 ⟨k,(un:Int),strN fb,(qn:Int),⟨#[]⟩,0,0,0⟩ true _ S5.out A8.out.parts).mono ?_
 rintro e w9 ⟨rfl,hb⟩
 have A9:=hid (A8.out.on hb)
 have R9:=hid (R8.out.on hb)
 clear hb A8 R8
 clear c0 c1 c2 c3 c4 c5 c6 c7 f0 f1 f2 f3 f4 f5 f6 f7
 obtain ⟨⟨c0,c1,c2,c3,c4,c5,c6,c7⟩,f0,f1,f2,f3,f4,f5,f6,f7⟩:=zaa A9.out.2.1
 go_wp2_with fail
 with_reducible refine (za6 g l3 e3 1099511627776 1099511627776 l4 e4 tn _ A9.out.iat N3.out.fine N3.out.bytes N3.out.len rfl D3.out).mono ?_
 rintro en w10 ⟨rfl,hin,hgr⟩
 have A10t:=hid (A9.out.turn hin hgr)
 have R10t:=hid (R9.out.turn hin hgr)
 clear hin hgr A9 R9
 clear c0 c1 c2 c3 c4 c5 c6 c7 f0 f1 f2 f3 f4 f5 f6 f7
 obtain ⟨⟨c0,c1,c2,c3,c4,c5,c6,c7⟩,f0,f1,f2,f3,f4,f5,f6,f7⟩:=zaa A10t.out.2.1
 have A10:=hid (A10t.out.set_ 7 (.int .i64 (tn:Int)) ⟨k,(un:Int),strN fb,(qn:Int),⟨#[]⟩,0,0,(tn:Int)⟩ rfl)
 have R10:=hid (R10t.out.far (p:=⟨w.heap.size,7,none⟩) (by simp) (Nat.le_refl _) (.int .i64 (tn:Int)))
 clear A10t R10t
 obtain ⟨⟨d0,d1,d2,d3,d4,d5,d6,d7⟩,g0,g1,g2,g3,g4,g5,g6,g7⟩:=zaa R10.out.2.1
 have E:=hid (R10.out.put ⟨k,(un:Int),strN fb,(qn:Int),⟨#[]⟩,0,0,(tn:Int)⟩)
 clear R10 A10
 go_wp2
 refine bodyPost_ret (v:=val ⟨k,(un:Int),strN fb,(qn:Int),⟨#[]⟩,0,0,(tn:Int)⟩) (by simp [results,Tryz.results160,go_sem,d0,d1,d2,d3,d4,d5,d6,d7]) rfl ⟨rfl,E.out.iat,E.out.grown⟩
theorem zsJ (g:Nat) (k:Int) (l0:List Nat) (e0:Nat) (l1:List Nat) (e1:Nat) (l2:List Nat) (e2:Nat) (l3:List Nat) (e3:Nat) (l4:List Nat) (e4:Nat) (l5:List Nat) (e5:Nat) (un:Nat) (fb:List Nat) (qn:Nat) (pb:List Nat) (mn:Nat) (w:World) (hP:zad w) (hg:0<g) (hI:InAt w g l0 e0) (hS:zao l0 e0) (hs:Sig k true true true true false false) (d0:zb1 l0 e0=(l1,e1,un)) (d1:zc6 l1 e1 64=(l2,e2,fb)) (d2:zal l2 e2 18446744073709551615=(l3,e3,qn)) (d3:zc6 l3 e3 64=(l4,e4,pb)) (d4:zbc l4 e4=(l5,e5,mn)) :
  Calls Tryz.prog 160 #[val ⟨k,0,⟨#[]⟩,0,⟨#[]⟩,0,0,0⟩,.pointer (some ⟨g,0,none⟩)] w (zbE (fun en=>en=.returned (val ⟨k,(un:Int),strN fb,(qn:Int),strN pb,(mn:Int),0,0⟩)) g l5 e5 w):=by
 obtain ⟨s0,s1,s2,s3,s4,s5⟩:=hs
 have S0:=hid s0
 have S1:=hid s1
 have S2:=hid s2
 have S3:=hid s3
 have S4:=hid s4
 have S5:=hid s5
 have N0:=hid hS
 have N1:Hid (zao l1 e1):=hid (zbH N0.out d0).1
 have D0:=hid d0
 have N2:Hid (zao l2 e2):=hid (zbi N1.out d1).1
 have D1:=hid d1
 have N3:Hid (zao l3 e3):=hid (zax N2.out d2).1
 have D2:=hid d2
 have N4:Hid (zao l4 e4):=hid (zbi N3.out d3).1
 have D3:=hid d3
 have N5:Hid (zao l5 e5):=hid (zcg N4.out d4).1
 have W2:IntKind.i64.wrap (mn:Int)=mn:=by have:=(zcg N4.out d4).2;rw [IntKind.wrap_i64];omega
 have D4:=hid d4
 have A0:=hid ((zbN.start hI hP hg ⟨k,0,⟨#[]⟩,0,⟨#[]⟩,0,0,0⟩).on ((Below.refl _ _).alloc (Nat.le_refl _) (.cells (cellsOf ⟨0,0,⟨#[]⟩,0,⟨#[]⟩,0,0,0⟩) 61)))
 have R0:Hid (zbN w ((w.alloc (.cells (cellsOf ⟨k,0,⟨#[]⟩,0,⟨#[]⟩,0,0,0⟩) 61)).alloc (.cells (cellsOf ⟨0,0,⟨#[]⟩,0,⟨#[]⟩,0,0,0⟩) 61)) g (w.heap.size+1) ⟨0,0,⟨#[]⟩,0,⟨#[]⟩,0,0,0⟩ l0 e0):=hid ⟨A0.out.1,by have h:=Blk.new (w.alloc (.cells (cellsOf ⟨k,0,⟨#[]⟩,0,⟨#[]⟩,0,0,0⟩) 61)) 61 (cellsOf ⟨0,0,⟨#[]⟩,0,⟨#[]⟩,0,0,0⟩);simpa using h,by omega,A0.out.2.2.2.1,A0.out.2.2.2.2⟩
 clear s0 s1 s2 s3 s4 s5 hP hg hI hS d0 d1 d2 d3 d4
 go_enter Tryz.func160,Tryz.ntmps160
 go_wp2_with fail
 with_reducible refine (zb3 ⟨k,0,⟨#[]⟩,0,⟨#[]⟩,0,0,0⟩ true _ S0.out A0.out.parts).mono ?_
 rintro e w1 ⟨rfl,hb⟩
 have A1:=hid (A0.out.on hb)
 have R1:=hid (R0.out.on hb)
 clear hb A0 R0
 obtain ⟨⟨c0,c1,c2,c3,c4,c5,c6,c7⟩,f0,f1,f2,f3,f4,f5,f6,f7⟩:=zaa A1.out.2.1
 go_wp2_with fail
 with_reducible refine (zcf g l0 e0 l1 e1 un _ A1.out.iat N0.out.fine N0.out.bytes D0.out).mono ?_
 rintro en w2 ⟨rfl,hin,hgr⟩
 have A2t:=hid (A1.out.turn hin hgr)
 have R2t:=hid (R1.out.turn hin hgr)
 clear hin hgr A1 R1
 clear c0 c1 c2 c3 c4 c5 c6 c7 f0 f1 f2 f3 f4 f5 f6 f7
 obtain ⟨⟨c0,c1,c2,c3,c4,c5,c6,c7⟩,f0,f1,f2,f3,f4,f5,f6,f7⟩:=zaa A2t.out.2.1
 have A2:=hid (A2t.out.set_ 1 (.int .u64 (un:Int)) ⟨k,(un:Int),⟨#[]⟩,0,⟨#[]⟩,0,0,0⟩ rfl)
 have R2:=hid (R2t.out.far (p:=⟨w.heap.size,1,none⟩) (by simp) (Nat.le_refl _) (.int .u64 (un:Int)))
 clear A2t R2t
 go_wp2_with fail
 with_reducible refine (zbS g l1 e1 64 64 l2 e2 fb _ A2.out.iat N1.out.fine N1.out.bytes N1.out.len rfl (by decide) D1.out).mono ?_
 rintro en w3 ⟨rfl,hin,hgr⟩
 have A3t:=hid (A2.out.turn hin hgr)
 have R3t:=hid (R2.out.turn hin hgr)
 clear hin hgr A2 R2
 clear c0 c1 c2 c3 c4 c5 c6 c7 f0 f1 f2 f3 f4 f5 f6 f7
 obtain ⟨⟨c0,c1,c2,c3,c4,c5,c6,c7⟩,f0,f1,f2,f3,f4,f5,f6,f7⟩:=zaa A3t.out.2.1
 have A3:=hid (A3t.out.set_ 2 (.string (strN fb)) ⟨k,(un:Int),strN fb,0,⟨#[]⟩,0,0,0⟩ rfl)
 have R3:=hid (R3t.out.far (p:=⟨w.heap.size,2,none⟩) (by simp) (Nat.le_refl _) (.string (strN fb)))
 clear A3t R3t
 go_wp2_with fail
 with_reducible refine (zb7 ⟨k,(un:Int),strN fb,0,⟨#[]⟩,0,0,0⟩ true _ S1.out A3.out.parts).mono ?_
 rintro e w4 ⟨rfl,hb⟩
 have A4:=hid (A3.out.on hb)
 have R4:=hid (R3.out.on hb)
 clear hb A3 R3
 clear c0 c1 c2 c3 c4 c5 c6 c7 f0 f1 f2 f3 f4 f5 f6 f7
 obtain ⟨⟨c0,c1,c2,c3,c4,c5,c6,c7⟩,f0,f1,f2,f3,f4,f5,f6,f7⟩:=zaa A4.out.2.1
 go_wp2_with fail
 with_reducible refine (zbG g l2 e2 l3 e3 qn _ A4.out.iat N2.out D2.out).mono ?_
 rintro en w5 ⟨rfl,hin,hgr⟩
 have A5t:=hid (A4.out.turn hin hgr)
 have R5t:=hid (R4.out.turn hin hgr)
 clear hin hgr A4 R4
 clear c0 c1 c2 c3 c4 c5 c6 c7 f0 f1 f2 f3 f4 f5 f6 f7
 obtain ⟨⟨c0,c1,c2,c3,c4,c5,c6,c7⟩,f0,f1,f2,f3,f4,f5,f6,f7⟩:=zaa A5t.out.2.1
 have A5:=hid (A5t.out.set_ 3 (.int .u64 (qn:Int)) ⟨k,(un:Int),strN fb,(qn:Int),⟨#[]⟩,0,0,0⟩ rfl)
 have R5:=hid (R5t.out.far (p:=⟨w.heap.size,3,none⟩) (by simp) (Nat.le_refl _) (.int .u64 (qn:Int)))
 clear A5t R5t
 go_wp2_with fail
 with_reducible refine (zb5 ⟨k,(un:Int),strN fb,(qn:Int),⟨#[]⟩,0,0,0⟩ true _ S2.out A5.out.parts).mono ?_
 rintro e w6 ⟨rfl,hb⟩
 have A6:=hid (A5.out.on hb)
 have R6:=hid (R5.out.on hb)
 clear hb A5 R5
 clear c0 c1 c2 c3 c4 c5 c6 c7 f0 f1 f2 f3 f4 f5 f6 f7
 obtain ⟨⟨c0,c1,c2,c3,c4,c5,c6,c7⟩,f0,f1,f2,f3,f4,f5,f6,f7⟩:=zaa A6.out.2.1
 go_wp2_with fail
 with_reducible refine (zbS g l3 e3 64 64 l4 e4 pb _ A6.out.iat N3.out.fine N3.out.bytes N3.out.len rfl (by decide) D3.out).mono ?_
 rintro en w7 ⟨rfl,hin,hgr⟩
 have A7t:=hid (A6.out.turn hin hgr)
 have R7t:=hid (R6.out.turn hin hgr)
 clear hin hgr A6 R6
 clear c0 c1 c2 c3 c4 c5 c6 c7 f0 f1 f2 f3 f4 f5 f6 f7
 obtain ⟨⟨c0,c1,c2,c3,c4,c5,c6,c7⟩,f0,f1,f2,f3,f4,f5,f6,f7⟩:=zaa A7t.out.2.1
 have A7:=hid (A7t.out.set_ 4 (.string (strN pb)) ⟨k,(un:Int),strN fb,(qn:Int),strN pb,0,0,0⟩ rfl)
 have R7:=hid (R7t.out.far (p:=⟨w.heap.size,4,none⟩) (by simp) (Nat.le_refl _) (.string (strN pb)))
 clear A7t R7t
 go_wp2_with fail
 with_reducible refine (zca ⟨k,(un:Int),strN fb,(qn:Int),strN pb,0,0,0⟩ true _ S3.out A7.out.parts).mono ?_
 rintro e w8 ⟨rfl,hb⟩
 have A8:=hid (A7.out.on hb)
 have R8:=hid (R7.out.on hb)
 clear hb A7 R7
 clear c0 c1 c2 c3 c4 c5 c6 c7 f0 f1 f2 f3 f4 f5 f6 f7
 obtain ⟨⟨c0,c1,c2,c3,c4,c5,c6,c7⟩,f0,f1,f2,f3,f4,f5,f6,f7⟩:=zaa A8.out.2.1
 go_wp2_with fail
 with_reducible refine (zfq g l4 e4 l5 e5 mn _ A8.out.iat N4.out.fine D4.out).mono ?_
 rintro en w9 ⟨rfl,hin,hgr⟩
 have A9t:=hid (A8.out.turn hin hgr)
 have R9t:=hid (R8.out.turn hin hgr)
 clear hin hgr A8 R8
 clear c0 c1 c2 c3 c4 c5 c6 c7 f0 f1 f2 f3 f4 f5 f6 f7
 obtain ⟨⟨c0,c1,c2,c3,c4,c5,c6,c7⟩,f0,f1,f2,f3,f4,f5,f6,f7⟩:=zaa A9t.out.2.1
 have A9:=hid (A9t.out.set_ 5 (.int .i64 (mn:Int)) ⟨k,(un:Int),strN fb,(qn:Int),strN pb,(mn:Int),0,0⟩ rfl)
 have R9:=hid (R9t.out.far (p:=⟨w.heap.size,5,none⟩) (by simp) (Nat.le_refl _) (.int .i64 (mn:Int)))
 clear A9t R9t
 go_wp2_with fail
 with_reducible refine (zbT ⟨k,(un:Int),strN fb,(qn:Int),strN pb,(mn:Int),0,0⟩ false _ S4.out A9.out.parts).mono ?_
 rintro e w10 ⟨rfl,hb⟩
 have A10:=hid (A9.out.on hb)
 have R10:=hid (R9.out.on hb)
 clear hb A9 R9
 clear c0 c1 c2 c3 c4 c5 c6 c7 f0 f1 f2 f3 f4 f5 f6 f7
 obtain ⟨⟨c0,c1,c2,c3,c4,c5,c6,c7⟩,f0,f1,f2,f3,f4,f5,f6,f7⟩:=zaa A10.out.2.1
 go_wp2_with fail
 with_reducible refine (zb4 ⟨k,(un:Int),strN fb,(qn:Int),strN pb,(mn:Int),0,0⟩ false _ S5.out A10.out.parts).mono ?_
 rintro e w11 ⟨rfl,hb⟩
 have A11:=hid (A10.out.on hb)
 have R11:=hid (R10.out.on hb)
 clear hb A10 R10
 clear c0 c1 c2 c3 c4 c5 c6 c7 f0 f1 f2 f3 f4 f5 f6 f7
 obtain ⟨⟨c0,c1,c2,c3,c4,c5,c6,c7⟩,f0,f1,f2,f3,f4,f5,f6,f7⟩:=zaa A11.out.2.1
 obtain ⟨⟨d0,d1,d2,d3,d4,d5,d6,d7⟩,g0,g1,g2,g3,g4,g5,g6,g7⟩:=zaa R11.out.2.1
 have E:=hid (R11.out.put ⟨k,(un:Int),strN fb,(qn:Int),strN pb,(mn:Int),0,0⟩)
 clear R11 A11
 go_wp2
 refine bodyPost_ret (v:=val ⟨k,(un:Int),strN fb,(qn:Int),strN pb,(mn:Int),0,0⟩) (by simp [results,Tryz.results160,go_sem,d0,d1,d2,d3,d4,d5,d6,d7]) rfl ⟨rfl,E.out.iat,E.out.grown⟩
theorem zrL (g:Nat) (k:Int) (l0:List Nat) (e0:Nat) (l1:List Nat) (e1:Nat) (l2:List Nat) (e2:Nat) (l3:List Nat) (e3:Nat) (l4:List Nat) (e4:Nat) (un:Nat) (fb:List Nat) (qn:Nat) (pb:List Nat) (w:World) (hP:zad w) (hg:0<g) (hI:InAt w g l0 e0) (hS:zao l0 e0) (hs:Sig k true true true false false false) (d0:zb1 l0 e0=(l1,e1,un)) (d1:zc6 l1 e1 64=(l2,e2,fb)) (d2:zal l2 e2 18446744073709551615=(l3,e3,qn)) (d3:zc6 l3 e3 64=(l4,e4,pb)) :
  Calls Tryz.prog 160 #[val ⟨k,0,⟨#[]⟩,0,⟨#[]⟩,0,0,0⟩,.pointer (some ⟨g,0,none⟩)] w (zbE (fun en=>en=.returned (val ⟨k,(un:Int),strN fb,(qn:Int),strN pb,0,0,0⟩)) g l4 e4 w):=by
 obtain ⟨s0,s1,s2,s3,s4,s5⟩:=hs
 have S0:=hid s0
 have S1:=hid s1
 have S2:=hid s2
 have S3:=hid s3
 have S4:=hid s4
 have S5:=hid s5
 have N0:=hid hS
 have N1:Hid (zao l1 e1):=hid (zbH N0.out d0).1
 have D0:=hid d0
 have N2:Hid (zao l2 e2):=hid (zbi N1.out d1).1
 have D1:=hid d1
 have N3:Hid (zao l3 e3):=hid (zax N2.out d2).1
 have D2:=hid d2
 have N4:Hid (zao l4 e4):=hid (zbi N3.out d3).1
 have D3:=hid d3
 have A0:=hid ((zbN.start hI hP hg ⟨k,0,⟨#[]⟩,0,⟨#[]⟩,0,0,0⟩).on ((Below.refl _ _).alloc (Nat.le_refl _) (.cells (cellsOf ⟨0,0,⟨#[]⟩,0,⟨#[]⟩,0,0,0⟩) 61)))
 have R0:Hid (zbN w ((w.alloc (.cells (cellsOf ⟨k,0,⟨#[]⟩,0,⟨#[]⟩,0,0,0⟩) 61)).alloc (.cells (cellsOf ⟨0,0,⟨#[]⟩,0,⟨#[]⟩,0,0,0⟩) 61)) g (w.heap.size+1) ⟨0,0,⟨#[]⟩,0,⟨#[]⟩,0,0,0⟩ l0 e0):=hid ⟨A0.out.1,by have h:=Blk.new (w.alloc (.cells (cellsOf ⟨k,0,⟨#[]⟩,0,⟨#[]⟩,0,0,0⟩) 61)) 61 (cellsOf ⟨0,0,⟨#[]⟩,0,⟨#[]⟩,0,0,0⟩);simpa using h,by omega,A0.out.2.2.2.1,A0.out.2.2.2.2⟩
 clear s0 s1 s2 s3 s4 s5 hP hg hI hS d0 d1 d2 d3
 go_enter Tryz.func160,Tryz.ntmps160
 go_wp2_with fail
 with_reducible refine (zb3 ⟨k,0,⟨#[]⟩,0,⟨#[]⟩,0,0,0⟩ true _ S0.out A0.out.parts).mono ?_
 rintro e w1 ⟨rfl,hb⟩
 have A1:=hid (A0.out.on hb)
 have R1:=hid (R0.out.on hb)
 clear hb A0 R0
 obtain ⟨⟨c0,c1,c2,c3,c4,c5,c6,c7⟩,f0,f1,f2,f3,f4,f5,f6,f7⟩:=zaa A1.out.2.1
 go_wp2_with fail
 with_reducible refine (zcf g l0 e0 l1 e1 un _ A1.out.iat N0.out.fine N0.out.bytes D0.out).mono ?_
 rintro en w2 ⟨rfl,hin,hgr⟩
 have A2t:=hid (A1.out.turn hin hgr)
 have R2t:=hid (R1.out.turn hin hgr)
 clear hin hgr A1 R1
 clear c0 c1 c2 c3 c4 c5 c6 c7 f0 f1 f2 f3 f4 f5 f6 f7
 obtain ⟨⟨c0,c1,c2,c3,c4,c5,c6,c7⟩,f0,f1,f2,f3,f4,f5,f6,f7⟩:=zaa A2t.out.2.1
 have A2:=hid (A2t.out.set_ 1 (.int .u64 (un:Int)) ⟨k,(un:Int),⟨#[]⟩,0,⟨#[]⟩,0,0,0⟩ rfl)
 have R2:=hid (R2t.out.far (p:=⟨w.heap.size,1,none⟩) (by simp) (Nat.le_refl _) (.int .u64 (un:Int)))
 clear A2t R2t
 go_wp2_with fail
 with_reducible refine (zbS g l1 e1 64 64 l2 e2 fb _ A2.out.iat N1.out.fine N1.out.bytes N1.out.len rfl (by decide) D1.out).mono ?_
 rintro en w3 ⟨rfl,hin,hgr⟩
 have A3t:=hid (A2.out.turn hin hgr)
 have R3t:=hid (R2.out.turn hin hgr)
 clear hin hgr A2 R2
 clear c0 c1 c2 c3 c4 c5 c6 c7 f0 f1 f2 f3 f4 f5 f6 f7
 obtain ⟨⟨c0,c1,c2,c3,c4,c5,c6,c7⟩,f0,f1,f2,f3,f4,f5,f6,f7⟩:=zaa A3t.out.2.1
 have A3:=hid (A3t.out.set_ 2 (.string (strN fb)) ⟨k,(un:Int),strN fb,0,⟨#[]⟩,0,0,0⟩ rfl)
 have R3:=hid (R3t.out.far (p:=⟨w.heap.size,2,none⟩) (by simp) (Nat.le_refl _) (.string (strN fb)))
 clear A3t R3t
 go_wp2_with fail
 with_reducible refine (zb7 ⟨k,(un:Int),strN fb,0,⟨#[]⟩,0,0,0⟩ true _ S1.out A3.out.parts).mono ?_
 rintro e w4 ⟨rfl,hb⟩
 have A4:=hid (A3.out.on hb)
 have R4:=hid (R3.out.on hb)
 clear hb A3 R3
 clear c0 c1 c2 c3 c4 c5 c6 c7 f0 f1 f2 f3 f4 f5 f6 f7
 obtain ⟨⟨c0,c1,c2,c3,c4,c5,c6,c7⟩,f0,f1,f2,f3,f4,f5,f6,f7⟩:=zaa A4.out.2.1
 go_wp2_with fail
 with_reducible refine (zbG g l2 e2 l3 e3 qn _ A4.out.iat N2.out D2.out).mono ?_
 rintro en w5 ⟨rfl,hin,hgr⟩
 have A5t:=hid (A4.out.turn hin hgr)
 have R5t:=hid (R4.out.turn hin hgr)
 clear hin hgr A4 R4
 clear c0 c1 c2 c3 c4 c5 c6 c7 f0 f1 f2 f3 f4 f5 f6 f7
 obtain ⟨⟨c0,c1,c2,c3,c4,c5,c6,c7⟩,f0,f1,f2,f3,f4,f5,f6,f7⟩:=zaa A5t.out.2.1
 have A5:=hid (A5t.out.set_ 3 (.int .u64 (qn:Int)) ⟨k,(un:Int),strN fb,(qn:Int),⟨#[]⟩,0,0,0⟩ rfl)
 have R5:=hid (R5t.out.far (p:=⟨w.heap.size,3,none⟩) (by simp) (Nat.le_refl _) (.int .u64 (qn:Int)))
 clear A5t R5t
 go_wp2_with fail
 with_reducible refine (zb5 ⟨k,(un:Int),strN fb,(qn:Int),⟨#[]⟩,0,0,0⟩ true _ S2.out A5.out.parts).mono ?_
 rintro e w6 ⟨rfl,hb⟩
 have A6:=hid (A5.out.on hb)
 have R6:=hid (R5.out.on hb)
 clear hb A5 R5
 clear c0 c1 c2 c3 c4 c5 c6 c7 f0 f1 f2 f3 f4 f5 f6 f7
 obtain ⟨⟨c0,c1,c2,c3,c4,c5,c6,c7⟩,f0,f1,f2,f3,f4,f5,f6,f7⟩:=zaa A6.out.2.1
 go_wp2_with fail
 with_reducible refine (zbS g l3 e3 64 64 l4 e4 pb _ A6.out.iat N3.out.fine N3.out.bytes N3.out.len rfl (by decide) D3.out).mono ?_
 rintro en w7 ⟨rfl,hin,hgr⟩
 have A7t:=hid (A6.out.turn hin hgr)
 have R7t:=hid (R6.out.turn hin hgr)
 clear hin hgr A6 R6
 clear c0 c1 c2 c3 c4 c5 c6 c7 f0 f1 f2 f3 f4 f5 f6 f7
 obtain ⟨⟨c0,c1,c2,c3,c4,c5,c6,c7⟩,f0,f1,f2,f3,f4,f5,f6,f7⟩:=zaa A7t.out.2.1
 have A7:=hid (A7t.out.set_ 4 (.string (strN pb)) ⟨k,(un:Int),strN fb,(qn:Int),strN pb,0,0,0⟩ rfl)
 have R7:=hid (R7t.out.far (p:=⟨w.heap.size,4,none⟩) (by simp) (Nat.le_refl _) (.string (strN pb)))
 clear A7t R7t
 go_wp2_with fail
 with_reducible refine (zca ⟨k,(un:Int),strN fb,(qn:Int),strN pb,0,0,0⟩ false _ S3.out A7.out.parts).mono ?_
 rintro e w8 ⟨rfl,hb⟩
 have A8:=hid (A7.out.on hb)
 have R8:=hid (R7.out.on hb)
 clear hb A7 R7
 clear c0 c1 c2 c3 c4 c5 c6 c7 f0 f1 f2 f3 f4 f5 f6 f7
 obtain ⟨⟨c0,c1,c2,c3,c4,c5,c6,c7⟩,f0,f1,f2,f3,f4,f5,f6,f7⟩:=zaa A8.out.2.1
 go_wp2_with fail
 with_reducible refine (zbT ⟨k,(un:Int),strN fb,(qn:Int),strN pb,0,0,0⟩ false _ S4.out A8.out.parts).mono ?_
 rintro e w9 ⟨rfl,hb⟩
 have A9:=hid (A8.out.on hb)
 have R9:=hid (R8.out.on hb)
 clear hb A8 R8
 clear c0 c1 c2 c3 c4 c5 c6 c7 f0 f1 f2 f3 f4 f5 f6 f7
 obtain ⟨⟨c0,c1,c2,c3,c4,c5,c6,c7⟩,f0,f1,f2,f3,f4,f5,f6,f7⟩:=zaa A9.out.2.1
 go_wp2_with fail
 with_reducible refine (zb4 ⟨k,(un:Int),strN fb,(qn:Int),strN pb,0,0,0⟩ false _ S5.out A9.out.parts).mono ?_
 rintro e w10 ⟨rfl,hb⟩
 have A10:=hid (A9.out.on hb)
 have R10:=hid (R9.out.on hb)
 clear hb A9 R9
 clear c0 c1 c2 c3 c4 c5 c6 c7 f0 f1 f2 f3 f4 f5 f6 f7
 obtain ⟨⟨c0,c1,c2,c3,c4,c5,c6,c7⟩,f0,f1,f2,f3,f4,f5,f6,f7⟩:=zaa A10.out.2.1
 obtain ⟨⟨d0,d1,d2,d3,d4,d5,d6,d7⟩,g0,g1,g2,g3,g4,g5,g6,g7⟩:=zaa R10.out.2.1
 have E:=hid (R10.out.put ⟨k,(un:Int),strN fb,(qn:Int),strN pb,0,0,0⟩)
 clear R10 A10
 go_wp2
 refine bodyPost_ret (v:=val ⟨k,(un:Int),strN fb,(qn:Int),strN pb,0,0,0⟩) (by simp [results,Tryz.results160,go_sem,d0,d1,d2,d3,d4,d5,d6,d7]) rfl ⟨rfl,E.out.iat,E.out.grown⟩
theorem zsT (g:Nat) (k:Int) (l0:List Nat) (e0:Nat) (l1:List Nat) (e1:Nat) (l2:List Nat) (e2:Nat) (l3:List Nat) (e3:Nat) (l4:List Nat) (e4:Nat) (l5:List Nat) (e5:Nat) (un:Nat) (fb:List Nat) (qn:Nat) (pb:List Nat) (nn:Nat) (w:World) (hP:zad w) (hg:0<g) (hI:InAt w g l0 e0) (hS:zao l0 e0) (hs:Sig k true true true false true false) (d0:zb1 l0 e0=(l1,e1,un)) (d1:zc6 l1 e1 64=(l2,e2,fb)) (d2:zal l2 e2 18446744073709551615=(l3,e3,qn)) (d3:zc6 l3 e3 64=(l4,e4,pb)) (d4:zal l4 e4 18446744073709551615=(l5,e5,nn)) :
  Calls Tryz.prog 160 #[val ⟨k,0,⟨#[]⟩,0,⟨#[]⟩,0,0,0⟩,.pointer (some ⟨g,0,none⟩)] w (zbE (fun en=>en=.returned (val ⟨k,(un:Int),strN fb,(qn:Int),strN pb,0,(nn:Int),0⟩)) g l5 e5 w):=by
 obtain ⟨s0,s1,s2,s3,s4,s5⟩:=hs
 have S0:=hid s0
 have S1:=hid s1
 have S2:=hid s2
 have S3:=hid s3
 have S4:=hid s4
 have S5:=hid s5
 have N0:=hid hS
 have N1:Hid (zao l1 e1):=hid (zbH N0.out d0).1
 have D0:=hid d0
 have N2:Hid (zao l2 e2):=hid (zbi N1.out d1).1
 have D1:=hid d1
 have N3:Hid (zao l3 e3):=hid (zax N2.out d2).1
 have D2:=hid d2
 have N4:Hid (zao l4 e4):=hid (zbi N3.out d3).1
 have D3:=hid d3
 have N5:Hid (zao l5 e5):=hid (zax N4.out d4).1
 have D4:=hid d4
 have A0:=hid ((zbN.start hI hP hg ⟨k,0,⟨#[]⟩,0,⟨#[]⟩,0,0,0⟩).on ((Below.refl _ _).alloc (Nat.le_refl _) (.cells (cellsOf ⟨0,0,⟨#[]⟩,0,⟨#[]⟩,0,0,0⟩) 61)))
 have R0:Hid (zbN w ((w.alloc (.cells (cellsOf ⟨k,0,⟨#[]⟩,0,⟨#[]⟩,0,0,0⟩) 61)).alloc (.cells (cellsOf ⟨0,0,⟨#[]⟩,0,⟨#[]⟩,0,0,0⟩) 61)) g (w.heap.size+1) ⟨0,0,⟨#[]⟩,0,⟨#[]⟩,0,0,0⟩ l0 e0):=hid ⟨A0.out.1,by have h:=Blk.new (w.alloc (.cells (cellsOf ⟨k,0,⟨#[]⟩,0,⟨#[]⟩,0,0,0⟩) 61)) 61 (cellsOf ⟨0,0,⟨#[]⟩,0,⟨#[]⟩,0,0,0⟩);simpa using h,by omega,A0.out.2.2.2.1,A0.out.2.2.2.2⟩
 clear s0 s1 s2 s3 s4 s5 hP hg hI hS d0 d1 d2 d3 d4
 go_enter Tryz.func160,Tryz.ntmps160
 go_wp2_with fail
 with_reducible refine (zb3 ⟨k,0,⟨#[]⟩,0,⟨#[]⟩,0,0,0⟩ true _ S0.out A0.out.parts).mono ?_
 rintro e w1 ⟨rfl,hb⟩
 have A1:=hid (A0.out.on hb)
 have R1:=hid (R0.out.on hb)
 clear hb A0 R0
 obtain ⟨⟨c0,c1,c2,c3,c4,c5,c6,c7⟩,f0,f1,f2,f3,f4,f5,f6,f7⟩:=zaa A1.out.2.1
 go_wp2_with fail
 with_reducible refine (zcf g l0 e0 l1 e1 un _ A1.out.iat N0.out.fine N0.out.bytes D0.out).mono ?_
 rintro en w2 ⟨rfl,hin,hgr⟩
 have A2t:=hid (A1.out.turn hin hgr)
 have R2t:=hid (R1.out.turn hin hgr)
 clear hin hgr A1 R1
 clear c0 c1 c2 c3 c4 c5 c6 c7 f0 f1 f2 f3 f4 f5 f6 f7
 obtain ⟨⟨c0,c1,c2,c3,c4,c5,c6,c7⟩,f0,f1,f2,f3,f4,f5,f6,f7⟩:=zaa A2t.out.2.1
 have A2:=hid (A2t.out.set_ 1 (.int .u64 (un:Int)) ⟨k,(un:Int),⟨#[]⟩,0,⟨#[]⟩,0,0,0⟩ rfl)
 have R2:=hid (R2t.out.far (p:=⟨w.heap.size,1,none⟩) (by simp) (Nat.le_refl _) (.int .u64 (un:Int)))
 clear A2t R2t
 go_wp2_with fail
 with_reducible refine (zbS g l1 e1 64 64 l2 e2 fb _ A2.out.iat N1.out.fine N1.out.bytes N1.out.len rfl (by decide) D1.out).mono ?_
 rintro en w3 ⟨rfl,hin,hgr⟩
 have A3t:=hid (A2.out.turn hin hgr)
 have R3t:=hid (R2.out.turn hin hgr)
 clear hin hgr A2 R2
 clear c0 c1 c2 c3 c4 c5 c6 c7 f0 f1 f2 f3 f4 f5 f6 f7
 obtain ⟨⟨c0,c1,c2,c3,c4,c5,c6,c7⟩,f0,f1,f2,f3,f4,f5,f6,f7⟩:=zaa A3t.out.2.1
 have A3:=hid (A3t.out.set_ 2 (.string (strN fb)) ⟨k,(un:Int),strN fb,0,⟨#[]⟩,0,0,0⟩ rfl)
 have R3:=hid (R3t.out.far (p:=⟨w.heap.size,2,none⟩) (by simp) (Nat.le_refl _) (.string (strN fb)))
 clear A3t R3t
 go_wp2_with fail
 with_reducible refine (zb7 ⟨k,(un:Int),strN fb,0,⟨#[]⟩,0,0,0⟩ true _ S1.out A3.out.parts).mono ?_
 rintro e w4 ⟨rfl,hb⟩
 have A4:=hid (A3.out.on hb)
 have R4:=hid (R3.out.on hb)
 clear hb A3 R3
 clear c0 c1 c2 c3 c4 c5 c6 c7 f0 f1 f2 f3 f4 f5 f6 f7
 obtain ⟨⟨c0,c1,c2,c3,c4,c5,c6,c7⟩,f0,f1,f2,f3,f4,f5,f6,f7⟩:=zaa A4.out.2.1
 go_wp2_with fail
 with_reducible refine (zbG g l2 e2 l3 e3 qn _ A4.out.iat N2.out D2.out).mono ?_
 rintro en w5 ⟨rfl,hin,hgr⟩
 have A5t:=hid (A4.out.turn hin hgr)
 have R5t:=hid (R4.out.turn hin hgr)
 clear hin hgr A4 R4
 clear c0 c1 c2 c3 c4 c5 c6 c7 f0 f1 f2 f3 f4 f5 f6 f7
 obtain ⟨⟨c0,c1,c2,c3,c4,c5,c6,c7⟩,f0,f1,f2,f3,f4,f5,f6,f7⟩:=zaa A5t.out.2.1
 have A5:=hid (A5t.out.set_ 3 (.int .u64 (qn:Int)) ⟨k,(un:Int),strN fb,(qn:Int),⟨#[]⟩,0,0,0⟩ rfl)
 have R5:=hid (R5t.out.far (p:=⟨w.heap.size,3,none⟩) (by simp) (Nat.le_refl _) (.int .u64 (qn:Int)))
 clear A5t R5t
 go_wp2_with fail
 with_reducible refine (zb5 ⟨k,(un:Int),strN fb,(qn:Int),⟨#[]⟩,0,0,0⟩ true _ S2.out A5.out.parts).mono ?_
 rintro e w6 ⟨rfl,hb⟩
 have A6:=hid (A5.out.on hb)
 have R6:=hid (R5.out.on hb)
 clear hb A5 R5
 clear c0 c1 c2 c3 c4 c5 c6 c7 f0 f1 f2 f3 f4 f5 f6 f7
 obtain ⟨⟨c0,c1,c2,c3,c4,c5,c6,c7⟩,f0,f1,f2,f3,f4,f5,f6,f7⟩:=zaa A6.out.2.1
 go_wp2_with fail
 with_reducible refine (zbS g l3 e3 64 64 l4 e4 pb _ A6.out.iat N3.out.fine N3.out.bytes N3.out.len rfl (by decide) D3.out).mono ?_
 rintro en w7 ⟨rfl,hin,hgr⟩
 have A7t:=hid (A6.out.turn hin hgr)
 have R7t:=hid (R6.out.turn hin hgr)
 clear hin hgr A6 R6
 clear c0 c1 c2 c3 c4 c5 c6 c7 f0 f1 f2 f3 f4 f5 f6 f7
 obtain ⟨⟨c0,c1,c2,c3,c4,c5,c6,c7⟩,f0,f1,f2,f3,f4,f5,f6,f7⟩:=zaa A7t.out.2.1
 have A7:=hid (A7t.out.set_ 4 (.string (strN pb)) ⟨k,(un:Int),strN fb,(qn:Int),strN pb,0,0,0⟩ rfl)
 have R7:=hid (R7t.out.far (p:=⟨w.heap.size,4,none⟩) (by simp) (Nat.le_refl _) (.string (strN pb)))
 clear A7t R7t
 go_wp2_with fail
 with_reducible refine (zca ⟨k,(un:Int),strN fb,(qn:Int),strN pb,0,0,0⟩ false _ S3.out A7.out.parts).mono ?_
 rintro e w8 ⟨rfl,hb⟩
 have A8:=hid (A7.out.on hb)
 have R8:=hid (R7.out.on hb)
 clear hb A7 R7
 clear c0 c1 c2 c3 c4 c5 c6 c7 f0 f1 f2 f3 f4 f5 f6 f7
 obtain ⟨⟨c0,c1,c2,c3,c4,c5,c6,c7⟩,f0,f1,f2,f3,f4,f5,f6,f7⟩:=zaa A8.out.2.1
 go_wp2_with fail
 with_reducible refine (zbT ⟨k,(un:Int),strN fb,(qn:Int),strN pb,0,0,0⟩ true _ S4.out A8.out.parts).mono ?_
 rintro e w9 ⟨rfl,hb⟩
 have A9:=hid (A8.out.on hb)
 have R9:=hid (R8.out.on hb)
 clear hb A8 R8
 clear c0 c1 c2 c3 c4 c5 c6 c7 f0 f1 f2 f3 f4 f5 f6 f7
 obtain ⟨⟨c0,c1,c2,c3,c4,c5,c6,c7⟩,f0,f1,f2,f3,f4,f5,f6,f7⟩:=zaa A9.out.2.1
 go_wp2_with fail
 with_reducible refine (zbG g l4 e4 l5 e5 nn _ A9.out.iat N4.out D4.out).mono ?_
 rintro en w10 ⟨rfl,hin,hgr⟩
 have A10t:=hid (A9.out.turn hin hgr)
 have R10t:=hid (R9.out.turn hin hgr)
 clear hin hgr A9 R9
 clear c0 c1 c2 c3 c4 c5 c6 c7 f0 f1 f2 f3 f4 f5 f6 f7
 obtain ⟨⟨c0,c1,c2,c3,c4,c5,c6,c7⟩,f0,f1,f2,f3,f4,f5,f6,f7⟩:=zaa A10t.out.2.1
 have A10:=hid (A10t.out.set_ 6 (.int .u64 (nn:Int)) ⟨k,(un:Int),strN fb,(qn:Int),strN pb,0,(nn:Int),0⟩ rfl)
 have R10:=hid (R10t.out.far (p:=⟨w.heap.size,6,none⟩) (by simp) (Nat.le_refl _) (.int .u64 (nn:Int)))
 clear A10t R10t
 go_wp2_with fail
 with_reducible refine (zb4 ⟨k,(un:Int),strN fb,(qn:Int),strN pb,0,(nn:Int),0⟩ false _ S5.out A10.out.parts).mono ?_
 rintro e w11 ⟨rfl,hb⟩
 have A11:=hid (A10.out.on hb)
 have R11:=hid (R10.out.on hb)
 clear hb A10 R10
 clear c0 c1 c2 c3 c4 c5 c6 c7 f0 f1 f2 f3 f4 f5 f6 f7
 obtain ⟨⟨c0,c1,c2,c3,c4,c5,c6,c7⟩,f0,f1,f2,f3,f4,f5,f6,f7⟩:=zaa A11.out.2.1
 obtain ⟨⟨d0,d1,d2,d3,d4,d5,d6,d7⟩,g0,g1,g2,g3,g4,g5,g6,g7⟩:=zaa R11.out.2.1
 have E:=hid (R11.out.put ⟨k,(un:Int),strN fb,(qn:Int),strN pb,0,(nn:Int),0⟩)
 clear R11 A11
 go_wp2
 refine bodyPost_ret (v:=val ⟨k,(un:Int),strN fb,(qn:Int),strN pb,0,(nn:Int),0⟩) (by simp [results,Tryz.results160,go_sem,d0,d1,d2,d3,d4,d5,d6,d7]) rfl ⟨rfl,E.out.iat,E.out.grown⟩
theorem zrC (g:Nat) (k:Int) (l0:List Nat) (e0:Nat) (l1:List Nat) (e1:Nat) (l2:List Nat) (e2:Nat) (l3:List Nat) (e3:Nat) (un:Nat) (fb:List Nat) (tn:Nat) (w:World) (hP:zad w) (hg:0<g) (hI:InAt w g l0 e0) (hS:zao l0 e0) (hs:Sig k true false false false false true) (d0:zb1 l0 e0=(l1,e1,un)) (d1:zc6 l1 e1 64=(l2,e2,fb)) (d2:zal l2 e2 1099511627776=(l3,e3,tn)) :
  Calls Tryz.prog 160 #[val ⟨k,0,⟨#[]⟩,0,⟨#[]⟩,0,0,0⟩,.pointer (some ⟨g,0,none⟩)] w (zbE (fun en=>en=.returned (val ⟨k,(un:Int),strN fb,0,⟨#[]⟩,0,0,(tn:Int)⟩)) g l3 e3 w):=by
 obtain ⟨s0,s1,s2,s3,s4,s5⟩:=hs
 have S0:=hid s0
 have S1:=hid s1
 have S2:=hid s2
 have S3:=hid s3
 have S4:=hid s4
 have S5:=hid s5
 have N0:=hid hS
 have N1:Hid (zao l1 e1):=hid (zbH N0.out d0).1
 have D0:=hid d0
 have N2:Hid (zao l2 e2):=hid (zbi N1.out d1).1
 have D1:=hid d1
 have N3:Hid (zao l3 e3):=hid (zax N2.out d2).1
 have W3:IntKind.i64.wrap (tn:Int)=tn:=by have:=(zax N2.out d2).2;rw [IntKind.wrap_i64];omega
 have D2:=hid d2
 have A0:=hid ((zbN.start hI hP hg ⟨k,0,⟨#[]⟩,0,⟨#[]⟩,0,0,0⟩).on ((Below.refl _ _).alloc (Nat.le_refl _) (.cells (cellsOf ⟨0,0,⟨#[]⟩,0,⟨#[]⟩,0,0,0⟩) 61)))
 have R0:Hid (zbN w ((w.alloc (.cells (cellsOf ⟨k,0,⟨#[]⟩,0,⟨#[]⟩,0,0,0⟩) 61)).alloc (.cells (cellsOf ⟨0,0,⟨#[]⟩,0,⟨#[]⟩,0,0,0⟩) 61)) g (w.heap.size+1) ⟨0,0,⟨#[]⟩,0,⟨#[]⟩,0,0,0⟩ l0 e0):=hid ⟨A0.out.1,by have h:=Blk.new (w.alloc (.cells (cellsOf ⟨k,0,⟨#[]⟩,0,⟨#[]⟩,0,0,0⟩) 61)) 61 (cellsOf ⟨0,0,⟨#[]⟩,0,⟨#[]⟩,0,0,0⟩);simpa using h,by omega,A0.out.2.2.2.1,A0.out.2.2.2.2⟩
 clear s0 s1 s2 s3 s4 s5 hP hg hI hS d0 d1 d2
 go_enter Tryz.func160,Tryz.ntmps160
 go_wp2_with fail
 with_reducible refine (zb3 ⟨k,0,⟨#[]⟩,0,⟨#[]⟩,0,0,0⟩ true _ S0.out A0.out.parts).mono ?_
 rintro e w1 ⟨rfl,hb⟩
 have A1:=hid (A0.out.on hb)
 have R1:=hid (R0.out.on hb)
 clear hb A0 R0
 obtain ⟨⟨c0,c1,c2,c3,c4,c5,c6,c7⟩,f0,f1,f2,f3,f4,f5,f6,f7⟩:=zaa A1.out.2.1
 go_wp2_with fail
 with_reducible refine (zcf g l0 e0 l1 e1 un _ A1.out.iat N0.out.fine N0.out.bytes D0.out).mono ?_
 rintro en w2 ⟨rfl,hin,hgr⟩
 have A2t:=hid (A1.out.turn hin hgr)
 have R2t:=hid (R1.out.turn hin hgr)
 clear hin hgr A1 R1
 clear c0 c1 c2 c3 c4 c5 c6 c7 f0 f1 f2 f3 f4 f5 f6 f7
 obtain ⟨⟨c0,c1,c2,c3,c4,c5,c6,c7⟩,f0,f1,f2,f3,f4,f5,f6,f7⟩:=zaa A2t.out.2.1
 have A2:=hid (A2t.out.set_ 1 (.int .u64 (un:Int)) ⟨k,(un:Int),⟨#[]⟩,0,⟨#[]⟩,0,0,0⟩ rfl)
 have R2:=hid (R2t.out.far (p:=⟨w.heap.size,1,none⟩) (by simp) (Nat.le_refl _) (.int .u64 (un:Int)))
 clear A2t R2t
 go_wp2_with fail
 with_reducible refine (zbS g l1 e1 64 64 l2 e2 fb _ A2.out.iat N1.out.fine N1.out.bytes N1.out.len rfl (by decide) D1.out).mono ?_
 rintro en w3 ⟨rfl,hin,hgr⟩
 have A3t:=hid (A2.out.turn hin hgr)
 have R3t:=hid (R2.out.turn hin hgr)
 clear hin hgr A2 R2
 clear c0 c1 c2 c3 c4 c5 c6 c7 f0 f1 f2 f3 f4 f5 f6 f7
 obtain ⟨⟨c0,c1,c2,c3,c4,c5,c6,c7⟩,f0,f1,f2,f3,f4,f5,f6,f7⟩:=zaa A3t.out.2.1
 have A3:=hid (A3t.out.set_ 2 (.string (strN fb)) ⟨k,(un:Int),strN fb,0,⟨#[]⟩,0,0,0⟩ rfl)
 have R3:=hid (R3t.out.far (p:=⟨w.heap.size,2,none⟩) (by simp) (Nat.le_refl _) (.string (strN fb)))
 clear A3t R3t
 go_wp2_with fail
 with_reducible refine (zb7 ⟨k,(un:Int),strN fb,0,⟨#[]⟩,0,0,0⟩ false _ S1.out A3.out.parts).mono ?_
 rintro e w4 ⟨rfl,hb⟩
 have A4:=hid (A3.out.on hb)
 have R4:=hid (R3.out.on hb)
 clear hb A3 R3
 clear c0 c1 c2 c3 c4 c5 c6 c7 f0 f1 f2 f3 f4 f5 f6 f7
 obtain ⟨⟨c0,c1,c2,c3,c4,c5,c6,c7⟩,f0,f1,f2,f3,f4,f5,f6,f7⟩:=zaa A4.out.2.1
 go_wp2_with fail
 with_reducible refine (zb5 ⟨k,(un:Int),strN fb,0,⟨#[]⟩,0,0,0⟩ false _ S2.out A4.out.parts).mono ?_
 rintro e w5 ⟨rfl,hb⟩
 have A5:=hid (A4.out.on hb)
 have R5:=hid (R4.out.on hb)
 clear hb A4 R4
 clear c0 c1 c2 c3 c4 c5 c6 c7 f0 f1 f2 f3 f4 f5 f6 f7
 obtain ⟨⟨c0,c1,c2,c3,c4,c5,c6,c7⟩,f0,f1,f2,f3,f4,f5,f6,f7⟩:=zaa A5.out.2.1
 go_wp2_with fail
 with_reducible refine (zca ⟨k,(un:Int),strN fb,0,⟨#[]⟩,0,0,0⟩ false _ S3.out A5.out.parts).mono ?_
 rintro e w6 ⟨rfl,hb⟩
 have A6:=hid (A5.out.on hb)
 have R6:=hid (R5.out.on hb)
 clear hb A5 R5
 clear c0 c1 c2 c3 c4 c5 c6 c7 f0 f1 f2 f3 f4 f5 f6 f7
 obtain ⟨⟨c0,c1,c2,c3,c4,c5,c6,c7⟩,f0,f1,f2,f3,f4,f5,f6,f7⟩:=zaa A6.out.2.1
 go_wp2_with fail
 with_reducible refine (zbT ⟨k,(un:Int),strN fb,0,⟨#[]⟩,0,0,0⟩ false _ S4.out A6.out.parts).mono ?_
 rintro e w7 ⟨rfl,hb⟩
 have A7:=hid (A6.out.on hb)
 have R7:=hid (R6.out.on hb)
 clear hb A6 R6
 clear c0 c1 c2 c3 c4 c5 c6 c7 f0 f1 f2 f3 f4 f5 f6 f7
 obtain ⟨⟨c0,c1,c2,c3,c4,c5,c6,c7⟩,f0,f1,f2,f3,f4,f5,f6,f7⟩:=zaa A7.out.2.1
 go_wp2_with fail
 with_reducible refine (zb4 ⟨k,(un:Int),strN fb,0,⟨#[]⟩,0,0,0⟩ true _ S5.out A7.out.parts).mono ?_
 rintro e w8 ⟨rfl,hb⟩
 have A8:=hid (A7.out.on hb)
 have R8:=hid (R7.out.on hb)
 clear hb A7 R7
 clear c0 c1 c2 c3 c4 c5 c6 c7 f0 f1 f2 f3 f4 f5 f6 f7
 obtain ⟨⟨c0,c1,c2,c3,c4,c5,c6,c7⟩,f0,f1,f2,f3,f4,f5,f6,f7⟩:=zaa A8.out.2.1
 go_wp2_with fail
 with_reducible refine (za6 g l2 e2 1099511627776 1099511627776 l3 e3 tn _ A8.out.iat N2.out.fine N2.out.bytes N2.out.len rfl D2.out).mono ?_
 rintro en w9 ⟨rfl,hin,hgr⟩
 have A9t:=hid (A8.out.turn hin hgr)
 have R9t:=hid (R8.out.turn hin hgr)
 clear hin hgr A8 R8
 clear c0 c1 c2 c3 c4 c5 c6 c7 f0 f1 f2 f3 f4 f5 f6 f7
 obtain ⟨⟨c0,c1,c2,c3,c4,c5,c6,c7⟩,f0,f1,f2,f3,f4,f5,f6,f7⟩:=zaa A9t.out.2.1
 have A9:=hid (A9t.out.set_ 7 (.int .i64 (tn:Int)) ⟨k,(un:Int),strN fb,0,⟨#[]⟩,0,0,(tn:Int)⟩ rfl)
 have R9:=hid (R9t.out.far (p:=⟨w.heap.size,7,none⟩) (by simp) (Nat.le_refl _) (.int .i64 (tn:Int)))
 clear A9t R9t
 obtain ⟨⟨d0,d1,d2,d3,d4,d5,d6,d7⟩,g0,g1,g2,g3,g4,g5,g6,g7⟩:=zaa R9.out.2.1
 have E:=hid (R9.out.put ⟨k,(un:Int),strN fb,0,⟨#[]⟩,0,0,(tn:Int)⟩)
 clear R9 A9
 go_wp2
 refine bodyPost_ret (v:=val ⟨k,(un:Int),strN fb,0,⟨#[]⟩,0,0,(tn:Int)⟩) (by simp [results,Tryz.results160,go_sem,d0,d1,d2,d3,d4,d5,d6,d7]) rfl ⟨rfl,E.out.iat,E.out.grown⟩
end Go.Proofs.YtnjdckoljmgcjaaGreatDoor
