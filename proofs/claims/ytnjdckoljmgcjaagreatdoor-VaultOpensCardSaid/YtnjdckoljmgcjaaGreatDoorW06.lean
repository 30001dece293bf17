/-
  The contract of areIn (package cmd), once for each class of kinds.
-/
import Derived.Test.YtnjdckoljmgcjaaGreatDoorW05
set_option maxRecDepth 100000
set_option maxHeartbeats 4000000
namespace Go.Proofs.YtnjdckoljmgcjaaGreatDoor
open Go.ChangeShapes Go.WideShapes Go.ChangeAt Go.RowKit Go.Lib
set_option linter.unusedSimpArgs false
set_option linter.unusedVariables false
theorem in_0 (k u:Int) (f:ByteArray) (q:Int) (s:ByteArray) (m n t:Int) (w:World) (hP:zad w) (hs:Sig k false false false false false false) (hf:f.size≤4611686018427387903) (hp:s.size≤4611686018427387903) :
  Calls Tryz.prog 194 #[val ⟨k,u,f,q,s,m,n,t⟩] w fun e w'=>e=.returned (.bool (zaA ⟨k,u,f,q,s,m,n,t⟩))∧Below w.heap.size w w':=by
 obtain ⟨s0,s1,s2,s3,s4,s5⟩:=hs
 have S0:=hid s0
 have S1:=hid s1
 have S2:=hid s2
 have S3:=hid s3
 have S4:=hid s4
 have S5:=hid s5
 obtain ⟨x0,hx0⟩:∃x,right (L f)=x:=⟨_,rfl⟩
 obtain ⟨x2,hx2⟩:∃x,right (L s)=x:=⟨_,rfl⟩
 have X0:=hid hx0
 have X2:=hid hx2
 obtain ⟨mm,hmm⟩:∃x,zgp k=x:=⟨_,rfl⟩
 have MM:=hid hmm
 have A0:=hid (Boxed.start hP ⟨k,u,f,q,s,m,n,t⟩)
 clear s0 s1 s2 s3 s4 s5 hP hx0 hx2 hmm
 go_enter Tryz.func194,Tryz.ntmps194
 go_wp2_with fail
 with_reducible refine (zb3 ⟨k,u,f,q,s,m,n,t⟩ false _ S0.out A0.out.parts).mono ?_
 rintro e w1 ⟨rfl,hb⟩
 have A1:=hid (A0.out.on hb)
 clear hb
 obtain ⟨⟨c0,c1,c2,c3,c4,c5,c6,c7⟩,f0,f1,f2,f3,f4,f5,f6,f7⟩:=zaa A1.out.1
 go_wp2_with fail
 with_reducible refine (zb7 ⟨k,u,f,q,s,m,n,t⟩ false _ S1.out A1.out.parts).mono ?_
 rintro e w2 ⟨rfl,hb⟩
 have A2:=hid (A1.out.on hb)
 clear hb
 clear c0 c1 c2 c3 c4 c5 c6 c7 f0 f1 f2 f3 f4 f5 f6 f7
 obtain ⟨⟨c0,c1,c2,c3,c4,c5,c6,c7⟩,f0,f1,f2,f3,f4,f5,f6,f7⟩:=zaa A2.out.1
 go_wp2_with fail
 with_reducible refine (zb5 ⟨k,u,f,q,s,m,n,t⟩ false _ S2.out A2.out.parts).mono ?_
 rintro e w3 ⟨rfl,hb⟩
 have A3:=hid (A2.out.on hb)
 clear hb
 clear c0 c1 c2 c3 c4 c5 c6 c7 f0 f1 f2 f3 f4 f5 f6 f7
 obtain ⟨⟨c0,c1,c2,c3,c4,c5,c6,c7⟩,f0,f1,f2,f3,f4,f5,f6,f7⟩:=zaa A3.out.1
 go_wp2_with fail
 with_reducible refine (zca ⟨k,u,f,q,s,m,n,t⟩ false _ S3.out A3.out.parts).mono ?_
 rintro e w4 ⟨rfl,hb⟩
 have A4:=hid (A3.out.on hb)
 clear hb
 clear c0 c1 c2 c3 c4 c5 c6 c7 f0 f1 f2 f3 f4 f5 f6 f7
 obtain ⟨⟨c0,c1,c2,c3,c4,c5,c6,c7⟩,f0,f1,f2,f3,f4,f5,f6,f7⟩:=zaa A4.out.1
 go_wp2_with fail
 refine wp_region_held_drew (S:=(fun w'=>w'.cell? ⟨w.heap.size,0,none⟩=some (.int .i64 k)∧w'.cell? ⟨w.heap.size,1,none⟩=some (.int .u64 u)∧w'.cell? ⟨w.heap.size,2,none⟩=some (.string f)∧w'.cell? ⟨w.heap.size,3,none⟩=some (.int .u64 q)∧w'.cell? ⟨w.heap.size,4,none⟩=some (.string s)∧w'.cell? ⟨w.heap.size,5,none⟩=some (.int .i64 m)∧w'.cell? ⟨w.heap.size,6,none⟩=some (.int .u64 n)∧w'.cell? ⟨w.heap.size,7,none⟩=some (.int .i64 t))) (by kernel_rfl) (by exact (zaa A4.out.1).1) (fun hHeld=>?_)
 refine ta 0 rfl hHeld ?_
 try simp only [Act.put,g1,g2,g3,g4,g5,g6]
 refine wpAnyH_ready (rs:=[1]) (by kernel_rfl) (by simp) ?_
 refine AllReadyH.cons (o:=_) rfl (fun K hK=>?_) AllReadyH.nil
 go_simp
 go_at_call 173
 with_reducible refine (zbT ⟨k,u,f,q,s,m,n,t⟩ false _ S4.out (zad.drew A4.out.parts)).mono ?_
 rintro e w5 ⟨rfl,hb5⟩
 have A5:=hid (A4.out.drew.on hb5)
 refine hK.out _ _ (by exact (zaa A5.out.1).1) (fun hHeld=>?_)
 clear hK K
 try simp only [Act.put,g1,g2,g3,g4,g5,g6]
 refine ta 2 rfl hHeld ?_
 refine tu 3 rfl hHeld ?_
 try simp only [Act.put,g1,g2,g3,g4,g5,g6]
 refine tu 4 rfl hHeld ?_
 try simp only [Act.put,g1,g2,g3,g4,g5,g6]
 refine tu 5 rfl hHeld ?_
 try simp only [Act.put,g1,g2,g3,g4,g5,g6]
 refine tu 6 rfl hHeld ?_
 try simp only [Act.put,g1,g2,g3,g4,g5,g6]
 refine tu 7 rfl hHeld ?_
 try simp only [Act.put,g1,g2,g3,g4,g5,g6]
 refine tu 8 rfl hHeld ?_
 try simp only [Act.put,g1,g2,g3,g4,g5,g6]
 refine tu 9 rfl hHeld ?_
 try simp only [Act.put,g1,g2,g3,g4,g5,g6]
 refine tu 10 rfl hHeld ?_
 try simp only [Act.put,g1,g2,g3,g4,g5,g6]
 refine tu 11 rfl hHeld ?_
 try simp only [Act.put,g1,g2,g3,g4,g5,g6]
 refine tu 12 rfl hHeld ?_
 try simp only [Act.put,g1,g2,g3,g4,g5,g6]
 refine ta 13 rfl hHeld ?_
 refine ta 14 rfl hHeld ?_
 try simp only [Act.put,g1,g2,g3,g4,g5,g6]
 refine wpAnyH_done (by kernel_rfl) ?_ _
 clear hHeld hb5
 clear c0 c1 c2 c3 c4 c5 c6 c7 f0 f1 f2 f3 f4 f5 f6 f7
 obtain ⟨⟨c0,c1,c2,c3,c4,c5,c6,c7⟩,f0,f1,f2,f3,f4,f5,f6,f7⟩:=zaa A5.out.1
 go_wp2_with fail
 with_reducible refine (zb4 ⟨k,u,f,q,s,m,n,t⟩ false _ S5.out A5.out.parts).mono ?_
 rintro e w6 ⟨rfl,hb⟩
 have A6:=hid (A5.out.on hb)
 clear hb
 clear c0 c1 c2 c3 c4 c5 c6 c7 f0 f1 f2 f3 f4 f5 f6 f7
 obtain ⟨⟨c0,c1,c2,c3,c4,c5,c6,c7⟩,f0,f1,f2,f3,f4,f5,f6,f7⟩:=zaa A6.out.1
 have E:zaA ⟨k,u,f,q,s,m,n,t⟩=true:=by simp [zaA,in0,in1,in2,in3,in4,in5,S0.out,S1.out,S2.out,S3.out,S4.out,S5.out]
 have HE:=hid E
 clear E
 go_wp2
 go_ret
 exact ⟨zab HE.out.symm,A6.out.below⟩
theorem in_1 (k u:Int) (f:ByteArray) (q:Int) (s:ByteArray) (m n t:Int) (w:World) (hP:zad w) (hs:Sig k true true false false true true) (hf:f.size≤4611686018427387903) (hp:s.size≤4611686018427387903) :
  Calls Tryz.prog 194 #[val ⟨k,u,f,q,s,m,n,t⟩] w fun e w'=>e=.returned (.bool (zaA ⟨k,u,f,q,s,m,n,t⟩))∧Below w.heap.size w w':=by
 obtain ⟨s0,s1,s2,s3,s4,s5⟩:=hs
 have S0:=hid s0
 have S1:=hid s1
 have S2:=hid s2
 have S3:=hid s3
 have S4:=hid s4
 have S5:=hid s5
 obtain ⟨x0,hx0⟩:∃x,right (L f)=x:=⟨_,rfl⟩
 obtain ⟨x2,hx2⟩:∃x,right (L s)=x:=⟨_,rfl⟩
 have X0:=hid hx0
 have X2:=hid hx2
 obtain ⟨mm,hmm⟩:∃x,zgp k=x:=⟨_,rfl⟩
 have MM:=hid hmm
 have A0:=hid (Boxed.start hP ⟨k,u,f,q,s,m,n,t⟩)
 clear s0 s1 s2 s3 s4 s5 hP hx0 hx2 hmm
 go_enter Tryz.func194,Tryz.ntmps194
 go_wp2_with fail
 with_reducible refine (zb3 ⟨k,u,f,q,s,m,n,t⟩ true _ S0.out A0.out.parts).mono ?_
 rintro e w1 ⟨rfl,hb⟩
 have A1:=hid (A0.out.on hb)
 clear hb
 obtain ⟨⟨c0,c1,c2,c3,c4,c5,c6,c7⟩,f0,f1,f2,f3,f4,f5,f6,f7⟩:=zaa A1.out.1
 cases x0
 ·go_wp2_with fail
  with_reducible refine (zaY f _ hf).mono ?_
  rw [X0.out]
  rintro e w1b ⟨rfl,hb⟩
  have A1b:=hid (A1.out.on hb)
  clear hb A1
  clear c0 c1 c2 c3 c4 c5 c6 c7 f0 f1 f2 f3 f4 f5 f6 f7
  obtain ⟨⟨c0,c1,c2,c3,c4,c5,c6,c7⟩,f0,f1,f2,f3,f4,f5,f6,f7⟩:=zaa A1b.out.1
  have E:zaA ⟨k,u,f,q,s,m,n,t⟩=false:=by simp [zaA,in0,in1,in2,in3,in4,in5,S0.out,S1.out,S2.out,S3.out,S4.out,S5.out,X0.out]
  have HE:=hid E
  clear E
  go_wp2
  go_ret
  exact ⟨zab HE.out.symm,A1b.out.below⟩
 ·go_wp2_with fail
  with_reducible refine (zaY f _ hf).mono ?_
  rw [X0.out]
  rintro e w1b ⟨rfl,hb⟩
  have A1b:=hid (A1.out.on hb)
  clear hb A1
  clear c0 c1 c2 c3 c4 c5 c6 c7 f0 f1 f2 f3 f4 f5 f6 f7
  obtain ⟨⟨c0,c1,c2,c3,c4,c5,c6,c7⟩,f0,f1,f2,f3,f4,f5,f6,f7⟩:=zaa A1b.out.1
  go_wp2_with fail
  with_reducible refine (zb7 ⟨k,u,f,q,s,m,n,t⟩ true _ S1.out A1b.out.parts).mono ?_
  rintro e w2 ⟨rfl,hb⟩
  have A2:=hid (A1b.out.on hb)
  clear hb
  clear c0 c1 c2 c3 c4 c5 c6 c7 f0 f1 f2 f3 f4 f5 f6 f7
  obtain ⟨⟨c0,c1,c2,c3,c4,c5,c6,c7⟩,f0,f1,f2,f3,f4,f5,f6,f7⟩:=zaa A2.out.1
  rcases Decidable.em (q<1) with hq | hq
  ·have hq':=hq
   have E:zaA ⟨k,u,f,q,s,m,n,t⟩=false:=by simp [zaA,in0,in1,in2,in3,in4,in5,S0.out,S1.out,S2.out,S3.out,S4.out,S5.out,X0.out];omega
   have HE:=hid E
   clear E
   go_wp2
   go_ret
   exact ⟨zab HE.out.symm,A2.out.below⟩
  ·have hq':=hq
   go_wp2_with fail
   with_reducible refine (zb5 ⟨k,u,f,q,s,m,n,t⟩ false _ S2.out A2.out.parts).mono ?_
   rintro e w3 ⟨rfl,hb⟩
   have A3:=hid (A2.out.on hb)
   clear hb
   clear c0 c1 c2 c3 c4 c5 c6 c7 f0 f1 f2 f3 f4 f5 f6 f7
   obtain ⟨⟨c0,c1,c2,c3,c4,c5,c6,c7⟩,f0,f1,f2,f3,f4,f5,f6,f7⟩:=zaa A3.out.1
   go_wp2_with fail
   with_reducible refine (zca ⟨k,u,f,q,s,m,n,t⟩ false _ S3.out A3.out.parts).mono ?_
   rintro e w4 ⟨rfl,hb⟩
   have A4:=hid (A3.out.on hb)
   clear hb
   clear c0 c1 c2 c3 c4 c5 c6 c7 f0 f1 f2 f3 f4 f5 f6 f7
   obtain ⟨⟨c0,c1,c2,c3,c4,c5,c6,c7⟩,f0,f1,f2,f3,f4,f5,f6,f7⟩:=zaa A4.out.1
   rcases Decidable.em (n<1) with hn | hn
   ·have hd:decide (n<1)=true:=decide_eq_true hn
    go_wp2_with fail
    refine wp_region_held_drew (S:=(fun w'=>w'.cell? ⟨w.heap.size,0,none⟩=some (.int .i64 k)∧w'.cell? ⟨w.heap.size,1,none⟩=some (.int .u64 u)∧w'.cell? ⟨w.heap.size,2,none⟩=some (.string f)∧w'.cell? ⟨w.heap.size,3,none⟩=some (.int .u64 q)∧w'.cell? ⟨w.heap.size,4,none⟩=some (.string s)∧w'.cell? ⟨w.heap.size,5,none⟩=some (.int .i64 m)∧w'.cell? ⟨w.heap.size,6,none⟩=some (.int .u64 n)∧w'.cell? ⟨w.heap.size,7,none⟩=some (.int .i64 t))) (by kernel_rfl) (by exact (zaa A4.out.1).1) (fun hHeld=>?_)
    refine ta 0 rfl hHeld ?_
    try simp only [Act.put,g1,g2,g3,g4,g5,g6]
    refine wpAnyH_ready (rs:=[1]) (by kernel_rfl) (by simp) ?_
    refine AllReadyH.cons (o:=_) rfl (fun K hK=>?_) AllReadyH.nil
    go_simp
    go_at_call 173
    with_reducible refine (zbT ⟨k,u,f,q,s,m,n,t⟩ true _ S4.out (zad.drew A4.out.parts)).mono ?_
    rintro e w5 ⟨rfl,hb5⟩
    have A5:=hid (A4.out.drew.on hb5)
    refine hK.out _ _ (by exact (zaa A5.out.1).1) (fun hHeld=>?_)
    clear hK K
    try simp only [Act.put,g1,g2,g3,g4,g5,g6]
    refine ta 2 rfl hHeld ?_
    refine ta 3 rfl hHeld ?_
    refine ta 4 rfl hHeld ?_
    refine ta 5 rfl hHeld ?_
    refine ta 6 rfl hHeld ?_
    refine tu 7 rfl hHeld ?_
    try simp only [Act.put,g1,g2,g3,g4,g5,g6]
    refine tu 8 rfl hHeld ?_
    try simp only [Act.put,g1,g2,g3,g4,g5,g6]
    refine tu 9 rfl hHeld ?_
    try simp only [Act.put,g1,g2,g3,g4,g5,g6]
    refine tu 10 rfl hHeld ?_
    try simp only [Act.put,g1,g2,g3,g4,g5,g6]
    refine tu 11 rfl hHeld ?_
    try simp only [Act.put,g1,g2,g3,g4,g5,g6]
    refine ta 12 rfl hHeld ?_
    refine ta 13 rfl hHeld ?_
    refine ta 14 rfl hHeld ?_
    try simp only [Act.put,g1,g2,g3,g4,g5,g6]
    refine wpAnyH_done (by kernel_rfl) ?_ _
    clear hHeld hb5
    clear c0 c1 c2 c3 c4 c5 c6 c7 f0 f1 f2 f3 f4 f5 f6 f7
    obtain ⟨⟨c0,c1,c2,c3,c4,c5,c6,c7⟩,f0,f1,f2,f3,f4,f5,f6,f7⟩:=zaa A5.out.1
    have E:zaA ⟨k,u,f,q,s,m,n,t⟩=false:=by simp [zaA,in0,in1,in2,in3,in4,in5,S0.out,S1.out,S2.out,S3.out,S4.out,S5.out,X0.out,MM.out];omega
    have HE:=hid E
    clear E
    go_wp2
    go_ret
    exact ⟨zab HE.out.symm,A5.out.below⟩
   ·have hd:decide (n<1)=false:=decide_eq_false hn
    rcases Decidable.em (mm<n) with hn2 | hn2
    ·have hd2:decide (mm<n)=true:=decide_eq_true hn2
     go_wp2_with fail
     go_region_held3 (fun w'=>w'.cell? ⟨w.heap.size,0,none⟩=some (.int .i64 k)∧w'.cell? ⟨w.heap.size,1,none⟩=some (.int .u64 u)∧w'.cell? ⟨w.heap.size,2,none⟩=some (.string f)∧w'.cell? ⟨w.heap.size,3,none⟩=some (.int .u64 q)∧w'.cell? ⟨w.heap.size,4,none⟩=some (.string s)∧w'.cell? ⟨w.heap.size,5,none⟩=some (.int .i64 m)∧w'.cell? ⟨w.heap.size,6,none⟩=some (.int .u64 n)∧w'.cell? ⟨w.heap.size,7,none⟩=some (.int .i64 t))
      (first | exact (zaa A4.out.1).1 | exact (zaa A4.out.drew.1).1 | exact (zaa A5.out.1).1 | exact (zaa A5b.out.1).1)
      (first
       | (go_at_call 173;(with_reducible refine (zbT ⟨k,u,f,q,s,m,n,t⟩ true _ S4.out (zad.drew A4.out.parts)).mono ?_);rintro e w5 ⟨rfl,hb5⟩;have A5:=hid (A4.out.drew.on hb5))
       | (go_at_call 205;(with_reducible refine (zfh ⟨k,u,f,q,s,m,n,t⟩ _).mono ?_);rintro e w5b ⟨rfl,hb5b⟩;rw [MM.out];have A5b:=hid (A5.out.on hb5b)))
     rename_i hHeld
     clear hHeld hb5 hb5b A5
     clear c0 c1 c2 c3 c4 c5 c6 c7 f0 f1 f2 f3 f4 f5 f6 f7
     obtain ⟨⟨c0,c1,c2,c3,c4,c5,c6,c7⟩,f0,f1,f2,f3,f4,f5,f6,f7⟩:=zaa A5b.out.1
     have E:zaA ⟨k,u,f,q,s,m,n,t⟩=false:=by simp [zaA,in0,in1,in2,in3,in4,in5,S0.out,S1.out,S2.out,S3.out,S4.out,S5.out,X0.out,MM.out];omega
     have HE:=hid E
     clear E
     go_wp2
     go_ret
     exact ⟨zab HE.out.symm,A5b.out.below⟩
    ·have hd2:decide (mm<n)=false:=decide_eq_false hn2
     go_wp2_with fail
     go_region_held3 (fun w'=>w'.cell? ⟨w.heap.size,0,none⟩=some (.int .i64 k)∧w'.cell? ⟨w.heap.size,1,none⟩=some (.int .u64 u)∧w'.cell? ⟨w.heap.size,2,none⟩=some (.string f)∧w'.cell? ⟨w.heap.size,3,none⟩=some (.int .u64 q)∧w'.cell? ⟨w.heap.size,4,none⟩=some (.string s)∧w'.cell? ⟨w.heap.size,5,none⟩=some (.int .i64 m)∧w'.cell? ⟨w.heap.size,6,none⟩=some (.int .u64 n)∧w'.cell? ⟨w.heap.size,7,none⟩=some (.int .i64 t))
      (first | exact (zaa A4.out.1).1 | exact (zaa A4.out.drew.1).1 | exact (zaa A5.out.1).1 | exact (zaa A5b.out.1).1)
      (first
       | (go_at_call 173;(with_reducible refine (zbT ⟨k,u,f,q,s,m,n,t⟩ true _ S4.out (zad.drew A4.out.parts)).mono ?_);rintro e w5 ⟨rfl,hb5⟩;have A5:=hid (A4.out.drew.on hb5))
       | (go_at_call 205;(with_reducible refine (zfh ⟨k,u,f,q,s,m,n,t⟩ _).mono ?_);rintro e w5b ⟨rfl,hb5b⟩;rw [MM.out];have A5b:=hid (A5.out.on hb5b)))
     rename_i hHeld
     clear hHeld hb5 hb5b A5
     clear c0 c1 c2 c3 c4 c5 c6 c7 f0 f1 f2 f3 f4 f5 f6 f7
     obtain ⟨⟨c0,c1,c2,c3,c4,c5,c6,c7⟩,f0,f1,f2,f3,f4,f5,f6,f7⟩:=zaa A5b.out.1
     go_wp2_with fail
     with_reducible refine (zb4 ⟨k,u,f,q,s,m,n,t⟩ true _ S5.out A5b.out.parts).mono ?_
     rintro e w6 ⟨rfl,hb⟩
     have A6:=hid (A5b.out.on hb)
     clear hb
     clear c0 c1 c2 c3 c4 c5 c6 c7 f0 f1 f2 f3 f4 f5 f6 f7
     obtain ⟨⟨c0,c1,c2,c3,c4,c5,c6,c7⟩,f0,f1,f2,f3,f4,f5,f6,f7⟩:=zaa A6.out.1
     rcases Decidable.em (t<0) with ht | ht
     ·have ht':=ht
      have E:zaA ⟨k,u,f,q,s,m,n,t⟩=false:=by simp [zaA,in0,in1,in2,in3,in4,in5,S0.out,S1.out,S2.out,S3.out,S4.out,S5.out,X0.out,MM.out];omega
      have HE:=hid E
      clear E
      go_wp2
      go_ret
      exact ⟨zab HE.out.symm,A6.out.below⟩
     ·rcases Decidable.em (1099511627776<t) with ht2 | ht2
      ·have ht':=ht
       have E:zaA ⟨k,u,f,q,s,m,n,t⟩=false:=by simp [zaA,in0,in1,in2,in3,in4,in5,S0.out,S1.out,S2.out,S3.out,S4.out,S5.out,X0.out,MM.out];omega
       have HE:=hid E
       clear E
       go_wp2
       go_ret
       exact ⟨zab HE.out.symm,A6.out.below⟩
      ·have ht':=ht
       have E:zaA ⟨k,u,f,q,s,m,n,t⟩=true:=by simp [zaA,in0,in1,in2,in3,in4,in5,S0.out,S1.out,S2.out,S3.out,S4.out,S5.out,X0.out,MM.out];omega
       have HE:=hid E
       clear E
       go_wp2
       go_ret
       exact ⟨zab HE.out.symm,A6.out.below⟩
theorem in_2 (k u:Int) (f:ByteArray) (q:Int) (s:ByteArray) (m n t:Int) (w:World) (hP:zad w) (hs:Sig k true true false false false false) (hf:f.size≤4611686018427387903) (hp:s.size≤4611686018427387903) :
  Calls Tryz.prog 194 #[val ⟨k,u,f,q,s,m,n,t⟩] w fun e w'=>e=.returned (.bool (zaA ⟨k,u,f,q,s,m,n,t⟩))∧Below w.heap.size w w':=by
 obtain ⟨s0,s1,s2,s3,s4,s5⟩:=hs
 have S0:=hid s0
 have S1:=hid s1
 have S2:=hid s2
 have S3:=hid s3
 have S4:=hid s4
 have S5:=hid s5
 obtain ⟨x0,hx0⟩:∃x,right (L f)=x:=⟨_,rfl⟩
 obtain ⟨x2,hx2⟩:∃x,right (L s)=x:=⟨_,rfl⟩
 have X0:=hid hx0
 have X2:=hid hx2
 obtain ⟨mm,hmm⟩:∃x,zgp k=x:=⟨_,rfl⟩
 have MM:=hid hmm
 have A0:=hid (Boxed.start hP ⟨k,u,f,q,s,m,n,t⟩)
 clear s0 s1 s2 s3 s4 s5 hP hx0 hx2 hmm
 go_enter Tryz.func194,Tryz.ntmps194
 go_wp2_with fail
 with_reducible refine (zb3 ⟨k,u,f,q,s,m,n,t⟩ true _ S0.out A0.out.parts).mono ?_
 rintro e w1 ⟨rfl,hb⟩
 have A1:=hid (A0.out.on hb)
 clear hb
 obtain ⟨⟨c0,c1,c2,c3,c4,c5,c6,c7⟩,f0,f1,f2,f3,f4,f5,f6,f7⟩:=zaa A1.out.1
 cases x0
 ·go_wp2_with fail
  with_reducible refine (zaY f _ hf).mono ?_
  rw [X0.out]
  rintro e w1b ⟨rfl,hb⟩
  have A1b:=hid (A1.out.on hb)
  clear hb A1
  clear c0 c1 c2 c3 c4 c5 c6 c7 f0 f1 f2 f3 f4 f5 f6 f7
  obtain ⟨⟨c0,c1,c2,c3,c4,c5,c6,c7⟩,f0,f1,f2,f3,f4,f5,f6,f7⟩:=zaa A1b.out.1
  have E:zaA ⟨k,u,f,q,s,m,n,t⟩=false:=by simp [zaA,in0,in1,in2,in3,in4,in5,S0.out,S1.out,S2.out,S3.out,S4.out,S5.out,X0.out]
  have HE:=hid E
  clear E
  go_wp2
  go_ret
  exact ⟨zab HE.out.symm,A1b.out.below⟩
 ·go_wp2_with fail
  with_reducible refine (zaY f _ hf).mono ?_
  rw [X0.out]
  rintro e w1b ⟨rfl,hb⟩
  have A1b:=hid (A1.out.on hb)
  clear hb A1
  clear c0 c1 c2 c3 c4 c5 c6 c7 f0 f1 f2 f3 f4 f5 f6 f7
  obtain ⟨⟨c0,c1,c2,c3,c4,c5,c6,c7⟩,f0,f1,f2,f3,f4,f5,f6,f7⟩:=zaa A1b.out.1
  go_wp2_with fail
  with_reducible refine (zb7 ⟨k,u,f,q,s,m,n,t⟩ true _ S1.out A1b.out.parts).mono ?_
  rintro e w2 ⟨rfl,hb⟩
  have A2:=hid (A1b.out.on hb)
  clear hb
  clear c0 c1 c2 c3 c4 c5 c6 c7 f0 f1 f2 f3 f4 f5 f6 f7
  obtain ⟨⟨c0,c1,c2,c3,c4,c5,c6,c7⟩,f0,f1,f2,f3,f4,f5,f6,f7⟩:=zaa A2.out.1
  rcases Decidable.em (q<1) with hq | hq
  ·have hq':=hq
   have E:zaA ⟨k,u,f,q,s,m,n,t⟩=false:=by simp [zaA,in0,in1,in2,in3,in4,in5,S0.out,S1.out,S2.out,S3.out,S4.out,S5.out,X0.out];omega
   have HE:=hid E
   clear E
   go_wp2
   go_ret
   exact ⟨zab HE.out.symm,A2.out.below⟩
  ·have hq':=hq
   go_wp2_with fail
   with_reducible refine (zb5 ⟨k,u,f,q,s,m,n,t⟩ false _ S2.out A2.out.parts).mono ?_
   rintro e w3 ⟨rfl,hb⟩
   have A3:=hid (A2.out.on hb)
   clear hb
   clear c0 c1 c2 c3 c4 c5 c6 c7 f0 f1 f2 f3 f4 f5 f6 f7
   obtain ⟨⟨c0,c1,c2,c3,c4,c5,c6,c7⟩,f0,f1,f2,f3,f4,f5,f6,f7⟩:=zaa A3.out.1
   go_wp2_with fail
   with_reducible refine (zca ⟨k,u,f,q,s,m,n,t⟩ false _ S3.out A3.out.parts).mono ?_
   rintro e w4 ⟨rfl,hb⟩
   have A4:=hid (A3.out.on hb)
   clear hb
   clear c0 c1 c2 c3 c4 c5 c6 c7 f0 f1 f2 f3 f4 f5 f6 f7
   obtain ⟨⟨c0,c1,c2,c3,c4,c5,c6,c7⟩,f0,f1,f2,f3,f4,f5,f6,f7⟩:=zaa A4.out.1
   go_wp2_with fail
   refine wp_region_held_drew (S:=(fun w'=>w'.cell? ⟨w.heap.size,0,none⟩=some (.int .i64 k)∧w'.cell? ⟨w.heap.size,1,none⟩=some (.int .u64 u)∧w'.cell? ⟨w.heap.size,2,none⟩=some (.string f)∧w'.cell? ⟨w.heap.size,3,none⟩=some (.int .u64 q)∧w'.cell? ⟨w.heap.size,4,none⟩=some (.string s)∧w'.cell? ⟨w.heap.size,5,none⟩=some (.int .i64 m)∧w'.cell? ⟨w.heap.size,6,none⟩=some (.int .u64 n)∧w'.cell? ⟨w.heap.size,7,none⟩=some (.int .i64 t))) (by kernel_rfl) (by exact (zaa A4.out.1).1) (fun hHeld=>?_)
   refine ta 0 rfl hHeld ?_
   try simp only [Act.put,g1,g2,g3,g4,g5,g6]
   refine wpAnyH_ready (rs:=[1]) (by kernel_rfl) (by simp) ?_
   refine AllReadyH.cons (o:=_) rfl (fun K hK=>?_) AllReadyH.nil
   go_simp
   go_at_call 173
   with_reducible refine (zbT ⟨k,u,f,q,s,m,n,t⟩ false _ S4.out (zad.drew A4.out.parts)).mono ?_
   rintro e w5 ⟨rfl,hb5⟩
   have A5:=hid (A4.out.drew.on hb5)
   refine hK.out _ _ (by exact (zaa A5.out.1).1) (fun hHeld=>?_)
   clear hK K
   try simp only [Act.put,g1,g2,g3,g4,g5,g6]
   refine ta 2 rfl hHeld ?_
   refine tu 3 rfl hHeld ?_
   try simp only [Act.put,g1,g2,g3,g4,g5,g6]
   refine tu 4 rfl hHeld ?_
   try simp only [Act.put,g1,g2,g3,g4,g5,g6]
   refine tu 5 rfl hHeld ?_
   try simp only [Act.put,g1,g2,g3,g4,g5,g6]
   refine tu 6 rfl hHeld ?_
   try simp only [Act.put,g1,g2,g3,g4,g5,g6]
   refine tu 7 rfl hHeld ?_
   try simp only [Act.put,g1,g2,g3,g4,g5,g6]
   refine tu 8 rfl hHeld ?_
   try simp only [Act.put,g1,g2,g3,g4,g5,g6]
   refine tu 9 rfl hHeld ?_
   try simp only [Act.put,g1,g2,g3,g4,g5,g6]
   refine tu 10 rfl hHeld ?_
   try simp only [Act.put,g1,g2,g3,g4,g5,g6]
   refine tu 11 rfl hHeld ?_
   try simp only [Act.put,g1,g2,g3,g4,g5,g6]
   refine tu 12 rfl hHeld ?_
   try simp only [Act.put,g1,g2,g3,g4,g5,g6]
   refine ta 13 rfl hHeld ?_
   refine ta 14 rfl hHeld ?_
   try simp only [Act.put,g1,g2,g3,g4,g5,g6]
   refine wpAnyH_done (by kernel_rfl) ?_ _
   clear hHeld hb5
   clear c0 c1 c2 c3 c4 c5 c6 c7 f0 f1 f2 f3 f4 f5 f6 f7
   obtain ⟨⟨c0,c1,c2,c3,c4,c5,c6,c7⟩,f0,f1,f2,f3,f4,f5,f6,f7⟩:=zaa A5.out.1
   go_wp2_with fail
   with_reducible refine (zb4 ⟨k,u,f,q,s,m,n,t⟩ false _ S5.out A5.out.parts).mono ?_
   rintro e w6 ⟨rfl,hb⟩
   have A6:=hid (A5.out.on hb)
   clear hb
   clear c0 c1 c2 c3 c4 c5 c6 c7 f0 f1 f2 f3 f4 f5 f6 f7
   obtain ⟨⟨c0,c1,c2,c3,c4,c5,c6,c7⟩,f0,f1,f2,f3,f4,f5,f6,f7⟩:=zaa A6.out.1
   have E:zaA ⟨k,u,f,q,s,m,n,t⟩=true:=by simp [zaA,in0,in1,in2,in3,in4,in5,S0.out,S1.out,S2.out,S3.out,S4.out,S5.out,X0.out];omega
   have HE:=hid E
   clear E
   go_wp2
   go_ret
   exact ⟨zab HE.out.symm,A6.out.below⟩
theorem in_3 (k u:Int) (f:ByteArray) (q:Int) (s:ByteArray) (m n t:Int) (w:World) (hP:zad w) (hs:Sig k true true false false false true) (hf:f.size≤4611686018427387903) (hp:s.size≤4611686018427387903) :
  Calls Tryz.prog 194 #[val ⟨k,u,f,q,s,m,n,t⟩] w fun e w'=>e=.returned (.bool (zaA ⟨k,u,f,q,s,m,n,t⟩))∧Below w.heap.size w w':=by
 obtain ⟨s0,s1,s2,s3,s4,s5⟩:=hs
 have S0:=hid s0
 have S1:=hid s1
 have S2:=hid s2
 have S3:=hid s3
 have S4:=hid s4
 have S5:=hid s5
 obtain ⟨x0,hx0⟩:∃x,right (L f)=x:=⟨_,rfl⟩
 obtain ⟨x2,hx2⟩:∃x,right (L s)=x:=⟨_,rfl⟩
 have X0:=hid hx0
 have X2:=hid hx2
 obtain ⟨mm,hmm⟩:∃x,zgp k=x:=⟨_,rfl⟩
 have MM:=hid hmm
 have A0:=hid (Boxed.start hP ⟨k,u,f,q,s,m,n,t⟩)
 clear s0 s1 s2 s3 s4 s5 hP hx0 hx2 hmm
 go_enter Tryz.func194,Tryz.ntmps194
 go_wp2_with fail
 with_reducible refine (zb3 ⟨k,u,f,q,s,m,n,t⟩ true _ S0.out A0.out.parts).mono ?_
 rintro e w1 ⟨rfl,hb⟩
 have A1:=hid (A0.out.on hb)
 clear hb
 obtain ⟨⟨c0,c1,c2,c3,c4,c5,c6,c7⟩,f0,f1,f2,f3,f4,f5,f6,f7⟩:=zaa A1.out.1
 cases x0
 ·go_wp2_with fail
  with_reducible refine (zaY f _ hf).mono ?_
  rw [X0.out]
  rintro e w1b ⟨rfl,hb⟩
  have A1b:=hid (A1.out.on hb)
  clear hb A1
  clear c0 c1 c2 c3 c4 c5 c6 c7 f0 f1 f2 f3 f4 f5 f6 f7
  obtain ⟨⟨c0,c1,c2,c3,c4,c5,c6,c7⟩,f0,f1,f2,f3,f4,f5,f6,f7⟩:=zaa A1b.out.1
  have E:zaA ⟨k,u,f,q,s,m,n,t⟩=false:=by simp [zaA,in0,in1,in2,in3,in4,in5,S0.out,S1.out,S2.out,S3.out,S4.out,S5.out,X0.out]
  have HE:=hid E
  clear E
  go_wp2
  go_ret
  exact ⟨zab HE.out.symm,A1b.out.below⟩
 ·go_wp2_with fail
  with_reducible refine (zaY f _ hf).mono ?_
  rw [X0.out]
  rintro e w1b ⟨rfl,hb⟩
  have A1b:=hid (A1.out.on hb)
  clear hb A1
  clear c0 c1 c2 c3 c4 c5 c6 c7 f0 f1 f2 f3 f4 f5 f6 f7
  obtain ⟨⟨c0,c1,c2,c3,c4,c5,c6,c7⟩,f0,f1,f2,f3,f4,f5,f6,f7⟩:=zaa A1b.out.1
  go_wp2_with fail
  with_reducible refine (zb7 ⟨k,u,f,q,s,m,n,t⟩ true _ S1.out A1b.out.parts).mono ?_
  rintro e w2 ⟨rfl,hb⟩
  have A2:=hid (A1b.out.on hb)
  clear hb
  clear c0 c1 c2 c3 c4 c5 c6 c7 f0 f1 f2 f3 f4 f5 f6 f7
  obtain ⟨⟨c0,c1,c2,c3,c4,c5,c6,c7⟩,f0,f1,f2,f3,f4,f5,f6,f7⟩:=zaa A2.out.1
  rcases Decidable.em (q<1) with hq | hq
  ·have hq':=hq
   have E:zaA ⟨k,u,f,q,s,m,n,t⟩=false:=by simp [zaA,in0,in1,in2,in3,in4,in5,S0.out,S1.out,S2.out,S3.out,S4.out,S5.out,X0.out];omega
   have HE:=hid E
   clear E
   go_wp2
   go_ret
   exact ⟨zab HE.out.symm,A2.out.below⟩
  ·have hq':=hq
   go_wp2_with fail
   with_reducible refine (zb5 ⟨k,u,f,q,s,m,n,t⟩ false _ S2.out A2.out.parts).mono ?_
   rintro e w3 ⟨rfl,hb⟩
   have A3:=hid (A2.out.on hb)
   clear hb
   clear c0 c1 c2 c3 c4 c5 c6 c7 f0 f1 f2 f3 f4 f5 f6 f7
   obtain ⟨⟨c0,c1,c2,c3,c4,c5,c6,c7⟩,f0,f1,f2,f3,f4,f5,f6,f7⟩:=zaa A3.out.1
   go_wp2_with fail
   with_reducible refine (zca ⟨k,u,f,q,s,m,n,t⟩ false _ S3.out A3.out.parts).mono ?_
   rintro e w4 ⟨rfl,hb⟩
   have A4:=hid (A3.out.on hb)
   clear hb
   clear c0 c1 c2 c3 c4 c5 c6 c7 f0 f1 f2 f3 f4 f5 f6 f7
   obtain ⟨⟨c0,c1,c2,c3,c4,c5,c6,c7⟩,f0,f1,f2,f3,f4,f5,f6,f7⟩:=zaa A4.out.1
   go_wp2_with fail
   refine wp_region_held_drew (S:=(fun w'=>w'.cell? ⟨w.heap.size,0,none⟩=some (.int .i64 k)∧w'.cell? ⟨w.heap.size,1,none⟩=some (.int .u64 u)∧w'.cell? ⟨w.heap.size,2,none⟩=some (.string f)∧w'.cell? ⟨w.heap.size,3,none⟩=some (.int .u64 q)∧w'.cell? ⟨w.heap.size,4,none⟩=some (.string s)∧w'.cell? ⟨w.heap.size,5,none⟩=some (.int .i64 m)∧w'.cell? ⟨w.heap.size,6,none⟩=some (.int .u64 n)∧w'.cell? ⟨w.heap.size,7,none⟩=some (.int .i64 t))) (by kernel_rfl) (by exact (zaa A4.out.1).1) (fun hHeld=>?_)
   refine ta 0 rfl hHeld ?_
   try simp only [Act.put,g1,g2,g3,g4,g5,g6]
   refine wpAnyH_ready (rs:=[1]) (by kernel_rfl) (by simp) ?_
   refine AllReadyH.cons (o:=_) rfl (fun K hK=>?_) AllReadyH.nil
   go_simp
   go_at_call 173
   with_reducible refine (zbT ⟨k,u,f,q,s,m,n,t⟩ false _ S4.out (zad.drew A4.out.parts)).mono ?_
   rintro e w5 ⟨rfl,hb5⟩
   have A5:=hid (A4.out.drew.on hb5)
   refine hK.out _ _ (by exact (zaa A5.out.1).1) (fun hHeld=>?_)
   clear hK K
   try simp only [Act.put,g1,g2,g3,g4,g5,g6]
   refine ta 2 rfl hHeld ?_
   refine tu 3 rfl hHeld ?_
   try simp only [Act.put,g1,g2,g3,g4,g5,g6]
   refine tu 4 rfl hHeld ?_
   try simp only [Act.put,g1,g2,g3,g4,g5,g6]
   refine tu 5 rfl hHeld ?_
   try simp only [Act.put,g1,g2,g3,g4,g5,g6]
   refine tu 6 rfl hHeld ?_
   try simp only [Act.put,g1,g2,g3,g4,g5,g6]
   refine tu 7 rfl hHeld ?_
   try simp only [Act.put,g1,g2,g3,g4,g5,g6]
   refine tu 8 rfl hHeld ?_
   try simp only [Act.put,g1,g2,g3,g4,g5,g6]
   refine tu 9 rfl hHeld ?_
   try simp only [Act.put,g1,g2,g3,g4,g5,g6]
   refine tu 10 rfl hHeld ?_
   try simp only [Act.put,g1,g2,g3,g4,g5,g6]
   refine tu 11 rfl hHeld ?_
   try simp only [Act.put,g1,g2,g3,g4,g5,g6]
   refine tu 12 rfl hHeld ?_
   try simp only [Act.put,g1,g2,g3,g4,g5,g6]
   refine ta 13 rfl hHeld ?_
   refine ta 14 rfl hHeld ?_
   try simp only [Act.put,g1,g2,g3,g4,g5,g6]
   refine wpAnyH_done (by kernel_rfl) ?_ _
   clear hHeld hb5
   clear c0 c1 c2 c3 c4 c5 c6 c7 f0 f1 f2 f3 f4 f5 f6 f7
   obtain ⟨⟨c0,c1,c2,c3,c4,c5,c6,c7⟩,f0,f1,f2,f3,f4,f5,f6,f7⟩:=zaa A5.out.1
   go_wp2_with fail
   with_reducible refine (zb4 ⟨k,u,f,q,s,m,n,t⟩ true _ S5.out A5.out.parts).mono ?_
   rintro e w6 ⟨rfl,hb⟩
   have A6:=hid (A5.out.on hb)
   clear hb
   clear c0 c1 c2 c3 c4 c5 c6 c7 f0 f1 f2 f3 f4 f5 f6 f7
   obtain ⟨⟨c0,c1,c2,c3,c4,c5,c6,c7⟩,f0,f1,f2,f3,f4,f5,f6,f7⟩:=zaa A6.out.1
   rcases Decidable.em (t<0) with ht | ht
   ·have ht':=ht
    have E:zaA ⟨k,u,f,q,s,m,n,t⟩=false:=by simp [zaA,in0,in1,in2,in3,in4,in5,S0.out,S1.out,S2.out,S3.out,S4.out,S5.out,X0.out];omega
    have HE:=hid E
    clear E
    go_wp2
    go_ret
    exact ⟨zab HE.out.symm,A6.out.below⟩
   ·rcases Decidable.em (1099511627776<t) with ht2 | ht2
    ·have ht':=ht
     have E:zaA ⟨k,u,f,q,s,m,n,t⟩=false:=by simp [zaA,in0,in1,in2,in3,in4,in5,S0.out,S1.out,S2.out,S3.out,S4.out,S5.out,X0.out];omega
     have HE:=hid E
     clear E
     go_wp2
     go_ret
     exact ⟨zab HE.out.symm,A6.out.below⟩
    ·have ht':=ht
     have E:zaA ⟨k,u,f,q,s,m,n,t⟩=true:=by simp [zaA,in0,in1,in2,in3,in4,in5,S0.out,S1.out,S2.out,S3.out,S4.out,S5.out,X0.out];omega
     have HE:=hid E
     clear E
     go_wp2
     go_ret
     exact ⟨zab HE.out.symm,A6.out.below⟩
theorem in_4 (k u:Int) (f:ByteArray) (q:Int) (s:ByteArray) (m n t:Int) (w:World) (hP:zad w) (hs:Sig k true true true true false false) (hf:f.size≤4611686018427387903) (hp:s.size≤4611686018427387903) :
  Calls Tryz.prog 194 #[val ⟨k,u,f,q,s,m,n,t⟩] w fun e w'=>e=.returned (.bool (zaA ⟨k,u,f,q,s,m,n,t⟩))∧Below w.heap.size w w':=by
 obtain ⟨s0,s1,s2,s3,s4,s5⟩:=hs
 have S0:=hid s0
 have S1:=hid s1
 have S2:=hid s2
 have S3:=hid s3
 have S4:=hid s4
 have S5:=hid s5
 obtain ⟨x0,hx0⟩:∃x,right (L f)=x:=⟨_,rfl⟩
 obtain ⟨x2,hx2⟩:∃x,right (L s)=x:=⟨_,rfl⟩
 have X0:=hid hx0
 have X2:=hid hx2
 obtain ⟨mm,hmm⟩:∃x,zgp k=x:=⟨_,rfl⟩
 have MM:=hid hmm
 have A0:=hid (Boxed.start hP ⟨k,u,f,q,s,m,n,t⟩)
 clear s0 s1 s2 s3 s4 s5 hP hx0 hx2 hmm
 go_enter Tryz.func194,Tryz.ntmps194
 go_wp2_with fail
 with_reducible refine (zb3 ⟨k,u,f,q,s,m,n,t⟩ true _ S0.out A0.out.parts).mono ?_
 rintro e w1 ⟨rfl,hb⟩
 have A1:=hid (A0.out.on hb)
 clear hb
 obtain ⟨⟨c0,c1,c2,c3,c4,c5,c6,c7⟩,f0,f1,f2,f3,f4,f5,f6,f7⟩:=zaa A1.out.1
 cases x0
 ·go_wp2_with fail
  with_reducible refine (zaY f _ hf).mono ?_
  rw [X0.out]
  rintro e w1b ⟨rfl,hb⟩
  have A1b:=hid (A1.out.on hb)
  clear hb A1
  clear c0 c1 c2 c3 c4 c5 c6 c7 f0 f1 f2 f3 f4 f5 f6 f7
  obtain ⟨⟨c0,c1,c2,c3,c4,c5,c6,c7⟩,f0,f1,f2,f3,f4,f5,f6,f7⟩:=zaa A1b.out.1
  have E:zaA ⟨k,u,f,q,s,m,n,t⟩=false:=by simp [zaA,in0,in1,in2,in3,in4,in5,S0.out,S1.out,S2.out,S3.out,S4.out,S5.out,X0.out]
  have HE:=hid E
  clear E
  go_wp2
  go_ret
  exact ⟨zab HE.out.symm,A1b.out.below⟩
 ·go_wp2_with fail
  with_reducible refine (zaY f _ hf).mono ?_
  rw [X0.out]
  rintro e w1b ⟨rfl,hb⟩
  have A1b:=hid (A1.out.on hb)
  clear hb A1
  clear c0 c1 c2 c3 c4 c5 c6 c7 f0 f1 f2 f3 f4 f5 f6 f7
  obtain ⟨⟨c0,c1,c2,c3,c4,c5,c6,c7⟩,f0,f1,f2,f3,f4,f5,f6,f7⟩:=zaa A1b.out.1
  go_wp2_with fail
  with_reducible refine (zb7 ⟨k,u,f,q,s,m,n,t⟩ true _ S1.out A1b.out.parts).mono ?_
  rintro e w2 ⟨rfl,hb⟩
  have A2:=hid (A1b.out.on hb)
  clear hb
  clear c0 c1 c2 c3 c4 c5 c6 c7 f0 f1 f2 f3 f4 f5 f6 f7
  obtain ⟨⟨c0,c1,c2,c3,c4,c5,c6,c7⟩,f0,f1,f2,f3,f4,f5,f6,f7⟩:=zaa A2.out.1
  rcases Decidable.em (q<1) with hq | hq
  ·have hq':=hq
   have E:zaA ⟨k,u,f,q,s,m,n,t⟩=false:=by simp [zaA,in0,in1,in2,in3,in4,in5,S0.out,S1.out,S2.out,S3.out,S4.out,S5.out,X0.out];omega
   have HE:=hid E
   clear E
   go_wp2
   go_ret
   exact ⟨zab HE.out.symm,A2.out.below⟩
  ·have hq':=hq
   go_wp2_with fail
   with_reducible refine (zb5 ⟨k,u,f,q,s,m,n,t⟩ true _ S2.out A2.out.parts).mono ?_
   rintro e w3 ⟨rfl,hb⟩
   have A3:=hid (A2.out.on hb)
   clear hb
   clear c0 c1 c2 c3 c4 c5 c6 c7 f0 f1 f2 f3 f4 f5 f6 f7
   obtain ⟨⟨c0,c1,c2,c3,c4,c5,c6,c7⟩,f0,f1,f2,f3,f4,f5,f6,f7⟩:=zaa A3.out.1
   cases x2
   ·go_wp2_with fail
    with_reducible refine (zaY s _ hp).mono ?_
    rw [X2.out]
    rintro e w3b ⟨rfl,hb⟩
    have A3b:=hid (A3.out.on hb)
    clear hb A3
    clear c0 c1 c2 c3 c4 c5 c6 c7 f0 f1 f2 f3 f4 f5 f6 f7
    obtain ⟨⟨c0,c1,c2,c3,c4,c5,c6,c7⟩,f0,f1,f2,f3,f4,f5,f6,f7⟩:=zaa A3b.out.1
    have E:zaA ⟨k,u,f,q,s,m,n,t⟩=false:=by simp [zaA,in0,in1,in2,in3,in4,in5,S0.out,S1.out,S2.out,S3.out,S4.out,S5.out,X0.out,X2.out]
    have HE:=hid E
    clear E
    go_wp2
    go_ret
    exact ⟨zab HE.out.symm,A3b.out.below⟩
   ·go_wp2_with fail
    with_reducible refine (zaY s _ hp).mono ?_
    rw [X2.out]
    rintro e w3b ⟨rfl,hb⟩
    have A3b:=hid (A3.out.on hb)
    clear hb A3
    clear c0 c1 c2 c3 c4 c5 c6 c7 f0 f1 f2 f3 f4 f5 f6 f7
    obtain ⟨⟨c0,c1,c2,c3,c4,c5,c6,c7⟩,f0,f1,f2,f3,f4,f5,f6,f7⟩:=zaa A3b.out.1
    go_wp2_with fail
    with_reducible refine (zca ⟨k,u,f,q,s,m,n,t⟩ true _ S3.out A3b.out.parts).mono ?_
    rintro e w4 ⟨rfl,hb⟩
    have A4:=hid (A3b.out.on hb)
    clear hb
    clear c0 c1 c2 c3 c4 c5 c6 c7 f0 f1 f2 f3 f4 f5 f6 f7
    obtain ⟨⟨c0,c1,c2,c3,c4,c5,c6,c7⟩,f0,f1,f2,f3,f4,f5,f6,f7⟩:=zaa A4.out.1
    have hm:m=1∨m=2∨(m≠1∧m≠2):=by omega
    rcases hm with hm0 | hm0 | ⟨hm1,hm2⟩
    ·have hb1:(m != 1)=false:=by rw [hm0];rfl
     have HM:=hid hm0
     clear hm0
     go_wp2_with fail
     refine wp_region_held_drew (S:=(fun w'=>w'.cell? ⟨w.heap.size,0,none⟩=some (.int .i64 k)∧w'.cell? ⟨w.heap.size,1,none⟩=some (.int .u64 u)∧w'.cell? ⟨w.heap.size,2,none⟩=some (.string f)∧w'.cell? ⟨w.heap.size,3,none⟩=some (.int .u64 q)∧w'.cell? ⟨w.heap.size,4,none⟩=some (.string s)∧w'.cell? ⟨w.heap.size,5,none⟩=some (.int .i64 m)∧w'.cell? ⟨w.heap.size,6,none⟩=some (.int .u64 n)∧w'.cell? ⟨w.heap.size,7,none⟩=some (.int .i64 t))) (by kernel_rfl) (by exact (zaa A4.out.1).1) (fun hHeld=>?_)
     refine ta 0 rfl hHeld ?_
     try simp only [Act.put,g1,g2,g3,g4,g5,g6]
     refine wpAnyH_ready (rs:=[1]) (by kernel_rfl) (by simp) ?_
     refine AllReadyH.cons (o:=_) rfl (fun K hK=>?_) AllReadyH.nil
     go_simp
     go_at_call 173
     with_reducible refine (zbT ⟨k,u,f,q,s,m,n,t⟩ false _ S4.out (zad.drew A4.out.parts)).mono ?_
     rintro e w5 ⟨rfl,hb5⟩
     have A5:=hid (A4.out.drew.on hb5)
     refine hK.out _ _ (by exact (zaa A5.out.1).1) (fun hHeld=>?_)
     clear hK K
     try simp only [Act.put,g1,g2,g3,g4,g5,g6]
     refine ta 2 rfl hHeld ?_
     refine tu 3 rfl hHeld ?_
     try simp only [Act.put,g1,g2,g3,g4,g5,g6]
     refine tu 4 rfl hHeld ?_
     try simp only [Act.put,g1,g2,g3,g4,g5,g6]
     refine tu 5 rfl hHeld ?_
     try simp only [Act.put,g1,g2,g3,g4,g5,g6]
     refine tu 6 rfl hHeld ?_
     try simp only [Act.put,g1,g2,g3,g4,g5,g6]
     refine tu 7 rfl hHeld ?_
     try simp only [Act.put,g1,g2,g3,g4,g5,g6]
     refine tu 8 rfl hHeld ?_
     try simp only [Act.put,g1,g2,g3,g4,g5,g6]
     refine tu 9 rfl hHeld ?_
     try simp only [Act.put,g1,g2,g3,g4,g5,g6]
     refine tu 10 rfl hHeld ?_
     try simp only [Act.put,g1,g2,g3,g4,g5,g6]
     refine tu 11 rfl hHeld ?_
     try simp only [Act.put,g1,g2,g3,g4,g5,g6]
     refine tu 12 rfl hHeld ?_
     try simp only [Act.put,g1,g2,g3,g4,g5,g6]
     refine ta 13 rfl hHeld ?_
     refine ta 14 rfl hHeld ?_
     try simp only [Act.put,g1,g2,g3,g4,g5,g6]
     refine wpAnyH_done (by kernel_rfl) ?_ _
     clear hHeld hb5
     clear c0 c1 c2 c3 c4 c5 c6 c7 f0 f1 f2 f3 f4 f5 f6 f7
     obtain ⟨⟨c0,c1,c2,c3,c4,c5,c6,c7⟩,f0,f1,f2,f3,f4,f5,f6,f7⟩:=zaa A5.out.1
     go_wp2_with fail
     with_reducible refine (zb4 ⟨k,u,f,q,s,m,n,t⟩ false _ S5.out A5.out.parts).mono ?_
     rintro e w6 ⟨rfl,hb⟩
     have A6:=hid (A5.out.on hb)
     clear hb
     clear c0 c1 c2 c3 c4 c5 c6 c7 f0 f1 f2 f3 f4 f5 f6 f7
     obtain ⟨⟨c0,c1,c2,c3,c4,c5,c6,c7⟩,f0,f1,f2,f3,f4,f5,f6,f7⟩:=zaa A6.out.1
     have E:zaA ⟨k,u,f,q,s,m,n,t⟩=true:=by simp [zaA,in0,in1,in2,in3,in4,in5,S0.out,S1.out,S2.out,S3.out,S4.out,S5.out,X0.out,X2.out,HM.out];omega
     have HE:=hid E
     clear E
     go_wp2
     go_ret
     exact ⟨zab HE.out.symm,A6.out.below⟩
    ·have hb1:(m != 1)=true:=by rw [hm0];rfl
     have hb2:(m != 2)=false:=by rw [hm0];rfl
     have HM:=hid hm0
     clear hm0
     go_wp2_with fail
     refine wp_region_held_drew (S:=(fun w'=>w'.cell? ⟨w.heap.size,0,none⟩=some (.int .i64 k)∧w'.cell? ⟨w.heap.size,1,none⟩=some (.int .u64 u)∧w'.cell? ⟨w.heap.size,2,none⟩=some (.string f)∧w'.cell? ⟨w.heap.size,3,none⟩=some (.int .u64 q)∧w'.cell? ⟨w.heap.size,4,none⟩=some (.string s)∧w'.cell? ⟨w.heap.size,5,none⟩=some (.int .i64 m)∧w'.cell? ⟨w.heap.size,6,none⟩=some (.int .u64 n)∧w'.cell? ⟨w.heap.size,7,none⟩=some (.int .i64 t))) (by kernel_rfl) (by exact (zaa A4.out.1).1) (fun hHeld=>?_)
     refine ta 0 rfl hHeld ?_
     try simp only [Act.put,g1,g2,g3,g4,g5,g6]
     refine wpAnyH_ready (rs:=[1]) (by kernel_rfl) (by simp) ?_
     refine AllReadyH.cons (o:=_) rfl (fun K hK=>?_) AllReadyH.nil
     go_simp
     go_at_call 173
     with_reducible refine (zbT ⟨k,u,f,q,s,m,n,t⟩ false _ S4.out (zad.drew A4.out.parts)).mono ?_
     rintro e w5 ⟨rfl,hb5⟩
     have A5:=hid (A4.out.drew.on hb5)
     refine hK.out _ _ (by exact (zaa A5.out.1).1) (fun hHeld=>?_)
     clear hK K
     try simp only [Act.put,g1,g2,g3,g4,g5,g6]
     refine ta 2 rfl hHeld ?_
     refine tu 3 rfl hHeld ?_
     try simp only [Act.put,g1,g2,g3,g4,g5,g6]
     refine tu 4 rfl hHeld ?_
     try simp only [Act.put,g1,g2,g3,g4,g5,g6]
     refine tu 5 rfl hHeld ?_
     try simp only [Act.put,g1,g2,g3,g4,g5,g6]
     refine tu 6 rfl hHeld ?_
     try simp only [Act.put,g1,g2,g3,g4,g5,g6]
     refine tu 7 rfl hHeld ?_
     try simp only [Act.put,g1,g2,g3,g4,g5,g6]
     refine tu 8 rfl hHeld ?_
     try simp only [Act.put,g1,g2,g3,g4,g5,g6]
     refine tu 9 rfl hHeld ?_
     try simp only [Act.put,g1,g2,g3,g4,g5,g6]
     refine tu 10 rfl hHeld ?_
     try simp only [Act.put,g1,g2,g3,g4,g5,g6]
     refine tu 11 rfl hHeld ?_
     try simp only [Act.put,g1,g2,g3,g4,g5,g6]
     refine tu 12 rfl hHeld ?_
     try simp only [Act.put,g1,g2,g3,g4,g5,g6]
     refine ta 13 rfl hHeld ?_
     refine ta 14 rfl hHeld ?_
     try simp only [Act.put,g1,g2,g3,g4,g5,g6]
     refine wpAnyH_done (by kernel_rfl) ?_ _
     clear hHeld hb5
     clear c0 c1 c2 c3 c4 c5 c6 c7 f0 f1 f2 f3 f4 f5 f6 f7
     obtain ⟨⟨c0,c1,c2,c3,c4,c5,c6,c7⟩,f0,f1,f2,f3,f4,f5,f6,f7⟩:=zaa A5.out.1
     go_wp2_with fail
     with_reducible refine (zb4 ⟨k,u,f,q,s,m,n,t⟩ false _ S5.out A5.out.parts).mono ?_
     rintro e w6 ⟨rfl,hb⟩
     have A6:=hid (A5.out.on hb)
     clear hb
     clear c0 c1 c2 c3 c4 c5 c6 c7 f0 f1 f2 f3 f4 f5 f6 f7
     obtain ⟨⟨c0,c1,c2,c3,c4,c5,c6,c7⟩,f0,f1,f2,f3,f4,f5,f6,f7⟩:=zaa A6.out.1
     have E:zaA ⟨k,u,f,q,s,m,n,t⟩=true:=by simp [zaA,in0,in1,in2,in3,in4,in5,S0.out,S1.out,S2.out,S3.out,S4.out,S5.out,X0.out,X2.out,HM.out];omega
     have HE:=hid E
     clear E
     go_wp2
     go_ret
     exact ⟨zab HE.out.symm,A6.out.below⟩
    ·have hb1:(m != 1)=true:=bne_iff_ne.2 hm1
     have hb2:(m != 2)=true:=bne_iff_ne.2 hm2
     have E:zaA ⟨k,u,f,q,s,m,n,t⟩=false:=by simp [zaA,in0,in1,in2,in3,in4,in5,S0.out,S1.out,S2.out,S3.out,S4.out,S5.out,X0.out,X2.out,hm1,hm2]
     have HE:=hid E
     clear E
     go_wp2
     go_ret
     exact ⟨zab HE.out.symm,A4.out.below⟩
theorem in_6 (k u:Int) (f:ByteArray) (q:Int) (s:ByteArray) (m n t:Int) (w:World) (hP:zad w) (hs:Sig k true true true false false false) (hf:f.size≤4611686018427387903) (hp:s.size≤4611686018427387903) :
  Calls Tryz.prog 194 #[val ⟨k,u,f,q,s,m,n,t⟩] w fun e w'=>e=.returned (.bool (zaA ⟨k,u,f,q,s,m,n,t⟩))∧Below w.heap.size w w':=by
 obtain ⟨s0,s1,s2,s3,s4,s5⟩:=hs
 have S0:=hid s0
 have S1:=hid s1
 have S2:=hid s2
 have S3:=hid s3
 have S4:=hid s4
 have S5:=hid s5
 obtain ⟨x0,hx0⟩:∃x,right (L f)=x:=⟨_,rfl⟩
 obtain ⟨x2,hx2⟩:∃x,right (L s)=x:=⟨_,rfl⟩
 have X0:=hid hx0
 have X2:=hid hx2
 obtain ⟨mm,hmm⟩:∃x,zgp k=x:=⟨_,rfl⟩
 have MM:=hid hmm
 have A0:=hid (Boxed.start hP ⟨k,u,f,q,s,m,n,t⟩)
 clear s0 s1 s2 s3 s4 s5 hP hx0 hx2 hmm
 go_enter Tryz.func194,Tryz.ntmps194
 go_wp2_with fail
 with_reducible refine (zb3 ⟨k,u,f,q,s,m,n,t⟩ true _ S0.out A0.out.parts).mono ?_
 rintro e w1 ⟨rfl,hb⟩
 have A1:=hid (A0.out.on hb)
 clear hb
 obtain ⟨⟨c0,c1,c2,c3,c4,c5,c6,c7⟩,f0,f1,f2,f3,f4,f5,f6,f7⟩:=zaa A1.out.1
 cases x0
 ·go_wp2_with fail
  with_reducible refine (zaY f _ hf).mono ?_
  rw [X0.out]
  rintro e w1b ⟨rfl,hb⟩
  have A1b:=hid (A1.out.on hb)
  clear hb A1
  clear c0 c1 c2 c3 c4 c5 c6 c7 f0 f1 f2 f3 f4 f5 f6 f7
  obtain ⟨⟨c0,c1,c2,c3,c4,c5,c6,c7⟩,f0,f1,f2,f3,f4,f5,f6,f7⟩:=zaa A1b.out.1
  have E:zaA ⟨k,u,f,q,s,m,n,t⟩=false:=by simp [zaA,in0,in1,in2,in3,in4,in5,S0.out,S1.out,S2.out,S3.out,S4.out,S5.out,X0.out]
  have HE:=hid E
  clear E
  go_wp2
  go_ret
  exact ⟨zab HE.out.symm,A1b.out.below⟩
 ·go_wp2_with fail
  with_reducible refine (zaY f _ hf).mono ?_
  rw [X0.out]
  rintro e w1b ⟨rfl,hb⟩
  have A1b:=hid (A1.out.on hb)
  clear hb A1
  clear c0 c1 c2 c3 c4 c5 c6 c7 f0 f1 f2 f3 f4 f5 f6 f7
  obtain ⟨⟨c0,c1,c2,c3,c4,c5,c6,c7⟩,f0,f1,f2,f3,f4,f5,f6,f7⟩:=zaa A1b.out.1
  go_wp2_with fail
  with_reducible refine (zb7 ⟨k,u,f,q,s,m,n,t⟩ true _ S1.out A1b.out.parts).mono ?_
  rintro e w2 ⟨rfl,hb⟩
  have A2:=hid (A1b.out.on hb)
  clear hb
  clear c0 c1 c2 c3 c4 c5 c6 c7 f0 f1 f2 f3 f4 f5 f6 f7
  obtain ⟨⟨c0,c1,c2,c3,c4,c5,c6,c7⟩,f0,f1,f2,f3,f4,f5,f6,f7⟩:=zaa A2.out.1
  rcases Decidable.em (q<1) with hq | hq
  ·have hq':=hq
   have E:zaA ⟨k,u,f,q,s,m,n,t⟩=false:=by simp [zaA,in0,in1,in2,in3,in4,in5,S0.out,S1.out,S2.out,S3.out,S4.out,S5.out,X0.out];omega
   have HE:=hid E
   clear E
   go_wp2
   go_ret
   exact ⟨zab HE.out.symm,A2.out.below⟩
  ·have hq':=hq
   go_wp2_with fail
   with_reducible refine (zb5 ⟨k,u,f,q,s,m,n,t⟩ true _ S2.out A2.out.parts).mono ?_
   rintro e w3 ⟨rfl,hb⟩
   have A3:=hid (A2.out.on hb)
   clear hb
   clear c0 c1 c2 c3 c4 c5 c6 c7 f0 f1 f2 f3 f4 f5 f6 f7
   obtain ⟨⟨c0,c1,c2,c3,c4,c5,c6,c7⟩,f0,f1,f2,f3,f4,f5,f6,f7⟩:=zaa A3.out.1
   cases x2
   ·go_wp2_with fail
    with_reducible refine (zaY s _ hp).mono ?_
    rw [X2.out]
    rintro e w3b ⟨rfl,hb⟩
    have A3b:=hid (A3.out.on hb)
    clear hb A3
    clear c0 c1 c2 c3 c4 c5 c6 c7 f0 f1 f2 f3 f4 f5 f6 f7
    obtain ⟨⟨c0,c1,c2,c3,c4,c5,c6,c7⟩,f0,f1,f2,f3,f4,f5,f6,f7⟩:=zaa A3b.out.1
    have E:zaA ⟨k,u,f,q,s,m,n,t⟩=false:=by simp [zaA,in0,in1,in2,in3,in4,in5,S0.out,S1.out,S2.out,S3.out,S4.out,S5.out,X0.out,X2.out]
    have HE:=hid E
    clear E
    go_wp2
    go_ret
    exact ⟨zab HE.out.symm,A3b.out.below⟩
   ·go_wp2_with fail
    with_reducible refine (zaY s _ hp).mono ?_
    rw [X2.out]
    rintro e w3b ⟨rfl,hb⟩
    have A3b:=hid (A3.out.on hb)
    clear hb A3
    clear c0 c1 c2 c3 c4 c5 c6 c7 f0 f1 f2 f3 f4 f5 f6 f7
    obtain ⟨⟨c0,c1,c2,c3,c4,c5,c6,c7⟩,f0,f1,f2,f3,f4,f5,f6,f7⟩:=zaa A3b.out.1
    go_wp2_with fail
    with_reducible refine (zca ⟨k,u,f,q,s,m,n,t⟩ false _ S3.out A3b.out.parts).mono ?_
    rintro e w4 ⟨rfl,hb⟩
    have A4:=hid (A3b.out.on hb)
    clear hb
    clear c0 c1 c2 c3 c4 c5 c6 c7 f0 f1 f2 f3 f4 f5 f6 f7
    obtain ⟨⟨c0,c1,c2,c3,c4,c5,c6,c7⟩,f0,f1,f2,f3,f4,f5,f6,f7⟩:=zaa A4.out.1
    go_wp2_with fail
    refine wp_region_held_drew (S:=(fun w'=>w'.cell? ⟨w.heap.size,0,none⟩=some (.int .i64 k)∧w'.cell? ⟨w.heap.size,1,none⟩=some (.int .u64 u)∧w'.cell? ⟨w.heap.size,2,none⟩=some (.string f)∧w'.cell? ⟨w.heap.size,3,none⟩=some (.int .u64 q)∧w'.cell? ⟨w.heap.size,4,none⟩=some (.string s)∧w'.cell? ⟨w.heap.size,5,none⟩=some (.int .i64 m)∧w'.cell? ⟨w.heap.size,6,none⟩=some (.int .u64 n)∧w'.cell? ⟨w.heap.size,7,none⟩=some (.int .i64 t))) (by kernel_rfl) (by exact (zaa A4.out.1).1) (fun hHeld=>?_)
    refine ta 0 rfl hHeld ?_
    try simp only [Act.put,g1,g2,g3,g4,g5,g6]
    refine wpAnyH_ready (rs:=[1]) (by kernel_rfl) (by simp) ?_
    refine AllReadyH.cons (o:=_) rfl (fun K hK=>?_) AllReadyH.nil
    go_simp
    go_at_call 173
    with_reducible refine (zbT ⟨k,u,f,q,s,m,n,t⟩ false _ S4.out (zad.drew A4.out.parts)).mono ?_
    rintro e w5 ⟨rfl,hb5⟩
    have A5:=hid (A4.out.drew.on hb5)
    refine hK.out _ _ (by exact (zaa A5.out.1).1) (fun hHeld=>?_)
    clear hK K
    try simp only [Act.put,g1,g2,g3,g4,g5,g6]
    refine ta 2 rfl hHeld ?_
    refine tu 3 rfl hHeld ?_
    try simp only [Act.put,g1,g2,g3,g4,g5,g6]
    refine tu 4 rfl hHeld ?_
    try simp only [Act.put,g1,g2,g3,g4,g5,g6]
    refine tu 5 rfl hHeld ?_
    try simp only [Act.put,g1,g2,g3,g4,g5,g6]
    refine tu 6 rfl hHeld ?_
    try simp only [Act.put,g1,g2,g3,g4,g5,g6]
    refine tu 7 rfl hHeld ?_
    try simp only [Act.put,g1,g2,g3,g4,g5,g6]
    refine tu 8 rfl hHeld ?_
    try simp only [Act.put,g1,g2,g3,g4,g5,g6]
    refine tu 9 rfl hHeld ?_
    try simp only [Act.put,g1,g2,g3,g4,g5,g6]
    refine tu 10 rfl hHeld ?_
    try simp only [Act.put,g1,g2,g3,g4,g5,g6]
    refine tu 11 rfl hHeld ?_
    try simp only [Act.put,g1,g2,g3,g4,g5,g6]
    refine tu 12 rfl hHeld ?_
    try simp only [Act.put,g1,g2,g3,g4,g5,g6]
    refine ta 13 rfl hHeld ?_
    refine ta 14 rfl hHeld ?_
    try simp only [Act.put,g1,g2,g3,g4,g5,g6]
    refine wpAnyH_done (by kernel_rfl) ?_ _
    clear hHeld hb5
    clear c0 c1 c2 c3 c4 c5 c6 c7 f0 f1 f2 f3 f4 f5 f6 f7
    obtain ⟨⟨c0,c1,c2,c3,c4,c5,c6,c7⟩,f0,f1,f2,f3,f4,f5,f6,f7⟩:=zaa A5.out.1
    go_wp2_with fail
    with_reducible refine (zb4 ⟨k,u,f,q,s,m,n,t⟩ false _ S5.out A5.out.parts).mono ?_
    rintro e w6 ⟨rfl,hb⟩
    have A6:=hid (A5.out.on hb)
    clear hb
    clear c0 c1 c2 c3 c4 c5 c6 c7 f0 f1 f2 f3 f4 f5 f6 f7
    obtain ⟨⟨c0,c1,c2,c3,c4,c5,c6,c7⟩,f0,f1,f2,f3,f4,f5,f6,f7⟩:=zaa A6.out.1
    have E:zaA ⟨k,u,f,q,s,m,n,t⟩=true:=by simp [zaA,in0,in1,in2,in3,in4,in5,S0.out,S1.out,S2.out,S3.out,S4.out,S5.out,X0.out,X2.out];omega
    have HE:=hid E
    clear E
    go_wp2
    go_ret
    exact ⟨zab HE.out.symm,A6.out.below⟩
theorem in_7 (k u:Int) (f:ByteArray) (q:Int) (s:ByteArray) (m n t:Int) (w:World) (hP:zad w) (hs:Sig k true true true false true false) (hf:f.size≤4611686018427387903) (hp:s.size≤4611686018427387903) :
  Calls Tryz.prog 194 #[val ⟨k,u,f,q,s,m,n,t⟩] w fun e w'=>e=.returned (.bool (zaA ⟨k,u,f,q,s,m,n,t⟩))∧Below w.heap.size w w':=by
 obtain ⟨s0,s1,s2,s3,s4,s5⟩:=hs
 have S0:=hid s0
 have S1:=hid s1
 have S2:=hid s2
 have S3:=hid s3
 have S4:=hid s4
 have S5:=hid s5
 obtain ⟨x0,hx0⟩:∃x,right (L f)=x:=⟨_,rfl⟩
 obtain ⟨x2,hx2⟩:∃x,right (L s)=x:=⟨_,rfl⟩
 have X0:=hid hx0
 have X2:=hid hx2
 obtain ⟨mm,hmm⟩:∃x,zgp k=x:=⟨_,rfl⟩
 have MM:=hid hmm
 have A0:=hid (Boxed.start hP ⟨k,u,f,q,s,m,n,t⟩)
 clear s0 s1 s2 s3 s4 s5 hP hx0 hx2 hmm
 go_enter Tryz.func194,Tryz.ntmps194
 go_wp2_with fail
 with_reducible refine (zb3 ⟨k,u,f,q,s,m,n,t⟩ true _ S0.out A0.out.parts).mono ?_
 rintro e w1 ⟨rfl,hb⟩
 have A1:=hid (A0.out.on hb)
 clear hb
 obtain ⟨⟨c0,c1,c2,c3,c4,c5,c6,c7⟩,f0,f1,f2,f3,f4,f5,f6,f7⟩:=zaa A1.out.1
 cases x0
 ·go_wp2_with fail
  with_reducible refine (zaY f _ hf).mono ?_
  rw [X0.out]
  rintro e w1b ⟨rfl,hb⟩
  have A1b:=hid (A1.out.on hb)
  clear hb A1
  clear c0 c1 c2 c3 c4 c5 c6 c7 f0 f1 f2 f3 f4 f5 f6 f7
  obtain ⟨⟨c0,c1,c2,c3,c4,c5,c6,c7⟩,f0,f1,f2,f3,f4,f5,f6,f7⟩:=zaa A1b.out.1
  have E:zaA ⟨k,u,f,q,s,m,n,t⟩=false:=by simp [zaA,in0,in1,in2,in3,in4,in5,S0.out,S1.out,S2.out,S3.out,S4.out,S5.out,X0.out]
  have HE:=hid E
  clear E
  go_wp2
  go_ret
  exact ⟨zab HE.out.symm,A1b.out.below⟩
 ·go_wp2_with fail
  with_reducible refine (zaY f _ hf).mono ?_
  rw [X0.out]
  rintro e w1b ⟨rfl,hb⟩
  have A1b:=hid (A1.out.on hb)
  clear hb A1
  clear c0 c1 c2 c3 c4 c5 c6 c7 f0 f1 f2 f3 f4 f5 f6 f7
  obtain ⟨⟨c0,c1,c2,c3,c4,c5,c6,c7⟩,f0,f1,f2,f3,f4,f5,f6,f7⟩:=zaa A1b.out.1
  go_wp2_with fail
  with_reducible refine (zb7 ⟨k,u,f,q,s,m,n,t⟩ true _ S1.out A1b.out.parts).mono ?_
  rintro e w2 ⟨rfl,hb⟩
  have A2:=hid (A1b.out.on hb)
  clear hb
  clear c0 c1 c2 c3 c4 c5 c6 c7 f0 f1 f2 f3 f4 f5 f6 f7
  obtain ⟨⟨c0,c1,c2,c3,c4,c5,c6,c7⟩,f0,f1,f2,f3,f4,f5,f6,f7⟩:=zaa A2.out.1
  rcases Decidable.em (q<1) with hq | hq
  ·have hq':=hq
   have E:zaA ⟨k,u,f,q,s,m,n,t⟩=false:=by simp [zaA,in0,in1,in2,in3,in4,in5,S0.out,S1.out,S2.out,S3.out,S4.out,S5.out,X0.out];omega
   have HE:=hid E
   clear E
   go_wp2
   go_ret
   exact ⟨zab HE.out.symm,A2.out.below⟩
  ·have hq':=hq
   go_wp2_with fail
   with_reducible refine (zb5 ⟨k,u,f,q,s,m,n,t⟩ true _ S2.out A2.out.parts).mono ?_
   rintro e w3 ⟨rfl,hb⟩
   have A3:=hid (A2.out.on hb)
   clear hb
   clear c0 c1 c2 c3 c4 c5 c6 c7 f0 f1 f2 f3 f4 f5 f6 f7
   obtain ⟨⟨c0,c1,c2,c3,c4,c5,c6,c7⟩,f0,f1,f2,f3,f4,f5,f6,f7⟩:=zaa A3.out.1
   cases x2
   ·go_wp2_with fail
    with_reducible refine (zaY s _ hp).mono ?_
    rw [X2.out]
    rintro e w3b ⟨rfl,hb⟩
    have A3b:=hid (A3.out.on hb)
    clear hb A3
    clear c0 c1 c2 c3 c4 c5 c6 c7 f0 f1 f2 f3 f4 f5 f6 f7
    obtain ⟨⟨c0,c1,c2,c3,c4,c5,c6,c7⟩,f0,f1,f2,f3,f4,f5,f6,f7⟩:=zaa A3b.out.1
    have E:zaA ⟨k,u,f,q,s,m,n,t⟩=false:=by simp [zaA,in0,in1,in2,in3,in4,in5,S0.out,S1.out,S2.out,S3.out,S4.out,S5.out,X0.out,X2.out]
    have HE:=hid E
    clear E
    go_wp2
    go_ret
    exact ⟨zab HE.out.symm,A3b.out.below⟩
   ·go_wp2_with fail
    with_reducible refine (zaY s _ hp).mono ?_
    rw [X2.out]
    rintro e w3b ⟨rfl,hb⟩
    have A3b:=hid (A3.out.on hb)
    clear hb A3
    clear c0 c1 c2 c3 c4 c5 c6 c7 f0 f1 f2 f3 f4 f5 f6 f7
    obtain ⟨⟨c0,c1,c2,c3,c4,c5,c6,c7⟩,f0,f1,f2,f3,f4,f5,f6,f7⟩:=zaa A3b.out.1
    go_wp2_with fail
    with_reducible refine (zca ⟨k,u,f,q,s,m,n,t⟩ false _ S3.out A3b.out.parts).mono ?_
    rintro e w4 ⟨rfl,hb⟩
    have A4:=hid (A3b.out.on hb)
    clear hb
    clear c0 c1 c2 c3 c4 c5 c6 c7 f0 f1 f2 f3 f4 f5 f6 f7
    obtain ⟨⟨c0,c1,c2,c3,c4,c5,c6,c7⟩,f0,f1,f2,f3,f4,f5,f6,f7⟩:=zaa A4.out.1
    rcases Decidable.em (n<1) with hn | hn
    ·have hd:decide (n<1)=true:=decide_eq_true hn
     go_wp2_with fail
     refine wp_region_held_drew (S:=(fun w'=>w'.cell? ⟨w.heap.size,0,none⟩=some (.int .i64 k)∧w'.cell? ⟨w.heap.size,1,none⟩=some (.int .u64 u)∧w'.cell? ⟨w.heap.size,2,none⟩=some (.string f)∧w'.cell? ⟨w.heap.size,3,none⟩=some (.int .u64 q)∧w'.cell? ⟨w.heap.size,4,none⟩=some (.string s)∧w'.cell? ⟨w.heap.size,5,none⟩=some (.int .i64 m)∧w'.cell? ⟨w.heap.size,6,none⟩=some (.int .u64 n)∧w'.cell? ⟨w.heap.size,7,none⟩=some (.int .i64 t))) (by kernel_rfl) (by exact (zaa A4.out.1).1) (fun hHeld=>?_)
     refine ta 0 rfl hHeld ?_
     try simp only [Act.put,g1,g2,g3,g4,g5,g6]
     refine wpAnyH_ready (rs:=[1]) (by kernel_rfl) (by simp) ?_
     refine AllReadyH.cons (o:=_) rfl (fun K hK=>?_) AllReadyH.nil
     go_simp
     go_at_call 173
     with_reducible refine (zbT ⟨k,u,f,q,s,m,n,t⟩ true _ S4.out (zad.drew A4.out.parts)).mono ?_
     rintro e w5 ⟨rfl,hb5⟩
     have A5:=hid (A4.out.drew.on hb5)
     refine hK.out _ _ (by exact (zaa A5.out.1).1) (fun hHeld=>?_)
     clear hK K
     try simp only [Act.put,g1,g2,g3,g4,g5,g6]
     refine ta 2 rfl hHeld ?_
     refine ta 3 rfl hHeld ?_
     refine ta 4 rfl hHeld ?_
     refine ta 5 rfl hHeld ?_
     refine ta 6 rfl hHeld ?_
     refine tu 7 rfl hHeld ?_
     try simp only [Act.put,g1,g2,g3,g4,g5,g6]
     refine tu 8 rfl hHeld ?_
     try simp only [Act.put,g1,g2,g3,g4,g5,g6]
     refine tu 9 rfl hHeld ?_
     try simp only [Act.put,g1,g2,g3,g4,g5,g6]
     refine tu 10 rfl hHeld ?_
     try simp only [Act.put,g1,g2,g3,g4,g5,g6]
     refine tu 11 rfl hHeld ?_
     try simp only [Act.put,g1,g2,g3,g4,g5,g6]
     refine ta 12 rfl hHeld ?_
     refine ta 13 rfl hHeld ?_
     refine ta 14 rfl hHeld ?_
     try simp only [Act.put,g1,g2,g3,g4,g5,g6]
     refine wpAnyH_done (by kernel_rfl) ?_ _
     clear hHeld hb5
     clear c0 c1 c2 c3 c4 c5 c6 c7 f0 f1 f2 f3 f4 f5 f6 f7
     obtain ⟨⟨c0,c1,c2,c3,c4,c5,c6,c7⟩,f0,f1,f2,f3,f4,f5,f6,f7⟩:=zaa A5.out.1
     have E:zaA ⟨k,u,f,q,s,m,n,t⟩=false:=by simp [zaA,in0,in1,in2,in3,in4,in5,S0.out,S1.out,S2.out,S3.out,S4.out,S5.out,X0.out,X2.out,MM.out];omega
     have HE:=hid E
     clear E
     go_wp2
     go_ret
     exact ⟨zab HE.out.symm,A5.out.below⟩
    ·have hd:decide (n<1)=false:=decide_eq_false hn
     rcases Decidable.em (mm<n) with hn2 | hn2
     ·have hd2:decide (mm<n)=true:=decide_eq_true hn2
      go_wp2_with fail
      go_region_held3 (fun w'=>w'.cell? ⟨w.heap.size,0,none⟩=some (.int .i64 k)∧w'.cell? ⟨w.heap.size,1,none⟩=some (.int .u64 u)∧w'.cell? ⟨w.heap.size,2,none⟩=some (.string f)∧w'.cell? ⟨w.heap.size,3,none⟩=some (.int .u64 q)∧w'.cell? ⟨w.heap.size,4,none⟩=some (.string s)∧w'.cell? ⟨w.heap.size,5,none⟩=some (.int .i64 m)∧w'.cell? ⟨w.heap.size,6,none⟩=some (.int .u64 n)∧w'.cell? ⟨w.heap.size,7,none⟩=some (.int .i64 t))
       (first | exact (zaa A4.out.1).1 | exact (zaa A4.out.drew.1).1 | exact (zaa A5.out.1).1 | exact (zaa A5b.out.1).1)
       (first
        | (go_at_call 173;(with_reducible refine (zbT ⟨k,u,f,q,s,m,n,t⟩ true _ S4.out (zad.drew A4.out.parts)).mono ?_);rintro e w5 ⟨rfl,hb5⟩;have A5:=hid (A4.out.drew.on hb5))
        | (go_at_call 205;(with_reducible refine (zfh ⟨k,u,f,q,s,m,n,t⟩ _).mono ?_);rintro e w5b ⟨rfl,hb5b⟩;rw [MM.out];have A5b:=hid (A5.out.on hb5b)))
      rename_i hHeld
      clear hHeld hb5 hb5b A5
      clear c0 c1 c2 c3 c4 c5 c6 c7 f0 f1 f2 f3 f4 f5 f6 f7
      obtain ⟨⟨c0,c1,c2,c3,c4,c5,c6,c7⟩,f0,f1,f2,f3,f4,f5,f6,f7⟩:=zaa A5b.out.1
      have E:zaA ⟨k,u,f,q,s,m,n,t⟩=false:=by simp [zaA,in0,in1,in2,in3,in4,in5,S0.out,S1.out,S2.out,S3.out,S4.out,S5.out,X0.out,X2.out,MM.out];omega
      have HE:=hid E
      clear E
      go_wp2
      go_ret
      exact ⟨zab HE.out.symm,A5b.out.below⟩
     ·have hd2:decide (mm<n)=false:=decide_eq_false hn2
      go_wp2_with fail
      go_region_held3 (fun w'=>w'.cell? ⟨w.heap.size,0,none⟩=some (.int .i64 k)∧w'.cell? ⟨w.heap.size,1,none⟩=some (.int .u64 u)∧w'.cell? ⟨w.heap.size,2,none⟩=some (.string f)∧w'.cell? ⟨w.heap.size,3,none⟩=some (.int .u64 q)∧w'.cell? ⟨w.heap.size,4,none⟩=some (.string s)∧w'.cell? ⟨w.heap.size,5,none⟩=some (.int .i64 m)∧w'.cell? ⟨w.heap.size,6,none⟩=some (.int .u64 n)∧w'.cell? ⟨w.heap.size,7,none⟩=some (.int .i64 t))
       (first | exact (zaa A4.out.1).1 | exact (zaa A4.out.drew.1).1 | exact (zaa A5.out.1).1 | exact (zaa A5b.out.1).1)
       (first
        | (go_at_call 173;(with_reducible refine (zbT ⟨k,u,f,q,s,m,n,t⟩ true _ S4.out (zad.drew A4.out.parts)).mono ?_);rintro e w5 ⟨rfl,hb5⟩;have A5:=hid (A4.out.drew.on hb5))
        | (go_at_call 205;(with_reducible refine (zfh ⟨k,u,f,q,s,m,n,t⟩ _).mono ?_);rintro e w5b ⟨rfl,hb5b⟩;rw [MM.out];have A5b:=hid (A5.out.on hb5b)))
      rename_i hHeld
      clear hHeld hb5 hb5b A5
      clear c0 c1 c2 c3 c4 c5 c6 c7 f0 f1 f2 f3 f4 f5 f6 f7
      obtain ⟨⟨c0,c1,c2,c3,c4,c5,c6,c7⟩,f0,f1,f2,f3,f4,f5,f6,f7⟩:=zaa A5b.out.1
      go_wp2_with fail
      with_reducible refine (zb4 ⟨k,u,f,q,s,m,n,t⟩ false _ S5.out A5b.out.parts).mono ?_
      rintro e w6 ⟨rfl,hb⟩
      have A6:=hid (A5b.out.on hb)
      clear hb
      clear c0 c1 c2 c3 c4 c5 c6 c7 f0 f1 f2 f3 f4 f5 f6 f7
      obtain ⟨⟨c0,c1,c2,c3,c4,c5,c6,c7⟩,f0,f1,f2,f3,f4,f5,f6,f7⟩:=zaa A6.out.1
      have E:zaA ⟨k,u,f,q,s,m,n,t⟩=true:=by simp [zaA,in0,in1,in2,in3,in4,in5,S0.out,S1.out,S2.out,S3.out,S4.out,S5.out,X0.out,X2.out,MM.out];omega
      have HE:=hid E
      clear E
      go_wp2
      go_ret
      exact ⟨zab HE.out.symm,A6.out.below⟩
theorem in_8 (k u:Int) (f:ByteArray) (q:Int) (s:ByteArray) (m n t:Int) (w:World) (hP:zad w) (hs:Sig k true false false false false true) (hf:f.size≤4611686018427387903) (hp:s.size≤4611686018427387903) :
  Calls Tryz.prog 194 #[val ⟨k,u,f,q,s,m,n,t⟩] w fun e w'=>e=.returned (.bool (zaA ⟨k,u,f,q,s,m,n,t⟩))∧Below w.heap.size w w':=by
 obtain ⟨s0,s1,s2,s3,s4,s5⟩:=hs
 have S0:=hid s0
 have S1:=hid s1
 have S2:=hid s2
 have S3:=hid s3
 have S4:=hid s4
 have S5:=hid s5
 obtain ⟨x0,hx0⟩:∃x,right (L f)=x:=⟨_,rfl⟩
 obtain ⟨x2,hx2⟩:∃x,right (L s)=x:=⟨_,rfl⟩
 have X0:=hid hx0
 have X2:=hid hx2
 obtain ⟨mm,hmm⟩:∃x,zgp k=x:=⟨_,rfl⟩
 have MM:=hid hmm
 have A0:=hid (Boxed.start hP ⟨k,u,f,q,s,m,n,t⟩)
 clear s0 s1 s2 s3 s4 s5 hP hx0 hx2 hmm
 go_enter Tryz.func194,Tryz.ntmps194
 go_wp2_with fail
 with_reducible refine (zb3 ⟨k,u,f,q,s,m,n,t⟩ true _ S0.out A0.out.parts).mono ?_
 rintro e w1 ⟨rfl,hb⟩
 have A1:=hid (A0.out.on hb)
 clear hb
 obtain ⟨⟨c0,c1,c2,c3,c4,c5,c6,c7⟩,f0,f1,f2,f3,f4,f5,f6,f7⟩:=zaa A1.out.1
 cases x0
 ·go_wp2_with fail
  with_reducible refine (zaY f _ hf).mono ?_
  rw [X0.out]
  rintro e w1b ⟨rfl,hb⟩
  have A1b:=hid (A1.out.on hb)
  clear hb A1
  clear c0 c1 c2 c3 c4 c5 c6 c7 f0 f1 f2 f3 f4 f5 f6 f7
  obtain ⟨⟨c0,c1,c2,c3,c4,c5,c6,c7⟩,f0,f1,f2,f3,f4,f5,f6,f7⟩:=zaa A1b.out.1
  have E:zaA ⟨k,u,f,q,s,m,n,t⟩=false:=by simp [zaA,in0,in1,in2,in3,in4,in5,S0.out,S1.out,S2.out,S3.out,S4.out,S5.out,X0.out]
  have HE:=hid E
  clear E
  go_wp2
  go_ret
  exact ⟨zab HE.out.symm,A1b.out.below⟩
 ·go_wp2_with fail
  with_reducible refine (zaY f _ hf).mono ?_
  rw [X0.out]
  rintro e w1b ⟨rfl,hb⟩
  have A1b:=hid (A1.out.on hb)
  clear hb A1
  clear c0 c1 c2 c3 c4 c5 c6 c7 f0 f1 f2 f3 f4 f5 f6 f7
  obtain ⟨⟨c0,c1,c2,c3,c4,c5,c6,c7⟩,f0,f1,f2,f3,f4,f5,f6,f7⟩:=zaa A1b.out.1
  go_wp2_with fail
  with_reducible refine (zb7 ⟨k,u,f,q,s,m,n,t⟩ false _ S1.out A1b.out.parts).mono ?_
  rintro e w2 ⟨rfl,hb⟩
  have A2:=hid (A1b.out.on hb)
  clear hb
  clear c0 c1 c2 c3 c4 c5 c6 c7 f0 f1 f2 f3 f4 f5 f6 f7
  obtain ⟨⟨c0,c1,c2,c3,c4,c5,c6,c7⟩,f0,f1,f2,f3,f4,f5,f6,f7⟩:=zaa A2.out.1
  go_wp2_with fail
  with_reducible refine (zb5 ⟨k,u,f,q,s,m,n,t⟩ false _ S2.out A2.out.parts).mono ?_
  rintro e w3 ⟨rfl,hb⟩
  have A3:=hid (A2.out.on hb)
  clear hb
  clear c0 c1 c2 c3 c4 c5 c6 c7 f0 f1 f2 f3 f4 f5 f6 f7
  obtain ⟨⟨c0,c1,c2,c3,c4,c5,c6,c7⟩,f0,f1,f2,f3,f4,f5,f6,f7⟩:=zaa A3.out.1
  go_wp2_with fail
  with_reducible refine (zca ⟨k,u,f,q,s,m,n,t⟩ false _ S3.out A3.out.parts).mono ?_
  rintro e w4 ⟨rfl,hb⟩
  have A4:=hid (A3.out.on hb)
  clear hb
  clear c0 c1 c2 c3 c4 c5 c6 c7 f0 f1 f2 f3 f4 f5 f6 f7
  obtain ⟨⟨c0,c1,c2,c3,c4,c5,c6,c7⟩,f0,f1,f2,f3,f4,f5,f6,f7⟩:=zaa A4.out.1
  go_wp2_with fail
  refine wp_region_held_drew (S:=(fun w'=>w'.cell? ⟨w.heap.size,0,none⟩=some (.int .i64 k)∧w'.cell? ⟨w.heap.size,1,none⟩=some (.int .u64 u)∧w'.cell? ⟨w.heap.size,2,none⟩=some (.string f)∧w'.cell? ⟨w.heap.size,3,none⟩=some (.int .u64 q)∧w'.cell? ⟨w.heap.size,4,none⟩=some (.string s)∧w'.cell? ⟨w.heap.size,5,none⟩=some (.int .i64 m)∧w'.cell? ⟨w.heap.size,6,none⟩=some (.int .u64 n)∧w'.cell? ⟨w.heap.size,7,none⟩=some (.int .i64 t))) (by kernel_rfl) (by exact (zaa A4.out.1).1) (fun hHeld=>?_)
  refine ta 0 rfl hHeld ?_
  try simp only [Act.put,g1,g2,g3,g4,g5,g6]
  refine wpAnyH_ready (rs:=[1]) (by kernel_rfl) (by simp) ?_
  refine AllReadyH.cons (o:=_) rfl (fun K hK=>?_) AllReadyH.nil
  go_simp
  go_at_call 173
  with_reducible refine (zbT ⟨k,u,f,q,s,m,n,t⟩ false _ S4.out (zad.drew A4.out.parts)).mono ?_
  rintro e w5 ⟨rfl,hb5⟩
  have A5:=hid (A4.out.drew.on hb5)
  refine hK.out _ _ (by exact (zaa A5.out.1).1) (fun hHeld=>?_)
  clear hK K
  try simp only [Act.put,g1,g2,g3,g4,g5,g6]
  refine ta 2 rfl hHeld ?_
  refine tu 3 rfl hHeld ?_
  try simp only [Act.put,g1,g2,g3,g4,g5,g6]
  refine tu 4 rfl hHeld ?_
  try simp only [Act.put,g1,g2,g3,g4,g5,g6]
  refine tu 5 rfl hHeld ?_
  try simp only [Act.put,g1,g2,g3,g4,g5,g6]
  refine tu 6 rfl hHeld ?_
  try simp only [Act.put,g1,g2,g3,g4,g5,g6]
  refine tu 7 rfl hHeld ?_
  try simp only [Act.put,g1,g2,g3,g4,g5,g6]
  refine tu 8 rfl hHeld ?_
  try simp only [Act.put,g1,g2,g3,g4,g5,g6]
  refine tu 9 rfl hHeld ?_
  try simp only [Act.put,g1,g2,g3,g4,g5,g6]
  refine tu 10 rfl hHeld ?_
  try simp only [Act.put,g1,g2,g3,g4,g5,g6]
  refine tu 11 rfl hHeld ?_
  try simp only [Act.put,g1,g2,g3,g4,g5,g6]
  refine tu 12 rfl hHeld ?_
  try simp only [Act.put,g1,g2,g3,g4,g5,g6]
  refine ta 13 rfl hHeld ?_
  refine ta 14 rfl hHeld ?_
  try simp only [Act.put,g1,g2,g3,g4,g5,g6]
  refine wpAnyH_done (by kernel_rfl) ?_ _
  clear hHeld hb5
  clear c0 c1 c2 c3 c4 c5 c6 c7 f0 f1 f2 f3 f4 f5 f6 f7
  obtain ⟨⟨c0,c1,c2,c3,c4,c5,c6,c7⟩,f0,f1,f2,f3,f4,f5,f6,f7⟩:=zaa A5.out.1
  go_wp2_with fail
  with_reducible refine (zb4 ⟨k,u,f,q,s,m,n,t⟩ true _ S5.out A5.out.parts).mono ?_
  rintro e w6 ⟨rfl,hb⟩
  have A6:=hid (A5.out.on hb)
  clear hb
  clear c0 c1 c2 c3 c4 c5 c6 c7 f0 f1 f2 f3 f4 f5 f6 f7
  obtain ⟨⟨c0,c1,c2,c3,c4,c5,c6,c7⟩,f0,f1,f2,f3,f4,f5,f6,f7⟩:=zaa A6.out.1
  rcases Decidable.em (t<0) with ht | ht
  ·have ht':=ht
   have E:zaA ⟨k,u,f,q,s,m,n,t⟩=false:=by simp [zaA,in0,in1,in2,in3,in4,in5,S0.out,S1.out,S2.out,S3.out,S4.out,S5.out,X0.out];omega
   have HE:=hid E
   clear E
   go_wp2
   go_ret
   exact ⟨zab HE.out.symm,A6.out.below⟩
  ·rcases Decidable.em (1099511627776<t) with ht2 | ht2
   ·have ht':=ht
    have E:zaA ⟨k,u,f,q,s,m,n,t⟩=false:=by simp [zaA,in0,in1,in2,in3,in4,in5,S0.out,S1.out,S2.out,S3.out,S4.out,S5.out,X0.out];omega
    have HE:=hid E
    clear E
    go_wp2
    go_ret
    exact ⟨zab HE.out.symm,A6.out.below⟩
   ·have ht':=ht
    have E:zaA ⟨k,u,f,q,s,m,n,t⟩=true:=by simp [zaA,in0,in1,in2,in3,in4,in5,S0.out,S1.out,S2.out,S3.out,S4.out,S5.out,X0.out];omega
    have HE:=hid E
    clear E
    go_wp2
    go_ret
    exact ⟨zab HE.out.symm,A6.out.below⟩
theorem zqr (c:K) (w:World) (hP:zad w) (hf:c.foot.size≤4611686018427387903) (hp:c.path.size≤4611686018427387903):Calls Tryz.prog 194 #[val c] w fun e w'=>e=.returned (.bool (zaA c))∧Below w.heap.size w w':=by
 obtain ⟨k,u,f,q,s,m,n,t⟩:=c
 rcases zei k with ⟨h,_⟩ | ⟨_,h⟩ | ⟨_,h⟩ | ⟨_,h⟩ | ⟨_,h⟩ | ⟨_,h⟩ | ⟨_,h⟩ | ⟨_,h⟩
 ·exact in_0 k u f q s m n t w hP h hf hp
 ·exact in_1 k u f q s m n t w hP h hf hp
 ·exact in_2 k u f q s m n t w hP h hf hp
 ·exact in_3 k u f q s m n t w hP h hf hp
 ·exact in_4 k u f q s m n t w hP h hf hp
 ·exact in_6 k u f q s m n t w hP h hf hp
 ·exact in_7 k u f q s m n t w hP h hf hp
 ·exact in_8 k u f q s m n t w hP h hf hp
end Go.Proofs.YtnjdckoljmgcjaaGreatDoor
