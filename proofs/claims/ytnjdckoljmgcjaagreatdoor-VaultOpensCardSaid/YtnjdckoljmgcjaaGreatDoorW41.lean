/-
  A disk that holds a vault's log, and torn ends: what opening, crashes and arming leave of it. No program in it.
-/
import Derived.Test.YtnjdckoljmgcjaaGreatDoorW39
set_option maxRecDepth 100000
set_option maxHeartbeats 4000000
namespace Go.Proofs.YtnjdckoljmgcjaaGreatDoor
set_option linter.unusedVariables false
set_option linter.unusedSimpArgs false
structure zcq (F:List Nat) (d:Dk):Prop where
 sz:d.sz=4096
 ok:d.Ok
 l0:∃t,d.l 0=F ++ t∧t.length≤3∧∀x∈t,x<256
 s0:F.length≤d.s 0
 l1:(d.l 1).length≤2∧∀x∈d.l 1,x<256
section
variable {F:List Nat} {d:Dk}
theorem zcq.arm (h:zcq F d) {n:Int} (hn:n≤9223372036854775807):zcq F (armD d n):=⟨h.sz,ztu h.ok hn,h.l0,h.s0,h.l1⟩
theorem zcq.spent (h:zcq F d) (n:Nat):zcq F (zaL d n) :=
 ⟨by rw [zfE];exact h.sz,zfp h.ok n,by rw [zdB];exact h.l0,by rw [zmq];exact h.s0,by rw [zdB];exact h.l1⟩
theorem zcq.cut1 (h:zcq F d):zcq F (cutD d 1 0):=by
 have e0:(cutD d 1 0).l 0=d.l 0:=rfl
 have e1:(cutD d 1 0).l 1=(d.l 1).take 0:=rfl
 have e2:(cutD d 1 0).s 0=d.s 0:=rfl
 exact ⟨h.sz,zk5 h.ok (by decide) (Nat.zero_le _),by rw [e0];exact h.l0,by rw [e2];exact h.s0,by rw [e1];simp⟩
theorem zcq.cut0 (h:zcq F d):zcq F (cutD d 0 F.length):=by
 obtain ⟨t,ht,h3,h8⟩:=h.l0
 have e0:(cutD d 0 F.length).l 0=(d.l 0).take F.length:=rfl
 have e1:(cutD d 0 F.length).l 1=d.l 1:=rfl
 have e2:(cutD d 0 F.length).s 0=min (d.s 0) F.length:=rfl
 refine ⟨h.sz,zk5 h.ok (by decide) (by rw [ht,List.length_append];omega),⟨[],by rw [e0,ht,List.take_left',List.append_nil];rfl,by simp,by simp⟩,by rw [e2];have:=h.s0;omega,by rw [e1];exact h.l1⟩
theorem zcq.loss0 (h:zcq F d) (a:Int):zcq F (zdL d 0 a):=by
 obtain ⟨t,ht,h3,h8⟩:=h.l0
 have hs:=h.s0
 have e0:(zdL d 0 a).l 0=(d.l 0).take (zdK d 0 a):=rfl
 have e1:(zdL d 0 a).l 1=d.l 1:=rfl
 have e2:(zdL d 0 a).s 0=zdK d 0 a:=rfl
 have hr:F.length≤zdK d 0 a:=by unfold zdK;omega
 refine ⟨h.sz,zd3 h.ok (by decide) a,⟨t.take (zdK d 0 a - F.length),?_,?_,fun x hx=>h8 x (List.mem_of_mem_take hx)⟩,by rw [e2];exact hr,by rw [e1];exact h.l1⟩
 ·rw [e0,ht,List.take_append]
  rw [List.take_of_length_le hr]
 ·rw [List.length_take]
  omega
theorem zcq.loss1 (h:zcq F d) (a:Int):zcq F (zdL d 1 a):=by
 have e0:(zdL d 1 a).l 0=d.l 0:=rfl
 have e1:(zdL d 1 a).l 1=(d.l 1).take (zdK d 1 a):=rfl
 have e2:(zdL d 1 a).s 0=d.s 0:=rfl
 exact ⟨h.sz,zd3 h.ok (by decide) a,by rw [e0];exact h.l0,by rw [e2];exact h.s0,by rw [e1];exact ⟨by rw [List.length_take];have:=h.l1.1;omega,fun x hx=>h.l1.2 x (List.mem_of_mem_take hx)⟩⟩
theorem zcq.crash (h:zcq F d) (a b:Int):zcq F (zeC d a b):=by
 have h2:=(h.loss0 a).loss1 b
 exact ⟨h2.sz,zoM h.ok a b,h2.l0,h2.s0,h2.l1⟩
theorem zgu (d:Dk) (a b:Int):(zeC d a b).dn=false∧(zeC d a b).arm=false:=⟨rfl,rfl⟩
theorem zmQ (d:Dk) (k n:Nat) (hk:k<2) (hd:d.dn=false):zbX d k n=(d,0)∧(d.l k).length≤n∨zbX d k n=(zaL d 1,40)∧d.arm=true∨zbX d k n=(cutD (zaL d 1) k n,0)∧(zaL d 1).dn=false:=by
 unfold zbX
 by_cases h:(d.l k).length≤n
 ·rw [if_pos h];exact .inl ⟨rfl,h⟩
 ·rw [if_neg h]
  unfold zc7
  rw [if_pos (zi6 hk hd),if_neg (by rw [Int.toNat_natCast];omega)]
  cases hs:zcb d 1 with
  | true =>
   rw [if_pos rfl]
   refine .inr (.inl ⟨rfl,?_⟩)
   unfold zcb at hs
   simp at hs
   exact hs.1
  | false =>
   rw [if_neg (by simp),Int.toNat_natCast,Int.toNat_natCast]
   refine .inr (.inr ⟨rfl,?_⟩)
   unfold zaL
   split
   ·show (d.dn || zcb d 1)=false
    rw [hd,hs]
    rfl
   ·exact hd
theorem zcq.tidy (h:zcq F d) (hd:d.dn=false):zcq F (zco d F.length).1∧((zco d F.length).2=0∨(zco d F.length).2=40)∧(d.arm=false→(zco d F.length).2=0)∧((zco d F.length).2=0→(zco d F.length).1.l 1=[]):=by
 have second:∀e:Dk,zcq F e→e.dn=false→(d.arm=false→e.arm=false)→e.l 1=[]→zcq F (zbX e 0 F.length).1∧((zbX e 0 F.length).2=0∨(zbX e 0 F.length).2=40)∧(d.arm=false→(zbX e 0 F.length).2=0)∧((zbX e 0 F.length).2=0→(zbX e 0 F.length).1.l 1=[]):=by
  intro e he hdn ha h1
  rcases zmQ e 0 F.length (by decide) hdn with ⟨q,_⟩ | ⟨q,q2⟩ | ⟨q,q2⟩
  ·rw [q];exact ⟨he,.inl rfl,fun _=>rfl,fun _=>h1⟩
  ·rw [q];exact ⟨he.spent 1,.inr rfl,fun h=>(by rw [ha h] at q2;cases q2),fun h=>(by cases h)⟩
  ·rw [q]
   refine ⟨(he.spent 1).cut0,.inl rfl,fun _=>rfl,fun _=>?_⟩
   show (zaL e 1).l 1=[]
   rw [zdB]
   exact h1
 unfold zco
 rcases zmQ d 1 0 (by decide) hd with ⟨q,q1⟩ | ⟨q,q2⟩ | ⟨q,q2⟩
 ·rw [q,if_pos rfl]
  exact second d h hd id (List.eq_nil_of_length_eq_zero (by omega))
 ·rw [q,if_neg (by show ¬((40:Int)=0);decide)]
  exact ⟨h.spent 1,.inr rfl,fun h=>(by rw [h] at q2;cases q2),fun h=>(by cases h)⟩
 ·rw [q,if_pos rfl]
  refine second _ (h.spent 1).cut1 q2 (fun ha=>?_) ?_
  ·show (zaL d 1).arm=false
   unfold zaL
   rw [if_neg (by rw [ha];simp)]
   exact ha
  ·show updD (zaL d 1).l 1 _ 1=[]
   rw [zbK]
   rfl
end
end Go.Proofs.YtnjdckoljmgcjaaGreatDoor
