/-
  LockBytes: two plays in one world, and what it asks of them.
-/
import Derived.Test.YtgjbhlianlbflaaGreatBLkBytesM
import Derived.Test.YtgjbhlianlbflaaGreatBLkAheadMath
import Derived.BigQuiet
namespace Go.Proofs.YtgjbhlianlbflaaGreat
open Go.ChangeShapes Go.WideShapes Go.ChangeAt Go.RowKit Go.Maps Go.WideMaps
set_option linter.unusedVariables false
set_option linter.unusedSimpArgs false
theorem DocK.seB {w : World} {first : Int} {l : List EnL} {cs : CnL} {A A' : Option Addr} {ln c n c' : Nat} (h : DocK w (.agg #[.int .u64 first, .slice A ln c, .slice A' n c']) first l cs) : (SeesE w A l ∧ l.length = ln) ∧ SeesC w A' cs ∧ cs.length = n := by
  obtain ⟨B, d, B', d', h1, h2, h3, h4, h5⟩ := h
  injection h1 with h1
  injection h1 with h1
  injection h1 with _ h1
  injection h1 with e1 h1
  injection h1 with e2 h1
  injection e1 with x1 x2 x3
  injection e2 with y1 y2 y3
  subst x1 x2 x3 y1 y2 y3
  exact ⟨⟨h4, rfl⟩, h5, rfl⟩
theorem SeesC.atB {w : World} {A : Option Addr} {l : CnL} (h : SeesC w A l) {j : Nat} {e : ByteArray × Int} (he : l[j]? = some e) : ∃ b o, A = some ⟨b, o, none⟩ ∧ b < w.heap.size ∧ w.cell? ⟨b, o + j * 2, none⟩ = some (.string e.1) ∧ w.cell? ⟨b, o + j * 2 + 1, none⟩ = some (.int .u64 e.2) := by
  obtain ⟨b, o, h1, h2, h3⟩ := h j e he
  exact ⟨b, o, h1, h2, h3 0 _ rfl, h3 1 _ rfl⟩
theorem PlayAt.beside {w W W2 : World} {b de dc n g : Nat} {first : Int} {l : List EnL} {cs : CnL} {A A' : Option Addr} {n1 c1 n2 c2 : Nat} {de' dc' g' : Nat} {T : TypeId} {x : Int} {S1 S2 : Option Addr} {p1 q1 p2 q2 : Nat}
    (h : PlayAt w W b de dc n g first l cs A n1 c1 A' n2 c2) (t : TurnsD (OwnK de' dc') W W2) (hb : BareK (OwnK de' dc') W) (hx : Blk W2 g' T #[.int .u64 x, .slice S1 p1 q1, .slice S2 p2 q2])
    (hne : (b ≠ de' ∧ b ≠ dc' ∧ b ≠ g') ∧ (de ≠ de' ∧ de ≠ dc' ∧ de ≠ g') ∧ (dc ≠ de' ∧ dc ≠ dc' ∧ dc ≠ g') ∧ (g ≠ de' ∧ g ≠ dc' ∧ g ≠ g')) (hlow : w.heap.size ≤ de' ∧ w.heap.size ≤ dc' ∧ w.heap.size ≤ g') (u v z : Value) :
    PlayAt w (put3K W2 g' u v z) b de dc n g first l cs A n1 c1 A' n2 c2 := by
  have t3 := turn3K W2 g' u v z
  obtain ⟨⟨a1, a2, a3⟩, ⟨b1, b2, b3⟩, ⟨d1, d2, d3⟩, e1, e2, e3⟩ := hne
  refine ⟨(h.book.turns t (fun e => by rcases e with e | e; exact a1 e; exact a2 e) (fun e => by rcases e with e | e; exact b1 e; exact b2 e) (fun e => by rcases e with e | e; exact d1 e; exact d2 e)).turns t3 a3 b3 d3, h.good, (h.doc.turns t hb).put hx _ _ _, (h.box.turns t (fun e => by rcases e with e | e; exact e1 e; exact e2 e)).turns t3 e3, ?_, h.ne⟩
  exact put3K_below (h.bel.trans (t.below (B := w.heap.size) h.bel.size (fun i hi e => by rcases e with e | e <;> omega))) hlow.2.2 _ _ _
def FeetB (l : List EnL) : Prop := ∀ e ∈ l, e.foot.size ≤ 1048576
theorem feet_step {first : Int} {l : List EnL} {cs : CnL} {o : OpK} (h : FeetB l) (ho : o.foot.size ≤ 1048576) : FeetB (stpL first l cs o) := by
  intro e he
  unfold stpL at he
  split at he
  · unfold addOutL at he
    split at he
    · rcases List.mem_append.1 he with h1 | h1
      · exact h e h1
      · rw [List.mem_singleton.1 h1]; exact ho
    · exact h e he
  · split at he
    · exact h e (List.mem_filter.1 he).1
    · split at he
      · exact h e (List.mem_filter.1 he).1
      · exact h e he
theorem sum_most {α : Type} (wt : α → Nat) (K : Nat) : ∀ {l : List α}, (∀ x ∈ l, wt x ≤ K) → (l.map wt).sum ≤ l.length * K
  | [], _ => by simp
  | x :: l, h => by
    have h1 := sum_most wt K (l := l) (fun y hy => h y (by simp [hy]))
    have h2 := h x (by simp)
    rw [List.map_cons, List.sum_cons, List.length_cons, Nat.add_mul]
    omega
set_option maxRecDepth 100000 in
theorem eqk_cnt (p : ByteArray) (a : Int) (q : ByteArray) (b : Int) (w : World) :
    (Op.equalIn 10000 61 (.agg #[.string p, .int .u64 a]) (.agg #[.string q, .int .u64 b])).run Tryz.prog w = .ok (decide (p = q) && decide (a = b)) w := by
  have ht : Tryz.prog.underlying 61 = some (.struct (Tryz.prog.fieldsOf 61)) := by kernel_rfl
  have hp : Tryz.prog.stoodInHeld 61 = false := by kernel_rfl
  rw [run_equalIn_struct w 9999 _ _ _ ht hp]
  have p1 := run_part_plain (P := Tryz.prog) (w := w) (e := 9) (by kernel_rfl) (xs := #[.string p, .int .u64 a]) (off := 0) rfl
  have p2 := run_part_plain (P := Tryz.prog) (w := w) (e := 22) (by kernel_rfl) (xs := #[.string p, .int .u64 a]) (off := 1) rfl
  have p3 := run_part_plain (P := Tryz.prog) (w := w) (e := 9) (by kernel_rfl) (xs := #[.string q, .int .u64 b]) (off := 0) rfl
  have p4 := run_part_plain (P := Tryz.prog) (w := w) (e := 22) (by kernel_rfl) (xs := #[.string q, .int .u64 b]) (off := 1) rfl
  have q1 := run_equalIn_string (P := Tryz.prog) w 9998 9 p q Tryz.underlying9
  have q2 := run_equalIn_int (P := Tryz.prog) w 9998 22 .u64 .u64 a b Tryz.underlying22
  rw [lkeq_text] at q1
  have e : (decide (p = q) && decide (a = b)) = (decide (p = q) && ((a == b) && true)) := by
    by_cases h : a = b <;> simp [h]
  rw [e]
  simp only [Program.fieldsOf, Tryz.underlying61]
  exact eqk_cons (by decide) p1 p3 q1 (eqk_cons (by decide) p2 p4 q2 eqk_nil)
theorem idx_get {first : Int} {l : List EnL} {cs : CnL} (h : GoodK first l cs) {p : ByteArray} {u : Int} {f : ByteArray} {y : EnL} (hy : findE l p u f = some y) : ∃ j : Nat, l[j]? = some y ∧ idxE l p u f = (j : Int) := by
  obtain ⟨h1, rfl, rfl, rfl⟩ := findE_mem hy
  obtain ⟨j, hj⟩ := List.mem_iff_getElem?.1 h1
  exact ⟨j, hj, (idx_pos h hj).1⟩
theorem sameE_no {l' : List EnL} {e : EnL} (h : findE l' e.path e.num e.foot = none) : sameE l' e = false := by
  unfold sameE
  rw [h]
  rfl
theorem sameE_at {l' : List EnL} {e y : EnL} (h : findE l' e.path e.num e.foot = some y) : sameE l' e = eqE y e := by
  unfold sameE getE
  rw [h]
  rfl
theorem all_snocB {α : Type} (q : α → Bool) {l : List α} {i : Nat} {x : α} (h : l[i]? = some x) : (l.take (i + 1)).all q = ((l.take i).all q && q x) := by
  rw [take_snocP h, List.all_append]
  simp
theorem any_snocB {α : Type} (q : α → Bool) {l : List α} {i : Nat} {x : α} (h : l[i]? = some x) : (l.take (i + 1)).any q = ((l.take i).any q || q x) := by
  rw [take_snocP h, List.any_append]
  simp
structure TwoP (w W : World) (q r g : Nat) (first : Int) (ks : List EnL) (cs : CnL) (X : Option Addr) (n1 c1 : Nat) (Y : Option Addr) (n2 c2 : Nat) (kt : List EnL) (ct : CnL) (X' : Option Addr) (m1 d1 : Nat) (Y' : Option Addr) (m2 d2 : Nat) (i j : Nat) : Prop where
  one : PlayAt w W (q + 2) q (q + 1) i g first ks cs X n1 c1 Y n2 c2
  two : PlayAt w W (r + 2) r (r + 1) j (g + 1) first kt ct X' m1 d1 Y' m2 d2
  f1 : FeetB ks
  f2 : FeetB kt
theorem TwoP.on {w W W2 : World} {q r g : Nat} {first : Int} {ks : List EnL} {cs : CnL} {X : Option Addr} {n1 c1 : Nat} {Y : Option Addr} {n2 c2 : Nat} {kt : List EnL} {ct : CnL} {X' : Option Addr} {m1 d1 : Nat} {Y' : Option Addr} {m2 d2 : Nat} {i j : Nat}
    (h : TwoP w W q r g first ks cs X n1 c1 Y n2 c2 kt ct X' m1 d1 Y' m2 d2 i j) (t : Below W.heap.size W W2) : TwoP w W2 q r g first ks cs X n1 c1 Y n2 c2 kt ct X' m1 d1 Y' m2 d2 i j := ⟨h.one.on t, h.two.on t, h.f1, h.f2⟩
theorem sumE_most {first : Int} {n : Nat} {l : List EnL} {cs : CnL} (h : GoodD n first l cs) (hn : n ≤ 30) (hf : FeetB l) : (l.map wtE).sum + ((cs.map (·.1)).map wtC).sum ≤ 33000000 := by
  have h1 := sum_most wtE 1049536 (l := l) (fun e he => by have := size_right (h.1.ok e he).1; have := hf e he; unfold wtE; omega)
  have h2 := sum_most wtC 920 (l := cs.map (·.1)) (fun p hp => by
    obtain ⟨c, hc, rfl⟩ := List.mem_map.1 hp
    have := size_right (h.1.cok c hc).1
    unfold wtC
    omega)
  have h3 := h.2.1
  have h4 := h.2.2.2
  rw [List.length_map] at h2
  have h5 : l.length * 1049536 ≤ 30 * 1049536 := Nat.mul_le_mul_right _ (by omega)
  have h6 : cs.length * 920 ≤ 30 * 920 := Nat.mul_le_mul_right _ (by omega)
  omega
theorem encB_most {first : Int} {n : Nat} {l : List EnL} {cs : CnL} (h : GoodD n first l cs) (hn : n ≤ 30) (hf : FeetB l) {ds : List EnL} {ps : List ByteArray} (hd : ds.Perm l) (hp : ps.Perm (cs.map (·.1))) : (encB cs ds ps).length ≤ 33000040 := by
  have h0 := sumE_most h hn hf
  have h1 := flat_le encE wtE ds (fun x hx => by
    have hm := hd.mem_iff.1 hx
    have k1 := size_right (h.1.ok x hm).1
    have k2 := (h.1.ok x hm).2.2.1
    have k3 := h.2.2.1 x hm
    exact encE_le (by omega) (h.1.keys x hm).2.2 (by omega))
  have h2 := flat_le (encC cs) wtC ps (fun p hx => by
    obtain ⟨c, hc, rfl⟩ := List.mem_map.1 (hp.mem_iff.1 hx)
    have k1 := size_right (h.1.cok c hc).1
    exact encC_le cs (by omega))
  have e1 := (hd.map wtE).sum_nat
  have e2 := (hp.map wtC).sum_nat
  have l1 := hd.length_eq
  have l2 := hp.length_eq
  rw [List.length_map] at l2
  have g1 := h.2.1
  have g2 := h.2.2.2
  have s1 : (shortN ds.length).length ≤ 10 := shortN_len10 (by omega)
  have s2 : (shortN ps.length).length ≤ 10 := shortN_len10 (by omega)
  unfold encB
  simp only [List.length_append]
  omega
end Go.Proofs.YtgjbhlianlbflaaGreat
