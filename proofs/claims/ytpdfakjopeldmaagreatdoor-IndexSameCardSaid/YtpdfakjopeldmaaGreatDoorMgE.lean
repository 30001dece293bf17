/-
  Slices of structs of several cells that the call owns: one appended to another, whichever of both is nil. No program in it.
-/
import Derived.Test.YtpdfakjopeldmaaGreatDoorMgD
import Derived.Laws.AppendOwnNone
import Derived.Laws.OwnMore
import Derived.OwnWalk
import Derived.Deep.RegionLaw
namespace Go.Proofs.YtpdfakjopeldmaaGreatDoor
open Go.RowKit

section
variable {P : Program} {w : World} {ops : Array Oper} {rest : List Oper} {o : Oper} {a : Act} {Q : Exit → Act → World → Prop}

/-- One owned row behind another. -/
theorem wpList_append_rows (hgd : o.guard = none) (s x : Operand) (t : TypeId) (ho : o.op = .call { callee := .builtin .append, args := #[s, x], argTypes := #[t, t] })
    (base base2 : Nat) (e : TypeId) (i : TypeInfo) (z : Value) (size bytes : Nat) (ht : P.underlying t = some (.slice e)) (hi : P.info? e = some i) (hz : i.zero = some z)
    (hsize : i.size = size) (hby : i.bytes = bytes) (hzs : z.cells.size = size) (hsz : 0 < size) (v : Value) (n : Nat) (xs : List Value) (hs : a.eval s = v) (hown : w.ownsRow base e size v n xs)
    (u : Value) (m : Nat) (ys : List Value) (hx : a.eval x = u) (hu : w.ownsRow base2 e size u m ys) (h1 : ∀ y ∈ ys, y.oneCell' = true)
    (h63 : n + m ≤ maxLen) (hbytes : (n + m) * bytes ≤ 140737488355328) (hbase : base ≤ w.heap.size)
    (h : ∀ v' w', w'.ownsRow base e size v' (n + m) (xs ++ ys) → w.grownBy w' v.ownBlock → wpList P ops Q rest (a.put o.dst v') w') : wpList P ops Q (o :: rest) a w := by
  obtain ⟨hl, hc⟩ := hu
  rcases hc with ⟨hn, h0⟩ | ⟨g, cap, cur, hv, hb, hg, k1, k2, k3, k4⟩
  · subst h0
    have hy : ys = [] := List.eq_nil_of_length_eq_zero (by rw [hl]; simp)
    subst hy
    exact wpList_append_own_none hgd s x t ho base e i size ht hi v n xs hs hown (hx.trans hn) (h v w (by simpa using hown) (World.grownBy.refl _ _))
  · have hu2 : w.ownsRow base2 e size u m ys := ⟨hl, Or.inr ⟨g, cap, cur, hv, hb, hg, k1, k2, k3, k4⟩⟩
    exact wpList_append_own w hgd s x t ho base e i z size bytes ht hi hz hsize hby hzs hsz v n xs hs hown ⟨g, 0, none⟩ m cap ys (hx.trans hv) hl (hu2.cells (by rw [hv]; rfl)) h1 h63 hbytes hbase fun v' w' a1 a2 _ => h v' w' a1 a2

end

section
variable {P : Program} {w : World} {ops : Array Oper} {o : Oper} {a : Act} {K : Act → World → Prop} {Q : Exit → Act → World → Prop} {E : Prop}

/-- .. as a step of a region that draws its order. -/
theorem step_append_own (hgd : o.guard = none) (s x : Operand) (t : TypeId) (ho : o.op = Op.call { callee := Callee.builtin Builtin.append, args := #[s, x], argTypes := #[t, t] })
    (base : Nat) (e : TypeId) (i : TypeInfo) (z : Value) (size bytes : Nat) (ht : P.underlying t = some (.slice e)) (hi : P.info? e = some i) (hz : i.zero = some z)
    (hsize : i.size = size) (hby : i.bytes = bytes) (hzs : z.cells.size = size) (hsz : 0 < size) (v : Value) (n : Nat) (xs : List Value) (hs : a.eval s = v) (hown : w.ownsRow base e size v n xs)
    (ad : Addr) (m c : Nat) (news : List Value) (hx : a.eval x = .slice (some ad) m c) (hl : news.length = m * size) (hnews : ∀ j u, news[j]? = some u → w.cell? (ad.add j) = some u) (h1 : ∀ u ∈ news, u.oneCell' = true)
    (h63 : n + m ≤ maxLen) (hbytes : (n + m) * bytes ≤ 140737488355328) (hbase : base ≤ w.heap.size)
    (h : ∀ v' w', w'.ownsRow base e size v' (n + m) (xs ++ news) → w.grownBy w' v.ownBlock → K (a.put o.dst v') w') : if Region.wanted o (yielded ops a.tmps) = true then Oper.wp P o a w K Q else E := by
  have hw : Region.wanted o (yielded ops a.tmps) = true := by simp [Region.wanted, hgd]
  rw [if_pos hw]
  exact wp_append_own w s x t ho base e i z size bytes ht hi hz hsize hby hzs hsz v n xs hs hown ad m c news hx hl hnews h1 h63 hbytes hbase fun v' w' h2 h3 _ => h v' w' h2 h3

theorem step_append_rows (hgd : o.guard = none) (s x : Operand) (t : TypeId) (ho : o.op = Op.call { callee := Callee.builtin Builtin.append, args := #[s, x], argTypes := #[t, t] })
    (base base2 : Nat) (e : TypeId) (i : TypeInfo) (z : Value) (size bytes : Nat) (ht : P.underlying t = some (.slice e)) (hi : P.info? e = some i) (hz : i.zero = some z)
    (hsize : i.size = size) (hby : i.bytes = bytes) (hzs : z.cells.size = size) (hsz : 0 < size) (v : Value) (n : Nat) (xs : List Value) (hs : a.eval s = v) (hown : w.ownsRow base e size v n xs)
    (u : Value) (m : Nat) (ys : List Value) (hx : a.eval x = u) (hu : w.ownsRow base2 e size u m ys) (h1 : ∀ y ∈ ys, y.oneCell' = true)
    (h63 : n + m ≤ maxLen) (hbytes : (n + m) * bytes ≤ 140737488355328) (hbase : base ≤ w.heap.size)
    (h : ∀ v' w', w'.ownsRow base e size v' (n + m) (xs ++ ys) → w.grownBy w' v.ownBlock → K (a.put o.dst v') w') : if Region.wanted o (yielded ops a.tmps) = true then Oper.wp P o a w K Q else E := by
  have hw : Region.wanted o (yielded ops a.tmps) = true := by simp [Region.wanted, hgd]
  obtain ⟨hl, hc⟩ := hu
  rcases hc with ⟨hn, h0⟩ | ⟨g, cap, cur, hv, hb, hg, k1, k2, k3, k4⟩
  · subst h0
    have hy : ys = [] := List.eq_nil_of_length_eq_zero (by rw [hl]; simp)
    subst hy
    rw [if_pos hw]
    have hrun := run_append_owned_none (P := P) (w := w) base t o.type e i size ht hi v n xs hown
    have hxn := hx.trans hn
    unfold Oper.wp
    simp [execOp, ho, resolve, invoke, builtin, hs, hxn, hrun, Result.andThen]
    exact h v w (by simpa using hown) (World.grownBy.refl _ _)
  · have hu2 : w.ownsRow base2 e size u m ys := ⟨hl, Or.inr ⟨g, cap, cur, hv, hb, hg, k1, k2, k3, k4⟩⟩
    exact step_append_own hgd s x t ho base e i z size bytes ht hi hz hsize hby hzs hsz v n xs hs hown ⟨g, 0, none⟩ m cap ys (hx.trans hv) hl (hu2.cells (by rw [hv]; rfl)) h1 h63 hbytes hbase h

end

/-- Cells of a note. -/
def ntC (n : Nt) : List Value := [.string n.foot, .int .u64 n.num, .int .i64 (n.att 0), .int .i64 (n.att 1), .int .i64 (n.att 2), .int .i64 (n.att 3), .int .i64 (n.att 4), .int .i64 (n.att 5), .int .i64 (n.att 6), .int .i64 (n.att 7)]
def flatN (l : List Nt) : List Value := l.flatMap ntC
theorem flatN_len : ∀ l : List Nt, (flatN l).length = l.length * 10
  | [] => rfl
  | n :: l => by
    have := flatN_len l
    simp only [flatN, List.flatMap_cons, List.length_append, List.length_cons] at *
    rw [this]
    simp [ntC]
    omega
theorem flatN_snoc (l : List Nt) (n : Nt) : flatN (l ++ [n]) = flatN l ++ ntC n := by simp [flatN]
theorem flatN_app (l m : List Nt) : flatN (l ++ m) = flatN l ++ flatN m := by simp [flatN]
theorem ntC_one (n : Nt) : ∀ y ∈ ntC n, y.oneCell' = true := by
  intro y hy
  simp [ntC] at hy
  rcases hy with rfl | rfl | rfl | rfl | rfl | rfl | rfl | rfl | rfl | rfl <;> rfl
theorem flatN_one (l : List Nt) : ∀ y ∈ flatN l, y.oneCell' = true := by
  intro y hy
  obtain ⟨n, _, hn⟩ := List.mem_flatMap.1 hy
  exact ntC_one n y hn
theorem flatN_get : ∀ {l : List Nt} {j i : Nat} (hj : j < l.length), i < 10 → (flatN l)[j * 10 + i]? = (ntC l[j])[i]?
  | n :: l, 0, i, _, hi => by
    simp only [flatN, List.flatMap_cons, Nat.zero_mul, Nat.zero_add, List.getElem_cons_zero]
    rw [List.getElem?_append_left (by simpa [ntC] using hi)]
  | n :: l, j + 1, i, hj, hi => by
    have ih := flatN_get (l := l) (j := j) (i := i) (by simpa using hj) hi
    simp only [flatN, List.flatMap_cons, List.getElem_cons_succ] at *
    rw [List.getElem?_append_right (by simp [ntC]; omega), ← ih]
    congr 1
    simp [ntC]
    omega

end Go.Proofs.YtpdfakjopeldmaaGreatDoor

/-
  The document's list of notes (moothillref12): its cut, its Note; the law's small and of.
-/
namespace Go.Proofs.YtpdfakjopeldmaaGreatDoor
open Go.ChangeShapes Go.WideShapes Go.ChangeAt Go.RowKit Go.Maps Go.WideMaps
set_option linter.unusedVariables false
set_option linter.unusedSimpArgs false

set_option maxRecDepth 100000 in
set_option maxHeartbeats 1000000 in
theorem small12 (c : K) (w : World) : Calls Tryz.prog 6 #[val c] w fun e w' => e = .returned (.bool (smallK c)) ∧ Below w.heap.size w w' := by
  obtain ⟨k, u, f, q, s, m, n, t⟩ := c
  go_enter Tryz.func6, Tryz.ntmps6
  go_wp2
  all_goals go_ret
  all_goals exact ⟨ret_bool (by unfold smallK; rw [Bool.eq_iff_iff]; simp; try omega), (Below.refl _ _).alloc (Nat.le_refl _) _⟩

set_option maxRecDepth 100000 in
set_option maxHeartbeats 1000000 in
theorem of12 (c : K) (w : World) : Calls Tryz.prog 19 #[val c] w fun e w' => e = .returned (val c) ∧ Below w.heap.size w w' := by
  obtain ⟨k, u, f, q, s, m, n, t⟩ := c
  have K : Hid (Blk ((w.alloc (.cells (cellsOf ⟨k, u, f, q, s, m, n, t⟩) 27)).alloc (.cells (cellsOf ⟨k, u, f, q, s, m, n, t⟩) 69)) (w.heap.size + 1) 69 (cellsOf ⟨k, u, f, q, s, m, n, t⟩)) := hid (by have h := Blk.new (w.alloc (.cells (cellsOf ⟨k, u, f, q, s, m, n, t⟩) 27)) 69 (cellsOf ⟨k, u, f, q, s, m, n, t⟩); simpa using h)
  go_enter Tryz.func19, Tryz.ntmps19
  go_wp2
  obtain ⟨⟨d0, d1, d2, d3, d4, d5, d6, d7⟩, g0, g1, g2, g3, g4, g5, g6, g7⟩ := cells8 K.out
  refine bodyPost_ret (v := val ⟨k, u, f, q, s, m, n, t⟩) (by simp [results, Tryz.results19, go_sem, d0, d1, d2, d3, d4, d5, d6, d7]) rfl ⟨rfl, ((Below.refl _ _).alloc (Nat.le_refl _) _).alloc (by simp) _⟩

set_option maxRecDepth 100000 in
theorem refcut_any (q : Int) (w : World) : Calls Tryz.prog 45 #[.int .i64 q] w fun e w' => e = .returned (.int .i64 (cutS q)) ∧ w = w' := by
  have h1 : Hid (q < 0 → cutS q = 0) := hid (fun h => by unfold cutS; rw [if_pos h])
  have h2 : Hid (¬ q < 0 → 1073741824 < q → cutS q = 1073741824) := hid (fun h k => by unfold cutS; rw [if_neg h, if_pos k])
  have h3 : Hid (¬ q < 0 → ¬ 1073741824 < q → cutS q = q) := hid (fun h k => by unfold cutS; rw [if_neg h, if_neg k])
  rcases (show q < 0 ∨ ¬ q < 0 by omega) with h | h
  · have HE := hid (h1.out h)
    go_enter Tryz.func45, Tryz.ntmps45
    go_wp2
    go_ret
    exact ⟨ret_num HE.out.symm, rfl⟩
  · rcases (show 1073741824 < q ∨ ¬ 1073741824 < q by omega) with k | k
    · have HE := hid (h2.out h k)
      go_enter Tryz.func45, Tryz.ntmps45
      go_wp2
      go_ret
      exact ⟨ret_num HE.out.symm, rfl⟩
    · have HE := hid (h3.out h k)
      go_enter Tryz.func45, Tryz.ntmps45
      go_wp2
      go_ret
      exact ⟨ret_num HE.out.symm, rfl⟩

/-- A slice that is the document's list. -/
def DocV (w : World) (v : Value) (l : List Nt) : Prop := w.ownsRow 0 75 10 v l.length (flatN l)
theorem DocV.nil (w : World) : DocV w (.slice none 0 0) [] := World.ownsRow_nil w 0 _ 10
theorem DocV.below {w w' : World} {v : Value} {l : List Nt} (h : DocV w v l) (hb : Below w.heap.size w w') : DocV w' v l := h.kept (only_of_below hb none) (by
  cases hv : v.ownBlock with
  | none => exact Or.inl rfl
  | some b => exact Or.inr (by simp))
theorem DocV.alloc {w : World} {v : Value} {l : List Nt} (h : DocV w v l) (o : Obj) : DocV (w.alloc o) v l := h.below ((Below.refl _ _).alloc (Nat.le_refl _) o)
theorem DocV.drew {w : World} {v : Value} {l : List Nt} (h : DocV w v l) : DocV w.drew v l := h
/-- A map is turned. -/
theorem DocV.grown {w w' : World} {v : Value} {l k : List Nt} {x m : Nat} (h : DocV w v l) (hx : Ix w x m k) (hg : w.grownBy w' (some m)) : DocV w' v l := by
  refine World.ownsRow.kept h hg ?_
  rcases h.2 with ⟨rfl, _⟩ | ⟨g, cap, cur, rfl, _, hc, _⟩
  · exact Or.inl rfl
  · refine Or.inr fun e => ?_
    simp [Value.ownBlock] at e
    subst e
    obtain ⟨_, ⟨D, ⟨es, clock, hb, _⟩, _⟩, _⟩ := hx
    rw [hc] at hb
    cases hb
/-- .. in a block below B. -/
def DocB (B : Nat) (w : World) (v : Value) (l : List Nt) : Prop := DocV w v l ∧ ∀ b, v.ownBlock = some b → b < B
theorem DocV.held {w : World} {v : Value} {l : List Nt} (h : DocV w v l) : DocB w.heap.size w v l := ⟨h, fun b hb => (World.ownsRow.lt h b hb).2⟩
theorem DocB.below {B : Nat} {w w' : World} {v : Value} {l : List Nt} (h : DocB B w v l) (hb : Below B w w') : DocB B w' v l := by
  obtain ⟨⟨hl, hc⟩, hB⟩ := h
  refine ⟨⟨hl, ?_⟩, hB⟩
  rcases hc with h0 | ⟨g, cap, cur, hv, hb0, hg, rest⟩
  · exact Or.inl h0
  · exact Or.inr ⟨g, cap, cur, hv, hb0, (hb.block g (hB g (by rw [hv]; rfl))).trans hg, rest⟩
theorem own_doc {w : World} {base n : Nat} {v : Value} {xs : List Value} {l : List Nt} (h : w.ownsRow base 75 10 v n xs) (hn : n = l.length) (hx : xs = flatN l) : DocV w v l := by
  subst hn; subst hx
  exact ⟨h.1, h.2.imp id fun ⟨g, cap, cur, a, b, c⟩ => ⟨g, cap, cur, a, Nat.zero_le _, c⟩⟩

theorem info_n : ∃ z, (Tryz.prog.info? 75).map (fun i => (i.zero, i.size, i.bytes)) = some (some z, 10, 88) ∧ z.cells.size = 10 := ⟨.agg #[.string ⟨#[]⟩, .int .u64 0, .int .i64 0, .int .i64 0, .int .i64 0, .int .i64 0, .int .i64 0, .int .i64 0, .int .i64 0, .int .i64 0], by kernel_rfl, rfl⟩

theorem doc_boxes {w W : World} {cs : Array Value} {r s : Int} (h : (w.alloc (.cells cs 69)).alloc (.cells #[.int .i64 r, .int .i64 s] 71) = W) :
    Hid (Blk W w.heap.size 69 cs) ∧ Hid (Blk W (w.heap.size + 1) 71 #[.int .i64 r, .int .i64 s]) ∧ Hid (Below w.heap.size w W) := two_new h
theorem n_cells {w' : World} {g : Nat} {T : TypeId} {f : ByteArray} {u : Int} {a : Nat → Int} (h : Blk w' g T (#[.string f, .int .u64 u, .int .i64 (a 0), .int .i64 (a 1), .int .i64 (a 2), .int .i64 (a 3), .int .i64 (a 4), .int .i64 (a 5), .int .i64 (a 6), .int .i64 (a 7)])) : (w'.cell? ⟨g, 0, none⟩ = some (.string f) ∧ w'.cell? ⟨g, 1, none⟩ = some (.int .u64 u) ∧ w'.cell? ⟨g, 2, none⟩ = some (.int .i64 (a 0)) ∧ w'.cell? ⟨g, 3, none⟩ = some (.int .i64 (a 1)) ∧ w'.cell? ⟨g, 4, none⟩ = some (.int .i64 (a 2)) ∧ w'.cell? ⟨g, 5, none⟩ = some (.int .i64 (a 3)) ∧ w'.cell? ⟨g, 6, none⟩ = some (.int .i64 (a 4)) ∧ w'.cell? ⟨g, 7, none⟩ = some (.int .i64 (a 5)) ∧ w'.cell? ⟨g, 8, none⟩ = some (.int .i64 (a 6)) ∧ w'.cell? ⟨g, 9, none⟩ = some (.int .i64 (a 7))) := entry_cells h
theorem n_set (f : ByteArray) (u : Int) (b : Nat → Int) (x : Int) : ∀ a : Nat, a < 7 → (#[.string f, .int .u64 u, .int .i64 (b 0), .int .i64 (b 1), .int .i64 (b 2), .int .i64 (b 3), .int .i64 (b 4), .int .i64 (b 5), .int .i64 (b 6), .int .i64 (b 7)] : Array Value).setIfInBounds (3 + a) (.int .i64 x) = #[.string f, .int .u64 u, .int .i64 ((upd b (1 + a) x) 0), .int .i64 ((upd b (1 + a) x) 1), .int .i64 ((upd b (1 + a) x) 2), .int .i64 ((upd b (1 + a) x) 3), .int .i64 ((upd b (1 + a) x) 4), .int .i64 ((upd b (1 + a) x) 5), .int .i64 ((upd b (1 + a) x) 6), .int .i64 ((upd b (1 + a) x) 7)]
  | 0, _ => rfl
  | 1, _ => rfl
  | 2, _ => rfl
  | 3, _ => rfl
  | 4, _ => rfl
  | 5, _ => rfl
  | 6, _ => rfl
theorem n_get (f : ByteArray) (u : Int) (b : Nat → Int) : ∀ a : Nat, a < 7 → (#[.string f, .int .u64 u, .int .i64 (b 0), .int .i64 (b 1), .int .i64 (b 2), .int .i64 (b 3), .int .i64 (b 4), .int .i64 (b 5), .int .i64 (b 6), .int .i64 (b 7)] : Array Value)[3 + a]? = some (.int .i64 (b (1 + a)))
  | 0, _ => rfl
  | 1, _ => rfl
  | 2, _ => rfl
  | 3, _ => rfl
  | 4, _ => rfl
  | 5, _ => rfl
  | 6, _ => rfl
theorem n_at {W w : World} {f : ByteArray} {u : Int} {b : Nat → Int} (h : w.alloc (.cells (#[.string f, .int .u64 u, .int .i64 (b 0), .int .i64 (b 1), .int .i64 (b 2), .int .i64 (b 3), .int .i64 (b 4), .int .i64 (b 5), .int .i64 (b 6), .int .i64 (b 7)]) 75) = W) : ∀ j x, (ntC ⟨f, u, b⟩)[j]? = some x → W.cell? ((⟨w.heap.size, 0, none⟩ : Addr).add j) = some x := by
  obtain ⟨K, _⟩ := one_new h
  intro j x hj
  rw [Addr.add_mid, Nat.zero_add, K.out.cell j]
  exact (List.getElem?_toArray ..).trans hj

set_option maxRecDepth 100000 in
set_option maxHeartbeats 4000000 in
theorem docnote_any (v : Value) (l : List Nt) (c : K) (r s q : Int) (w : World) (h : DocV w v l) (ho : okK c) (hf : c.foot.size < 200) (hp : c.path.size < 200) (hlen : l.length < 1000) :
    Calls Tryz.prog 18 #[v, val c, nm r s, .int .i64 q] w fun e w' => ∃ v', e = .returned v' ∧ DocV w' v' (noteL l c r s q) ∧ Below w.heap.size w w' := by
  have KO := hid (fun w => refoot_any c w ho (by omega) (by omega))
  obtain ⟨F, hF⟩ : ∃ F, keyF c = F := ⟨_, rfl⟩
  obtain ⟨y, hy⟩ : ∃ y, nameB r s = y := ⟨_, rfl⟩
  obtain ⟨B, hB⟩ : ∃ B, keyed c = B := ⟨_, rfl⟩
  have HL : Hid (noteL l c r s q = if B && y then l ++ [⟨F, c.num, upd (upd (fun _ => 0) 0 (cutS q)) (1 + r.toNat) (s + 1)⟩] else l) := hid (by
    unfold noteL noteF keyN
    have : (footK c).2 = keyed c := rfl
    rw [this, hB, hy, hF]
    cases B <;> rfl)
  have e1 : (footK c).1 = F := hF
  have e2 : (footK c).2 = B := hB
  rw [e1, e2] at KO
  have HY := hid hy
  have HN : Hid (y = true → ∃ a b : Nat, r = a ∧ s = b ∧ a < 7 ∧ b < 1024) := hid (fun h => by
    subst h; obtain ⟨a, b, h1, h2, h3, h4, _⟩ := name_in hy; exact ⟨a, b, h1, h2, h3, h4⟩)
  have HV := hid h.held
  obtain ⟨i, z, hi, hz0, hz1, hz2, hz3⟩ : ∃ i z, Tryz.prog.info? 75 = some i ∧ i.zero = some z ∧ i.size = 10 ∧ i.bytes = 88 ∧ z.cells.size = 10 := by
    obtain ⟨z, h1, h2⟩ := info_n
    obtain ⟨i, a, b, c, d⟩ := info_parts h1
    exact ⟨i, z, a, b, c, d, h2⟩
  have HI := hid (And.intro hi (And.intro hz0 (And.intro hz1 (And.intro hz2 hz3))))
  clear h ho hf hp hF hy hB e1 e2 hi hz0 hz1 hz2 hz3
  obtain ⟨k, u, f, q', s', m', n, t⟩ := c
  go_enter Tryz.func18, Tryz.ntmps18
  go_upto_region 1 with fail
  obtain ⟨W, hW⟩ : ∃ W, (w.alloc (.cells (cellsOf ⟨k, u, f, q', s', m', n, t⟩) 69)).alloc (.cells #[.int .i64 r, .int .i64 s] 71) = W := ⟨_, rfl⟩
  rw [hW]
  obtain ⟨K0, K1, KB⟩ := doc_boxes hW
  clear hW
  obtain ⟨g, hk⟩ : ∃ k, w.heap.size = k := ⟨_, rfl⟩
  rw [hk] at K0 K1 KB
  rw [hk]
  have HK := hid hk
  rw [hk] at HV
  clear hk
  obtain ⟨⟨c0, c1, c2, c3, c4, c5, c6, c7⟩, _⟩ := cells8 K0.out
  go_wp2_with fail
  with_reducible refine (KO.out _).mono ?_
  rintro e w1 ⟨rfl, hb⟩
  clear c0 c1 c2 c3 c4 c5 c6 c7
  have D0 := hid (K0.out.below hb K0.out.lt)
  have D1 := hid (K1.out.below hb K1.out.lt)
  have DB := hid (KB.out.trans (hb.mono (Nat.le_of_lt K0.out.lt)))
  clear hb K0 K1 KB
  cases B
  · have HL2 : Hid (noteL l ⟨k, u, f, q', s', m', n, t⟩ r s q = l) := hid (by rw [HL.out]; simp)
    go_wp2
    refine bodyPost_ret (v := v) (by simp [results, Tryz.results18, go_sem]) rfl ?_
    exact ⟨_, rfl, by rw [HL2.out]; exact (HV.out.below DB.out).1, by rw [HK.out]; exact DB.out⟩
  · obtain ⟨⟨i0, i1⟩, _, _⟩ := blkn D1.out
    go_wp2_with fail
    with_reducible refine (nrefright_any r s _).mono ?_
    rw [HY.out]
    rintro e w2 ⟨rfl, hb⟩
    clear i0 i1
    have E0 := hid (D0.out.below hb D0.out.lt)
    have E1 := hid (D1.out.below hb D1.out.lt)
    have EB := hid (DB.out.trans (hb.mono (Nat.le_of_lt D0.out.lt)))
    clear hb D0 D1 DB
    cases y
    · have HL2 : Hid (noteL l ⟨k, u, f, q', s', m', n, t⟩ r s q = l) := hid (by rw [HL.out]; simp)
      go_wp2
      refine bodyPost_ret (v := v) (by simp [results, Tryz.results18, go_sem]) rfl ?_
      exact ⟨_, rfl, by rw [HL2.out]; exact (HV.out.below EB.out).1, by rw [HK.out]; exact EB.out⟩
    · obtain ⟨a, b, rfl, rfl, ha, hb2⟩ := HN.out rfl
      obtain ⟨cu, hcu⟩ : ∃ cu, cutS q = cu := ⟨_, rfl⟩
      have HC := hid (fun w => refcut_any q w)
      rw [hcu] at HC
      have HL2 : Hid (noteL l ⟨k, u, f, q', s', m', n, t⟩ a b q = l ++ [⟨F, u, upd (upd (fun _ => 0) 0 cu) (1 + a) (b + 1)⟩]) := hid (by rw [HL.out, hcu, Int.toNat_natCast]; rfl)
      clear HL hcu
      obtain ⟨⟨c0, c1, c2, c3, c4, c5, c6, c7⟩, _⟩ := cells8 E0.out
      go_upto_region 5 with fail
      obtain ⟨W3, hW3⟩ : ∃ W3, w2.alloc (.cells #[.string F, .int .u64 u, .int .i64 0, .int .i64 0, .int .i64 0, .int .i64 0, .int .i64 0, .int .i64 0, .int .i64 0, .int .i64 0] 75) = W3 := ⟨_, rfl⟩
      rw [hW3]
      obtain ⟨A0, AB⟩ := one_new hW3
      have A0 : Hid (Blk W3 w2.heap.size 75 (#[.string F, .int .u64 u, .int .i64 ((fun _ => (0 : Int)) 0), .int .i64 ((fun _ => (0 : Int)) 1), .int .i64 ((fun _ => (0 : Int)) 2), .int .i64 ((fun _ => (0 : Int)) 3), .int .i64 ((fun _ => (0 : Int)) 4), .int .i64 ((fun _ => (0 : Int)) 5), .int .i64 ((fun _ => (0 : Int)) 6), .int .i64 ((fun _ => (0 : Int)) 7)])) := A0
      clear hW3 c0 c1 c2 c3 c4 c5 c6 c7
      have F1 := hid (E1.out.below AB.out E1.out.lt)
      have FB := hid (EB.out.trans (AB.out.mono (Nat.le_of_lt E0.out.lt)))
      have z2 : Hid (g + 1 < w2.heap.size) := hid E1.out.lt
      obtain ⟨d, hd⟩ : ∃ v, w2.heap.size = v := ⟨_, rfl⟩
      rw [hd] at A0 AB z2
      rw [hd]
      clear E0 E1 EB AB hd
      have g2 := A0.out.frozen 2
      have h2 : W3.cell? ⟨d, 2, none⟩ = some (.int .i64 0) := (A0.out.cell 2).trans rfl
      go_wp2_with fail
      with_reducible refine (HC.out _).mono ?_
      rintro e w4 ⟨rfl, rfl⟩
      go_upto_region 6 with fail
      obtain ⟨W4, hW4⟩ : ∃ W4, W3.setCell ⟨d, 2, none⟩ (.int .i64 cu) = W4 := ⟨_, rfl⟩
      rw [hW4]
      have B0 : Hid (Blk W4 d 75 (#[.string F, .int .u64 u, .int .i64 ((upd (fun _ => 0) 0 cu) 0), .int .i64 ((upd (fun _ => 0) 0 cu) 1), .int .i64 ((upd (fun _ => 0) 0 cu) 2), .int .i64 ((upd (fun _ => 0) 0 cu) 3), .int .i64 ((upd (fun _ => 0) 0 cu) 4), .int .i64 ((upd (fun _ => 0) 0 cu) 5), .int .i64 ((upd (fun _ => 0) 0 cu) 6), .int .i64 ((upd (fun _ => 0) 0 cu) 7)])) := hid (by rw [← hW4]; exact (A0.out.set_ 2 (.int .i64 cu)).as rfl)
      have hb4 : Hid (Below d W3 W4) := hid (by rw [← hW4]; exact (Below.refl d W3).setCell (p := ⟨d, 2, none⟩) (Nat.le_refl _) _)
      have G1 := hid (F1.out.below hb4.out z2.out)
      have GB := hid (FB.out.trans (hb4.out.mono (by have := z2.out; omega)))
      clear hW4 hb4 g2 h2 A0 F1 FB
      have g2 := B0.out.frozen (3 + a)
      have h2 : W4.cell? ⟨d, 3 + a, none⟩ = some (.int .i64 (upd (fun _ => 0) 0 cu (1 + a))) := (B0.out.cell (3 + a)).trans (n_get F u _ a ha)
      obtain ⟨⟨i0, i1⟩, _, _⟩ := blkn G1.out
      have hb3 : (b : Int) < 1024 := by omega
      have ha3 : (a : Int) < 7 := by omega
      go_upto_region 7 with fail
      obtain ⟨W5, hW5⟩ : ∃ W5, W4.setCell ⟨d, 3 + a, none⟩ (.int .i64 ((b : Int) + 1)) = W5 := ⟨_, rfl⟩
      rw [hW5]
      obtain ⟨A, hA⟩ : ∃ A, upd (upd (fun _ => (0 : Int)) 0 cu) (1 + a) ((b : Int) + 1) = A := ⟨_, rfl⟩
      have C0 : Hid (Blk W5 d 75 (#[.string F, .int .u64 u, .int .i64 (A 0), .int .i64 (A 1), .int .i64 (A 2), .int .i64 (A 3), .int .i64 (A 4), .int .i64 (A 5), .int .i64 (A 6), .int .i64 (A 7)])) := hid (by rw [← hW5, ← hA]; exact (B0.out.set_ (3 + a) (.int .i64 ((b : Int) + 1))).as (n_set F u _ _ a ha))
      have CB : Hid (Below g w W5) := hid (GB.out.trans (by rw [← hW5]; exact (Below.refl g W4).setCell (p := ⟨d, 3 + a, none⟩) (by have := z2.out; show g ≤ d; omega) _))
      rw [hA] at HL2
      clear hW5 hA g2 h2 i0 i1 B0 G1 GB
      have CV := hid (HV.out.below CB.out).1
      have z3 : Hid (g ≤ W5.heap.size) := hid (by have := C0.out.lt; have := z2.out; omega)
      obtain ⟨hi, hz0, hz1, hz2, hz3⟩ := HI.out
      go_upto_region 9 with (first
        | (at_builtin; refine wpList_append_rows rfl (.tmp 42) (.tmp 43) 44 rfl g 0 75 i z 10 88 Tryz.underlying44 hi hz0 hz1 hz2 hz3 (by decide) (.slice none 0 0) 0 [] rfl (World.ownsRow_nil _ _ _ _) v l.length (flatN l) rfl CV.out (flatN_one l) (by unfold maxLen; omega) (by omega) z3.out ?_; intro v1 w5 hown1 hg1))
      have O1 := hid hown1
      have J0 := hid (C0.out.grown hg1 (by simp [Value.ownBlock]))
      have JB := hid (CB.out.trans (Below.mono (Below.of_grown hg1) z3.out))
      have z4 : Hid (g ≤ w5.heap.size) := hid (Nat.le_trans z3.out hg1.size)
      clear hown1 hg1 CV C0 CB
      obtain ⟨c0, c1, c2, c3, c4, c5, c6, c7, c8, c9⟩ := n_cells J0.out
      go_wp2_with (first
        | (at_builtin; refine wpList_append_own _ rfl (.tmp 45) (.tmp 47) 44 rfl g 75 i z 10 88 Tryz.underlying44 hi hz0 hz1 hz2 hz3 (by decide) v1 (0 + l.length) ([] ++ flatN l) rfl (O1.out.alloc _) ⟨w5.heap.size, 0, none⟩ 1 1 (ntC ⟨F, u, A⟩) rfl rfl (n_at rfl) (ntC_one _) (by unfold maxLen; omega) (by omega) (by have := z4.out; simp; omega) ?_; intro v2 w6 hown2 hg2 _))
      have X2 := hid hown2
      have XB : Hid (Below g w w6) := hid ((JB.out.alloc z4.out _).grown hg2 (by have := z4.out; simp; omega) (fun k hk => (World.ownsRow.lt O1.out k hk).1))
      clear hown2 hg2 O1 JB c0 c1 c2 c3 c4 c5 c6 c7 c8 c9
      refine bodyPost_ret (v := v2) (by simp [results, Tryz.results18, go_sem]) rfl ?_
      exact ⟨_, rfl, by rw [HL2.out]; exact own_doc X2.out (by simp) (by rw [flatN_snoc]; rfl), by rw [HK.out]; exact XB.out⟩

end Go.Proofs.YtpdfakjopeldmaaGreatDoor

/-
  The law's step, of an index and of the document's list beside it.
-/
namespace Go.Proofs.YtpdfakjopeldmaaGreatDoor
open Go.ChangeShapes Go.WideShapes Go.ChangeAt Go.RowKit Go.Maps Go.WideMaps
set_option linter.unusedVariables false
set_option linter.unusedSimpArgs false

/-- A step. -/
structure OpV where
  kind : Int
  cmd : K
  r : Int
  s : Int
  seq : Int
  ent : Nt
def opC (o : OpV) : Array Value := #[.int .i64 o.kind, .int .i64 o.cmd.kind, .int .u64 o.cmd.num, .string o.cmd.foot, .int .u64 o.cmd.req, .string o.cmd.path, .int .i64 o.cmd.mode, .int .u64 o.cmd.n, .int .i64 o.cmd.time, .int .i64 o.r, .int .i64 o.s, .int .i64 o.seq, .string o.ent.foot, .int .u64 o.ent.num, .int .i64 (o.ent.att 0), .int .i64 (o.ent.att 1), .int .i64 (o.ent.att 2), .int .i64 (o.ent.att 3), .int .i64 (o.ent.att 4), .int .i64 (o.ent.att 5), .int .i64 (o.ent.att 6), .int .i64 (o.ent.att 7)]
/-- Numbers as they may be. -/
def Made (o : OpV) : Prop := okK o.cmd ∧ (∀ i, 8 ≤ i → o.ent.att i = 0) ∧ 0 ≤ o.ent.num ∧ o.ent.num < 18446744073709551616
def fitsO (o : OpV) : Bool := smallK o.cmd && decide (o.ent.foot.size ≤ 200)
/-- What a step notes. -/
def stepL (l : List Nt) (o : OpV) : List Nt := if o.kind = 1 then noteL l o.cmd o.r o.s o.seq else if o.kind = 2 then addL l o.ent else l
theorem stepL_len (l : List Nt) (o : OpV) : (stepL l o).length ≤ l.length + 1 := by
  unfold stepL noteL addL
  split
  · split <;> simp
  · split
    · split <;> simp
    · omega

theorem op_cells {w' : World} {g : Nat} {T : TypeId} {kd : Int} {k u : Int} {f : ByteArray} {q : Int} {s : ByteArray} {m' n t r i sq : Int} {ef : ByteArray} {eu : Int} {ea : Nat → Int} (h : Blk w' g T (#[.int .i64 kd, .int .i64 k, .int .u64 u, .string f, .int .u64 q, .string s, .int .i64 m', .int .u64 n, .int .i64 t, .int .i64 r, .int .i64 i, .int .i64 sq, .string ef, .int .u64 eu, .int .i64 (ea 0), .int .i64 (ea 1), .int .i64 (ea 2), .int .i64 (ea 3), .int .i64 (ea 4), .int .i64 (ea 5), .int .i64 (ea 6), .int .i64 (ea 7)])) : (w'.cell? ⟨g, 0, none⟩ = some (.int .i64 kd) ∧ w'.cell? ⟨g, 1, none⟩ = some (.int .i64 k) ∧ w'.cell? ⟨g, 2, none⟩ = some (.int .u64 u) ∧ w'.cell? ⟨g, 3, none⟩ = some (.string f) ∧ w'.cell? ⟨g, 4, none⟩ = some (.int .u64 q) ∧ w'.cell? ⟨g, 5, none⟩ = some (.string s) ∧ w'.cell? ⟨g, 6, none⟩ = some (.int .i64 m') ∧ w'.cell? ⟨g, 7, none⟩ = some (.int .u64 n) ∧ w'.cell? ⟨g, 8, none⟩ = some (.int .i64 t) ∧ w'.cell? ⟨g, 9, none⟩ = some (.int .i64 r) ∧ w'.cell? ⟨g, 10, none⟩ = some (.int .i64 i) ∧ w'.cell? ⟨g, 11, none⟩ = some (.int .i64 sq) ∧ w'.cell? ⟨g, 12, none⟩ = some (.string ef) ∧ w'.cell? ⟨g, 13, none⟩ = some (.int .u64 eu) ∧ w'.cell? ⟨g, 14, none⟩ = some (.int .i64 (ea 0)) ∧ w'.cell? ⟨g, 15, none⟩ = some (.int .i64 (ea 1)) ∧ w'.cell? ⟨g, 16, none⟩ = some (.int .i64 (ea 2)) ∧ w'.cell? ⟨g, 17, none⟩ = some (.int .i64 (ea 3)) ∧ w'.cell? ⟨g, 18, none⟩ = some (.int .i64 (ea 4)) ∧ w'.cell? ⟨g, 19, none⟩ = some (.int .i64 (ea 5)) ∧ w'.cell? ⟨g, 20, none⟩ = some (.int .i64 (ea 6)) ∧ w'.cell? ⟨g, 21, none⟩ = some (.int .i64 (ea 7))) :=
  ⟨(h.cell 0).trans rfl, (h.cell 1).trans rfl, (h.cell 2).trans rfl, (h.cell 3).trans rfl, (h.cell 4).trans rfl, (h.cell 5).trans rfl, (h.cell 6).trans rfl, (h.cell 7).trans rfl, (h.cell 8).trans rfl, (h.cell 9).trans rfl, (h.cell 10).trans rfl,
    (h.cell 11).trans rfl, (h.cell 12).trans rfl, (h.cell 13).trans rfl, (h.cell 14).trans rfl, (h.cell 15).trans rfl, (h.cell 16).trans rfl, (h.cell 17).trans rfl, (h.cell 18).trans rfl, (h.cell 19).trans rfl, (h.cell 20).trans rfl, (h.cell 21).trans rfl⟩

set_option maxRecDepth 100000 in
set_option maxHeartbeats 8000000 in
theorem step_note (x m : Nat) (l ld : List Nt) (v : Value) (kd k u : Int) (f : ByteArray) (q : Int) (s : ByteArray) (m' n t r i sq : Int) (ef : ByteArray) (eu : Int) (ea : Nat → Int) (w : World) (h : Ix w x m l) (hv : DocV w v ld) (hP : PartsIs w)
    (ho : okK ⟨k, u, f, q, s, m', n, t⟩) (hf : f.size < 200) (hp : s.size < 200) (hlen : l.length < 1000) (hlend : ld.length < 1000) (hk1 : kd = 1) :
    Calls Tryz.prog 8 #[.pointer (some ⟨x, 0, none⟩), v, .agg #[.int .i64 kd, .int .i64 k, .int .u64 u, .string f, .int .u64 q, .string s, .int .i64 m', .int .u64 n, .int .i64 t, .int .i64 r, .int .i64 i, .int .i64 sq, .string ef, .int .u64 eu, .int .i64 (ea 0), .int .i64 (ea 1), .int .i64 (ea 2), .int .i64 (ea 3), .int .i64 (ea 4), .int .i64 (ea 5), .int .i64 (ea 6), .int .i64 (ea 7)]] w fun e w' => ∃ v', e = .returned (.tuple #[v', .bool true]) ∧ Ix w' x m (noteL l ⟨k, u, f, q, s, m', n, t⟩ r i sq) ∧ DocV w' v' (noteL ld ⟨k, u, f, q, s, m', n, t⟩ r i sq) ∧ w.grownBy w' (some m) := by
  have HN := hid (fun w h hP => ixnote_any x m l ⟨k, u, f, q, s, m', n, t⟩ r i sq w h hP hf hp ho.1 hlen)
  have HD := hid (fun w h => docnote_any v ld ⟨k, u, f, q, s, m', n, t⟩ r i sq w h ho hf hp hlend)
  have HX := hid h
  have HV := hid hv.held
  have HP := hid hP
  obtain ⟨L1, hL1⟩ : ∃ L1, noteL l ⟨k, u, f, q, s, m', n, t⟩ r i sq = L1 := ⟨_, rfl⟩
  obtain ⟨L2, hL2⟩ : ∃ L2, noteL ld ⟨k, u, f, q, s, m', n, t⟩ r i sq = L2 := ⟨_, rfl⟩
  rw [hL1] at HN
  rw [hL2] at HD
  rw [hL1, hL2]
  subst hk1
  clear h hv hP ho hf hp hlen hlend hL1 hL2
  go_enter Tryz.func8, Tryz.ntmps8
  go_upto_region 1 with fail
  obtain ⟨W, hW⟩ : ∃ W, w.alloc (.cells (#[.int .i64 1, .int .i64 k, .int .u64 u, .string f, .int .u64 q, .string s, .int .i64 m', .int .u64 n, .int .i64 t, .int .i64 r, .int .i64 i, .int .i64 sq, .string ef, .int .u64 eu, .int .i64 (ea 0), .int .i64 (ea 1), .int .i64 (ea 2), .int .i64 (ea 3), .int .i64 (ea 4), .int .i64 (ea 5), .int .i64 (ea 6), .int .i64 (ea 7)]) 43) = W := ⟨_, rfl⟩
  rw [hW]
  obtain ⟨K0, KB⟩ := one_new hW
  clear hW
  have KX := hid (HX.out.on KB.out)
  have KP := hid (HP.out.below KB.out)
  obtain ⟨g, hk⟩ : ∃ k, w.heap.size = k := ⟨_, rfl⟩
  have hlt := HX.out.lt
  rw [hk] at K0 KB hlt HV
  rw [hk]
  have HK := hid hk
  clear hk HX HP
  have KV := hid (HV.out.below KB.out)
  obtain ⟨c0, c1, c2, c3, c4, c5, c6, c7, c8, c9, c10, c11, c12, c13, c14, c15, c16, c17, c18, c19, c20, c21⟩ := op_cells K0.out
  go_wp2_with fail
  with_reducible refine (HN.out _ KX.out KP.out).mono ?_
  rintro e w1 ⟨rfl, d1, d2⟩
  clear c0 c1 c2 c3 c4 c5 c6 c7 c8 c9 c10 c11 c12 c13 c14 c15 c16 c17 c18 c19 c20 c21
  have D0 := hid (K0.out.grown d2 (by simp; omega))
  have DX := hid d1
  have DV := hid (KV.out.1.grown KX.out d2)
  have DG : Hid (w.grownBy w1 (some m)) := hid (World.grownBy.trans (only_of_below (by rw [HK.out]; exact KB.out) _) d2)
  clear d1 d2 K0 KX KP KB KV HN HV
  go_upto_region 4 with fail
  go_region_held3 (fun w' => (w'.cell? ⟨g, 0, none⟩ = some (.int .i64 1) ∧ w'.cell? ⟨g, 1, none⟩ = some (.int .i64 k) ∧ w'.cell? ⟨g, 2, none⟩ = some (.int .u64 u) ∧ w'.cell? ⟨g, 3, none⟩ = some (.string f) ∧ w'.cell? ⟨g, 4, none⟩ = some (.int .u64 q) ∧ w'.cell? ⟨g, 5, none⟩ = some (.string s) ∧ w'.cell? ⟨g, 6, none⟩ = some (.int .i64 m') ∧ w'.cell? ⟨g, 7, none⟩ = some (.int .u64 n) ∧ w'.cell? ⟨g, 8, none⟩ = some (.int .i64 t) ∧ w'.cell? ⟨g, 9, none⟩ = some (.int .i64 r) ∧ w'.cell? ⟨g, 10, none⟩ = some (.int .i64 i) ∧ w'.cell? ⟨g, 11, none⟩ = some (.int .i64 sq) ∧ w'.cell? ⟨g, 12, none⟩ = some (.string ef) ∧ w'.cell? ⟨g, 13, none⟩ = some (.int .u64 eu) ∧ w'.cell? ⟨g, 14, none⟩ = some (.int .i64 (ea 0)) ∧ w'.cell? ⟨g, 15, none⟩ = some (.int .i64 (ea 1)) ∧ w'.cell? ⟨g, 16, none⟩ = some (.int .i64 (ea 2)) ∧ w'.cell? ⟨g, 17, none⟩ = some (.int .i64 (ea 3)) ∧ w'.cell? ⟨g, 18, none⟩ = some (.int .i64 (ea 4)) ∧ w'.cell? ⟨g, 19, none⟩ = some (.int .i64 (ea 5)) ∧ w'.cell? ⟨g, 20, none⟩ = some (.int .i64 (ea 6)) ∧ w'.cell? ⟨g, 21, none⟩ = some (.int .i64 (ea 7))))
    (first | exact op_cells D0.out | exact op_cells D0.out.drew | exact op_cells E0.out | exact op_cells F0.out)
    (first
      | (go_at_call 19; (with_reducible refine (of12 ⟨k, u, f, q, s, m', n, t⟩ _).mono ?_); rintro e w2 ⟨rfl, g2⟩; have E0 := hid (D0.out.drew.below g2 D0.out.lt); have EV := hid (DocV.below DV.out.drew g2))
      | (go_at_call 18; (with_reducible refine (HD.out _ EV.out).mono ?_); rintro e w3 ⟨v3, rfl, d3, g3⟩; have F0 := hid (E0.out.below g3 E0.out.lt)))
  have F3 := hid d3
  have FB : Hid (Below w1.heap.size w1 w3) := hid ((below_drew (Below.refl _ w1)).trans (g2.trans (g3.mono g2.size)))
  have FX := hid (DX.out.on FB.out)
  have FG : Hid (w.grownBy w3 (some m)) := hid (DG.out.trans (only_of_below FB.out _))
  rename_i hHeld
  clear hHeld g2 g3 d3
  go_wp2
  refine bodyPost_ret (v := .tuple #[v3, .bool true]) (by simp [results, Tryz.results8, go_sem]) rfl ?_
  exact ⟨_, rfl, FX.out, F3.out, FG.out⟩

set_option maxRecDepth 100000 in
set_option maxHeartbeats 8000000 in
theorem step_none (x m : Nat) (l ld : List Nt) (v : Value) (kd k u : Int) (f : ByteArray) (q : Int) (s : ByteArray) (m' n t r i sq : Int) (ef : ByteArray) (eu : Int) (ea : Nat → Int) (w : World) (h : Ix w x m l) (hv : DocV w v ld) (hk1 : kd ≠ 1) (hk2 : kd ≠ 2) :
    Calls Tryz.prog 8 #[.pointer (some ⟨x, 0, none⟩), v, .agg #[.int .i64 kd, .int .i64 k, .int .u64 u, .string f, .int .u64 q, .string s, .int .i64 m', .int .u64 n, .int .i64 t, .int .i64 r, .int .i64 i, .int .i64 sq, .string ef, .int .u64 eu, .int .i64 (ea 0), .int .i64 (ea 1), .int .i64 (ea 2), .int .i64 (ea 3), .int .i64 (ea 4), .int .i64 (ea 5), .int .i64 (ea 6), .int .i64 (ea 7)]] w fun e w' => ∃ v', e = .returned (.tuple #[v', .bool true]) ∧ Ix w' x m l ∧ DocV w' v' ld ∧ w.grownBy w' (some m) := by
  have HX := hid h
  have HV := hid hv
  have e1 : (kd == 1) = false := by simpa using hk1
  have e2 : (kd == 2) = false := by simpa using hk2
  clear h hv
  go_enter Tryz.func8, Tryz.ntmps8
  go_upto_region 1 with fail
  obtain ⟨W, hW⟩ : ∃ W, w.alloc (.cells (#[.int .i64 kd, .int .i64 k, .int .u64 u, .string f, .int .u64 q, .string s, .int .i64 m', .int .u64 n, .int .i64 t, .int .i64 r, .int .i64 i, .int .i64 sq, .string ef, .int .u64 eu, .int .i64 (ea 0), .int .i64 (ea 1), .int .i64 (ea 2), .int .i64 (ea 3), .int .i64 (ea 4), .int .i64 (ea 5), .int .i64 (ea 6), .int .i64 (ea 7)]) 43) = W := ⟨_, rfl⟩
  rw [hW]
  obtain ⟨K0, KB⟩ := one_new hW
  clear hW
  have KX := hid (HX.out.on KB.out)
  have KV := hid (HV.out.below KB.out)
  obtain ⟨c0, c1, c2, c3, c4, c5, c6, c7, c8, c9, c10, c11, c12, c13, c14, c15, c16, c17, c18, c19, c20, c21⟩ := op_cells K0.out
  go_wp2
  refine bodyPost_ret (v := .tuple #[v, .bool true]) (by simp [results, Tryz.results8, go_sem]) rfl ?_
  exact ⟨_, rfl, KX.out, KV.out, only_of_below KB.out _⟩

end Go.Proofs.YtpdfakjopeldmaaGreatDoor

/-
  The law's step that adds an entry.
-/
namespace Go.Proofs.YtpdfakjopeldmaaGreatDoor
open Go.ChangeShapes Go.WideShapes Go.ChangeAt Go.RowKit Go.Maps Go.WideMaps
set_option linter.unusedVariables false
set_option linter.unusedSimpArgs false

theorem made_first {w : World} {B : Nat} (h : w.heap.size = B) : (w.alloc (.cells #[] 75)).ownsRow B 75 10 (.slice (some ⟨B, 0, none⟩) 0 0) 0 [] := by
  subst h
  exact World.ownsRow_made w #[] 0 (Nat.le_refl _) (by simp [maxLen]) rfl

theorem made_second {w : World} {B C : Nat} (h : w.heap.size = C) (hB : B ≤ C) : (w.alloc (.cells #[] 75)).ownsRow B 75 10 (.slice (some ⟨C, 0, none⟩) 0 0) 0 [] := by
  subst h
  exact World.ownsRow_made w #[] 0 hB (by simp [maxLen]) rfl
theorem own_ne {w : World} {base : Nat} {e : TypeId} {size : Nat} {v : Value} {n : Nat} {xs : List Value} (h : w.ownsRow base e size v n xs) {p : Nat} (hp : p < base) : some p ≠ v.ownBlock := fun e => by
  have := (World.ownsRow.lt h p e.symm).1
  omega
theorem blk_new_at {w : World} {g : Nat} {T : TypeId} {cs : Array Value} (h : w.heap.size = g) : Blk (w.alloc (.cells cs T)) g T cs := by subst h; exact Blk.new w T cs
theorem n_second {w W w5 : World} {T : TypeId} {row : Option Nat} {f : ByteArray} {u : Int} {b : Nat → Int} (hg : W.grownBy w5 row) (hW : W.heap = ((w.alloc (.cells #[] T)).alloc (.cells (#[.string f, .int .u64 u, .int .i64 (b 0), .int .i64 (b 1), .int .i64 (b 2), .int .i64 (b 3), .int .i64 (b 4), .int .i64 (b 5), .int .i64 (b 6), .int .i64 (b 7)]) T)).heap) (hne : some (w.heap.size + 1) ≠ row) : ∀ j x, (ntC ⟨f, u, b⟩)[j]? = some x → w5.cell? ((⟨w.heap.size + 1, 0, none⟩ : Addr).add j) = some x := by
  obtain ⟨_, K, _⟩ := two_new (rfl : (w.alloc (.cells #[] T)).alloc (.cells (#[.string f, .int .u64 u, .int .i64 (b 0), .int .i64 (b 1), .int .i64 (b 2), .int .i64 (b 3), .int .i64 (b 4), .int .i64 (b 5), .int .i64 (b 6), .int .i64 (b 7)]) T) = _)
  have K2 : Blk W (w.heap.size + 1) T (#[.string f, .int .u64 u, .int .i64 (b 0), .int .i64 (b 1), .int .i64 (b 2), .int .i64 (b 3), .int .i64 (b 4), .int .i64 (b 5), .int .i64 (b 6), .int .i64 (b 7)]) := by unfold Blk; rw [hW]; exact K.out
  intro j x hj
  rw [Addr.add_mid, Nat.zero_add, (K2.grown hg hne).cell j]
  exact (List.getElem?_toArray ..).trans hj
theorem n_first {w W w5 : World} {T : TypeId} {row : Option Nat} {f : ByteArray} {u : Int} {b : Nat → Int} (hg : W.grownBy w5 row) (hW : W.heap = ((w.alloc (.cells (#[.string f, .int .u64 u, .int .i64 (b 0), .int .i64 (b 1), .int .i64 (b 2), .int .i64 (b 3), .int .i64 (b 4), .int .i64 (b 5), .int .i64 (b 6), .int .i64 (b 7)]) T)).alloc (.cells #[] T)).heap) (hne : some w.heap.size ≠ row) : ∀ j x, (ntC ⟨f, u, b⟩)[j]? = some x → w5.cell? ((⟨w.heap.size, 0, none⟩ : Addr).add j) = some x := by
  obtain ⟨K, _, _⟩ := two_new (rfl : (w.alloc (.cells (#[.string f, .int .u64 u, .int .i64 (b 0), .int .i64 (b 1), .int .i64 (b 2), .int .i64 (b 3), .int .i64 (b 4), .int .i64 (b 5), .int .i64 (b 6), .int .i64 (b 7)]) T)).alloc (.cells #[] T) = _)
  have K2 : Blk W w.heap.size T (#[.string f, .int .u64 u, .int .i64 (b 0), .int .i64 (b 1), .int .i64 (b 2), .int .i64 (b 3), .int .i64 (b 4), .int .i64 (b 5), .int .i64 (b 6), .int .i64 (b 7)]) := by unfold Blk; rw [hW]; exact K.out
  intro j x hj
  rw [Addr.add_mid, Nat.zero_add, (K2.grown hg hne).cell j]
  exact (List.getElem?_toArray ..).trans hj
theorem n_of {w : World} {g : Nat} {T : TypeId} {f : ByteArray} {u : Int} {b : Nat → Int} (h : Blk w g T (#[.string f, .int .u64 u, .int .i64 (b 0), .int .i64 (b 1), .int .i64 (b 2), .int .i64 (b 3), .int .i64 (b 4), .int .i64 (b 5), .int .i64 (b 6), .int .i64 (b 7)])) : ∀ j x, (ntC ⟨f, u, b⟩)[j]? = some x → w.cell? ((⟨g, 0, none⟩ : Addr).add j) = some x := by
  intro j x hj
  rw [Addr.add_mid, Nat.zero_add, h.cell j]
  exact (List.getElem?_toArray ..).trans hj

set_option maxRecDepth 100000 in
set_option maxHeartbeats 8000000 in
theorem step_add (x m : Nat) (l ld : List Nt) (v : Value) (kd k u : Int) (f : ByteArray) (q : Int) (s : ByteArray) (m' n t r i sq : Int) (ef : ByteArray) (eu : Int) (ea : Nat → Int) (w : World) (h : Ix w x m l) (hv : DocV w v ld)
    (hc : Came ⟨ef, eu, ea⟩) (hlen : l.length < 1000) (hlend : ld.length < 1000) (hk2 : kd = 2) :
    Calls Tryz.prog 8 #[.pointer (some ⟨x, 0, none⟩), v, .agg #[.int .i64 kd, .int .i64 k, .int .u64 u, .string f, .int .u64 q, .string s, .int .i64 m', .int .u64 n, .int .i64 t, .int .i64 r, .int .i64 i, .int .i64 sq, .string ef, .int .u64 eu, .int .i64 (ea 0), .int .i64 (ea 1), .int .i64 (ea 2), .int .i64 (ea 3), .int .i64 (ea 4), .int .i64 (ea 5), .int .i64 (ea 6), .int .i64 (ea 7)]] w fun e w' => ∃ v', e = .returned (.tuple #[v', .bool true]) ∧ Ix w' x m (addL l ⟨ef, eu, ea⟩) ∧ DocV w' v' (addL ld ⟨ef, eu, ea⟩) ∧ w.grownBy w' (some m) := by
  have HN := hid (fun w h => ixadd_any x m l ⟨ef, eu, ea⟩ w h hc hlen)
  have hz := hc.2.2.2
  have HX := hid h
  have HV := hid hv.held
  obtain ⟨p, hp⟩ : ∃ p, right (L ef) = p := ⟨_, rfl⟩
  obtain ⟨o, ho⟩ : ∃ o, okB ea = o := ⟨_, rfl⟩
  have HE : Hid (errE ⟨ef, eu, ea⟩ = if p && o then 0 else 10) := hid (by unfold errE okE; rw [hp, ho])
  have HL : Hid (addL ld ⟨ef, eu, ea⟩ = if p && o then ld ++ [⟨ef, eu, ea⟩] else ld) := hid (by unfold addL okE; rw [hp, ho])
  have H1 := hid (fun w => refright_any ef w (by simp at hz; omega))
  have H2 : Hid (∀ w, Calls Tryz.prog 21 #[.agg #[.int .i64 (ea 0), .int .i64 (ea 1), .int .i64 (ea 2), .int .i64 (ea 3), .int .i64 (ea 4), .int .i64 (ea 5), .int .i64 (ea 6), .int .i64 (ea 7)]] w fun e w' => e = .returned (.bool o) ∧ Below w.heap.size w w') := hid (fun w => by have h := refaright_any ea w; rw [ho] at h; exact h)
  rw [hp] at H1
  obtain ⟨L1, hL1⟩ : ∃ L1, addL l ⟨ef, eu, ea⟩ = L1 := ⟨_, rfl⟩
  obtain ⟨er, her⟩ : ∃ er, errE ⟨ef, eu, ea⟩ = er := ⟨_, rfl⟩
  rw [hL1, her] at HN
  rw [her] at HE
  rw [hL1]
  subst hk2
  clear h hv hc hlen hL1 hz hp ho her
  go_enter Tryz.func8, Tryz.ntmps8
  go_upto_region 1 with fail
  obtain ⟨W, hW⟩ : ∃ W, w.alloc (.cells (#[.int .i64 2, .int .i64 k, .int .u64 u, .string f, .int .u64 q, .string s, .int .i64 m', .int .u64 n, .int .i64 t, .int .i64 r, .int .i64 i, .int .i64 sq, .string ef, .int .u64 eu, .int .i64 (ea 0), .int .i64 (ea 1), .int .i64 (ea 2), .int .i64 (ea 3), .int .i64 (ea 4), .int .i64 (ea 5), .int .i64 (ea 6), .int .i64 (ea 7)]) 43) = W := ⟨_, rfl⟩
  rw [hW]
  obtain ⟨K0, KB⟩ := one_new hW
  clear hW
  have KX := hid (HX.out.on KB.out)
  obtain ⟨g, hk⟩ : ∃ k, w.heap.size = k := ⟨_, rfl⟩
  have hlt := HX.out.lt
  rw [hk] at K0 KB hlt HV
  rw [hk]
  have HK := hid hk
  clear hk HX
  have KV := hid (HV.out.below KB.out)
  obtain ⟨c0, c1, c2, c3, c4, c5, c6, c7, c8, c9, c10, c11, c12, c13, c14, c15, c16, c17, c18, c19, c20, c21⟩ := op_cells K0.out
  go_wp2_with fail
  with_reducible refine (HN.out _ KX.out).mono ?_
  rintro e w1 ⟨rfl, d1, d2⟩
  clear c0 c1 c2 c3 c4 c5 c6 c7 c8 c9 c10 c11 c12 c13 c14 c15 c16 c17 c18 c19 c20 c21
  have D0 := hid (K0.out.grown d2 (by simp; omega))
  have DX := hid d1
  have DV := hid (KV.out.1.grown KX.out d2)
  have DG : Hid (w.grownBy w1 (some m)) := hid (World.grownBy.trans (only_of_below (by rw [HK.out]; exact KB.out) _) d2)
  clear d1 d2 K0 KX KB KV HN HV
  go_upto_region 7 with fail
  have hlt2 := D0.out.lt
  go_region_held3 (fun w' => (w'.cell? ⟨g, 0, none⟩ = some (.int .i64 2) ∧ w'.cell? ⟨g, 1, none⟩ = some (.int .i64 k) ∧ w'.cell? ⟨g, 2, none⟩ = some (.int .u64 u) ∧ w'.cell? ⟨g, 3, none⟩ = some (.string f) ∧ w'.cell? ⟨g, 4, none⟩ = some (.int .u64 q) ∧ w'.cell? ⟨g, 5, none⟩ = some (.string s) ∧ w'.cell? ⟨g, 6, none⟩ = some (.int .i64 m') ∧ w'.cell? ⟨g, 7, none⟩ = some (.int .u64 n) ∧ w'.cell? ⟨g, 8, none⟩ = some (.int .i64 t) ∧ w'.cell? ⟨g, 9, none⟩ = some (.int .i64 r) ∧ w'.cell? ⟨g, 10, none⟩ = some (.int .i64 i) ∧ w'.cell? ⟨g, 11, none⟩ = some (.int .i64 sq) ∧ w'.cell? ⟨g, 12, none⟩ = some (.string ef) ∧ w'.cell? ⟨g, 13, none⟩ = some (.int .u64 eu) ∧ w'.cell? ⟨g, 14, none⟩ = some (.int .i64 (ea 0)) ∧ w'.cell? ⟨g, 15, none⟩ = some (.int .i64 (ea 1)) ∧ w'.cell? ⟨g, 16, none⟩ = some (.int .i64 (ea 2)) ∧ w'.cell? ⟨g, 17, none⟩ = some (.int .i64 (ea 3)) ∧ w'.cell? ⟨g, 18, none⟩ = some (.int .i64 (ea 4)) ∧ w'.cell? ⟨g, 19, none⟩ = some (.int .i64 (ea 5)) ∧ w'.cell? ⟨g, 20, none⟩ = some (.int .i64 (ea 6)) ∧ w'.cell? ⟨g, 21, none⟩ = some (.int .i64 (ea 7))))
    (exact op_cells (T := 43) (by repeat (first | exact D0.out | with_reducible refine Blk.drew ?_ | with_reducible refine Blk.alloc ?_ _ | refine Blk.far ?_ (by simp; omega) _)))
    (fail)
  · obtain ⟨W2, hW2⟩ : ∃ W2, (w1.alloc (.cells #[.string ef, .int .u64 eu] 36)).alloc (.cells (#[.int .i64 (ea 0), .int .i64 (ea 1), .int .i64 (ea 2), .int .i64 (ea 3), .int .i64 (ea 4), .int .i64 (ea 5), .int .i64 (ea 6), .int .i64 (ea 7)]) 72) = W2 := ⟨_, rfl⟩
    have hW3 : ((w1.alloc (.cells #[.string ef, .int .u64 eu] 36)).alloc (.cells (#[.int .i64 (ea 0), .int .i64 (ea 1), .int .i64 (ea 2), .int .i64 (ea 3), .int .i64 (ea 4), .int .i64 (ea 5), .int .i64 (ea 6), .int .i64 (ea 7)]) 72)).drew = W2.drew := by rw [hW2]
    rw [hW3]
    obtain ⟨PK0, PA0, PB⟩ := two_new hW2
    clear hW2 hW3
    have E0 := hid (D0.out.below PB.out D0.out.lt).drew
    have PK := hid PK0.out.drew
    have PA := hid PA0.out.drew
    have PB2 : Hid (Below w1.heap.size w1 W2.drew) := hid (below_drew PB.out)
    obtain ⟨W3, hW3⟩ : ∃ W3, W2.drew = W3 := ⟨_, rfl⟩
    rw [hW3] at E0 PK PA PB2
    rw [hW3]
    have EX := hid (DX.out.on PB2.out)
    have EV := hid (DV.out.below PB2.out)
    have EG : Hid (w.grownBy W3 (some m)) := hid (DG.out.trans (only_of_below PB2.out _))
    have hlt3 : Hid (w1.heap.size + 1 < W3.heap.size) := hid (by have h1 := PK.out.lt; have h2 := PA.out.lt; omega)
    clear hW3 PB PB2 PK0 PA0 D0 DX DV DG
    obtain ⟨⟨d0, d1⟩, _, _⟩ := cells2 PK.out
    go_wp2_with fail
    with_reducible refine (H1.out _).mono ?_
    rintro e w2 ⟨rfl, hb⟩
    clear d0 d1
    have FK := hid (PK.out.below hb PK.out.lt)
    have FA := hid (PA.out.below hb PA.out.lt)
    have FX := hid (EX.out.on hb)
    have FV := hid (EV.out.below hb)
    have FG : Hid (w.grownBy w2 (some m)) := hid (EG.out.trans (only_of_below hb _))
    clear hb PK PA EX EV EG E0
    cases p
    · have HE2 : er = 10 := by rw [HE.out]; simp
      have HL2 : Hid (addL ld ⟨ef, eu, ea⟩ = ld) := hid (by rw [HL.out]; simp)
      subst HE2
      go_wp2
      refine bodyPost_ret (v := .tuple #[v, .bool true]) (by simp [results, Tryz.results8, go_sem]) rfl ?_
      exact ⟨_, rfl, FX.out, by rw [HL2.out]; exact FV.out, FG.out⟩
    obtain ⟨e0, e1, e2, e3, e4, e5, e6, e7⟩ := eight_ex' FA.out.eight
    go_wp2_with fail
    with_reducible refine (H2.out _).mono ?_
    rintro e w3 ⟨rfl, hb⟩
    clear e0 e1 e2 e3 e4 e5 e6 e7
    have GK := hid (FK.out.below hb FK.out.lt)
    have GA := hid (FA.out.below hb FA.out.lt)
    have GX := hid (FX.out.on hb)
    have GV := hid (FV.out.below hb)
    have GG : Hid (w.grownBy w3 (some m)) := hid (FG.out.trans (only_of_below hb _))
    have hlt4 : Hid (w1.heap.size + 1 < w3.heap.size) := hid (by have h1 := GK.out.lt; have h2 := GA.out.lt; omega)
    clear hb FK FA FX FV FG hlt3
    cases o
    · have HE2 : er = 10 := by rw [HE.out]; simp
      have HL2 : Hid (addL ld ⟨ef, eu, ea⟩ = ld) := hid (by rw [HL.out]; simp)
      subst HE2
      go_wp2
      refine bodyPost_ret (v := .tuple #[v, .bool true]) (by simp [results, Tryz.results8, go_sem]) rfl ?_
      exact ⟨_, rfl, GX.out, by rw [HL2.out]; exact GV.out, GG.out⟩
    have HE2 : er = 0 := by rw [HE.out]; simp
    have HL2 : Hid (addL ld ⟨ef, eu, ea⟩ = ld ++ [⟨ef, eu, ea⟩]) := hid (by rw [HL.out]; simp)
    subst HE2
    obtain ⟨i0, z, hi, hz0, hz1, hz2, hz3⟩ : ∃ i z, Tryz.prog.info? 75 = some i ∧ i.zero = some z ∧ i.size = 10 ∧ i.bytes = 88 ∧ z.cells.size = 10 := by
      obtain ⟨z, h1, h2⟩ := info_n
      obtain ⟨i, a, b, c, d⟩ := info_parts h1
      exact ⟨i, z, a, b, c, d, h2⟩
    have HI := hid (And.intro hi (And.intro hz0 (And.intro hz1 (And.intro hz2 hz3))))
    clear hi hz0 hz1 hz2 hz3 HE HL H1 H2
    have hlk := GK.out.lt
    have hla := GA.out.lt
    have GA : Hid (Blk w3 (w1.heap.size + 1) 72 (rowA ea)) := GA
    go_upto_region 10 with fail
    go_region_held3 (fun w' => (w'.cell? ⟨w1.heap.size, 0, none⟩ = some (.string ef) ∧ w'.cell? ⟨w1.heap.size, 1, none⟩ = some (.int .u64 eu)) ∧ (w'.cell? ⟨w1.heap.size + 1, 0, none⟩ = some (.int .i64 (ea 0)) ∧ w'.cell? ⟨w1.heap.size + 1, 1, none⟩ = some (.int .i64 (ea 1)) ∧ w'.cell? ⟨w1.heap.size + 1, 2, none⟩ = some (.int .i64 (ea 2)) ∧ w'.cell? ⟨w1.heap.size + 1, 3, none⟩ = some (.int .i64 (ea 3)) ∧ w'.cell? ⟨w1.heap.size + 1, 4, none⟩ = some (.int .i64 (ea 4)) ∧ w'.cell? ⟨w1.heap.size + 1, 5, none⟩ = some (.int .i64 (ea 5)) ∧ w'.cell? ⟨w1.heap.size + 1, 6, none⟩ = some (.int .i64 (ea 6)) ∧ w'.cell? ⟨w1.heap.size + 1, 7, none⟩ = some (.int .i64 (ea 7))))
      (exact ⟨(cells2 (T := 36) (by repeat (first | with_reducible exact GK.out | with_reducible exact MK.out | with_reducible exact NK.out | with_reducible refine Blk.drew ?_ | with_reducible refine Blk.alloc ?_ _))).1, eight_ex' (Blk.eight (T := 72) (by repeat (first | with_reducible exact GA.out | with_reducible exact MA.out | with_reducible exact NA.out | with_reducible refine Blk.drew ?_ | with_reducible refine Blk.alloc ?_ _)))⟩)
      (first
        | (refine step_append_rows rfl (.tmp 56) (.tmp 57) 44 rfl w3.heap.size 0 75 i0 z 10 88 Tryz.underlying44 HI.out.1 HI.out.2.1 HI.out.2.2.1 HI.out.2.2.2.1 HI.out.2.2.2.2 (by decide) (.slice (some ⟨w3.heap.size, 0, none⟩) 0 0) 0 [] rfl (by repeat (first | with_reducible exact made_first rfl | with_reducible refine World.ownsRow.drew ?_ | with_reducible refine World.ownsRow.alloc ?_ _)) v ld.length (flatN ld) rfl (by show DocV _ v ld; repeat (first | with_reducible exact GV.out | with_reducible refine DocV.drew ?_ | with_reducible refine DocV.alloc ?_ _)) (flatN_one ld) (by unfold maxLen; omega) (by omega) (by simp; try omega) ?_; intro v1 w5 hown1 hg1; have O1 := hid hown1; have MK : Hid (Blk w5 (w1.heap.size) 36 (keyC ef eu)) := hid (Blk.grown (by repeat (first | with_reducible exact GK.out | with_reducible refine Blk.drew ?_ | with_reducible refine Blk.alloc ?_ _)) hg1 (by simp [Value.ownBlock]; omega)); have MA : Hid (Blk w5 (w1.heap.size + 1) 72 (rowA ea)) := hid (Blk.grown (by repeat (first | with_reducible exact GA.out | with_reducible refine Blk.drew ?_ | with_reducible refine Blk.alloc ?_ _)) hg1 (by simp [Value.ownBlock]; omega)); have MB : Hid (Below w3.heap.size w3 w5) := hid (Below.grown (B := w3.heap.size) (a := w3) (by repeat (first | with_reducible exact Below.refl _ _ | with_reducible refine below_drew ?_ | with_reducible refine Below.alloc ?_ (by simp; try omega) _)) hg1 (by simp; try omega) (fun k hk => by simp [Value.ownBlock] at hk; omega)); have MN := hid (n_second (f := ef) (u := eu) (b := ea) (T := 75) (w := w3) hg1 rfl (by simp [Value.ownBlock])))
        | (refine step_append_rows rfl (.tmp 56) (.tmp 57) 44 rfl w3.heap.size 0 75 i0 z 10 88 Tryz.underlying44 HI.out.1 HI.out.2.1 HI.out.2.2.1 HI.out.2.2.2.1 HI.out.2.2.2.2 (by decide) (.slice (some ⟨w3.heap.size, 0, none⟩) 0 0) 0 [] rfl (by repeat (first | with_reducible exact made_first rfl | with_reducible refine World.ownsRow.drew ?_ | with_reducible refine World.ownsRow.alloc ?_ _)) v ld.length (flatN ld) rfl (by show DocV _ v ld; repeat (first | with_reducible exact GV.out | with_reducible refine DocV.drew ?_ | with_reducible refine DocV.alloc ?_ _)) (flatN_one ld) (by unfold maxLen; omega) (by omega) (by simp; try omega) ?_; intro v1 w5 hown1 hg1; have O1 := hid hown1; have MK : Hid (Blk w5 (w1.heap.size) 36 (keyC ef eu)) := hid (Blk.grown (by repeat (first | with_reducible exact GK.out | with_reducible refine Blk.drew ?_ | with_reducible refine Blk.alloc ?_ _)) hg1 (by simp [Value.ownBlock]; omega)); have MA : Hid (Blk w5 (w1.heap.size + 1) 72 (rowA ea)) := hid (Blk.grown (by repeat (first | with_reducible exact GA.out | with_reducible refine Blk.drew ?_ | with_reducible refine Blk.alloc ?_ _)) hg1 (by simp [Value.ownBlock]; omega)); have MB : Hid (Below w3.heap.size w3 w5) := hid (Below.grown (B := w3.heap.size) (a := w3) (by repeat (first | with_reducible exact Below.refl _ _ | with_reducible refine below_drew ?_ | with_reducible refine Below.alloc ?_ (by simp; try omega) _)) hg1 (by simp; try omega) (fun k hk => by simp [Value.ownBlock] at hk; omega)))
        | (refine step_append_rows rfl (.tmp 56) (.tmp 57) 44 rfl w3.heap.size 0 75 i0 z 10 88 Tryz.underlying44 HI.out.1 HI.out.2.1 HI.out.2.2.1 HI.out.2.2.2.1 HI.out.2.2.2.2 (by decide) (.slice (some ⟨w3.heap.size + 1, 0, none⟩) 0 0) 0 [] rfl (by repeat (first | with_reducible exact made_second (by simp) (by simp) | with_reducible refine World.ownsRow.drew ?_ | with_reducible refine World.ownsRow.alloc ?_ _)) v ld.length (flatN ld) rfl (by show DocV _ v ld; repeat (first | with_reducible exact GV.out | with_reducible refine DocV.drew ?_ | with_reducible refine DocV.alloc ?_ _)) (flatN_one ld) (by unfold maxLen; omega) (by omega) (by simp; try omega) ?_; intro v1 w5 hown1 hg1; have O1 := hid hown1; have MK : Hid (Blk w5 (w1.heap.size) 36 (keyC ef eu)) := hid (Blk.grown (by repeat (first | with_reducible exact GK.out | with_reducible refine Blk.drew ?_ | with_reducible refine Blk.alloc ?_ _)) hg1 (by simp [Value.ownBlock]; omega)); have MA : Hid (Blk w5 (w1.heap.size + 1) 72 (rowA ea)) := hid (Blk.grown (by repeat (first | with_reducible exact GA.out | with_reducible refine Blk.drew ?_ | with_reducible refine Blk.alloc ?_ _)) hg1 (by simp [Value.ownBlock]; omega)); have MB : Hid (Below w3.heap.size w3 w5) := hid (Below.grown (B := w3.heap.size) (a := w3) (by repeat (first | with_reducible exact Below.refl _ _ | with_reducible refine below_drew ?_ | with_reducible refine Below.alloc ?_ (by simp; try omega) _)) hg1 (by simp; try omega) (fun k hk => by simp [Value.ownBlock] at hk; omega)); have MN := hid (n_first (f := ef) (u := eu) (b := ea) (T := 75) (w := w3) hg1 rfl (by simp [Value.ownBlock])))
        | (refine step_append_own rfl (.tmp 58) (.tmp 65) 44 rfl w3.heap.size 75 i0 z 10 88 Tryz.underlying44 HI.out.1 HI.out.2.1 HI.out.2.2.1 HI.out.2.2.2.1 HI.out.2.2.2.2 (by decide) v1 (0 + ld.length) ([] ++ flatN ld) rfl (by repeat (first | with_reducible exact O1.out | with_reducible refine World.ownsRow.drew ?_ | with_reducible refine World.ownsRow.alloc ?_ _)) ⟨w5.heap.size, 0, none⟩ 1 1 (ntC ⟨ef, eu, ea⟩) rfl rfl (n_of (T := 75) (by repeat (first | with_reducible exact blk_new_at (by simp) | with_reducible refine Blk.drew ?_ | with_reducible refine Blk.alloc ?_ _))) (ntC_one _) (by unfold maxLen; omega) (by omega) (by have := MB.out.size; simp; try omega) ?_; intro v2 w6 hown2 hg2; have X2 := hid hown2; have NK : Hid (Blk w6 (w1.heap.size) 36 (keyC ef eu)) := hid (Blk.grown (by repeat (first | with_reducible exact MK.out | with_reducible refine Blk.drew ?_ | with_reducible refine Blk.alloc ?_ _)) hg2 (own_ne O1.out hlk)); have NA : Hid (Blk w6 (w1.heap.size + 1) 72 (rowA ea)) := hid (Blk.grown (by repeat (first | with_reducible exact MA.out | with_reducible refine Blk.drew ?_ | with_reducible refine Blk.alloc ?_ _)) hg2 (own_ne O1.out hla)); have XB : Hid (Below w3.heap.size w3 w6) := hid (Below.grown (B := w3.heap.size) (a := w3) (by repeat (first | with_reducible exact MB.out | with_reducible refine below_drew ?_ | with_reducible refine Below.alloc ?_ (by simpa using MB.out.size) _)) hg2 (by have := MB.out.size; simp; try omega) (fun k hk => (World.ownsRow.lt O1.out k hk).1)))
        | (refine step_append_own rfl (.tmp 58) (.tmp 65) 44 rfl w3.heap.size 75 i0 z 10 88 Tryz.underlying44 HI.out.1 HI.out.2.1 HI.out.2.2.1 HI.out.2.2.2.1 HI.out.2.2.2.2 (by decide) v1 (0 + ld.length) ([] ++ flatN ld) rfl (by repeat (first | with_reducible exact O1.out | with_reducible refine World.ownsRow.drew ?_ | with_reducible refine World.ownsRow.alloc ?_ _)) ⟨w3.heap.size + 1, 0, none⟩ 1 1 (ntC ⟨ef, eu, ea⟩) rfl rfl MN.out (ntC_one _) (by unfold maxLen; omega) (by omega) (by have := MB.out.size; simp; try omega) ?_; intro v2 w6 hown2 hg2; have X2 := hid hown2; have NK : Hid (Blk w6 (w1.heap.size) 36 (keyC ef eu)) := hid (Blk.grown (by repeat (first | with_reducible exact MK.out | with_reducible refine Blk.drew ?_ | with_reducible refine Blk.alloc ?_ _)) hg2 (own_ne O1.out hlk)); have NA : Hid (Blk w6 (w1.heap.size + 1) 72 (rowA ea)) := hid (Blk.grown (by repeat (first | with_reducible exact MA.out | with_reducible refine Blk.drew ?_ | with_reducible refine Blk.alloc ?_ _)) hg2 (own_ne O1.out hla)); have XB : Hid (Below w3.heap.size w3 w6) := hid (Below.grown (B := w3.heap.size) (a := w3) (by repeat (first | with_reducible exact MB.out | with_reducible refine below_drew ?_ | with_reducible refine Below.alloc ?_ (by simpa using MB.out.size) _)) hg2 (by have := MB.out.size; simp; try omega) (fun k hk => (World.ownsRow.lt O1.out k hk).1)))
        | (refine step_append_own rfl (.tmp 58) (.tmp 65) 44 rfl w3.heap.size 75 i0 z 10 88 Tryz.underlying44 HI.out.1 HI.out.2.1 HI.out.2.2.1 HI.out.2.2.2.1 HI.out.2.2.2.2 (by decide) v1 (0 + ld.length) ([] ++ flatN ld) rfl (by repeat (first | with_reducible exact O1.out | with_reducible refine World.ownsRow.drew ?_ | with_reducible refine World.ownsRow.alloc ?_ _)) ⟨w3.heap.size, 0, none⟩ 1 1 (ntC ⟨ef, eu, ea⟩) rfl rfl MN.out (ntC_one _) (by unfold maxLen; omega) (by omega) (by have := MB.out.size; simp; try omega) ?_; intro v2 w6 hown2 hg2; have X2 := hid hown2; have NK : Hid (Blk w6 (w1.heap.size) 36 (keyC ef eu)) := hid (Blk.grown (by repeat (first | with_reducible exact MK.out | with_reducible refine Blk.drew ?_ | with_reducible refine Blk.alloc ?_ _)) hg2 (own_ne O1.out hlk)); have NA : Hid (Blk w6 (w1.heap.size + 1) 72 (rowA ea)) := hid (Blk.grown (by repeat (first | with_reducible exact MA.out | with_reducible refine Blk.drew ?_ | with_reducible refine Blk.alloc ?_ _)) hg2 (own_ne O1.out hla)); have XB : Hid (Below w3.heap.size w3 w6) := hid (Below.grown (B := w3.heap.size) (a := w3) (by repeat (first | with_reducible exact MB.out | with_reducible refine below_drew ?_ | with_reducible refine Below.alloc ?_ (by simpa using MB.out.size) _)) hg2 (by have := MB.out.size; simp; try omega) (fun k hk => (World.ownsRow.lt O1.out k hk).1))))
    all_goals (
      rename_i hHeld
      have GB := hid (GX.out.on XB.out)
      have GG2 : Hid (w.grownBy w6 (some m)) := hid (GG.out.trans (only_of_below XB.out _))
      clear hHeld
      go_wp2
      refine bodyPost_ret (v := .tuple #[v2, .bool true]) (by simp [results, Tryz.results8, go_sem]) rfl ?_
      exact ⟨_, rfl, GB.out, by rw [HL2.out]; exact own_doc X2.out (by simp) (by rw [flatN_snoc]; rfl), GG2.out⟩)
  · obtain ⟨W2, hW2⟩ : ∃ W2, (w1.alloc (.cells (#[.int .i64 (ea 0), .int .i64 (ea 1), .int .i64 (ea 2), .int .i64 (ea 3), .int .i64 (ea 4), .int .i64 (ea 5), .int .i64 (ea 6), .int .i64 (ea 7)]) 72)).alloc (.cells #[.string ef, .int .u64 eu] 36) = W2 := ⟨_, rfl⟩
    have hW3 : ((w1.alloc (.cells (#[.int .i64 (ea 0), .int .i64 (ea 1), .int .i64 (ea 2), .int .i64 (ea 3), .int .i64 (ea 4), .int .i64 (ea 5), .int .i64 (ea 6), .int .i64 (ea 7)]) 72)).alloc (.cells #[.string ef, .int .u64 eu] 36)).drew = W2.drew := by rw [hW2]
    rw [hW3]
    obtain ⟨PA0, PK0, PB⟩ := two_new hW2
    clear hW2 hW3
    have E0 := hid (D0.out.below PB.out D0.out.lt).drew
    have PK := hid PK0.out.drew
    have PA := hid PA0.out.drew
    have PB2 : Hid (Below w1.heap.size w1 W2.drew) := hid (below_drew PB.out)
    obtain ⟨W3, hW3⟩ : ∃ W3, W2.drew = W3 := ⟨_, rfl⟩
    rw [hW3] at E0 PK PA PB2
    rw [hW3]
    have EX := hid (DX.out.on PB2.out)
    have EV := hid (DV.out.below PB2.out)
    have EG : Hid (w.grownBy W3 (some m)) := hid (DG.out.trans (only_of_below PB2.out _))
    have hlt3 : Hid (w1.heap.size + 1 < W3.heap.size) := hid (by have h1 := PK.out.lt; have h2 := PA.out.lt; omega)
    clear hW3 PB PB2 PK0 PA0 D0 DX DV DG
    obtain ⟨⟨d0, d1⟩, _, _⟩ := cells2 PK.out
    go_wp2_with fail
    with_reducible refine (H1.out _).mono ?_
    rintro e w2 ⟨rfl, hb⟩
    clear d0 d1
    have FK := hid (PK.out.below hb PK.out.lt)
    have FA := hid (PA.out.below hb PA.out.lt)
    have FX := hid (EX.out.on hb)
    have FV := hid (EV.out.below hb)
    have FG : Hid (w.grownBy w2 (some m)) := hid (EG.out.trans (only_of_below hb _))
    clear hb PK PA EX EV EG E0
    cases p
    · have HE2 : er = 10 := by rw [HE.out]; simp
      have HL2 : Hid (addL ld ⟨ef, eu, ea⟩ = ld) := hid (by rw [HL.out]; simp)
      subst HE2
      go_wp2
      refine bodyPost_ret (v := .tuple #[v, .bool true]) (by simp [results, Tryz.results8, go_sem]) rfl ?_
      exact ⟨_, rfl, FX.out, by rw [HL2.out]; exact FV.out, FG.out⟩
    obtain ⟨e0, e1, e2, e3, e4, e5, e6, e7⟩ := eight_ex' FA.out.eight
    go_wp2_with fail
    with_reducible refine (H2.out _).mono ?_
    rintro e w3 ⟨rfl, hb⟩
    clear e0 e1 e2 e3 e4 e5 e6 e7
    have GK := hid (FK.out.below hb FK.out.lt)
    have GA := hid (FA.out.below hb FA.out.lt)
    have GX := hid (FX.out.on hb)
    have GV := hid (FV.out.below hb)
    have GG : Hid (w.grownBy w3 (some m)) := hid (FG.out.trans (only_of_below hb _))
    have hlt4 : Hid (w1.heap.size + 1 < w3.heap.size) := hid (by have h1 := GK.out.lt; have h2 := GA.out.lt; omega)
    clear hb FK FA FX FV FG hlt3
    cases o
    · have HE2 : er = 10 := by rw [HE.out]; simp
      have HL2 : Hid (addL ld ⟨ef, eu, ea⟩ = ld) := hid (by rw [HL.out]; simp)
      subst HE2
      go_wp2
      refine bodyPost_ret (v := .tuple #[v, .bool true]) (by simp [results, Tryz.results8, go_sem]) rfl ?_
      exact ⟨_, rfl, GX.out, by rw [HL2.out]; exact GV.out, GG.out⟩
    have HE2 : er = 0 := by rw [HE.out]; simp
    have HL2 : Hid (addL ld ⟨ef, eu, ea⟩ = ld ++ [⟨ef, eu, ea⟩]) := hid (by rw [HL.out]; simp)
    subst HE2
    obtain ⟨i0, z, hi, hz0, hz1, hz2, hz3⟩ : ∃ i z, Tryz.prog.info? 75 = some i ∧ i.zero = some z ∧ i.size = 10 ∧ i.bytes = 88 ∧ z.cells.size = 10 := by
      obtain ⟨z, h1, h2⟩ := info_n
      obtain ⟨i, a, b, c, d⟩ := info_parts h1
      exact ⟨i, z, a, b, c, d, h2⟩
    have HI := hid (And.intro hi (And.intro hz0 (And.intro hz1 (And.intro hz2 hz3))))
    clear hi hz0 hz1 hz2 hz3 HE HL H1 H2
    have hlk := GK.out.lt
    have hla := GA.out.lt
    have GA : Hid (Blk w3 (w1.heap.size) 72 (rowA ea)) := GA
    go_upto_region 10 with fail
    go_region_held3 (fun w' => (w'.cell? ⟨w1.heap.size + 1, 0, none⟩ = some (.string ef) ∧ w'.cell? ⟨w1.heap.size + 1, 1, none⟩ = some (.int .u64 eu)) ∧ (w'.cell? ⟨w1.heap.size, 0, none⟩ = some (.int .i64 (ea 0)) ∧ w'.cell? ⟨w1.heap.size, 1, none⟩ = some (.int .i64 (ea 1)) ∧ w'.cell? ⟨w1.heap.size, 2, none⟩ = some (.int .i64 (ea 2)) ∧ w'.cell? ⟨w1.heap.size, 3, none⟩ = some (.int .i64 (ea 3)) ∧ w'.cell? ⟨w1.heap.size, 4, none⟩ = some (.int .i64 (ea 4)) ∧ w'.cell? ⟨w1.heap.size, 5, none⟩ = some (.int .i64 (ea 5)) ∧ w'.cell? ⟨w1.heap.size, 6, none⟩ = some (.int .i64 (ea 6)) ∧ w'.cell? ⟨w1.heap.size, 7, none⟩ = some (.int .i64 (ea 7))))
      (exact ⟨(cells2 (T := 36) (by repeat (first | with_reducible exact GK.out | with_reducible exact MK.out | with_reducible exact NK.out | with_reducible refine Blk.drew ?_ | with_reducible refine Blk.alloc ?_ _))).1, eight_ex' (Blk.eight (T := 72) (by repeat (first | with_reducible exact GA.out | with_reducible exact MA.out | with_reducible exact NA.out | with_reducible refine Blk.drew ?_ | with_reducible refine Blk.alloc ?_ _)))⟩)
      (first
        | (refine step_append_rows rfl (.tmp 56) (.tmp 57) 44 rfl w3.heap.size 0 75 i0 z 10 88 Tryz.underlying44 HI.out.1 HI.out.2.1 HI.out.2.2.1 HI.out.2.2.2.1 HI.out.2.2.2.2 (by decide) (.slice (some ⟨w3.heap.size, 0, none⟩) 0 0) 0 [] rfl (by repeat (first | with_reducible exact made_first rfl | with_reducible refine World.ownsRow.drew ?_ | with_reducible refine World.ownsRow.alloc ?_ _)) v ld.length (flatN ld) rfl (by show DocV _ v ld; repeat (first | with_reducible exact GV.out | with_reducible refine DocV.drew ?_ | with_reducible refine DocV.alloc ?_ _)) (flatN_one ld) (by unfold maxLen; omega) (by omega) (by simp; try omega) ?_; intro v1 w5 hown1 hg1; have O1 := hid hown1; have MK : Hid (Blk w5 (w1.heap.size + 1) 36 (keyC ef eu)) := hid (Blk.grown (by repeat (first | with_reducible exact GK.out | with_reducible refine Blk.drew ?_ | with_reducible refine Blk.alloc ?_ _)) hg1 (by simp [Value.ownBlock]; omega)); have MA : Hid (Blk w5 (w1.heap.size) 72 (rowA ea)) := hid (Blk.grown (by repeat (first | with_reducible exact GA.out | with_reducible refine Blk.drew ?_ | with_reducible refine Blk.alloc ?_ _)) hg1 (by simp [Value.ownBlock]; omega)); have MB : Hid (Below w3.heap.size w3 w5) := hid (Below.grown (B := w3.heap.size) (a := w3) (by repeat (first | with_reducible exact Below.refl _ _ | with_reducible refine below_drew ?_ | with_reducible refine Below.alloc ?_ (by simp; try omega) _)) hg1 (by simp; try omega) (fun k hk => by simp [Value.ownBlock] at hk; omega)); have MN := hid (n_second (f := ef) (u := eu) (b := ea) (T := 75) (w := w3) hg1 rfl (by simp [Value.ownBlock])))
        | (refine step_append_rows rfl (.tmp 56) (.tmp 57) 44 rfl w3.heap.size 0 75 i0 z 10 88 Tryz.underlying44 HI.out.1 HI.out.2.1 HI.out.2.2.1 HI.out.2.2.2.1 HI.out.2.2.2.2 (by decide) (.slice (some ⟨w3.heap.size, 0, none⟩) 0 0) 0 [] rfl (by repeat (first | with_reducible exact made_first rfl | with_reducible refine World.ownsRow.drew ?_ | with_reducible refine World.ownsRow.alloc ?_ _)) v ld.length (flatN ld) rfl (by show DocV _ v ld; repeat (first | with_reducible exact GV.out | with_reducible refine DocV.drew ?_ | with_reducible refine DocV.alloc ?_ _)) (flatN_one ld) (by unfold maxLen; omega) (by omega) (by simp; try omega) ?_; intro v1 w5 hown1 hg1; have O1 := hid hown1; have MK : Hid (Blk w5 (w1.heap.size + 1) 36 (keyC ef eu)) := hid (Blk.grown (by repeat (first | with_reducible exact GK.out | with_reducible refine Blk.drew ?_ | with_reducible refine Blk.alloc ?_ _)) hg1 (by simp [Value.ownBlock]; omega)); have MA : Hid (Blk w5 (w1.heap.size) 72 (rowA ea)) := hid (Blk.grown (by repeat (first | with_reducible exact GA.out | with_reducible refine Blk.drew ?_ | with_reducible refine Blk.alloc ?_ _)) hg1 (by simp [Value.ownBlock]; omega)); have MB : Hid (Below w3.heap.size w3 w5) := hid (Below.grown (B := w3.heap.size) (a := w3) (by repeat (first | with_reducible exact Below.refl _ _ | with_reducible refine below_drew ?_ | with_reducible refine Below.alloc ?_ (by simp; try omega) _)) hg1 (by simp; try omega) (fun k hk => by simp [Value.ownBlock] at hk; omega)))
        | (refine step_append_rows rfl (.tmp 56) (.tmp 57) 44 rfl w3.heap.size 0 75 i0 z 10 88 Tryz.underlying44 HI.out.1 HI.out.2.1 HI.out.2.2.1 HI.out.2.2.2.1 HI.out.2.2.2.2 (by decide) (.slice (some ⟨w3.heap.size + 1, 0, none⟩) 0 0) 0 [] rfl (by repeat (first | with_reducible exact made_second (by simp) (by simp) | with_reducible refine World.ownsRow.drew ?_ | with_reducible refine World.ownsRow.alloc ?_ _)) v ld.length (flatN ld) rfl (by show DocV _ v ld; repeat (first | with_reducible exact GV.out | with_reducible refine DocV.drew ?_ | with_reducible refine DocV.alloc ?_ _)) (flatN_one ld) (by unfold maxLen; omega) (by omega) (by simp; try omega) ?_; intro v1 w5 hown1 hg1; have O1 := hid hown1; have MK : Hid (Blk w5 (w1.heap.size + 1) 36 (keyC ef eu)) := hid (Blk.grown (by repeat (first | with_reducible exact GK.out | with_reducible refine Blk.drew ?_ | with_reducible refine Blk.alloc ?_ _)) hg1 (by simp [Value.ownBlock]; omega)); have MA : Hid (Blk w5 (w1.heap.size) 72 (rowA ea)) := hid (Blk.grown (by repeat (first | with_reducible exact GA.out | with_reducible refine Blk.drew ?_ | with_reducible refine Blk.alloc ?_ _)) hg1 (by simp [Value.ownBlock]; omega)); have MB : Hid (Below w3.heap.size w3 w5) := hid (Below.grown (B := w3.heap.size) (a := w3) (by repeat (first | with_reducible exact Below.refl _ _ | with_reducible refine below_drew ?_ | with_reducible refine Below.alloc ?_ (by simp; try omega) _)) hg1 (by simp; try omega) (fun k hk => by simp [Value.ownBlock] at hk; omega)); have MN := hid (n_first (f := ef) (u := eu) (b := ea) (T := 75) (w := w3) hg1 rfl (by simp [Value.ownBlock])))
        | (refine step_append_own rfl (.tmp 58) (.tmp 65) 44 rfl w3.heap.size 75 i0 z 10 88 Tryz.underlying44 HI.out.1 HI.out.2.1 HI.out.2.2.1 HI.out.2.2.2.1 HI.out.2.2.2.2 (by decide) v1 (0 + ld.length) ([] ++ flatN ld) rfl (by repeat (first | with_reducible exact O1.out | with_reducible refine World.ownsRow.drew ?_ | with_reducible refine World.ownsRow.alloc ?_ _)) ⟨w5.heap.size, 0, none⟩ 1 1 (ntC ⟨ef, eu, ea⟩) rfl rfl (n_of (T := 75) (by repeat (first | with_reducible exact blk_new_at (by simp) | with_reducible refine Blk.drew ?_ | with_reducible refine Blk.alloc ?_ _))) (ntC_one _) (by unfold maxLen; omega) (by omega) (by have := MB.out.size; simp; try omega) ?_; intro v2 w6 hown2 hg2; have X2 := hid hown2; have NK : Hid (Blk w6 (w1.heap.size + 1) 36 (keyC ef eu)) := hid (Blk.grown (by repeat (first | with_reducible exact MK.out | with_reducible refine Blk.drew ?_ | with_reducible refine Blk.alloc ?_ _)) hg2 (own_ne O1.out hlk)); have NA : Hid (Blk w6 (w1.heap.size) 72 (rowA ea)) := hid (Blk.grown (by repeat (first | with_reducible exact MA.out | with_reducible refine Blk.drew ?_ | with_reducible refine Blk.alloc ?_ _)) hg2 (own_ne O1.out hla)); have XB : Hid (Below w3.heap.size w3 w6) := hid (Below.grown (B := w3.heap.size) (a := w3) (by repeat (first | with_reducible exact MB.out | with_reducible refine below_drew ?_ | with_reducible refine Below.alloc ?_ (by simpa using MB.out.size) _)) hg2 (by have := MB.out.size; simp; try omega) (fun k hk => (World.ownsRow.lt O1.out k hk).1)))
        | (refine step_append_own rfl (.tmp 58) (.tmp 65) 44 rfl w3.heap.size 75 i0 z 10 88 Tryz.underlying44 HI.out.1 HI.out.2.1 HI.out.2.2.1 HI.out.2.2.2.1 HI.out.2.2.2.2 (by decide) v1 (0 + ld.length) ([] ++ flatN ld) rfl (by repeat (first | with_reducible exact O1.out | with_reducible refine World.ownsRow.drew ?_ | with_reducible refine World.ownsRow.alloc ?_ _)) ⟨w3.heap.size + 1, 0, none⟩ 1 1 (ntC ⟨ef, eu, ea⟩) rfl rfl MN.out (ntC_one _) (by unfold maxLen; omega) (by omega) (by have := MB.out.size; simp; try omega) ?_; intro v2 w6 hown2 hg2; have X2 := hid hown2; have NK : Hid (Blk w6 (w1.heap.size + 1) 36 (keyC ef eu)) := hid (Blk.grown (by repeat (first | with_reducible exact MK.out | with_reducible refine Blk.drew ?_ | with_reducible refine Blk.alloc ?_ _)) hg2 (own_ne O1.out hlk)); have NA : Hid (Blk w6 (w1.heap.size) 72 (rowA ea)) := hid (Blk.grown (by repeat (first | with_reducible exact MA.out | with_reducible refine Blk.drew ?_ | with_reducible refine Blk.alloc ?_ _)) hg2 (own_ne O1.out hla)); have XB : Hid (Below w3.heap.size w3 w6) := hid (Below.grown (B := w3.heap.size) (a := w3) (by repeat (first | with_reducible exact MB.out | with_reducible refine below_drew ?_ | with_reducible refine Below.alloc ?_ (by simpa using MB.out.size) _)) hg2 (by have := MB.out.size; simp; try omega) (fun k hk => (World.ownsRow.lt O1.out k hk).1)))
        | (refine step_append_own rfl (.tmp 58) (.tmp 65) 44 rfl w3.heap.size 75 i0 z 10 88 Tryz.underlying44 HI.out.1 HI.out.2.1 HI.out.2.2.1 HI.out.2.2.2.1 HI.out.2.2.2.2 (by decide) v1 (0 + ld.length) ([] ++ flatN ld) rfl (by repeat (first | with_reducible exact O1.out | with_reducible refine World.ownsRow.drew ?_ | with_reducible refine World.ownsRow.alloc ?_ _)) ⟨w3.heap.size, 0, none⟩ 1 1 (ntC ⟨ef, eu, ea⟩) rfl rfl MN.out (ntC_one _) (by unfold maxLen; omega) (by omega) (by have := MB.out.size; simp; try omega) ?_; intro v2 w6 hown2 hg2; have X2 := hid hown2; have NK : Hid (Blk w6 (w1.heap.size + 1) 36 (keyC ef eu)) := hid (Blk.grown (by repeat (first | with_reducible exact MK.out | with_reducible refine Blk.drew ?_ | with_reducible refine Blk.alloc ?_ _)) hg2 (own_ne O1.out hlk)); have NA : Hid (Blk w6 (w1.heap.size) 72 (rowA ea)) := hid (Blk.grown (by repeat (first | with_reducible exact MA.out | with_reducible refine Blk.drew ?_ | with_reducible refine Blk.alloc ?_ _)) hg2 (own_ne O1.out hla)); have XB : Hid (Below w3.heap.size w3 w6) := hid (Below.grown (B := w3.heap.size) (a := w3) (by repeat (first | with_reducible exact MB.out | with_reducible refine below_drew ?_ | with_reducible refine Below.alloc ?_ (by simpa using MB.out.size) _)) hg2 (by have := MB.out.size; simp; try omega) (fun k hk => (World.ownsRow.lt O1.out k hk).1))))
    all_goals (
      rename_i hHeld
      have GB := hid (GX.out.on XB.out)
      have GG2 : Hid (w.grownBy w6 (some m)) := hid (GG.out.trans (only_of_below XB.out _))
      clear hHeld
      go_wp2
      refine bodyPost_ret (v := .tuple #[v2, .bool true]) (by simp [results, Tryz.results8, go_sem]) rfl ?_
      exact ⟨_, rfl, GB.out, by rw [HL2.out]; exact own_doc X2.out (by simp) (by rw [flatN_snoc]; rfl), GG2.out⟩)

end Go.Proofs.YtpdfakjopeldmaaGreatDoor
