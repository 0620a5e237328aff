import PyProof.Rows.All
import Wide.All
import OpenK.AllK
import Wide.FinOn
import HandS.ForMost
import HandS.Codes
import HandS.IsInst
import HandS.WideBits
import KE.Datum
import PySem.Challenge.RW_cellcloth_k37_clauses_of_nets
set_option Elab.async false
set_option linter.all false
set_option maxRecDepth 100000
set_option maxHeartbeats 4000000
/-! data with a Lean type in the abstract heap: what a value holds, kept by growth; the heap but for what is mutable -/
namespace V0
open PySem PySem.Spec PyProof.Rows L2
open PySem.W (Datum)
/-- a def of the text as callers need it -/
structure Def (K : PySem.W.Frag) (mg : Str → Option Value) (x : Str) (f : Addr) (fd : FuncData) (ps : List Str) : Prop where
  m : mg x = some (.ref f)
  k : PySem.W.keepIn K (.ref f) = true
  b : Binds K fd ps []
abbrev rLen (K : PySem.W.Frag) : List V → Hp → VK → Prop := fun xs H Q => ∃ p ys, xs = [.ref p] ∧ (SqL K H p ys ∨ SqT K H p ys) ∧ Q (.int ys.length) H
abbrev rListOf (K : PySem.W.Frag) : List V → Hp → VK → Prop := fun xs H Q => ∃ p ys, xs = [.ref p] ∧ (SqL K H p ys ∨ SqT K H p ys) ∧ ∀ l, H l = none → Q (.ref l) (upd H l (.lst ys))
abbrev rTupleOf (K : PySem.W.Frag) : List V → Hp → VK → Prop := fun xs H Q => ∃ p ys, xs = [.ref p] ∧ ((SqL K H p ys ∧ ∀ l, H l = none → Q (.ref l) (upd H l (.tup ys))) ∨ (SqT K H p ys ∧ Q (.ref p) H))
theorem same_new {H : Hp} {p : Addr} {o : HO} (h : H p = none) : Same H (upd H p o) := fun b x e => by
  rw [upd_ne (ne_of_none e h)]
  exact e
theorem same_mut {H H' : Hp} {p : Addr} {o : HO} (e : Same H H') (h : H p = none) : Same H (upd H' p o) := fun a u ha => by
  rw [upd_ne (ne_of_none ha h)]
  exact e a u ha
theorem tup_same {K : PySem.W.Frag} {H H' : Hp} {a : Addr} {xs : List V} (e : Same H H') (h : SqT K H a xs) : SqT K H' a xs := by
  rcases h with (h | ⟨o, h⟩) | h
  · exact .inl (.inl (e _ _ h))
  · exact .inl (.inr ⟨o, e _ _ h⟩)
  · exact .inr h
theorem map_range_succ {α : Type} (f : Nat → α) (i : Nat) : (List.range (i + 1)).map f = (List.range i).map f ++ [f i] := by
  rw [List.range_succ, List.map_append]
  rfl
/-! ### data -/
class Dm (α : Type) [DecidableEq α] extends Datum α where
  lay : ∀ a : α, (Datum.toD a).canLay0 = true
instance : Dm Int where
  lay _ := by simp only [Datum.toD, PyData.canLay0]
instance : Dm Bool where
  lay _ := by simp only [Datum.toD, PyData.canLay0]
instance : Datum Nat where
  toD n := .int (n : Int)
  plain _ := rfl
  eqv a b := by
    simp only [PyData.eqv]
    rw [PySem.W.beq_decide]
    exact decide_eq_decide.mpr ⟨fun e => by omega, fun e => by rw [e]⟩
  depth := 0
  depth_le _ := Nat.le_refl _
instance : Dm Nat where
  lay _ := by simp only [Datum.toD, PyData.canLay0]
section
variable {α β : Type} [DecidableEq α] [Dm α] [DecidableEq β] [Dm β]
theorem lay_all : ∀ xs : List α, PyData.canLayAll0 (xs.map Datum.toD) = true
  | [] => by simp only [List.map_nil, PyData.canLayAll0]
  | x :: xs => by
    rw [List.map_cons, PyData.canLayAll0, Dm.lay x, lay_all xs]
    rfl
instance : Dm (List α) where
  lay xs := by
    simp only [Datum.toD, PyData.canLay0]
    exact lay_all xs
instance : Dm (α × β) where
  lay p := by
    simp only [Datum.toD, PyData.canLay0, PyData.canLayAll0, Bool.and_true, Bool.and_eq_true]
    exact ⟨Dm.lay p.1, Dm.lay p.2⟩
end
mutual
/-- as Dp, of what stands in the abstract heap alone -/
inductive Dh (H : Hp) : V → PyData → Prop
  | non : Dh H .non .none
  | bl (b : Bool) : Dh H (.bl b) (.bool b)
  | int (i : Int) : Dh H (.int i) (.int i)
  | str (x : Str) : Dh H (.str x) (.str x)
  | lst {a : Addr} {xs : List V} {ds : List PyData} : H a = some (.lst xs) → DhAll H xs ds → Dh H (.ref a) (.list ds)
  | tup {a : Addr} {xs : List V} {ds : List PyData} : H a = some (.tup xs) → DhAll H xs ds → Dh H (.ref a) (.tuple ds)
inductive DhAll (H : Hp) : List V → List PyData → Prop
  | nil : DhAll H [] []
  | cons {v : V} {vs : List V} {d : PyData} {ds : List PyData} : Dh H v d → DhAll H vs ds → DhAll H (v :: vs) (d :: ds)
end
mutual
theorem dh_same {H H' : Hp} (s : Same H H') : ∀ (d : PyData) (v : V), Dh H v d → Dh H' v d
  | .none, _, h => by cases h; exact .non
  | .bool b, _, h => by cases h; exact .bl b
  | .int i, _, h => by cases h; exact .int i
  | .str x, _, h => by cases h; exact .str x
  | .list ds, _, h => by
    cases h with
    | lst h1 h2 => exact .lst (s _ _ h1) (dh_sameAll s ds _ h2)
  | .tuple ds, _, h => by
    cases h with
    | tup h1 h2 => exact .tup (s _ _ h1) (dh_sameAll s ds _ h2)
  | .dict _, _, h => by cases h
theorem dh_sameAll {H H' : Hp} (s : Same H H') : ∀ (ds : List PyData) (vs : List V), DhAll H vs ds → DhAll H' vs ds
  | [], _, h => by cases h; exact .nil
  | d :: ds, _, h => by
    cases h with
    | cons h1 h2 => exact .cons (dh_same s d _ h1) (dh_sameAll s ds _ h2)
end
mutual
theorem dh_dp {K : PySem.W.Frag} {H : Hp} : ∀ (d : PyData) (v : V), Dh H v d → Dp K H v d
  | .none, _, h => by cases h; exact .non
  | .bool b, _, h => by cases h; exact .bl b
  | .int i, _, h => by cases h; exact .int i
  | .str x, _, h => by cases h; exact .str x
  | .list ds, _, h => by
    cases h with
    | lst h1 h2 => exact .lst (SqL.of h1) (dh_dpAll ds _ h2)
  | .tuple ds, _, h => by
    cases h with
    | tup h1 h2 => exact .tup (SqT.of h1) (dh_dpAll ds _ h2)
  | .dict _, _, h => by cases h
theorem dh_dpAll {K : PySem.W.Frag} {H : Hp} : ∀ (ds : List PyData) (vs : List V), DhAll H vs ds → DpAll K H vs ds
  | [], _, h => by cases h; exact .nil
  | d :: ds, _, h => by
    cases h with
    | cons h1 h2 => exact .cons (dh_dp d _ h1) (dh_dpAll ds _ h2)
end
section
variable {α β : Type} [DecidableEq α] [Dm α] [DecidableEq β] [Dm β]
/-- v holds x -/
def Dv (H : Hp) (v : V) (x : α) : Prop := Dh H v (Datum.toD x)
def Dvs (H : Hp) (vs : List V) (xs : List α) : Prop := DhAll H vs (xs.map Datum.toD)
theorem Dv.same {H H' : Hp} {v : V} {x : α} (h : Dv H v x) (s : Same H H') : Dv H' v x := dh_same s _ _ h
theorem Dvs.same {H H' : Hp} {vs : List V} {xs : List α} (h : Dvs H vs xs) (s : Same H H') : Dvs H' vs xs := dh_sameAll s _ _ h
theorem Dv.int {H : Hp} (i : Int) : Dv H (.int i) i := Dh.int i
theorem Dv.nat {H : Hp} (n : Nat) : Dv H (.int (n : Int)) n := Dh.int (n : Int)
theorem Dv.bl {H : Hp} (b : Bool) : Dv H (.bl b) b := Dh.bl b
theorem Dv.int_inv {H : Hp} {v : V} {i : Int} (h : Dv H v i) : v = .int i := by
  unfold Dv at h
  cases h
  rfl
theorem Dv.nat_inv {H : Hp} {v : V} {n : Nat} (h : Dv H v n) : v = .int (n : Int) := by
  unfold Dv at h
  cases h
  rfl
theorem Dvs.nil {H : Hp} : Dvs H [] ([] : List α) := DhAll.nil
theorem Dvs.cons {H : Hp} {v : V} {vs : List V} {x : α} {xs : List α} (h : Dv H v x) (hs : Dvs H vs xs) : Dvs H (v :: vs) (x :: xs) := DhAll.cons h hs
theorem Dvs.cons_inv {H : Hp} {vs : List V} {x : α} {xs : List α} (h : Dvs H vs (x :: xs)) : ∃ v us, vs = v :: us ∧ Dv H v x ∧ Dvs H us xs := by
  unfold Dvs at h
  cases h with
  | cons h1 h2 => exact ⟨_, _, rfl, h1, h2⟩
theorem Dvs.nil_inv {H : Hp} {vs : List V} (h : Dvs H vs ([] : List α)) : vs = [] := by
  unfold Dvs at h
  cases h
  rfl
theorem Dvs.app {H : Hp} : ∀ {vs us : List V} {xs ys : List α}, Dvs H vs xs → Dvs H us ys → Dvs H (vs ++ us) (xs ++ ys)
  | _, _, [], _, h, g => by rw [h.nil_inv]; exact g
  | _, _, _ :: _, _, h, g => by
    obtain ⟨v, us, rfl, h1, h2⟩ := h.cons_inv
    exact .cons h1 (h2.app g)
theorem Dvs.len {H : Hp} : ∀ {vs : List V} {xs : List α}, Dvs H vs xs → vs.length = xs.length
  | _, [], h => by rw [h.nil_inv]; rfl
  | _, _ :: _, h => by
    obtain ⟨v, us, rfl, h1, h2⟩ := h.cons_inv
    rw [List.length_cons, List.length_cons, h2.len]
theorem Dvs.get {H : Hp} : ∀ {vs : List V} {xs : List α} {i : Nat} {x : α}, Dvs H vs xs → xs[i]? = some x → ∃ v, vs[i]? = some v ∧ Dv H v x
  | _, [], i, _, h, e => by simp at e
  | _, _ :: _, 0, _, h, e => by
    obtain ⟨v, us, rfl, h1, h2⟩ := h.cons_inv
    cases e
    exact ⟨_, rfl, h1⟩
  | _, _ :: _, i + 1, _, h, e => by
    obtain ⟨v, us, rfl, h1, h2⟩ := h.cons_inv
    exact h2.get (i := i) e
theorem Dvs.at {H : Hp} {vs : List V} {xs : List α} {i : Nat} {v : V} (h : Dvs H vs xs) (e : vs[i]? = some v) : ∃ x, xs[i]? = some x ∧ Dv H v x := by
  have hi : i < xs.length := by
    rw [← h.len]
    exact (List.getElem?_eq_some_iff.mp e).1
  obtain ⟨u, e2, d⟩ := h.get (List.getElem?_eq_getElem hi)
  rw [e] at e2
  cases e2
  exact ⟨_, List.getElem?_eq_getElem hi, d⟩
theorem Dv.list {H : Hp} {a : Addr} {vs : List V} {xs : List α} (h : H a = some (.lst vs)) (hs : Dvs H vs xs) : Dv H (.ref a) xs := Dh.lst h hs
theorem Dv.list_inv {H : Hp} {v : V} {xs : List α} (h : Dv H v xs) : ∃ a vs, v = .ref a ∧ H a = some (.lst vs) ∧ Dvs H vs xs := by
  unfold Dv at h
  cases h with
  | lst h1 h2 => exact ⟨_, _, rfl, h1, h2⟩
theorem Dv.pair {H : Hp} {a : Addr} {u v : V} {x : α} {y : β} (h : H a = some (.tup [u, v])) (h1 : Dv H u x) (h2 : Dv H v y) : Dv H (.ref a) (x, y) := Dh.tup h (.cons h1 (.cons h2 .nil))
theorem Dv.pair_inv {H : Hp} {v : V} {p : α × β} (h : Dv H v p) : ∃ a u w, v = .ref a ∧ H a = some (.tup [u, w]) ∧ Dv H u p.1 ∧ Dv H w p.2 := by
  unfold Dv at h
  cases h with
  | tup h1 h2 =>
    cases h2 with
    | cons h3 h4 =>
      cases h4 with
      | cons h5 h6 =>
        cases h6
        exact ⟨_, _, _, rfl, h1, h3, h5⟩
abbrev vi (xs : List Int) : List V := xs.map V.int
abbrev vn (xs : List Nat) : List V := xs.map (fun (b : Nat) => V.int (b : Int))
theorem vn_len (xs : List Nat) : (vn xs).length = xs.length := List.length_map _
theorem vn_get {xs : List Nat} {i n : Nat} (h : xs[i]? = some n) : (vn xs)[i]? = some (.int (n : Int)) := by
  rw [List.getElem?_map, h]
  rfl
theorem Dvs.ints_inv {H : Hp} : ∀ {vs : List V} {xs : List Int}, Dvs H vs xs → vs = vi xs
  | _, [], h => h.nil_inv
  | _, _ :: _, h => by
    obtain ⟨v, us, rfl, h1, h2⟩ := h.cons_inv
    rw [h1.int_inv, h2.ints_inv]
    rfl
theorem Dvs.nats_inv {H : Hp} : ∀ {vs : List V} {xs : List Nat}, Dvs H vs xs → vs = vn xs
  | _, [], h => h.nil_inv
  | _, _ :: _, h => by
    obtain ⟨v, us, rfl, h1, h2⟩ := h.cons_inv
    rw [h1.nat_inv, h2.nats_inv]
    rfl
theorem Dvs.ints {H : Hp} : ∀ xs : List Int, Dvs H (vi xs) xs
  | [] => .nil
  | x :: r => .cons (.int x) (Dvs.ints r)
theorem Dvs.nats {H : Hp} : ∀ xs : List Nat, Dvs H (vn xs) xs
  | [] => .nil
  | x :: r => .cons (.nat x) (Dvs.nats r)
theorem Dvs.bls {H : Hp} : ∀ xs : List Bool, Dvs H (xs.map V.bl) xs
  | [] => .nil
  | x :: r => .cons (.bl x) (Dvs.bls r)
/-- a list of whole numbers from 0 on -/
theorem Dv.natl {H : Hp} {a : Addr} {xs : List Nat} (h : H a = some (.lst (vn xs))) : Dv H (.ref a) xs := .list h (Dvs.nats xs)
theorem Dv.natl_inv {H : Hp} {v : V} {xs : List Nat} (h : Dv H v xs) : ∃ a, v = .ref a ∧ H a = some (.lst (vn xs)) := by
  obtain ⟨a, vs, rfl, h1, h2⟩ := h.list_inv
  rw [h2.nats_inv] at h1
  exact ⟨a, rfl, h1⟩
theorem Dv.intl {H : Hp} {a : Addr} {xs : List Int} (h : H a = some (.lst (vi xs))) : Dv H (.ref a) xs := .list h (Dvs.ints xs)
theorem Dv.intl_inv {H : Hp} {v : V} {xs : List Int} (h : Dv H v xs) : ∃ a, v = .ref a ∧ H a = some (.lst (vi xs)) := by
  obtain ⟨a, vs, rfl, h1, h2⟩ := h.list_inv
  rw [h2.ints_inv] at h1
  exact ⟨a, rfl, h1⟩
theorem shaped_of (x : α) (hd : Datum.depth α ≤ 64) : SeqAt.shaped (Datum.toD x) = true := by
  unfold SeqAt.shaped
  rw [Dm.lay x, Bool.true_and]
  exact decide_eq_true (Nat.le_trans (Datum.depth_le x) hd)
theorem eqD {K : PySem.W.Frag} {H : Hp} {x y : V} {Q : VK} {a b : α} (hx : Dv H x a) (hy : Dv H y b) (hd : Datum.depth α ≤ 64) (q : Q (.bl (decide (a = b))) H) : rEqD K x y H Q := by
  refine ⟨_, _, dh_dp _ _ hx, dh_dp _ _ hy, shaped_of a hd, shaped_of b hd, ?_⟩
  rw [Datum.eqv]
  exact q
theorem neD {K : PySem.W.Frag} {H : Hp} {x y : V} {Q : VK} {a b : α} (hx : Dv H x a) (hy : Dv H y b) (hd : Datum.depth α ≤ 64) (q : Q (.bl (!decide (a = b))) H) : rNeD K x y H Q := by
  refine ⟨_, _, dh_dp _ _ hx, dh_dp _ _ hy, shaped_of a hd, shaped_of b hd, ?_⟩
  rw [Datum.eqv]
  exact q
end
/-! ### the heap but for two objects that change -/
def res (p c : Addr) (H : Hp) : Hp := fun b => if b = p ∨ b = c then none else H b
theorem res_eq {p c b : Addr} {H : Hp} (h1 : b ≠ p) (h2 : b ≠ c) : res p c H b = H b := if_neg (fun h => h.elim h1 h2)
theorem res_some {p c b : Addr} {H : Hp} {o : HO} (h : res p c H b = some o) : b ≠ p ∧ b ≠ c ∧ H b = some o := by
  unfold res at h
  by_cases e : b = p ∨ b = c
  · rw [if_pos e] at h
    cases h
  · rw [if_neg e] at h
    exact ⟨fun z => e (.inl z), fun z => e (.inr z), h⟩
theorem res_same (p c : Addr) (H : Hp) : Same (res p c H) H := fun _ _ h => (res_some h).2.2
theorem Same.res {H H' : Hp} (s : Same H H') (p c : Addr) : Same (res p c H) (res p c H') := fun b o h => by
  obtain ⟨h1, h2, h3⟩ := res_some h
  rw [res_eq h1 h2]
  exact s _ _ h3
theorem res_of {p c b : Addr} {H : Hp} {o : HO} (h1 : b ≠ p) (h2 : b ≠ c) (h : H b = some o) : res p c H b = some o := by
  rw [res_eq h1 h2]
  exact h
/-- the heap but for one object -/
def del (q : Addr) (H : Hp) : Hp := fun b => if b = q then none else H b
theorem del_eq {q b : Addr} {H : Hp} (h : b ≠ q) : del q H b = H b := if_neg h
theorem del_some {q b : Addr} {H : Hp} {o : HO} (h : del q H b = some o) : b ≠ q ∧ H b = some o := by
  unfold del at h
  by_cases e : b = q
  · rw [if_pos e] at h
    cases h
  · rw [if_neg e] at h
    exact ⟨e, h⟩
theorem del_of {q b : Addr} {H : Hp} {o : HO} (h : b ≠ q) (e : H b = some o) : del q H b = some o := by
  rw [del_eq h]
  exact e
theorem del_same (q : Addr) (H : Hp) : Same (del q H) H := fun _ _ h => (del_some h).2
theorem del_mono {q : Addr} {H H' : Hp} (s : Same H H') : Same (del q H) (del q H') := fun b o h => by
  obtain ⟨h1, h2⟩ := del_some h
  exact del_of h1 (s _ _ h2)
theorem del_mut {q : Addr} {H : Hp} {o : HO} : Same (del q H) (del q (upd H q o)) := fun b u h => by
  obtain ⟨h1, h2⟩ := del_some h
  exact del_of h1 (by rw [upd_ne h1]; exact h2)
theorem del_res_mut {p c q : Addr} {H : Hp} {o : HO} : Same (del q (res p c H)) (del q (res p c (upd H q o))) := fun b u h => by
  obtain ⟨h1, h2⟩ := del_some h
  obtain ⟨h3, h4, h5⟩ := res_some h2
  exact del_of h1 (res_of h3 h4 (by rw [upd_ne h1]; exact h5))
theorem res_upd {p c q : Addr} {H : Hp} {o : HO} (h1 : q ≠ p) (h2 : q ≠ c) : res p c (upd H q o) q = some o := by
  rw [res_eq h1 h2]
  exact upd_same
theorem res_mut {p c D : Addr} {H H' : Hp} {o : HO} (e : Same (res p c H) (res p c H')) (h : H D = none) : Same (res p c H) (res p c (upd H' D o)) := fun b u hb => by
  obtain ⟨h1, h2, h3⟩ := res_some hb
  have h4 : b ≠ D := fun z => by
    rw [z, h] at h3
    cases h3
  rw [res_eq h1 h2, upd_ne h4]
  exact (res_some (e _ _ hb)).2.2
/-- the state of the draws: the script's numbers, from 0 on, and a seed -/
structure Dr (H : Hp) (p c : Addr) : Prop where
  ne : p ≠ c
  st : ∃ (cs : List Nat) (s : Int), H p = some (.lst [.ref c, .int s]) ∧ H c = some (.lst (vn cs)) ∧ cs.length ≤ 63
theorem Dr.same {H H' : Hp} {p c : Addr} (h : Dr H p c) (s : Same H H') : Dr H' p c := by
  obtain ⟨n, cs, z, h1, h2, h3⟩ := h
  exact ⟨n, cs, z, s _ _ h1, s _ _ h2, h3⟩
theorem Dr.off {H : Hp} {p c q : Addr} (h : Dr H p c) (hq : H q = none) : q ≠ p ∧ q ≠ c := by
  obtain ⟨n, cs, z, h1, h2, h3⟩ := h
  exact ⟨fun e => (by rw [e, h1] at hq; cases hq), fun e => (by rw [e, h2] at hq; cases hq)⟩
/-- from H to H' all but the state of the draws stays -/
structure Go (p c : Addr) (H H' : Hp) : Prop where
  a : Dr H p c
  b : Dr H' p c
  s : Same (res p c H) (res p c H')
theorem Go.refl {p c : Addr} {H : Hp} (h : Dr H p c) : Go p c H H := ⟨h, h, Same.refl _⟩
theorem Go.trans {p c : Addr} {H H1 H2 : Hp} (x : Go p c H H1) (y : Go p c H1 H2) : Go p c H H2 := ⟨x.a, y.b, x.s.trans y.s⟩
theorem Go.of {p c : Addr} {H H' : Hp} (h : Dr H p c) (s : Same H H') : Go p c H H' := ⟨h, h.same s, V0.Same.res s p c⟩
theorem Go.more {p c : Addr} {H H1 H2 : Hp} (x : Go p c H H1) (s : Same H1 H2) : Go p c H H2 := x.trans (Go.of x.b s)
theorem Go.mut {p c D : Addr} {H H' : Hp} {o : HO} (x : Go p c H H') (h : H D = none) : Go p c H (upd H' D o) := by
  refine ⟨x.a, ?_, res_mut x.s h⟩
  obtain ⟨h1, h2⟩ := x.a.off h
  obtain ⟨n, cs, z, e1, e2, e3⟩ := x.b
  exact ⟨n, cs, z, (by rw [upd_ne (fun e => h1 e.symm)]; exact e1), (by rw [upd_ne (fun e => h2 e.symm)]; exact e2), e3⟩
theorem Go.get {p c b : Addr} {H H' : Hp} {o : HO} (x : Go p c H H') (h1 : b ≠ p) (h2 : b ≠ c) (h : H b = some o) : H' b = some o := by
  rw [← res_eq (p := p) (c := c) (H := H) h1 h2] at h
  exact (res_some (x.s _ _ h)).2.2
/-- what was new at H and stands at H1 stands at H' -/
theorem Go.get' {p c b : Addr} {H H1 H' : Hp} {o : HO} (x : Go p c H1 H') (d : Dr H p c) (n : H b = none) (h : H1 b = some o) : H' b = some o := x.get (d.off n).1 (d.off n).2 h
theorem Go.up {p c b : Addr} {H H' : Hp} {o : HO} (x : Go p c H H') (h : res p c H b = some o) : H' b = some o := (res_some (x.s _ _ h)).2.2
theorem Go.none {p c b : Addr} {H H' : Hp} (x : Go p c H H') (h : H' b = none) : H b = none := by
  obtain ⟨h1, h2⟩ := x.b.off h
  cases e : H b with
  | none => rfl
  | some o =>
    rw [x.get h1 h2 e] at h
    cases h
theorem Dv.up {α : Type} [DecidableEq α] [Dm α] {p c : Addr} {H : Hp} {v : V} {x : α} (h : Dv (res p c H) v x) : Dv H v x := h.same (res_same p c H)
theorem Dvs.up {α : Type} [DecidableEq α] [Dm α] {p c : Addr} {H : Hp} {vs : List V} {x : List α} (h : Dvs (res p c H) vs x) : Dvs H vs x := h.same (res_same p c H)
theorem emod_range {x m : Int} (h : 0 < m) : 0 ≤ x.fmod m ∧ x.fmod m < m := by
  rw [Int.fmod_eq_emod_of_nonneg x (by omega)]
  exact ⟨Int.emod_nonneg _ (by omega), Int.emod_lt_of_pos _ h⟩
theorem ix_nat {n j : Nat} (h : j < n) : ixN n (j : Int) = some j := by
  unfold ixN
  rw [if_pos (Int.natCast_nonneg _), if_pos (by omega), Int.toNat_natCast]
/-- what is new at H' -/
def fresh (H H' : Hp) : Hp := fun b => match H b with
  | none => H' b
  | some _ => none
theorem fresh_some {H H' : Hp} {b : Addr} {o : HO} (h : fresh H H' b = some o) : H b = none ∧ H' b = some o := by
  unfold fresh at h
  cases e : H b with
  | none =>
    rw [e] at h
    exact ⟨rfl, h⟩
  | some u =>
    rw [e] at h
    cases h
theorem fresh_of {H H' : Hp} {b : Addr} {o : HO} (h : H b = none) (e : H' b = some o) : fresh H H' b = some o := by
  unfold fresh
  rw [h]
  exact e
theorem fresh_same {H H' : Hp} : Same (fresh H H') H' := fun _ _ h => (fresh_some h).2
theorem fresh_pre {H H1 H' : Hp} (s : Same H H1) : Same (fresh H1 H') (fresh H H') := fun b o h => by
  obtain ⟨h1, h2⟩ := fresh_some h
  refine fresh_of ?_ h2
  cases e : H b with
  | none => rfl
  | some u =>
    rw [s _ _ e] at h1
    cases h1
theorem fresh_post {H H' H2 : Hp} (s : Same H' H2) : Same (fresh H H') (fresh H H2) := fun b o h => by
  obtain ⟨h1, h2⟩ := fresh_some h
  exact fresh_of h1 (s _ _ h2)
theorem fresh_del {H H' : Hp} {q : Addr} {o : HO} (h : H q = some o) : Same (fresh H H') (del q H') := fun b u e => by
  obtain ⟨h1, h2⟩ := fresh_some e
  refine del_of (fun z => ?_) h2
  rw [z, h] at h1
  cases h1
/-- new at H', as H goes to H' by growth -/
theorem none_of {H H' : Hp} {b : Addr} (s : Same H H') (h : H' b = none) : H b = none := by
  cases e : H b with
  | none => rfl
  | some u =>
    rw [s _ _ e] at h
    cases h
theorem upd_id {H : Hp} {a : Addr} {o : HO} (h : H a = some o) : upd H a o = H := funext fun b => by
  by_cases e : b = a
  · rw [e, upd_same, h]
  · rw [upd_ne e]
theorem small64k {n : Nat} (h : n ≤ 65536) : n < sizeLine := Nat.lt_of_le_of_lt h (by decide)
theorem fresh_res {p c : Addr} {H H' : Hp} (d : Dr H p c) : Same (fresh H H') (res p c H') := fun b o h => by
  obtain ⟨h1, h2⟩ := fresh_some h
  obtain ⟨h3, h4⟩ := d.off h1
  exact res_of h3 h4 h2
end V0
/-! nets as data, and what the laws make of them -/
namespace V0
open PySem PySem.Spec PyProof.Rows L2
open PySem.W (Datum)
structure Net where
  ins : Nat
  starts : List Nat
  gates : List (Nat × Nat)
  nexts : List Nat
  outs : List Nat
  deriving DecidableEq
theorem eqv_net (a b : Str) : PyData.eqv (.str a) (.str b) = decide (a = b) := by
  simp only [PyData.eqv]
  exact PySem.W.beq_decide a b
instance : Datum Net where
  toD n := .tuple [.str "net", Datum.toD n.ins, Datum.toD n.starts, Datum.toD n.gates, Datum.toD n.nexts, Datum.toD n.outs]
  plain n := by simp only [PyData.plain, PyData.plainAll, Datum.plain, Bool.and_self]
  eqv a b := by
    simp only [PyData.eqv, PyData.eqvAll, Datum.eqv, Bool.and_true]
    rw [PySem.W.beq_decide, ← Bool.decide_and, ← Bool.decide_and, ← Bool.decide_and, ← Bool.decide_and, ← Bool.decide_and]
    refine decide_eq_decide.mpr ⟨fun ⟨_, h1, h2, h3, h4, h5⟩ => ?_, fun e => by rw [e]; exact ⟨rfl, rfl, rfl, rfl, rfl, rfl⟩⟩
    cases a
    cases b
    simp only at h1 h2 h3 h4 h5
    rw [h1, h2, h3, h4, h5]
  depth := 3
  depth_le n := by
    have h1 := Datum.depth_le n.ins
    have h2 := Datum.depth_le n.starts
    have h3 := Datum.depth_le n.gates
    have h4 := Datum.depth_le n.nexts
    have h5 := Datum.depth_le n.outs
    have e1 : Datum.depth Nat = 0 := rfl
    have e2 : Datum.depth (List Nat) = 1 := rfl
    have e3 : Datum.depth (List (Nat × Nat)) = 2 := rfl
    rw [e1] at h1
    rw [e2] at h2 h4 h5
    rw [e3] at h3
    simp only [PyData.depth, PyData.depthAll]
    omega
instance : Dm Net where
  lay n := by
    have h1 := Dm.lay n.ins
    have h2 := Dm.lay n.starts
    have h3 := Dm.lay n.gates
    have h4 := Dm.lay n.nexts
    have h5 := Dm.lay n.outs
    simp only [Datum.toD] at h1 h2 h3 h4 h5 ⊢
    simp only [PyData.canLay0, PyData.canLayAll0, Bool.and_true] at h1 h2 h3 h4 h5 ⊢
    rw [h2, h3, h4, h5]
    decide +kernel
section
theorem Dv.net_inv {H : Hp} {v : V} {n : Net} (h : Dv H v n) : ∃ a s g x o, v = .ref a ∧ H a = some (.tup [.str "net", .int (n.ins : Int), .ref s, .ref g, .ref x, .ref o]) ∧
    Dv H (.ref s) n.starts ∧ Dv H (.ref g) n.gates ∧ Dv H (.ref x) n.nexts ∧ Dv H (.ref o) n.outs := by
  unfold Dv at h
  cases h with
  | tup h1 h2 =>
    cases h2 with
    | cons a1 h2 =>
      cases h2 with
      | cons a2 h2 =>
        cases h2 with
        | cons a3 h2 =>
          cases h2 with
          | cons a4 h2 =>
            cases h2 with
            | cons a5 h2 =>
              cases h2 with
              | cons a6 h2 =>
                cases h2
                cases a1
                have e2 := Dv.nat_inv (n := n.ins) a2
                subst e2
                obtain ⟨s, _, rfl, _⟩ := Dv.list_inv (xs := n.starts) a3
                obtain ⟨g, _, rfl, _⟩ := Dv.list_inv (xs := n.gates) a4
                obtain ⟨x, _, rfl, _⟩ := Dv.list_inv (xs := n.nexts) a5
                obtain ⟨o, _, rfl, _⟩ := Dv.list_inv (xs := n.outs) a6
                exact ⟨_, _, _, _, _, rfl, h1, a3, a4, a5, a6⟩
theorem Dv.net {H : Hp} {a : Addr} {n : Net} {s g x o : V} (h : H a = some (.tup [.str "net", .int (n.ins : Int), s, g, x, o])) (h1 : Dv H s n.starts) (h2 : Dv H g n.gates) (h3 : Dv H x n.nexts) (h4 : Dv H o n.outs) : Dv H (.ref a) n :=
  Dh.tup h (.cons (.str _) (.cons (.int _) (.cons h1 (.cons h2 (.cons h3 (.cons h4 .nil))))))
end
/-- how many nodes there are behind the inputs and flops -/
def Net.base (n : Net) : Nat := 1 + n.ins + n.starts.length
def Net.many (n : Net) : Nat := n.base + n.gates.length
structure Net.Ok (n : Net) (ins flops most : Nat) : Prop where
  ins : n.ins ≤ ins
  fl : n.starts.length ≤ flops
  bits : ∀ b ∈ n.starts, b < 2
  most : n.gates.length ≤ most
  g : ∀ j g, n.gates[j]? = some g → g.1 < 2 * (n.base + j) ∧ g.2 < 2 * (n.base + j)
  nl : n.nexts.length = n.starts.length
  nx : ∀ x ∈ n.nexts, x < 2 * n.many
  ol : n.outs.length ≤ 3
  ox : ∀ x ∈ n.outs, x < 2 * n.many
/-- a literal's bit in a row of values -/
def bitv (row : List Nat) (l : Nat) : Nat := (row[l / 2]?.getD 0) ^^^ (l % 2)
def rowOf (gs : List (Nat × Nat)) (row : List Nat) : List Nat := gs.foldl (fun r g => r ++ [bitv r g.1 * bitv r g.2]) row
def Net.row (n : Net) (held bits : List Nat) : List Nat := rowOf n.gates (0 :: bits ++ held)
theorem rowOf_len (gs : List (Nat × Nat)) (r : List Nat) : (rowOf gs r).length = r.length + gs.length := by
  induction gs generalizing r with
  | nil => rfl
  | cons g gs ih =>
    show (rowOf gs _).length = _
    rw [ih, List.length_append, List.length_cons, List.length_cons, List.length_nil]
    omega
theorem rowOf_snoc (gs : List (Nat × Nat)) (g : Nat × Nat) (r : List Nat) : rowOf (gs ++ [g]) r = rowOf gs r ++ [bitv (rowOf gs r) g.1 * bitv (rowOf gs r) g.2] := by
  unfold rowOf
  rw [List.foldl_append]
  rfl
theorem bitv_lt {row : List Nat} (h : ∀ b ∈ row, b < 2) (l : Nat) : bitv row l < 2 := by
  have h1 : row[l / 2]?.getD 0 < 2 := by
    cases e : row[l / 2]? with
    | none => decide
    | some x => exact h x (List.mem_of_getElem? e)
  exact Nat.xor_lt_two_pow (n := 1) h1 (Nat.mod_lt _ (by decide))
theorem mul_lt2 {a b : Nat} (ha : a < 2) (hb : b < 2) : a * b < 2 := by
  have : a = 0 ∨ a = 1 := by omega
  rcases this with rfl | rfl <;> omega
theorem rowOf_lt {gs : List (Nat × Nat)} {r : List Nat} (h : ∀ b ∈ r, b < 2) : ∀ b ∈ rowOf gs r, b < 2 := by
  induction gs generalizing r with
  | nil => exact h
  | cons g gs ih =>
    refine ih (r := r ++ [_]) fun b hb => ?_
    rcases List.mem_append.mp hb with hb | hb
    · exact h b hb
    · rw [List.mem_singleton.mp hb]
      exact mul_lt2 (bitv_lt h _) (bitv_lt h _)
theorem take_snoc {α : Type} {xs : List α} {i : Nat} {x : α} (h : xs[i]? = some x) : xs.take (i + 1) = xs.take i ++ [x] := by
  rw [List.take_add_one, h]
  rfl
theorem get_snoc {α : Type} {xs : List α} {x y : α} {k : Nat} (h : (xs ++ [x])[k]? = some y) : (k < xs.length ∧ xs[k]? = some y) ∨ (k = xs.length ∧ y = x) := by
  by_cases hk : k < xs.length
  · rw [List.getElem?_append_left hk] at h
    exact .inl ⟨hk, h⟩
  · rw [List.getElem?_append_right (by omega)] at h
    have e : k - xs.length = 0 := by
      cases e : k - xs.length with
      | zero => rfl
      | succ j =>
        rw [e] at h
        simp at h
    rw [e] at h
    cases h
    exact .inr ⟨by omega, rfl⟩
theorem mem_snoc {α : Type} {P : α → Prop} {xs : List α} {x : α} (h : ∀ y ∈ xs, P y) (hx : P x) : ∀ y ∈ xs ++ [x], P y := by
  intro y hy
  rcases List.mem_append.mp hy with hy | hy
  · exact h y hy
  · rw [List.mem_singleton.mp hy]
    exact hx
theorem vn_snoc (xs : List Nat) (x : Nat) : vn xs ++ [V.int (x : Int)] = vn (xs ++ [x]) := by
  unfold vn
  rw [List.map_append]
  rfl
theorem cut_nn (xs : List Nat) {a b : Nat} (h1 : a ≤ b) (h2 : b ≤ xs.length) : cutV (vn xs) (some (a : Int)) (some (b : Int)) = vn ((xs.drop a).take (b - a)) := by
  unfold cutV
  rw [HT.sIx_nat, HT.sIx_nat, vn_len, Nat.min_eq_left h2, Nat.min_eq_left (Nat.le_trans h1 h2)]
  unfold vn
  rw [← List.map_drop, ← List.map_take]
theorem set_vn (xs : List Nat) (i x : Nat) : (vn xs).set i (.int (x : Int)) = vn (xs.set i x) := by
  unfold vn
  rw [List.map_set]
theorem mem_set {α : Type} {P : α → Prop} {xs : List α} {i : Nat} {x : α} (h : ∀ y ∈ xs, P y) (hx : P x) : ∀ y ∈ xs.set i x, P y := by
  intro y hy
  rcases List.mem_or_eq_of_mem_set hy with hy | rfl
  · exact h y hy
  · exact hx
theorem dec_bool (a b : Bool) : decide (V.bl a = V.bl b) = decide (a = b) := by rw [Bool.eq_iff_iff]; simp
theorem dec_int (a b : Int) : decide (V.int a = V.int b) = decide (a = b) := by rw [Bool.eq_iff_iff]; simp
theorem dec_nat (a b : Nat) : decide (V.int (a : Int) = V.int (b : Int)) = decide (a = b) := by
  rw [dec_int]
  exact decide_eq_decide.mpr ⟨fun e => by omega, fun e => by rw [e]⟩
theorem dec_one (a : Nat) : decide (V.int (a : Int) = V.int 1) = decide (a = 1) := dec_nat a 1
theorem bxor (a b : Nat) : Builtin.bitXor (a : Int) (b : Int) = ((a ^^^ b : Nat) : Int) := by
  rw [Bits.bitXor_pp (Int.natCast_nonneg _) (Int.natCast_nonneg _), Int.toNat_natCast, Int.toNat_natCast]
theorem fdiv_nat (a b : Nat) : ((a : Int)).fdiv (b : Int) = ((a / b : Nat) : Int) := by
  rw [Int.fdiv_eq_ediv_of_nonneg _ (by omega)]
  rfl
theorem fmod_nat (a b : Nat) : ((a : Int)).fmod (b : Int) = ((a % b : Nat) : Int) := by
  rw [Int.fmod_eq_emod_of_nonneg _ (by omega)]
  rfl
theorem nfdiv2 (a : Nat) : ((a : Int)).fdiv 2 = ((a / 2 : Nat) : Int) := fdiv_nat a 2
theorem nfmod2 (a : Nat) : ((a : Int)).fmod 2 = ((a % 2 : Nat) : Int) := fmod_nat a 2
end V0
/-! clauses of nets -/
namespace V0
open PySem PySem.Spec PyProof.Rows L2
open PySem.W (Datum)
/-- a literal's integer -/
def integ (l : Nat) : Int := if l % 2 = 1 then -(((l / 2 : Nat) : Int) + 1) else ((l / 2 : Nat) : Int) + 1
def clG (v : Nat) (g : Nat × Nat) : List (List Int) := [[-(v : Int), integ g.1], [-(v : Int), integ g.2], [(v : Int), -integ g.1, -integ g.2]]
def cls : Nat → List (Nat × Nat) → List (List Int)
  | _, [] => []
  | v, g :: gs => clG (v + 1) g ++ cls (v + 1) gs
theorem cls_snoc (g : Nat × Nat) : ∀ (gs : List (Nat × Nat)) (v : Nat), cls v (gs ++ [g]) = cls v gs ++ clG (v + gs.length + 1) g
  | [], v => by
    show clG (v + 1) g ++ [] = [] ++ clG (v + 0 + 1) g
    rw [List.append_nil]
    rfl
  | x :: gs, v => by
    show clG (v + 1) x ++ cls (v + 1) (gs ++ [g]) = clG (v + 1) x ++ cls (v + 1) gs ++ clG (v + (gs.length + 1) + 1) g
    rw [cls_snoc g gs (v + 1), List.append_assoc, show v + 1 + gs.length + 1 = v + (gs.length + 1) + 1 by omega]
theorem cls_len : ∀ (gs : List (Nat × Nat)) (v : Nat), (cls v gs).length = 3 * gs.length
  | [], _ => rfl
  | x :: gs, v => by
    show (clG (v + 1) x ++ cls (v + 1) gs).length = 3 * (gs.length + 1)
    rw [List.length_append, cls_len gs]
    show 3 + _ = _
    omega
def Net.clauses (n : Net) : List (List Int) := [[-1]] ++ cls n.base n.gates
/-- an integer is kept by a choice of bits -/
def satI (row : List Nat) (z : Int) : Bool := decide (decide (row[z.natAbs - 1]?.getD 0 = 1) = decide (0 < z))
def kept (row : List Nat) (cs : List (List Int)) : Bool := cs.all fun c => c.any (satI row)
theorem integ_abs (l : Nat) : (integ l).natAbs = l / 2 + 1 := by
  unfold integ
  split <;> omega
theorem satI_integ {row : List Nat} (h : ∀ b ∈ row, b < 2) (l : Nat) : satI row (integ l) = decide (bitv row l = 1) ∧ satI row (-integ l) = !decide (bitv row l = 1) := by
  have hb : row[l / 2]?.getD 0 = 0 ∨ row[l / 2]?.getD 0 = 1 := by
    cases e : row[l / 2]? with
    | none => exact .inl rfl
    | some x =>
      have := h x (List.mem_of_getElem? e)
      show x = 0 ∨ x = 1
      omega
  have e1 : (integ l).natAbs - 1 = l / 2 := by rw [integ_abs]; omega
  have e2 : (-integ l).natAbs - 1 = l / 2 := by rw [Int.natAbs_neg, integ_abs]; omega
  unfold satI bitv
  rw [e1, e2]
  have hm : l % 2 = 0 ∨ l % 2 = 1 := by omega
  have p0 : l % 2 = 0 → (0 < integ l) ∧ ¬ (0 < -integ l) := fun e => by unfold integ; rw [if_neg (by omega)]; omega
  have p1 : l % 2 = 1 → ¬ (0 < integ l) ∧ (0 < -integ l) := fun e => by unfold integ; rw [if_pos e]; omega
  rcases hm with e | e
  · rw [decide_eq_true (p0 e).1, decide_eq_false (p0 e).2]
    rcases hb with z | z <;> rw [z, e] <;> decide
  · rw [decide_eq_false (p1 e).1, decide_eq_true (p1 e).2]
    rcases hb with z | z <;> rw [z, e] <;> decide
theorem satI_var (row : List Nat) {v : Nat} (hv : 0 < v) : satI row (v : Int) = decide (row[v - 1]?.getD 0 = 1) ∧ satI row (-(v : Int)) = !decide (row[v - 1]?.getD 0 = 1) := by
  unfold satI
  rw [Int.natAbs_neg, Int.natAbs_natCast, decide_eq_true (show (0 : Int) < (v : Int) by omega), decide_eq_false (show ¬ (0 : Int) < -(v : Int) by omega)]
  by_cases h : row[v - 1]?.getD 0 = 1
  · rw [decide_eq_true h]; decide
  · rw [decide_eq_false h]; decide
theorem kept_gate {row : List Nat} (h : ∀ b ∈ row, b < 2) {v : Nat} (hv : v < row.length) (g : Nat × Nat) : kept row (clG (v + 1) g) = decide (row[v]?.getD 0 = bitv row g.1 * bitv row g.2) := by
  have a1 := satI_var row (v := v + 1) (by omega)
  have a2 := satI_integ h g.1
  have a3 := satI_integ h g.2
  unfold kept clG
  simp only [List.all_cons, List.any_cons, List.all_nil, List.any_nil, a1, a2, a3, Nat.add_sub_cancel, Bool.or_false, Bool.and_true]
  have b1 : row[v]?.getD 0 = 0 ∨ row[v]?.getD 0 = 1 := by
    rw [List.getElem?_eq_getElem hv]
    have := h _ (List.getElem_mem hv)
    show row[v] = 0 ∨ row[v] = 1
    omega
  have b2 : bitv row g.1 = 0 ∨ bitv row g.1 = 1 := by have := bitv_lt h g.1; omega
  have b3 : bitv row g.2 = 0 ∨ bitv row g.2 = 1 := by have := bitv_lt h g.2; omega
  rcases b1 with b1 | b1 <;> rcases b2 with b2 | b2 <;> rcases b3 with b3 | b3 <;> rw [b1, b2, b3] <;> decide
theorem kept_app (row : List Nat) (a b : List (List Int)) : kept row (a ++ b) = (kept row a && kept row b) := by
  unfold kept
  rw [List.all_append]
theorem bitv_take {row : List Nat} {k l : Nat} (h : l / 2 < k) : bitv (row.take k) l = bitv row l := by
  unfold bitv
  rw [List.getElem?_take_of_lt h]
/-- the clauses of gates say just that the row is the one that the gates make -/
theorem kept_cls : ∀ (gs : List (Nat × Nat)) (base : Nat) (row : List Nat), (∀ b ∈ row, b < 2) → row.length = base + gs.length → (∀ j g, gs[j]? = some g → g.1 < 2 * (base + j) ∧ g.2 < 2 * (base + j)) →
    kept row (cls base gs) = decide (row = rowOf gs (row.take base)) := by
  intro gs
  induction gs with
  | nil =>
    intro base row _ hl _
    show true = decide (row = row.take base)
    rw [List.take_of_length_le (by rw [hl]; exact Nat.le_refl _), decide_eq_true rfl]
  | cons g gs ih =>
    intro base row h hl hg
    have hl : row.length = base + (gs.length + 1) := hl
    show kept row (clG (base + 1) g ++ cls (base + 1) gs) = _
    rw [kept_app, kept_gate h (by omega), ih (base + 1) row h (by omega) (fun j g' e => by have := hg (j + 1) g' e; rw [show base + (j + 1) = base + 1 + j by omega] at this; exact this), ← Bool.decide_and]
    refine decide_eq_decide.mpr ?_
    have h0 := hg 0 g rfl
    have hget : row[base]? = some (row[base]?.getD 0) := by rw [List.getElem?_eq_getElem (by omega)]; rfl
    have e1 : row.take (base + 1) = row.take base ++ [row[base]?.getD 0] := take_snoc hget
    have e2 : rowOf (g :: gs) (row.take base) = rowOf gs (row.take base ++ [bitv row g.1 * bitv row g.2]) := by
      show rowOf gs (row.take base ++ [bitv (row.take base) g.1 * bitv (row.take base) g.2]) = _
      rw [bitv_take (by omega), bitv_take (by omega)]
    rw [e1, e2]
    constructor
    · rintro ⟨a, b⟩
      rw [a] at b
      exact b
    · intro b
      have c : row.take (base + 1) = row.take base ++ [bitv row g.1 * bitv row g.2] := by
        have hp : ∀ (gs : List (Nat × Nat)) (r : List Nat), ∃ t, rowOf gs r = r ++ t := by
          intro gs
          induction gs with
          | nil => exact fun r => ⟨[], (List.append_nil _).symm⟩
          | cons x xs ih =>
            intro r
            obtain ⟨t, e⟩ := ih (r ++ [bitv r x.1 * bitv r x.2])
            exact ⟨[bitv r x.1 * bitv r x.2] ++ t, by show rowOf xs _ = _; rw [e, List.append_assoc]⟩
        obtain ⟨t, e⟩ := hp gs (row.take base ++ [bitv row g.1 * bitv row g.2])
        rw [e] at b
        have l1 : (row.take base ++ [bitv row g.1 * bitv row g.2]).length = base + 1 := by
          rw [List.length_append, List.length_take, List.length_cons, List.length_nil]
          omega
        have := congrArg (List.take (base + 1)) b
        rw [List.take_append_of_le_length (by rw [l1]; exact Nat.le_refl _), show List.take (base + 1) (row.take base ++ [bitv row g.1 * bitv row g.2]) = row.take base ++ [bitv row g.1 * bitv row g.2] from List.take_of_length_le (Nat.le_of_eq l1)] at this
        exact this
      rw [e1] at c
      have d : row[base]?.getD 0 = bitv row g.1 * bitv row g.2 := by
        have := List.append_cancel_left c
        exact (List.cons.inj this).1
      exact ⟨d, by rw [d]; exact b⟩
theorem integ_ne (l : Nat) : integ l ≠ 0 := by
  unfold integ
  split <;> omega
theorem cls_bound : ∀ (gs : List (Nat × Nat)) (base : Nat), (∀ j g, gs[j]? = some g → g.1 < 2 * (base + j) ∧ g.2 < 2 * (base + j)) → ∀ c ∈ cls base gs, ∀ z ∈ c, z ≠ 0 ∧ z.natAbs ≤ base + gs.length := by
  intro gs
  induction gs with
  | nil =>
    intro base _ c hc
    cases hc
  | cons g gs ih =>
    intro base hg c hc z hz
    have hc : c ∈ clG (base + 1) g ++ cls (base + 1) gs := hc
    have h0 := hg 0 g rfl
    rw [List.length_cons]
    rcases List.mem_append.mp hc with hc | hc
    · have e1 := integ_ne g.1
      have e2 := integ_ne g.2
      have a1 := integ_abs g.1
      have a2 := integ_abs g.2
      unfold clG at hc
      simp only [List.mem_cons, List.not_mem_nil, or_false] at hc
      rcases hc with rfl | rfl | rfl <;> simp only [List.mem_cons, List.not_mem_nil, or_false] at hz
      · rcases hz with rfl | rfl <;> omega
      · rcases hz with rfl | rfl <;> omega
      · rcases hz with rfl | rfl | rfl <;> omega
    · have := ih (base + 1) (fun j g' e => by have := hg (j + 1) g' e; rw [show base + (j + 1) = base + 1 + j by omega] at this; exact this) c hc z hz
      omega
theorem cls_len3 : ∀ (gs : List (Nat × Nat)) (base : Nat), ∀ c ∈ cls base gs, c.length ≤ 3
  | [], _, c, h => by cases h
  | g :: gs, base, c, h => by
    have h : c ∈ clG (base + 1) g ++ cls (base + 1) gs := h
    rcases List.mem_append.mp h with h | h
    · unfold clG at h
      simp only [List.mem_cons, List.not_mem_nil, or_false] at h
      rcases h with rfl | rfl | rfl <;> simp
    · exact cls_len3 gs _ c h
theorem any_id {α : Type} (f : α → Bool) (xs : List α) : (xs.map f).any id = xs.any f := by
  rw [List.any_map]
  rfl
theorem all_id {α : Type} (f : α → Bool) (xs : List α) : (xs.map f).all id = xs.all f := by
  rw [List.all_map]
  rfl
theorem kept_net {n : Net} {xs : List Nat} (h : ∀ b ∈ xs, b < 2) (hl : xs.length = n.many) (hg : ∀ j g, n.gates[j]? = some g → g.1 < 2 * (n.base + j) ∧ g.2 < 2 * (n.base + j)) :
    kept xs n.clauses = decide (xs = n.row ((xs.drop (1 + n.ins)).take (n.base - (1 + n.ins))) ((xs.drop 1).take (1 + n.ins - 1))) := by
  unfold Net.clauses
  rw [kept_app, kept_cls n.gates n.base xs h hl hg]
  have hb : 1 + n.ins ≤ n.base := by unfold Net.base; omega
  have hm : n.base ≤ n.many := Nat.le_add_right _ _
  cases xs with
  | nil =>
    rw [List.length_nil] at hl
    exfalso
    omega
  | cons x r =>
    have e0 : kept (x :: r) [[-1]] = decide (x = 0) := by
      have hx := h x List.mem_cons_self
      have : x = 0 ∨ x = 1 := by omega
      rcases this with rfl | rfl <;> rfl
    rw [e0, ← Bool.decide_and]
    refine decide_eq_decide.mpr ?_
    have et : (x :: r).take n.base = x :: (((x :: r).drop 1).take (1 + n.ins - 1) ++ ((x :: r).drop (1 + n.ins)).take (n.base - (1 + n.ins))) := by
      have e1 : (x :: r).take n.base = x :: r.take (n.base - 1) := by
        obtain ⟨k, hk⟩ : ∃ k, n.base = k + 1 := ⟨n.base - 1, by omega⟩
        rw [hk]
        rfl
      have e2 : (x :: r).drop (1 + n.ins) = r.drop n.ins := by
        rw [Nat.add_comm]
        rfl
      rw [e1, e2, show 1 + n.ins - 1 = n.ins by omega, show n.base - 1 = n.ins + (n.base - (1 + n.ins)) by omega]
      show x :: r.take _ = x :: (r.take n.ins ++ _)
      rw [List.take_add]
    unfold Net.row
    rw [et]
    constructor
    · rintro ⟨rfl, e⟩
      exact e
    · intro e
      have hp : ∀ (gs : List (Nat × Nat)) (r : List Nat), ∃ t, rowOf gs r = r ++ t := by
        intro gs
        induction gs with
        | nil => exact fun r => ⟨[], (List.append_nil _).symm⟩
        | cons x xs ih =>
          intro r
          obtain ⟨t, e⟩ := ih (r ++ [bitv r x.1 * bitv r x.2])
          exact ⟨[bitv r x.1 * bitv r x.2] ++ t, by show rowOf xs _ = _; rw [e, List.append_assoc]⟩
      obtain ⟨t, et2⟩ := hp n.gates (0 :: (((x :: r).drop 1).take (1 + n.ins - 1) ++ ((x :: r).drop (1 + n.ins)).take (n.base - (1 + n.ins))))
      have e' := e
      rw [List.cons_append, et2] at e'
      have hx : x = 0 := (List.cons.inj e').1
      subst hx
      exact ⟨rfl, e⟩
end V0
namespace K37
open PySem PySem.Spec PyProof.Rows L2 V0
def topS (i : Nat) : Stmt := PySem.Challenge.pw_cellcloth_k37_clauses_of_nets.main.body.getD i (.Pass ⟨0, 0, 0, 0⟩)
abbrev s__law_state : Stmt := topS 7
abbrev N__law_state : List Str := ["script", "seed", "cell"]
theorem sc_law_state : FnScope ["script", "seed", "cell"] ["script"] (defScope s__law_state) := ⟨rfl, rfl, rfl, by decide +kernel, rfl, by decide +kernel, by decide +kernel⟩
abbrev s__law_draw : Stmt := topS 8
abbrev N__law_draw : List Str := ["state", "many", "cells", "value", "mixed"]
theorem sc_law_draw : FnScope ["state", "many", "cells", "value", "mixed"] ["state", "many"] (defScope s__law_draw) := ⟨rfl, rfl, rfl, by decide +kernel, rfl, by decide +kernel, by decide +kernel⟩
abbrev s__law_pick : Stmt := topS 9
abbrev N__law_pick : List Str := ["state", "row"]
theorem sc_law_pick : FnScope ["state", "row"] ["state", "row"] (defScope s__law_pick) := ⟨rfl, rfl, rfl, by decide +kernel, rfl, by decide +kernel, by decide +kernel⟩
abbrev s__law_net : Stmt := topS 10
abbrev N__law_net : List Str := ["state", "ins", "flops", "most", "k", "starts", "gates", "many", "low", "nexts"]
theorem sc_law_net : FnScope ["state", "ins", "flops", "most", "k", "starts", "gates", "many", "low", "nexts"] ["state", "ins", "flops", "most"] (defScope s__law_net) := ⟨rfl, rfl, rfl, by decide +kernel, rfl, by decide +kernel, by decide +kernel⟩
abbrev s_base_of : Stmt := topS 1
abbrev N_base_of : List Str := ["net"]
theorem scbase_of : FnScope ["net"] ["net"] (defScope s_base_of) := ⟨rfl, rfl, rfl, by decide +kernel, rfl, by decide +kernel, by decide +kernel⟩
abbrev s_gate_clauses : Stmt := topS 4
abbrev N_gate_clauses : List Str := ["variable", "x", "y"]
theorem scgate_clauses : FnScope ["variable", "x", "y"] ["variable", "x", "y"] (defScope s_gate_clauses) := ⟨rfl, rfl, rfl, by decide +kernel, rfl, by decide +kernel, by decide +kernel⟩
abbrev s_integer_of : Stmt := topS 5
abbrev N_integer_of : List Str := ["literal", "variable"]
theorem scinteger_of : FnScope ["literal", "variable"] ["literal"] (defScope s_integer_of) := ⟨rfl, rfl, rfl, by decide +kernel, rfl, by decide +kernel, by decide +kernel⟩
abbrev s_net_clauses : Stmt := topS 3
abbrev N_net_clauses : List Str := ["net", "clauses", "variable", "pair"]
theorem scnet_clauses : FnScope ["net", "clauses", "variable", "pair"] ["net"] (defScope s_net_clauses) := ⟨rfl, rfl, rfl, by decide +kernel, rfl, by decide +kernel, by decide +kernel⟩
abbrev s__law_bit : Stmt := topS 11
abbrev N__law_bit : List Str := ["row", "literal"]
theorem sc_law_bit : FnScope ["row", "literal"] ["row", "literal"] (defScope s__law_bit) := ⟨rfl, rfl, rfl, by decide +kernel, rfl, by decide +kernel, by decide +kernel⟩
abbrev s__law_row : Stmt := topS 12
abbrev N__law_row : List Str := ["net", "held", "bits", "row", "a", "b"]
theorem sc_law_row : FnScope ["net", "held", "bits", "row", "a", "b"] ["net", "held", "bits"] (defScope s__law_row) := ⟨rfl, rfl, rfl, by decide +kernel, rfl, by decide +kernel, by decide +kernel⟩
abbrev s__law_integer : Stmt := topS 15
abbrev N__law_integer : List Str := ["literal", "number"]
theorem sc_law_integer : FnScope ["literal", "number"] ["literal"] (defScope s__law_integer) := ⟨rfl, rfl, rfl, by decide +kernel, rfl, by decide +kernel, by decide +kernel⟩
abbrev s_law : Stmt := topS 16
abbrev N_law : List Str := ["script", "state", "net", "due", "number", "a", "b", "x", "y", "clauses", "k", "j", "row", "some", "at", "kept", "free", "true", "clause", "one"]
theorem sclaw : FnScope ["script", "state", "net", "due", "number", "a", "b", "x", "y", "clauses", "k", "j", "row", "some", "at", "kept", "free", "true", "clause", "one"] ["script"] (defScope s_law) := ⟨rfl, rfl, rfl, by decide +kernel, rfl, by decide +kernel, by decide +kernel⟩
structure Txt (K : PySem.W.Frag) (mg : Str → Option Value) : Prop where
  m_abs : mg "abs" = none
  m_all : mg "all" = none
  m_any : mg "any" = none
  m_int : mg "int" = none
  m_len : mg "len" = none
  m_list : mg "list" = none
  m_max : mg "max" = none
  m_range : mg "range" = none
end K37
namespace K37
open PySem PySem.Spec PyProof.Rows L2 V0
/-! ### the draws -/
def sp__law_state (K : PySem.W.Frag) : Sp := fun vs H Q _ => ∃ (a : Addr) (ns : List Int), vs = [.ref a] ∧ SqL K H a (vi ns) ∧ ns.length ≤ 63 ∧ ∀ H' p c, Same H H' → Dr H' p c → Q (.ref p) H'
theorem ok__law_state {P : Program} {w : World} {K : PySem.W.Frag} {mg : Str → Option Value} {base : Heap} {f  : Addr} {fd  : FuncData} (F : Fun K "_law_state" "_law_state" s__law_state f fd) (T : Txt K mg) :
    FnOk P w K mg base CX0 1 f fd ["script"] (sp__law_state K) := by
  refine F.ok sc_law_state (fun vs H Q E h => ?_) (fun cdv A outer s H vs Q E hr h => ?_)
  · obtain ⟨a, ns, rfl, _⟩ := h
    rfl
  · obtain ⟨a, ns, rfl, hS, hl, q⟩ := h
    refine ⟨_, (pss_cons (ps_set (i := 1) sc_law_state.nd rfl (.inl rfl) pe_int)
      (pss_cons (ps_for PassesOwn.never rfl (pi_list (pv 0)) (pg_name (i := 2) sc_law_state.nd rfl (Or.inl rfl)) (pss_one (ps_set (i := 1) sc_law_state.nd rfl (.inl rfl) (pe_op op_modN (pe_callTy call_int1 (by rfl) T.m_int (by decide +kernel) (pa_cons (pe_op op_add (pe_op op_mul (pv 1) pe_int) (pv 2)) pa_nil)) pe_int))))
      (pss_one (ps_ret (pe_lst (pa_cons (pe_lc (own := [("cell", 2)]) (g := gName 2) (tt := tYes) rfl sc_law_state.nd (pi_list (pv 0)) (blkOk_by (N := N__law_state) (sc := defScope s__law_state) (by decide +kernel)) (fun _ _ _ _ _ => (pg_name (i := 2) sc_law_state.nd rfl (Or.inl rfl))) (fun _ _ _ _ _ => pts_nil) (fun _ _ _ _ _ => (pe_callB call_abs (by rfl) T.m_abs (by decide +kernel) (pa_cons (pe_callTy call_int1 (by rfl) T.m_int (by decide +kernel) (pa_cons (pv 2) pa_nil)) pa_nil)))) (pa_cons (pe_op op_add (pv 1) pe_int) pa_nil))))))), ?_⟩
    refine ⟨_, rfl, a, rfl, ⟨_, hS⟩, for_list (xs := vi ns) (fun _ σ H' => ∃ (z : Int) (y : Option V), σ = [some (.ref a), some (.int z), y] ∧ H' = H) ⟨7, none, rfl, rfl⟩ (fun i σ H' _ h => ?_) ?_ ?_⟩
    · obtain ⟨z, y, _, rfl⟩ := h
      exact hS
    · rintro i v σ H' hv ⟨z, y, rfl, rfl⟩
      obtain ⟨n, hn, rfl⟩ := List.mem_map.mp (List.mem_of_getElem? hv)
      refine ⟨_, rfl, _, _, rfl, rfl, .inr ⟨by decide, by decide⟩, _, rfl, _, _, rfl, rfl, .inl ⟨_, rfl, _, _, rfl, rfl, (show (1000003 : Int) ≠ 0 by decide), ?_⟩⟩
      exact ⟨_, _, rfl, rfl⟩
    · rintro σ H' ⟨z, y, rfl, rfl⟩
      refine ⟨_, rfl, a, rfl, ⟨_, hS⟩, fun D hD => lc_list (xs := vi ns) (fun i H'' => Same H' H'' ∧ H'' D = some (.lst (vn ((ns.take i).map Int.natAbs)))) ⟨same_new hD, upd_same⟩ (fun i H'' _ h => h.1.seq hS) ?_ ?_⟩
      · rintro i v H'' hv ⟨sm, hD'⟩
        have hi : i < ns.length := by
          have h := (List.getElem?_eq_some_iff.mp hv).1
          rw [List.length_map] at h
          exact h
        rw [List.getElem?_map, List.getElem?_eq_getElem hi] at hv
        cases hv
        refine ⟨rfl, _, rfl, .inl ⟨_, rfl, _, rfl, _, hD', ?_, same_mut sm hD, ?_⟩⟩
        · rw [vn_len, List.length_map, List.length_take]
          exact small1000 (by omega)
        · rw [upd_same, List.take_add_one, List.getElem?_eq_getElem hi]
          have e : (if ns[i] < 0 then -ns[i] else ns[i]) = ((ns[i].natAbs : Nat) : Int) := by
            by_cases h : ns[i] < 0
            · rw [if_pos h]
              omega
            · rw [if_neg h]
              omega
          rw [e]
          unfold vn
          rw [List.map_append, List.map_append]
          rfl
      · rintro H'' ⟨sm, hD'⟩
        refine ⟨_, rfl, _, _, rfl, rfl, by show 2 ≤ sizeLine; decide, fun p hp => ?_⟩
        have hDp : D ≠ p := fun e => by
          rw [e, hp] at hD'
          cases hD'
        refine q _ p D (same_mut sm (by rcases hq : H' p with _ | o; rfl; rw [sm _ _ hq] at hp; cases hp)) ⟨fun e => hDp e.symm, (ns.take (vi ns).length).map Int.natAbs, z + 1, upd_same, ?_, ?_⟩
        · rw [upd_ne hDp]
          exact hD'
        · rw [List.length_map, List.length_take]
          omega
def sp__law_draw (K : PySem.W.Frag) : Sp := fun vs H Q _ => ∃ (p c : Addr) (n : Nat), vs = [.ref p, .int n] ∧ Dr H p c ∧ 0 < n ∧ n < 1073741824 ∧ ∀ H' (d : Nat), Go p c H H' → d < n → Q (.int d) H'
theorem ok__law_draw {P : Program} {w : World} {K : PySem.W.Frag} {mg : Str → Option Value} {base : Heap} {f  : Addr} {fd  : FuncData} (F : Fun K "_law_draw" "_law_draw" s__law_draw f fd) (T : Txt K mg) :
    FnOk P w K mg base CX0 1 f fd ["state", "many"] (sp__law_draw K) := by
  refine F.ok sc_law_draw (fun vs H Q E h => ?_) (fun cdv A outer s H vs Q E hr h => ?_)
  · obtain ⟨p, c, n, rfl, _⟩ := h
    rfl
  · obtain ⟨p, c, n, rfl, d0, h0, h1, q⟩ := h
    have nz : ((n : Nat) : Int) ≠ 0 := by omega
    have fm : ∀ x : Nat, ((x : Int)).fmod (n : Int) = ((x % n : Nat) : Int) := fun x => by rw [Int.fmod_eq_emod_of_nonneg _ (by omega)]; omega
    obtain ⟨nc, cs0, z0, hp0, hc0, hl0⟩ := d0
    refine ⟨_, (pss_cons (ps_set (i := 2) sc_law_draw.nd rfl (.inl rfl) (pe_ix (r := rIxL K) ix_list (pv 0) pe_int (fun _ _ => rfl)))
      (C8.pss_cut (ps_while PassesOwn.never (PW.pt (pw_and (pt_cmpR op_gt (pe_callB call_len_seq (by rfl) T.m_len (by decide +kernel) (pa_cons (pv 2) pa_nil)) pe_int (nomark _)) (pw_and1 (pt_cmpR op_eq (pe_ix (r := rIxL K) ix_list (pv 2) pe_int (fun _ _ => rfl)) pe_int (nomark _))))) (pss_one (ps_expr (pe_bm PySem.F.plainAttrs_list PySem.F.slot_list_pop PySem.F.type_list_pop mt_popAt (pv 2) (pa_cons pe_int pa_nil)))))
      (pss_cons (ps_if (pt_cmpR op_gt (pe_callB call_len_seq (by rfl) T.m_len (by decide +kernel) (pa_cons (pv 2) pa_nil)) pe_int (nomark _)) (pss_cons (ps_set (i := 3) sc_law_draw.nd rfl (.inl rfl) (pe_ix (r := rIxL K) ix_list (pv 2) pe_int (fun _ _ => rfl)))
      (pss_cons (ps_asg (pe_op op_fdivN (pv 3) (pv 1)) (pg_sub (pv 2) pe_int set_list))
      (pss_one (ps_ret (pe_op op_modN (pe_callTy call_int1 (by rfl) T.m_int (by decide +kernel) (pa_cons (pv 3) pa_nil)) (pv 1)))))) pss_nil)
      (pss_cons (ps_set (i := 4) sc_law_draw.nd rfl (.inl rfl) (pe_op op_modN (pe_callTy call_int1 (by rfl) T.m_int (by decide +kernel) (pa_cons (pe_op op_add (pe_op op_mul (pe_ix (r := rIxL K) ix_list (pv 0) pe_int (fun _ _ => rfl)) pe_int) pe_int) pa_nil)) pe_int))
      (pss_cons (ps_asg (pv 4) (pg_sub (pv 0) pe_int set_list))
      (pss_one (ps_ret (pe_op op_modN (pe_callTy call_int1 (by rfl) T.m_int (by decide +kernel) (pa_cons (pe_op op_fdivN (pv 4) pe_int) pa_nil)) (pv 1))))))))), ?_⟩
    refine ⟨_, rfl, p, _, 0, _, rfl, rfl, SqL.of hp0, atI_nat (j := 0) rfl, ?_⟩
    have go : ∀ (cs : List Nat) (z : Int), cs.length ≤ 63 → Go p c H (upd (upd H c (.lst (vn cs))) p (.lst [.ref c, .int z])) := fun cs z hl =>
      ⟨⟨nc, _, _, hp0, hc0, hl0⟩, ⟨nc, cs, z, upd_same, by rw [upd_ne (fun e => nc e.symm)]; exact upd_same, hl⟩, fun b o hb => by
        obtain ⟨b1, b2, b3⟩ := res_some hb
        rw [res_eq b1 b2, upd_ne b1, upd_ne b2]
        exact b3⟩
    have hpc : ∀ cs : List Nat, (upd H c (.lst (vn cs))) p = some (.lst [.ref c, .int z0]) := fun cs => by
      rw [upd_ne nc]
      exact hp0
    refine ⟨fun σ H' => ∃ cs : List Nat, σ = [some (.ref p), some (.int n), some (.ref c), none, none] ∧ H' = upd H c (.lst (vn cs)) ∧ cs.length ≤ 63, ?_, ?_⟩
    · refine while_by (fun σ H' => ∃ cs : List Nat, σ = [some (.ref p), some (.int n), some (.ref c), none, none] ∧ H' = upd H c (.lst (vn cs)) ∧ cs.length ≤ 63) (fun _ H' => match H' c with | some (.lst xs) => xs.length | _ => 0) ⟨cs0, rfl, (upd_id hc0).symm, hl0⟩ ?_ ?_
      · rintro σ H' ⟨cs, rfl, rfl, hl⟩
        refine ⟨_, rfl, c, _, rfl, .inl (SqL.of upd_same), _, _, rfl, rfl, _, rfl, ?_⟩
        cases cs with
        | nil => exact iteF (iteF ⟨[], rfl, rfl, hl⟩)
        | cons x r =>
          have e : decide ((((vn (x :: r)).length : Nat) : Int) > 0) = true := decide_eq_true (by rw [vn_len, List.length_cons]; omega)
          rw [e]
          refine iteT ?_
          refine ⟨_, rfl, c, _, 0, _, rfl, rfl, SqL.of upd_same, atI_nat (j := 0) rfl, rfl, _, rfl, ?_⟩
          refine ite2 (fun _ => ?_) (fun _ => ⟨x :: r, rfl, rfl, hl⟩)
          refine ⟨_, rfl, .inl ⟨rfl, _, SqL.of upd_same⟩, c, _, 0, 0, _, rfl, rfl, upd_same, by decide, by decide, ?_, rfl, ?_, ?_⟩
          · rw [vn_len, List.length_cons]
            unfold seqIndex?
            simp
          · exact ⟨r, rfl, by rw [upd_upd]; rfl, by rw [List.length_cons] at hl; omega⟩
          · show (match (upd _ c _) c with | some (.lst xs) => xs.length | _ => 0) < (match (upd H c (.lst (vn (x :: r)))) c with | some (.lst xs) => xs.length | _ => 0)
            rw [upd_same, upd_same]
            show ((vn (x :: r)).eraseIdx 0).length < (vn (x :: r)).length
            simp
      · intro σ H' Q Q' hq h
        obtain ⟨x, e1, p', ys, e2, e3, i, j, e4, e5, k, e6, h⟩ := h
        refine ⟨x, e1, p', ys, e2, e3, i, j, e4, e5, k, e6, ?_⟩
        cases k with
        | false => exact iteF (hq _ _ (by rw [if_neg Bool.false_ne_true] at h; exact h))
        | true =>
          rw [if_pos rfl] at h
          obtain ⟨y, f1, l, xs, i2, v, f2, f3, f4, f5, f6, k2, f7, h⟩ := h
          exact iteT ⟨y, f1, l, xs, i2, v, f2, f3, f4, f5, f6, k2, f7, hq _ _ h⟩
    · rintro σ H' ⟨cs, rfl, rfl, hl⟩
      refine ⟨_, rfl, c, _, rfl, .inl (SqL.of upd_same), _, _, rfl, rfl, _, rfl, ?_⟩
      cases cs with
      | nil =>
        refine iteF ?_
        refine ⟨_, rfl, p, _, 1, _, rfl, rfl, SqL.of (hpc []), atI_nat (j := 1) rfl, _, _, rfl, rfl, .inr ⟨by decide, by decide⟩, _, _, rfl, rfl, .inl ⟨_, rfl, _, _, rfl, rfl, (show (2147483647 : Int) ≠ 0 by decide), ?_⟩⟩
        refine ⟨_, rfl, _, rfl, p, _, 1, 1, rfl, rfl, hpc [], rfl, ?_⟩
        have r := emod_range (x := z0 * 48271 + 12345) (show (0 : Int) < 2147483647 by decide)
        refine ⟨_, rfl, _, _, rfl, rfl, ⟨by decide, by decide⟩, .inl ⟨_, rfl, _, rfl, _, _, rfl, rfl, nz, ?_⟩⟩
        obtain ⟨y, hy⟩ : ∃ y : Nat, ((z0 * 48271 + 12345).fmod 2147483647).fdiv 64 = (y : Int) := ⟨_, (Int.toNat_of_nonneg (by
          rw [Int.fdiv_eq_ediv_of_nonneg _ (by decide)]
          omega)).symm⟩
        show Q (V.int ((((z0 * 48271 + 12345).fmod 2147483647).fdiv 64).fmod n)) _
        rw [hy, fm]
        exact q _ _ (go [] _ hl) (Nat.mod_lt _ h0)
      | cons x r =>
        have e : decide ((((vn (x :: r)).length : Nat) : Int) > 0) = true := decide_eq_true (by rw [vn_len, List.length_cons]; omega)
        rw [e]
        refine iteT ?_
        refine ⟨_, rfl, c, _, 0, _, rfl, rfl, SqL.of upd_same, atI_nat (j := 0) rfl, ?_⟩
        refine ⟨_, rfl, _, rfl, _, _, rfl, rfl, ⟨nz, by show ((n : Nat) : Int).natAbs < 1073741824; omega⟩, ?_⟩
        refine ⟨_, rfl, c, _, 0, 0, rfl, rfl, upd_same, ix_nat (j := 0) (by rw [vn_len, List.length_cons]; omega), ?_⟩
        refine ⟨_, rfl, .inl ⟨_, rfl, _, rfl, _, _, rfl, rfl, nz, ?_⟩⟩
        show Q (V.int ((x : Int).fmod n)) _
        rw [fm, upd_upd]
        have ed : (x : Int).fdiv n = ((x / n : Nat) : Int) := by
          rw [Int.fdiv_eq_ediv_of_nonneg _ (by omega)]
          rfl
        show Q _ (upd H c (.lst ((V.int ((x : Int).fdiv n)) :: vn r)))
        rw [ed]
        have g := go (x / n :: r) z0 hl
        rw [upd_id (show (upd H c (.lst (vn (x / n :: r)))) p = _ from hpc _)] at g
        exact q _ _ g (Nat.mod_lt _ h0)
def sp__law_pick (K : PySem.W.Frag) : Sp := fun vs H Q _ => ∃ (p c r : Addr) (xs : List Nat), vs = [.ref p, .ref r] ∧ Dr H p c ∧ r ≠ p ∧ r ≠ c ∧ H r = some (.lst (vn xs)) ∧ 0 < xs.length ∧ xs.length ≤ 1000 ∧ ∀ H' (d : Nat), Go p c H H' → d ∈ xs → Q (.int d) H'
theorem ok__law_pick {P : Program} {w : World} {K : PySem.W.Frag} {mg : Str → Option Value} {base : Heap} {f f_law_draw : Addr} {fd fd_law_draw : FuncData} (F : Fun K "_law_pick" "_law_pick" s__law_pick f fd) (T : Txt K mg)
    (G__law_draw : FnOk P w K mg base CX0 1 f_law_draw fd_law_draw ["state", "many"] (sp__law_draw K)) (D__law_draw : Def K mg "_law_draw" f_law_draw fd_law_draw ["state", "many"]) :
    FnOk P w K mg base CX0 2 f fd ["state", "row"] (sp__law_pick K) := by
  refine F.ok sc_law_pick (fun vs H Q E h => ?_) (fun cdv A outer s H vs Q E hr h => ?_)
  · obtain ⟨p, c, r, xs, rfl, _⟩ := h
    rfl
  · obtain ⟨p, c, r, xs, rfl, d0, n1, n2, hS, hl0, hl1, q⟩ := h
    refine ⟨_, (pss_one (ps_ret (pe_ix (r := rIxL K) ix_list (pv 1) (pe_call G__law_draw (hr.mono (by omega)) (by rfl) D__law_draw.m D__law_draw.k D__law_draw.b .nil pass0 (pa_cons (pv 0) (pa_cons (pe_callB call_len_seq (by rfl) T.m_len (by decide +kernel) (pa_cons (pv 1) pa_nil)) pa_nil))) (fun _ _ => rfl)))), ?_⟩
    refine ⟨_, rfl, _, rfl, _, rfl, r, _, rfl, .inl (SqL.of hS), p, c, xs.length, ?_, d0, hl0, by omega, fun H' d g hd => ?_⟩
    · rw [vn_len]
      rfl
    · exact ⟨r, _, _, _, rfl, rfl, SqL.of (g.get n1 n2 hS), atI_nat (vn_get (List.getElem?_eq_getElem hd)), q _ _ g (List.getElem_mem hd)⟩

end K37
namespace K37
open PySem PySem.Spec PyProof.Rows L2 V0
/-! ### drawn nets, their rows -/
def sp__law_net (K : PySem.W.Frag) : Sp := fun vs H Q _ => ∃ (p c : Addr) (i f m : Nat), vs = [.ref p, .int i, .int f, .int m] ∧ Dr H p c ∧ i ≤ 1000 ∧ f ≤ 1000 ∧ m ≤ 1000 ∧ ∀ H' q (n : Net), Go p c H H' → H q = none → Dv (res p c H') (.ref q) n → n.Ok i f m → Q (.ref q) H'
theorem ok__law_net {P : Program} {w : World} {K : PySem.W.Frag} {mg : Str → Option Value} {base : Heap} {f f_law_draw f_law_pick : Addr} {fd fd_law_draw fd_law_pick : FuncData} (F : Fun K "_law_net" "_law_net" s__law_net f fd) (T : Txt K mg)
    (G__law_draw : FnOk P w K mg base CX0 1 f_law_draw fd_law_draw ["state", "many"] (sp__law_draw K)) (D__law_draw : Def K mg "_law_draw" f_law_draw fd_law_draw ["state", "many"])
    (G__law_pick : FnOk P w K mg base CX0 2 f_law_pick fd_law_pick ["state", "row"] (sp__law_pick K)) (D__law_pick : Def K mg "_law_pick" f_law_pick fd_law_pick ["state", "row"]) :
    FnOk P w K mg base CX0 3 f fd ["state", "ins", "flops", "most"] (sp__law_net K) := by
  refine F.ok sc_law_net (fun vs H Q E h => ?_) (fun cdv A outer s H vs Q E hr h => ?_)
  · obtain ⟨p, c, i, f, m, rfl, _⟩ := h
    rfl
  · obtain ⟨p, c, i, f, m, rfl, d0, hi, hf, hm, q⟩ := h
    refine ⟨_, (pss_cons (ps_set (i := 1) sc_law_net.nd rfl (.inl rfl) (pe_call G__law_draw (hr.mono (by omega)) (by rfl) D__law_draw.m D__law_draw.k D__law_draw.b .nil pass0 (pa_cons (pv 0) (pa_cons (pe_op op_add (pv 1) pe_int) pa_nil))))
      (pss_cons (ps_setLc (i := 5) (own := [("k", 4)]) (g := gName 4) (tt := tYes) rfl sc_law_net.nd rfl rfl (sw_true rfl rfl rfl (by decide +kernel)) (pi_range1 rfl T.m_range (pa_cons (pe_call G__law_draw (hr.mono (by omega)) (by rfl) D__law_draw.m D__law_draw.k D__law_draw.b .nil pass0 (pa_cons (pv 0) (pa_cons (pe_op op_add (pv 2) pe_int) pa_nil))) pa_nil)) (blkOk_by (N := N__law_net) (sc := defScope s__law_net) (by decide +kernel)) (fun _ _ _ _ _ => (pg_name (i := 4) sc_law_net.nd rfl (Or.inl rfl))) (fun _ _ _ _ _ => pts_nil) (fun _ _ _ _ _ => (pe_call G__law_draw (hr.mono (by omega)) (by rfl) D__law_draw.m D__law_draw.k D__law_draw.b .nil pass0 (pa_cons (pv 0) (pa_cons pe_int pa_nil)))))
      (pss_cons (ps_set (i := 6) sc_law_net.nd rfl (.inl rfl) (pe_lst pa_nil))
      (pss_cons (ps_set (i := 7) sc_law_net.nd rfl (.inr rfl) (pe_op op_add (pe_op op_add pe_int (pv 1)) (pe_callB call_len_seq (by rfl) T.m_len (by decide +kernel) (pa_cons (pv 5) pa_nil))))
      (pss_cons (ps_for PassesOwn.never rfl (pi_range1 rfl T.m_range (pa_cons (pe_call G__law_draw (hr.mono (by omega)) (by rfl) D__law_draw.m D__law_draw.k D__law_draw.b .nil pass0 (pa_cons (pv 0) (pa_cons (pe_op op_add (pv 3) pe_int) pa_nil))) pa_nil)) (pg_name (i := 4) sc_law_net.nd rfl (Or.inl rfl)) (pss_cons (ps_set (i := 8) sc_law_net.nd rfl (.inl rfl) (pe_call G__law_pick (hr.mono (by omega)) (by rfl) D__law_pick.m D__law_pick.k D__law_pick.b .nil pass0 (pa_cons (pv 0) (pa_cons (pe_lst (pa_cons pe_int (pa_cons pe_int (pa_cons (pe_callB (call_max2 rfl) (by rfl) T.m_max (by decide +kernel) (pa_cons pe_int (pa_cons (pe_op op_sub (pv 7) pe_int) pa_nil))) pa_nil)))) pa_nil))))
      (pss_cons (ps_expr (pe_bm PySem.F.plainAttrs_list PySem.F.slot_list_append PySem.F.type_list_append mt_append (pv 6) (pa_cons (pe_tup (pa_cons (pe_op op_add (pe_op op_mul pe_int (pv 8)) (pe_call G__law_draw (hr.mono (by omega)) (by rfl) D__law_draw.m D__law_draw.k D__law_draw.b .nil pass0 (pa_cons (pv 0) (pa_cons (pe_op op_mul pe_int (pe_op op_sub (pv 7) (pv 8))) pa_nil)))) (pa_cons (pe_call G__law_draw (hr.mono (by omega)) (by rfl) D__law_draw.m D__law_draw.k D__law_draw.b .nil pass0 (pa_cons (pv 0) (pa_cons (pe_op op_mul pe_int (pv 7)) pa_nil))) pa_nil))) pa_nil)))
      (pss_one (ps_set (i := 7) sc_law_net.nd rfl (.inr rfl) (pe_op op_add (pv 7) pe_int))))))
      (pss_cons (ps_setLc (i := 9) (own := [("k", 4)]) (g := gName 4) (tt := tYes) rfl sc_law_net.nd rfl rfl (sw_true rfl rfl rfl (by decide +kernel)) (pi_list (pv 5)) (blkOk_by (N := N__law_net) (sc := defScope s__law_net) (by decide +kernel)) (fun _ _ _ _ _ => (pg_name (i := 4) sc_law_net.nd rfl (Or.inl rfl))) (fun _ _ _ _ _ => pts_nil) (fun _ _ _ _ _ => (pe_call G__law_draw (hr.mono (by omega)) (by rfl) D__law_draw.m D__law_draw.k D__law_draw.b .nil pass0 (pa_cons (pv 0) (pa_cons (pe_op op_mul pe_int (pv 7)) pa_nil)))))
      (pss_one (ps_ret (pe_tup (pa_cons pe_str (pa_cons (pv 1) (pa_cons (pv 5) (pa_cons (pv 6) (pa_cons (pv 9) (pa_cons (pe_lc (own := [("k", 4)]) (g := gName 4) (tt := tYes) rfl sc_law_net.nd (pi_range1 rfl T.m_range (pa_cons (pe_call G__law_draw (hr.mono (by omega)) (by rfl) D__law_draw.m D__law_draw.k D__law_draw.b .nil pass0 (pa_cons (pv 0) (pa_cons pe_int pa_nil))) pa_nil)) (blkOk_by (N := N__law_net) (sc := defScope s__law_net) (by decide +kernel)) (fun _ _ _ _ _ => (pg_name (i := 4) sc_law_net.nd rfl (Or.inl rfl))) (fun _ _ _ _ _ => pts_nil) (fun _ _ _ _ _ => (pe_call G__law_draw (hr.mono (by omega)) (by rfl) D__law_draw.m D__law_draw.k D__law_draw.b .nil pass0 (pa_cons (pv 0) (pa_cons (pe_op op_mul pe_int (pv 7)) pa_nil))))) pa_nil))))))))))))))), ?_⟩
    refine ⟨_, rfl, _, rfl, _, _, rfl, rfl, p, c, i + 1, rfl, d0, by omega, by omega, fun H1 ins g1 h1 => ?_⟩
    -- starts
    refine ⟨_, rfl, _, rfl, _, _, rfl, rfl, p, c, f + 1, rfl, g1.b, by omega, by omega, fun H2 fl g2 h2 => ⟨_, rfl, by omega, by omega, fun pS nS => lc_range (n := fl) (fun j H' => ∃ bs : List Nat, Go p c H2 H' ∧ H' pS = some (.lst (vn bs)) ∧ bs.length = j ∧ ∀ b ∈ bs, b < 2) ⟨[], Go.of g2.b (same_new nS), upd_same, rfl, by simp⟩ ?_ ?_⟩⟩
    · rintro j H' hj ⟨bs, g, hp, hl, hb⟩
      refine ⟨rfl, _, rfl, p, c, 2, rfl, g.b, by decide, by decide, fun H'' d g' hd => ⟨_, g'.get' g2.b nS hp, by rw [vn_len]; exact small64k (by omega), bs ++ [d], (g.trans g').mut nS, ?_, by rw [List.length_append, hl]; rfl, ?_⟩⟩
      · rw [upd_same]
        unfold vn
        rw [List.map_append]
        rfl
      · intro b hb'
        rcases List.mem_append.mp hb' with h | h
        · exact hb b h
        · rw [List.mem_singleton.mp h]
          exact hd
    rintro H3 ⟨bs, g3, hS3, hlS, hbS⟩
    have oS := g2.b.off nS
    -- gates, many
    refine ⟨by show 0 ≤ sizeLine; decide, fun pG nG => ?_⟩
    have oG := g3.b.off nG
    have nSG : pS ≠ pG := ne_of_none hS3 nG
    have g4 : Go p c H (upd H3 pG (.lst [])) := ((g1.trans g2).trans g3).more (same_new nG)
    refine ⟨_, rfl, _, _, rfl, rfl, _, rfl, pS, _, rfl, .inl (SqL.of ((same_new nG) _ _ hS3)), _, _, rfl, rfl, ?_⟩
    have eB : (1 : Int) + (ins : Int) + ((vn bs).length : Int) = ((1 + ins + fl : Nat) : Int) := by
      rw [vn_len, hlS]
      omega
    refine ⟨_, rfl, _, rfl, _, _, rfl, rfl, p, c, m + 1, rfl, g4.b, by omega, by omega, fun H5 mg g5 hmg => ⟨_, rfl, by omega, by omega, for_range (n := mg) (fun j σ H' => ∃ (y4 y8 : Option V) (us : List V) (gs : List (Nat × Nat)), σ = [some (.ref p), some (.int ins), some (.int f), some (.int m), y4, some (.ref pS), some (.ref pG), some (.int ((1 + ins + fl + j : Nat) : Int)), y8, none] ∧ Go p c H H' ∧ H' pS = some (.lst (vn bs)) ∧ H' pG = some (.lst us) ∧ Dvs (del pG (res p c H')) us gs ∧ gs.length = j ∧ ∀ k g, gs[k]? = some g → g.1 < 2 * (1 + ins + fl + k) ∧ g.2 < 2 * (1 + ins + fl + k)) ⟨none, none, [], [], ?_, g4.trans g5, g5.get oS.1 oS.2 ((same_new nG) _ _ hS3), g5.get oG.1 oG.2 upd_same, .nil, rfl, by simp⟩ ?_ ?_⟩⟩
    · show [some (V.ref p), some (V.int ins), some (V.int f), some (V.int m), none, some (V.ref pS), some (V.ref pG), some (V.int ((1 : Int) + (ins : Int) + ((vn bs).length : Int))), none, none] = _
      rw [eB]
      rfl
    · rintro j σ H' hj ⟨y4, y8, us, gs, rfl, g, hS, hG, hus, hlg, hgs⟩
      -- low
      refine ⟨_, rfl, _, rfl, _, _, rfl, rfl, _, _, rfl, by show 3 ≤ sizeLine; decide, fun l nl => ?_⟩
      obtain ⟨x, ex⟩ : ∃ x : Nat, (if ((1 + ins + fl + j : Nat) : Int) - 3 > 0 then ((1 + ins + fl + j : Nat) : Int) - 3 else 0) = (x : Int) ∧ x < 1 + ins + fl + j := by
        by_cases h : ((1 + ins + fl + j : Nat) : Int) - 3 > 0
        · rw [if_pos h]
          exact ⟨1 + ins + fl + j - 3, by omega, by omega⟩
        · rw [if_neg h]
          exact ⟨0, rfl, by omega⟩
      have ol := g.b.off nl
      refine ⟨p, c, l, [0, 0, x], rfl, g.b.same (same_new nl), ol.1, ol.2, ?_, by show 0 < 3; decide, by show 3 ≤ 1000; decide, fun H6 low g6 hlow => ?_⟩
      · rw [upd_same]
        show some (HO.lst [V.int 0, V.int 0, V.int (if ((1 + ins + fl + j : Nat) : Int) - 3 > 0 then ((1 + ins + fl + j : Nat) : Int) - 3 else 0)]) = _
        rw [ex.1]
        rfl
      have hlow' : low < 1 + ins + fl + j := by
        simp only [List.mem_cons, List.not_mem_nil, or_false] at hlow
        rcases hlow with rfl | rfl | rfl <;> omega
      have g7 : Go p c H' H6 := (Go.of g.b (same_new nl)).trans g6
      -- gates.append((2 * low + draw(2 * (many - low)), draw(2 * many)))
      refine ⟨_, rfl, .inl ⟨rfl, _, SqL.of (g7.get oG.1 oG.2 hG)⟩, ?_⟩
      refine ⟨_, rfl, _, _, rfl, rfl, .inl ⟨by decide, by decide⟩, _, rfl, _, rfl, _, rfl, _, _, rfl, rfl, _, _, rfl, rfl, .inl ⟨by decide, by decide⟩, p, c, 2 * (1 + ins + fl + j - low), ?_, g6.b, by omega, by omega, fun H7 d1 g8 hd1 => ⟨_, _, rfl, rfl, _, rfl, _, rfl, _, _, rfl, rfl, .inl ⟨by decide, by decide⟩, p, c, 2 * (1 + ins + fl + j), ?_, g8.b, by omega, by omega, fun H8 d2 g9 hd2 => ⟨by show 2 ≤ sizeLine; decide, fun t nt => ?_⟩⟩⟩
      · show [V.ref p, V.int (2 * (((1 + ins + fl + j : Nat) : Int) - (low : Int)))] = _
        rw [show (2 * (((1 + ins + fl + j : Nat) : Int) - (low : Int))) = ((2 * (1 + ins + fl + j - low) : Nat) : Int) by omega]
      · rfl
      have g10 : Go p c H' H8 := (g7.trans g8).trans g9
      have ntG : t ≠ pG := ne_of_none (g10.get oG.1 oG.2 hG) nt |>.symm
      have ot := g10.b.off nt
      refine ⟨pG, us, _, rfl, rfl, by rw [upd_ne ntG.symm]; exact g10.get oG.1 oG.2 hG, ?_, ?_⟩
      · rw [hus.len, hlg]
        exact small64k (by omega)
      refine ⟨_, rfl, _, _, rfl, rfl, ?_⟩
      have g11 : Go p c H' (upd H8 t (.tup [.int (2 * (low : Int) + (d1 : Int)), .int d2])) := g10.more (same_new nt)
      refine ⟨some (.int (0 + (j : Int))), some (.int low), us ++ [.ref t], gs ++ [(2 * low + d1, d2)], rfl, ?_, ?_, upd_same, ?_, by rw [List.length_append, hlg]; rfl, ?_⟩
      · exact (g.trans g11).mut (((g1.trans g2).trans g3).none nG)
      · rw [upd_ne nSG]
        exact g11.get oS.1 oS.2 hS
      · refine ((hus.same (del_mono g11.s)).same del_res_mut).app (.cons (.pair (del_of ntG (res_of ot.1 ot.2 (by rw [upd_ne ntG]; exact upd_same))) (Dv.nat (2 * low + d1)) (Dv.nat d2)) .nil)
      · intro k g' hk
        rcases get_snoc hk with ⟨_, h⟩ | ⟨rfl, rfl⟩
        · exact hgs k g' h
        · rw [hlg]
          exact ⟨by show 2 * low + d1 < _; omega, hd2⟩
    · rintro σ H6 ⟨y4, y8, us, gs, rfl, g, hS, hG, hus, hlg, hgs⟩
      -- nexts
      refine ⟨_, rfl, pS, rfl, ⟨_, SqL.of hS⟩, fun pN nN => lc_list (xs := vn bs) (fun j H' => ∃ xs : List Nat, Go p c H6 H' ∧ H' pN = some (.lst (vn xs)) ∧ xs.length = j ∧ ∀ x ∈ xs, x < 2 * (1 + ins + fl + mg)) ⟨[], Go.of g.b (same_new nN), upd_same, rfl, by simp⟩ (fun j H' _ h => ?_) ?_ ?_⟩
      · obtain ⟨xs, g', _⟩ := h
        exact SqL.of (g'.get oS.1 oS.2 hS)
      · rintro j v H' hv ⟨xs, g', hp, hl, hx⟩
        have hj : j < bs.length := by
          have h := (List.getElem?_eq_some_iff.mp hv).1
          rw [vn_len] at h
          exact h
        refine ⟨rfl, _, rfl, _, rfl, _, _, rfl, rfl, .inl ⟨by decide, by decide⟩, p, c, 2 * (1 + ins + fl + mg), rfl, g'.b, by omega, by omega, fun H'' d g'' hd => ⟨_, g''.get' g.b nN hp, by rw [vn_len]; exact small64k (by omega), xs ++ [d], (g'.trans g'').mut nN, ?_, by rw [List.length_append, hl]; rfl, mem_snoc hx hd⟩⟩
        rw [upd_same, vn_snoc]
      · rintro H7 ⟨xs, g7, hN, hlN, hxN⟩
        rw [vn_len] at hlN
        have oN := g.b.off nN
        -- outs and the net
        refine ⟨_, rfl, _, rfl, _, rfl, _, rfl, _, rfl, p, c, 4, rfl, g7.b, by decide, by decide, fun H8 no g8 hno => ⟨_, rfl, by omega, by omega, fun pO nO => lc_range (n := no) (fun j H' => ∃ os : List Nat, Go p c H8 H' ∧ H' pO = some (.lst (vn os)) ∧ os.length = j ∧ ∀ x ∈ os, x < 2 * (1 + ins + fl + mg)) ⟨[], Go.of g8.b (same_new nO), upd_same, rfl, by simp⟩ ?_ ?_⟩⟩
        · rintro j H' hj ⟨os, g', hp, hl, hx⟩
          refine ⟨rfl, _, rfl, _, rfl, _, _, rfl, rfl, .inl ⟨by decide, by decide⟩, p, c, 2 * (1 + ins + fl + mg), rfl, g'.b, by omega, by omega, fun H'' d g'' hd => ⟨_, g''.get' g8.b nO hp, by rw [vn_len]; exact small64k (by omega), os ++ [d], (g'.trans g'').mut nO, ?_, by rw [List.length_append, hl]; rfl, mem_snoc hx hd⟩⟩
          rw [upd_same, vn_snoc]
        · rintro H9 ⟨os, g9, hO, hlO, hxO⟩
          have oO := g8.b.off nO
          refine ⟨by show 6 ≤ sizeLine; decide, fun t nt => ?_⟩
          have ot := g9.b.off nt
          have gE : Go p c H6 (upd H9 t (.tup [.str "net", .int ins, .ref pS, .ref pG, .ref pN, .ref pO])) := ((g7.trans g8).trans g9).more (same_new nt)
          have gT := same_new (o := .tup [.str "net", .int ins, .ref pS, .ref pG, .ref pN, .ref pO]) nt
          refine q _ t ⟨ins, bs, gs, xs, os⟩ (g.trans gE) ((g.trans ((g7.trans g8).trans g9)).none nt) (.net (res_of ot.1 ot.2 upd_same) ?_ ?_ ?_ ?_) ?_
          · exact .natl (res_of oS.1 oS.2 (gE.get oS.1 oS.2 hS))
          · exact .list (res_of oG.1 oG.2 (gE.get oG.1 oG.2 hG)) ((hus.same (del_same _ _)).same gE.s)
          · exact .natl (res_of oN.1 oN.2 (gT _ _ ((g8.trans g9).get oN.1 oN.2 hN)))
          · exact .natl (res_of oO.1 oO.2 (gT _ _ hO))
          · have eb : Net.base ⟨ins, bs, gs, xs, os⟩ = 1 + ins + fl := by
              show 1 + ins + bs.length = _
              rw [hlS]
            have em : Net.many ⟨ins, bs, gs, xs, os⟩ = 1 + ins + fl + mg := by
              show 1 + ins + bs.length + gs.length = _
              rw [hlS, hlg]
            refine ⟨by show ins ≤ i; omega, by show bs.length ≤ f; omega, hbS, by show gs.length ≤ m; omega, ?_, hlN, ?_, by show os.length ≤ 3; omega, ?_⟩
            · rw [eb]
              exact hgs
            · rw [em]
              exact hxN
            · rw [em]
              exact hxO

end K37
namespace K37
open PySem PySem.Spec PyProof.Rows L2 V0
/-! ### bits and rows of values -/
def sp__law_bit (K : PySem.W.Frag) : Sp := fun vs H Q _ => ∃ (r : Addr) (row : List Nat) (l : Nat), vs = [.ref r, .int l] ∧ H r = some (.lst (vn row)) ∧ l / 2 < row.length ∧ Q (.int (bitv row l : Nat)) H
theorem ok__law_bit {P : Program} {w : World} {K : PySem.W.Frag} {mg : Str → Option Value} {base : Heap} {f  : Addr} {fd  : FuncData} (F : Fun K "_law_bit" "_law_bit" s__law_bit f fd) (T : Txt K mg) :
    FnOk P w K mg base CX0 1 f fd ["row", "literal"] (sp__law_bit K) := by
  refine F.ok sc_law_bit (fun vs H Q E h => ?_) (fun cdv A outer s H vs Q E hr h => ?_)
  · obtain ⟨r, row, l, rfl, _⟩ := h
    rfl
  · obtain ⟨r, row, l, rfl, hr', hl, q⟩ := h
    refine ⟨_, (pss_one (ps_ret (pe_op op_xor (pe_ix (r := rIxL K) ix_list (pv 0) (pe_op op_fdivN (pv 1) pe_int) (fun _ _ => rfl)) (pe_op op_modN (pe_callTy call_int1 (by rfl) T.m_int (by decide +kernel) (pa_cons (pv 1) pa_nil)) pe_int)))), ?_⟩
    refine ⟨_, rfl, _, rfl, _, _, rfl, rfl, ⟨by decide, by decide⟩, r, _, _, _, rfl, rfl, SqL.of hr', (by rw [nfdiv2]; exact atI_nat (vn_get (List.getElem?_eq_getElem hl))), _, rfl, .inl ⟨_, rfl, _, _, rfl, rfl, (show (2 : Int) ≠ 0 by decide), _, _, rfl, rfl, ?_⟩⟩
    show Q (V.int (Builtin.bitXor ((row[l / 2] : Nat) : Int) (((l : Nat) : Int).fmod 2))) H
    rw [nfmod2, bxor]
    unfold bitv at q
    rw [List.getElem?_eq_getElem hl] at q
    exact q
def sp__law_row (K : PySem.W.Frag) : Sp := fun vs H Q _ => ∃ (v : V) (n : Net) (h b : Addr) (held bits : List Nat), vs = [v, .ref h, .ref b] ∧ Dv H v n ∧ H h = some (.lst (vn held)) ∧ H b = some (.lst (vn bits)) ∧
  held.length = n.starts.length ∧ bits.length = n.ins ∧ (∀ x ∈ held, x < 2) ∧ (∀ x ∈ bits, x < 2) ∧ n.many ≤ 60000 ∧ (∀ j g, n.gates[j]? = some g → g.1 < 2 * (n.base + j) ∧ g.2 < 2 * (n.base + j)) ∧
  ∀ H' q, Same H H' → H q = none → H' q = some (.lst (vn (n.row held bits))) → Q (.ref q) H'
theorem ok__law_row {P : Program} {w : World} {K : PySem.W.Frag} {mg : Str → Option Value} {base : Heap} {f f_law_bit : Addr} {fd fd_law_bit : FuncData} (F : Fun K "_law_row" "_law_row" s__law_row f fd) (T : Txt K mg)
    (G__law_bit : FnOk P w K mg base CX0 1 f_law_bit fd_law_bit ["row", "literal"] (sp__law_bit K)) (D__law_bit : Def K mg "_law_bit" f_law_bit fd_law_bit ["row", "literal"]) :
    FnOk P w K mg base CX0 2 f fd ["net", "held", "bits"] (sp__law_row K) := by
  refine F.ok sc_law_row (fun vs H Q E h => ?_) (fun cdv A outer s H vs Q E hr h => ?_)
  · obtain ⟨v, n, h, b, held, bits, rfl, _⟩ := h
    rfl
  · obtain ⟨v, n, h, b, held, bits, rfl, hn, hh, hb, lh, lb, bh, bb, hm, hg, q⟩ := h
    obtain ⟨a, aS, aG, aN, aO, rfl, hA, hS, hG, hN, hO⟩ := hn.net_inv
    obtain ⟨_, us, e, hGl, hus⟩ := hG.list_inv
    cases e
    unfold Net.many Net.base at hm
    refine ⟨_, (pss_cons (ps_set (i := 3) sc_law_row.nd rfl (.inl rfl) (pe_op op_cat (pe_op op_cat (pe_lst (pa_cons pe_int pa_nil)) (pv 2)) (pv 1)))
      (pss_cons (ps_for PassesOwn.never rfl (pi_list (pe_ix (r := rIxT K) ix_tup (pv 0) pe_int (fun _ _ => rfl))) (pg_tup (by rfl) (pgs_cons (pg_name (i := 4) sc_law_row.nd rfl (Or.inl rfl)) (pgs_cons (pg_name (i := 5) sc_law_row.nd rfl (Or.inl rfl)) pgs_nil))) (pss_one (ps_expr (pe_bm PySem.F.plainAttrs_list PySem.F.slot_list_append PySem.F.type_list_append mt_append (pv 3) (pa_cons (pe_op op_mul (pe_call G__law_bit (hr.mono (by omega)) (by rfl) D__law_bit.m D__law_bit.k D__law_bit.b .nil pass0 (pa_cons (pv 3) (pa_cons (pv 4) pa_nil))) (pe_call G__law_bit (hr.mono (by omega)) (by rfl) D__law_bit.m D__law_bit.k D__law_bit.b .nil pass0 (pa_cons (pv 3) (pa_cons (pv 5) pa_nil)))) pa_nil)))))
      (pss_one (ps_ret (pv 3))))), ?_⟩
    refine ⟨by show 1 ≤ sizeLine; decide, fun l1 n1 => ⟨_, rfl, l1, b, _, _, rfl, rfl, upd_same, (same_new n1) _ _ hb, ?_, fun l2 n2 => ⟨_, rfl, l2, h, _, _, rfl, rfl, upd_same, ((same_new n1).trans (same_new n2)) _ _ hh, ?_, fun l3 n3 => ?_⟩⟩⟩
    · show 1 + (vn bits).length ≤ sizeLine
      rw [vn_len]
      exact Nat.le_of_lt (small64k (by omega))
    · show ([V.int 0] ++ vn bits).length + (vn held).length ≤ sizeLine
      rw [List.length_append, vn_len, vn_len]
      exact Nat.le_of_lt (small64k (by show 1 + _ + _ ≤ _; omega))
    have sm : Same H (upd (upd (upd H l1 (.lst [.int 0])) l2 (.lst ([V.int 0] ++ vn bits))) l3 (.lst ([V.int 0] ++ vn bits ++ vn held))) := ((same_new n1).trans (same_new n2)).trans (same_new n3)
    have e3 : (upd (upd (upd H l1 (.lst [.int 0])) l2 (.lst ([V.int 0] ++ vn bits))) l3 (.lst ([V.int 0] ++ vn bits ++ vn held))) l3 = some (.lst (vn (0 :: bits ++ held))) := by
      rw [upd_same]
      unfold vn
      rw [List.map_append]
      rfl
    have n0 : H l3 = none := by
      cases e : H l3 with
      | none => rfl
      | some o =>
        rw [((same_new n1).trans (same_new n2)) _ _ e] at n3
        cases n3
    generalize (upd (upd (upd H l1 (.lst [.int 0])) l2 (.lst ([V.int 0] ++ vn bits))) l3 (.lst ([V.int 0] ++ vn bits ++ vn held))) = H3 at sm e3 ⊢
    clear n1 n2 n3
    have lr : (0 :: bits ++ held).length = n.base := by
      rw [List.length_append, List.length_cons]
      unfold Net.base
      omega
    have br : ∀ x ∈ 0 :: bits ++ held, x < 2 := by
      intro x hx
      rcases List.mem_append.mp hx with hx | hx
      · rcases List.mem_cons.mp hx with rfl | hx
        · decide
        · exact bb x hx
      · exact bh x hx
    refine ⟨_, rfl, a, _, 3, _, rfl, rfl, SqT.of (sm _ _ hA), atI_nat (j := 3) rfl, aG, rfl, ⟨_, SqL.of (sm _ _ hGl)⟩, for_list (xs := us) (fun j σ H' => ∃ y4 y5 : Option V, σ = [some (.ref a), some (.ref h), some (.ref b), some (.ref l3), y4, y5] ∧ Same H H' ∧ H' l3 = some (.lst (vn (rowOf (n.gates.take j) (0 :: bits ++ held))))) ⟨none, none, rfl, sm, e3⟩ (fun j σ H' _ ⟨_, _, _, s', _⟩ => SqL.of (s' _ _ hGl)) ?_ ?_⟩
    · rintro j u σ H' hu ⟨y4, y5, rfl, s', hp⟩
      obtain ⟨⟨x, y⟩, hg1, hd⟩ := hus.at hu
      obtain ⟨t, u1, u2, rfl, ht, hx, hy⟩ := hd.pair_inv
      have hx := hx.nat_inv
      have hy := hy.nat_inv
      subst hx hy
      have hj : j < n.gates.length := (List.getElem?_eq_some_iff.mp hg1).1
      have hb2 := hg j _ hg1
      have lrow : (rowOf (n.gates.take j) (0 :: bits ++ held)).length = n.base + j := by
        rw [rowOf_len, lr, List.length_take]
        omega
      have b2 := rowOf_lt (gs := n.gates.take j) br
      refine ⟨t, _, rfl, SqT.of (s' _ _ ht), rfl, _, _, rfl, _, _, rfl, rfl, ?_⟩
      refine ⟨_, rfl, .inl ⟨rfl, _, SqL.of hp⟩, _, rfl, _, rfl, l3, _, x, rfl, hp, by rw [lrow]; omega, _, rfl, _, rfl, l3, _, y, rfl, hp, by rw [lrow]; omega, _, _, rfl, rfl, .inl ?_, l3, _, _, rfl, rfl, hp, ?_, ?_⟩
      · have := bitv_lt b2 x
        omega
      · rw [vn_len, lrow]
        exact small64k (by unfold Net.base; omega)
      · refine ⟨some (.int x), some (.int y), rfl, same_mut s' n0, ?_⟩
        rw [upd_same, take_snoc hg1, rowOf_snoc, ← vn_snoc]
        rfl
    · rintro σ H' ⟨y4, y5, rfl, s', hp⟩
      refine ⟨_, rfl, q _ _ s' n0 ?_⟩
      rw [hp, hus.len, List.take_length]
      rfl

end K37
namespace K37
open PySem PySem.Spec PyProof.Rows L2 V0
/-! ### clauses of nets -/
def sp_integer_of (K : PySem.W.Frag) : Sp := fun vs H Q _ => ∃ l : Nat, vs = [.int l] ∧ Q (.int (integ l)) H
theorem ok_integer_of {P : Program} {w : World} {K : PySem.W.Frag} {mg : Str → Option Value} {base : Heap} {f  : Addr} {fd  : FuncData} (F : Fun K "integer_of" "integer_of" s_integer_of f fd) (T : Txt K mg) :
    FnOk P w K mg base CX0 1 f fd ["literal"] (sp_integer_of K) := by
  refine F.ok scinteger_of (fun vs H Q E h => ?_) (fun cdv A outer s H vs Q E hr h => ?_)
  · obtain ⟨l, rfl, _⟩ := h
    rfl
  · obtain ⟨l, rfl, q⟩ := h
    refine ⟨_, (pss_cons (ps_set (i := 1) scinteger_of.nd rfl (.inl rfl) (pe_op op_add (pe_op op_shr (pv 0) pe_int) pe_int))
      (pss_one (ps_ret (pe_ifExp (pt_truth (pe_op op_and (pv 0) pe_int) (by intro _; rfl)) (pe_un un_neg (pv 1)) (pv 1))))), ?_⟩
    refine ⟨_, rfl, _, _, rfl, rfl, (show (0 : Int) ≤ 1 by decide), _, _, rfl, rfl, _, rfl, _, _, rfl, rfl, ?_⟩
    have em : Builtin.bitAnd ((l : Nat) : Int) 1 = ((l % 2 : Nat) : Int) := by
      have h := PySem.W.kbt_mask ((l : Nat) : Int) 1
      rw [show (2 : Int) ^ 1 - 1 = 1 by decide, show (2 : Int) ^ 1 = 2 by decide] at h
      rw [h]
      rfl
    have e1 : ((l : Nat) : Int) / 2 ^ ((1 : Int)).toNat + 1 = ((l / 2 : Nat) : Int) + 1 := rfl
    refine ⟨_, rfl, ?_⟩
    unfold integ at q
    show if (Builtin.bitAnd ((l : Nat) : Int) 1 != 0) = true then _ else _
    rw [em]
    by_cases h : l % 2 = 1
    · rw [if_pos h] at q
      rw [h]
      exact iteT ⟨_, rfl, _, rfl, q⟩
    · rw [if_neg h] at q
      rw [show l % 2 = 0 by omega]
      exact iteF ⟨_, rfl, q⟩
def sp_base_of (K : PySem.W.Frag) : Sp := fun vs H Q _ => ∃ (v : V) (n : Net), vs = [v] ∧ Dv H v n ∧ Q (.int (n.base : Nat)) H
theorem ok_base_of {P : Program} {w : World} {K : PySem.W.Frag} {mg : Str → Option Value} {base : Heap} {f  : Addr} {fd  : FuncData} (F : Fun K "base_of" "base_of" s_base_of f fd) (T : Txt K mg) :
    FnOk P w K mg base CX0 1 f fd ["net"] (sp_base_of K) := by
  refine F.ok scbase_of (fun vs H Q E h => ?_) (fun cdv A outer s H vs Q E hr h => ?_)
  · obtain ⟨l, n, rfl, _⟩ := h
    rfl
  · obtain ⟨v, n, rfl, hn, q⟩ := h
    obtain ⟨a, aS, aG, aN, aO, rfl, hA, hS, hG, hN, hO⟩ := hn.net_inv
    obtain ⟨_, hS⟩ := hS.natl_inv
    obtain ⟨e, hS⟩ := hS
    cases e
    refine ⟨_, (pss_one (ps_ret (pe_op op_add (pe_op op_add pe_int (pe_ix (r := rIxT K) ix_tup (pv 0) pe_int (fun _ _ => rfl))) (pe_callB call_len_seq (by rfl) T.m_len (by decide +kernel) (pa_cons (pe_ix (r := rIxT K) ix_tup (pv 0) pe_int (fun _ _ => rfl)) pa_nil))))), ?_⟩
    refine ⟨_, rfl, a, _, 1, _, rfl, rfl, SqT.of hA, atI_nat (j := 1) rfl, _, _, rfl, rfl, _, rfl, a, _, 2, _, rfl, rfl, SqT.of hA, atI_nat (j := 2) rfl, aS, _, rfl, .inl (SqL.of hS), _, _, rfl, rfl, ?_⟩
    show Q (V.int ((1 : Int) + (n.ins : Int) + ((vn n.starts).length : Int))) H
    rw [vn_len]
    exact q
def sp_gate_clauses (K : PySem.W.Frag) : Sp := fun vs H Q _ => ∃ (v : Nat) (x y : Int), vs = [.int v, .int x, .int y] ∧ ∀ H' q, Same H H' → Dv (fresh H H') (.ref q) [[-(v : Int), x], [-(v : Int), y], [(v : Int), -x, -y]] → Q (.ref q) H'
theorem ok_gate_clauses {P : Program} {w : World} {K : PySem.W.Frag} {mg : Str → Option Value} {base : Heap} {f  : Addr} {fd  : FuncData} (F : Fun K "gate_clauses" "gate_clauses" s_gate_clauses f fd) (T : Txt K mg) :
    FnOk P w K mg base CX0 1 f fd ["variable", "x", "y"] (sp_gate_clauses K) := by
  refine F.ok scgate_clauses (fun vs H Q E h => ?_) (fun cdv A outer s H vs Q E hr h => ?_)
  · obtain ⟨v, x, y, rfl, _⟩ := h
    rfl
  · obtain ⟨v, x, y, rfl, q⟩ := h
    refine ⟨_, (pss_one (ps_ret (pe_lst (pa_cons (pe_lst (pa_cons (pe_un un_neg (pv 0)) (pa_cons (pv 1) pa_nil))) (pa_cons (pe_lst (pa_cons (pe_un un_neg (pv 0)) (pa_cons (pv 2) pa_nil))) (pa_cons (pe_lst (pa_cons (pv 0) (pa_cons (pe_un un_neg (pv 1)) (pa_cons (pe_un un_neg (pv 2)) pa_nil)))) pa_nil)))))), ?_⟩
    refine ⟨_, rfl, _, rfl, _, rfl, by show 2 ≤ sizeLine; decide, fun l1 n1 => ⟨_, rfl, _, rfl, _, rfl, by show 2 ≤ sizeLine; decide, fun l2 n2 => ⟨_, rfl, _, rfl, _, rfl, _, rfl, _, rfl, by show 3 ≤ sizeLine; decide, fun l3 n3 => ⟨by show 3 ≤ sizeLine; decide, fun l4 n4 => ?_⟩⟩⟩⟩
    have s1 := same_new (o := .lst [.int (-(v : Int)), .int x]) n1
    have s2 := same_new (o := .lst [.int (-(v : Int)), .int y]) n2
    have s3 := same_new (o := .lst [.int (v : Int), .int (-x), .int (-y)]) n3
    have s4 := same_new (o := .lst [.ref l1, .ref l2, .ref l3]) n4
    have m2 := none_of s1 n2
    have m3 := none_of (s1.trans s2) n3
    have m4 := none_of ((s1.trans s2).trans s3) n4
    refine q _ l4 (((s1.trans s2).trans s3).trans s4) (.list (fresh_of m4 upd_same) (.cons (.intl (fresh_of n1 ?_)) (.cons (.intl (fresh_of m2 ?_)) (.cons (.intl (fresh_of m3 ?_)) .nil))))
    · exact ((s2.trans s3).trans s4) _ _ upd_same
    · exact (s3.trans s4) _ _ upd_same
    · exact s4 _ _ upd_same
def sp_net_clauses (K : PySem.W.Frag) : Sp := fun vs H Q _ => ∃ (v : V) (n : Net), vs = [v] ∧ Dv H v n ∧ n.gates.length ≤ 10000 ∧ ∀ H' q, Same H H' → Dv (fresh H H') (.ref q) n.clauses → Q (.ref q) H'
theorem ok_net_clauses {P : Program} {w : World} {K : PySem.W.Frag} {mg : Str → Option Value} {base : Heap} {f fbase_of fgate_clauses finteger_of : Addr} {fd fdbase_of fdgate_clauses fdinteger_of : FuncData} (F : Fun K "net_clauses" "net_clauses" s_net_clauses f fd) (T : Txt K mg)
    (G_base_of : FnOk P w K mg base CX0 1 fbase_of fdbase_of ["net"] (sp_base_of K)) (D_base_of : Def K mg "base_of" fbase_of fdbase_of ["net"])
    (G_gate_clauses : FnOk P w K mg base CX0 1 fgate_clauses fdgate_clauses ["variable", "x", "y"] (sp_gate_clauses K)) (D_gate_clauses : Def K mg "gate_clauses" fgate_clauses fdgate_clauses ["variable", "x", "y"])
    (G_integer_of : FnOk P w K mg base CX0 1 finteger_of fdinteger_of ["literal"] (sp_integer_of K)) (D_integer_of : Def K mg "integer_of" finteger_of fdinteger_of ["literal"]) :
    FnOk P w K mg base CX0 2 f fd ["net"] (sp_net_clauses K) := by
  refine F.ok scnet_clauses (fun vs H Q E h => ?_) (fun cdv A outer s H vs Q E hr h => ?_)
  · obtain ⟨l, n, rfl, _⟩ := h
    rfl
  · obtain ⟨v, n, rfl, hn, hm, q⟩ := h
    obtain ⟨a, aS, aG, aN, aO, rfl, hA, hS, hG, hN, hO⟩ := hn.net_inv
    obtain ⟨_, us, e, hGl, hus⟩ := hG.list_inv
    cases e
    refine ⟨_, (pss_cons (ps_set (i := 1) scnet_clauses.nd rfl (.inl rfl) (pe_lst (pa_cons (pe_lst (pa_cons (pe_un un_neg pe_int) pa_nil)) pa_nil)))
      (pss_cons (ps_set (i := 2) scnet_clauses.nd rfl (.inl rfl) (pe_call G_base_of (hr.mono (by omega)) (by rfl) D_base_of.m D_base_of.k D_base_of.b .nil pass0 (pa_cons (pv 0) pa_nil)))
      (pss_cons (ps_for PassesOwn.never rfl (pi_list (pe_ix (r := rIxT K) ix_tup (pv 0) pe_int (fun _ _ => rfl))) (pg_name (i := 3) scnet_clauses.nd rfl (Or.inl rfl)) (pss_cons (ps_aug (i := 2) scnet_clauses.nd rfl (.inl rfl) pe_int ip_add)
      (pss_one (ps_expr (pe_bm PySem.F.plainAttrs_list PySem.F.slot_list_extend PySem.F.type_list_extend mt_extend (pv 1) (pa_cons (pe_call G_gate_clauses (hr.mono (by omega)) (by rfl) D_gate_clauses.m D_gate_clauses.k D_gate_clauses.b .nil pass0 (pa_cons (pv 2) (pa_cons (pe_call G_integer_of (hr.mono (by omega)) (by rfl) D_integer_of.m D_integer_of.k D_integer_of.b .nil pass0 (pa_cons (pe_ix (r := rIxT K) ix_tup (pv 3) pe_int (fun _ _ => rfl)) pa_nil)) (pa_cons (pe_call G_integer_of (hr.mono (by omega)) (by rfl) D_integer_of.m D_integer_of.k D_integer_of.b .nil pass0 (pa_cons (pe_ix (r := rIxT K) ix_tup (pv 3) pe_int (fun _ _ => rfl)) pa_nil)) pa_nil)))) pa_nil))))))
      (pss_one (ps_ret (pv 1)))))), ?_⟩
    refine ⟨_, rfl, by show 1 ≤ sizeLine; decide, fun l1 n1 => ⟨by show 1 ≤ sizeLine; decide, fun pC nC => ?_⟩⟩
    have s1 := same_new (o := .lst [.int (-1)]) n1
    have s2 := s1.trans (same_new (o := .lst [.ref l1]) nC)
    have nC0 := none_of s1 nC
    refine ⟨_, rfl, _, n, rfl, hn.same s2, ?_⟩
    refine ⟨_, rfl, a, _, 3, _, rfl, rfl, SqT.of (s2 _ _ hA), atI_nat (j := 3) rfl, aG, rfl, ⟨_, SqL.of (s2 _ _ hGl)⟩, for_list (xs := us) (fun j σ H' => ∃ (y3 : Option V) (cs : List V), σ = [some (.ref a), some (.ref pC), some (.int ((n.base + j : Nat) : Int)), y3] ∧ Same H H' ∧ H' pC = some (.lst cs) ∧ Dvs (del pC (fresh H H')) cs ([[-1]] ++ cls n.base (n.gates.take j))) ⟨none, [.ref l1], rfl, s2, upd_same, ?_⟩ (fun j σ H' _ ⟨_, _, _, s', _⟩ => SqL.of (s' _ _ hGl)) ?_ ?_⟩
    · have nl : l1 ≠ pC := ne_of_none upd_same nC
      exact .cons (.intl (del_of nl (fresh_of n1 (by rw [upd_ne nl]; exact upd_same)))) .nil
    · rintro j u σ H' hu ⟨y3, cs, rfl, s', hC, hcs⟩
      obtain ⟨⟨x, y⟩, hg1, hd⟩ := hus.at hu
      obtain ⟨t, u1, u2, rfl, ht, hx, hy⟩ := hd.pair_inv
      have hx := hx.nat_inv
      have hy := hy.nat_inv
      subst hx hy
      have hj : j < n.gates.length := (List.getElem?_eq_some_iff.mp hg1).1
      refine ⟨_, rfl, _, _, rfl, rfl, ?_⟩
      refine ⟨_, rfl, .inl ⟨rfl, _, SqL.of hC⟩, _, rfl, _, rfl, t, _, 0, _, rfl, rfl, SqT.of (s' _ _ ht), atI_nat (j := 0) rfl, x, rfl, _, rfl, t, _, 1, _, rfl, rfl, SqT.of (s' _ _ ht), atI_nat (j := 1) rfl, y, rfl, n.base + j + 1, integ x, integ y, rfl, fun H2 q2 s2 d2 => ?_⟩
      obtain ⟨_, zs, e, hz, hzs⟩ := d2.list_inv
      cases e
      have lz := hzs.len
      have lc := hcs.len
      rw [List.length_append, cls_len, List.length_take] at lc
      refine ⟨pC, q2, cs, zs, rfl, rfl, s2 _ _ hC, fresh_same _ _ hz, ?_, ?_⟩
      · rw [lz, lc]
        exact Nat.le_of_lt (small64k (by show 1 + _ + 3 ≤ _; omega))
      · refine ⟨some (.ref t), cs ++ zs, rfl, same_mut (s'.trans s2) nC0, upd_same, ?_⟩
        have r1 : Same (del pC (fresh H H2)) (del pC (fresh H (upd H2 pC (.lst (cs ++ zs))))) := fun b o hb => by
          obtain ⟨b1, b2⟩ := del_some hb
          obtain ⟨b3, b4⟩ := fresh_some b2
          exact del_of b1 (fresh_of b3 (by rw [upd_ne b1]; exact b4))
        have r2 : Same (fresh H' H2) (del pC (fresh H H2)) := fun b o hb => by
          obtain ⟨b3, b4⟩ := fresh_some hb
          refine del_of (fun z => ?_) (fresh_pre s' _ _ hb)
          rw [z, hC] at b3
          cases b3
        have f := ((hcs.same (del_mono (fresh_post s2))).same r1).app ((hzs.same r2).same r1)
        rw [take_snoc hg1, cls_snoc, ← List.append_assoc, List.length_take, Nat.min_eq_left (Nat.le_of_lt hj)]
        exact f
    · rintro σ H' ⟨y3, cs, rfl, s', hC, hcs⟩
      refine ⟨_, rfl, q _ _ s' (.list (fresh_of nC0 hC) ?_)⟩
      rw [hus.len, List.take_length] at hcs
      exact hcs.same (del_same _ _)

end K37
namespace K37
open PySem PySem.Spec PyProof.Rows L2 V0
def sp__law_integer (K : PySem.W.Frag) : Sp := fun vs H Q _ => ∃ l : Nat, vs = [.int l] ∧ Q (.int (integ l)) H
theorem ok__law_integer {P : Program} {w : World} {K : PySem.W.Frag} {mg : Str → Option Value} {base : Heap} {f  : Addr} {fd  : FuncData} (F : Fun K "_law_integer" "_law_integer" s__law_integer f fd) (T : Txt K mg) :
    FnOk P w K mg base CX0 1 f fd ["literal"] (sp__law_integer K) := by
  refine F.ok sc_law_integer (fun vs H Q E h => ?_) (fun cdv A outer s H vs Q E hr h => ?_)
  · obtain ⟨l, rfl, _⟩ := h
    rfl
  · obtain ⟨l, rfl, q⟩ := h
    refine ⟨_, (pss_cons (ps_set (i := 1) sc_law_integer.nd rfl (.inl rfl) (pe_op op_add (pe_op op_fdivN (pv 0) pe_int) pe_int))
      (pss_one (ps_ret (pe_op op_sub (pv 1) (pe_op op_mul (pe_op op_mul pe_int (pv 1)) (pe_op op_modN (pe_callTy call_int1 (by rfl) T.m_int (by decide +kernel) (pa_cons (pv 0) pa_nil)) pe_int)))))), ?_⟩
    refine ⟨_, rfl, _, _, rfl, rfl, ⟨by decide, by decide⟩, _, _, rfl, rfl, _, rfl, _, rfl, _, _, rfl, rfl, .inl ⟨by decide, by decide⟩, _, rfl, .inl ⟨_, rfl, _, _, rfl, rfl, (show (2 : Int) ≠ 0 by decide), _, _, rfl, rfl, .inr ?_, _, _, rfl, rfl, ?_⟩⟩
    · show -(2 ^ 64) < ((l : Nat) : Int).fmod 2 ∧ ((l : Nat) : Int).fmod 2 < 2 ^ 64
      rw [nfmod2]
      omega
    · have e : integ l = (((l : Nat) : Int).fdiv 2 + 1) - 2 * (((l : Nat) : Int).fdiv 2 + 1) * (((l : Nat) : Int).fmod 2) := by
        rw [nfmod2, nfdiv2]
        unfold integ
        rcases Nat.mod_two_eq_zero_or_one l with h | h
        · rw [h, if_neg (by decide)]
          omega
        · rw [h, if_pos rfl]
          omega
      rw [e] at q
      exact q
def sp_law (K : PySem.W.Frag) : Sp := fun vs H Q _ => ∃ (a : Addr) (ns : List Int), vs = [.ref a] ∧ SqL K H a (ns.map V.int) ∧ ns.length ≤ 63 ∧ ∀ H', Q (.bl true) H'
theorem ok_law {P : Program} {w : World} {K : PySem.W.Frag} {mg : Str → Option Value} {base : Heap} {f f_law_state f_law_net fnet_clauses f_law_row f_law_integer f_law_draw finteger_of : Addr} {fd fd_law_state fd_law_net fdnet_clauses fd_law_row fd_law_integer fd_law_draw fdinteger_of : FuncData} (F : Fun K "law" "law" s_law f fd) (T : Txt K mg)
    (G__law_state : FnOk P w K mg base CX0 1 f_law_state fd_law_state ["script"] (sp__law_state K)) (D__law_state : Def K mg "_law_state" f_law_state fd_law_state ["script"])
    (G__law_net : FnOk P w K mg base CX0 3 f_law_net fd_law_net ["state", "ins", "flops", "most"] (sp__law_net K)) (D__law_net : Def K mg "_law_net" f_law_net fd_law_net ["state", "ins", "flops", "most"])
    (G_net_clauses : FnOk P w K mg base CX0 2 fnet_clauses fdnet_clauses ["net"] (sp_net_clauses K)) (D_net_clauses : Def K mg "net_clauses" fnet_clauses fdnet_clauses ["net"])
    (G__law_row : FnOk P w K mg base CX0 2 f_law_row fd_law_row ["net", "held", "bits"] (sp__law_row K)) (D__law_row : Def K mg "_law_row" f_law_row fd_law_row ["net", "held", "bits"])
    (G__law_integer : FnOk P w K mg base CX0 1 f_law_integer fd_law_integer ["literal"] (sp__law_integer K)) (D__law_integer : Def K mg "_law_integer" f_law_integer fd_law_integer ["literal"])
    (G__law_draw : FnOk P w K mg base CX0 1 f_law_draw fd_law_draw ["state", "many"] (sp__law_draw K)) (D__law_draw : Def K mg "_law_draw" f_law_draw fd_law_draw ["state", "many"])
    (G_integer_of : FnOk P w K mg base CX0 1 finteger_of fdinteger_of ["literal"] (sp_integer_of K)) (D_integer_of : Def K mg "integer_of" finteger_of fdinteger_of ["literal"]) :
    FnOk P w K mg base CX0 4 f fd ["script"] (sp_law K) := by
  refine F.ok sclaw (fun vs H Q E h => ?_) (fun cdv A outer s H vs Q E hr h => ?_)
  · obtain ⟨a, ns, rfl, _⟩ := h
    rfl
  · obtain ⟨a, ns, rfl, hS0, hl0, q⟩ := h
    refine ⟨_, (pss_cons (ps_set (i := 1) sclaw.nd rfl (.inr rfl) (pe_call G__law_state (hr.mono (by omega)) (by rfl) D__law_state.m D__law_state.k D__law_state.b .nil pass0 (pa_cons (pv 0) pa_nil)))
      (pss_cons (ps_set (i := 2) sclaw.nd rfl (.inl rfl) (pe_call G__law_net (hr.mono (by omega)) (by rfl) D__law_net.m D__law_net.k D__law_net.b .nil pass0 (pa_cons (pv 1) (pa_cons pe_int (pa_cons pe_int (pa_cons pe_int pa_nil))))))
      (pss_cons (ps_set (i := 3) sclaw.nd rfl (.inl rfl) (pe_lst (pa_cons (pe_lst (pa_cons (pe_un un_neg pe_int) pa_nil)) pa_nil)))
      (pss_cons (ps_set (i := 4) sclaw.nd rfl (.inl rfl) (pe_op op_add (pe_op op_add pe_int (pe_ix (r := rIxT K) ix_tup (pv 2) pe_int (fun _ _ => rfl))) (pe_callB call_len_seq (by rfl) T.m_len (by decide +kernel) (pa_cons (pe_ix (r := rIxT K) ix_tup (pv 2) pe_int (fun _ _ => rfl)) pa_nil))))
      (pss_cons (ps_for PassesOwn.never rfl (pi_list (pe_ix (r := rIxT K) ix_tup (pv 2) pe_int (fun _ _ => rfl))) (pg_tup (by rfl) (pgs_cons (pg_name (i := 5) sclaw.nd rfl (Or.inl rfl)) (pgs_cons (pg_name (i := 6) sclaw.nd rfl (Or.inl rfl)) pgs_nil))) (pss_cons (ps_set (i := 4) sclaw.nd rfl (.inl rfl) (pe_op op_add (pv 4) pe_int))
      (pss_cons (ps_par (i := 7) (j := 8) rfl sclaw.nd rfl rfl (by decide) rfl rfl (pa_cons (pe_call G__law_integer (hr.mono (by omega)) (by rfl) D__law_integer.m D__law_integer.k D__law_integer.b .nil pass0 (pa_cons (pv 5) pa_nil)) (pa_cons (pe_call G__law_integer (hr.mono (by omega)) (by rfl) D__law_integer.m D__law_integer.k D__law_integer.b .nil pass0 (pa_cons (pv 6) pa_nil)) pa_nil)) rfl)
      (pss_one (ps_expr (pe_bm PySem.F.plainAttrs_list PySem.F.slot_list_extend PySem.F.type_list_extend mt_extend (pv 3) (pa_cons (pe_lst (pa_cons (pe_lst (pa_cons (pe_un un_neg (pv 4)) (pa_cons (pv 7) pa_nil))) (pa_cons (pe_lst (pa_cons (pe_un un_neg (pv 4)) (pa_cons (pv 8) pa_nil))) (pa_cons (pe_lst (pa_cons (pv 4) (pa_cons (pe_un un_neg (pv 7)) (pa_cons (pe_un un_neg (pv 8)) pa_nil)))) pa_nil)))) pa_nil)))))))
      (pss_cons (ps_set (i := 9) sclaw.nd rfl (.inl rfl) (pe_call G_net_clauses (hr.mono (by omega)) (by rfl) D_net_clauses.m D_net_clauses.k D_net_clauses.b .nil pass0 (pa_cons (pv 2) pa_nil)))
      (pss_cons (ps_if (PW.pt (pw_or (pt_cmpR (op_neD hr.units) (pv 9) (pv 3) (nomark _)) (pw_or1 (pt_cmpR (op_neD hr.units) (pe_lc (own := [("k", 10)]) (g := gName 10) (tt := tYes) rfl sclaw.nd (pi_range1 rfl T.m_range (pa_cons (pe_op op_mul pe_int (pv 4)) pa_nil)) (blkOk_by (N := N_law) (sc := defScope s_law) (by decide +kernel)) (fun _ _ _ _ _ => (pg_name (i := 10) sclaw.nd rfl (Or.inl rfl))) (fun _ _ _ _ _ => pts_nil) (fun _ _ _ _ _ => (pe_call G_integer_of (hr.mono (by omega)) (by rfl) D_integer_of.m D_integer_of.k D_integer_of.b .nil pass0 (pa_cons (pv 10) pa_nil)))) (pe_lc (own := [("k", 10)]) (g := gName 10) (tt := tYes) rfl sclaw.nd (pi_range1 rfl T.m_range (pa_cons (pe_op op_mul pe_int (pv 4)) pa_nil)) (blkOk_by (N := N_law) (sc := defScope s_law) (by decide +kernel)) (fun _ _ _ _ _ => (pg_name (i := 10) sclaw.nd rfl (Or.inl rfl))) (fun _ _ _ _ _ => pts_nil) (fun _ _ _ _ _ => (pe_call G__law_integer (hr.mono (by omega)) (by rfl) D__law_integer.m D__law_integer.k D__law_integer.b .nil pass0 (pa_cons (pv 10) pa_nil)))) (nomark _))))) (pss_one (ps_ret pe_bl)) pss_nil)
      (pss_cons (ps_for PassesOwn.never rfl (pi_range1 rfl T.m_range (pa_cons pe_int pa_nil)) (pg_name (i := 10) sclaw.nd rfl (Or.inl rfl)) (pss_cons (ps_set (i := 12) sclaw.nd rfl (.inl rfl) (pe_call G__law_row (hr.mono (by omega)) (by rfl) D__law_row.m D__law_row.k D__law_row.b .nil pass0 (pa_cons (pv 2) (pa_cons (pe_lc (own := [("j", 11)]) (g := gName 11) (tt := tYes) rfl sclaw.nd (pi_list (pe_ix (r := rIxT K) ix_tup (pv 2) pe_int (fun _ _ => rfl))) (blkOk_by (N := N_law) (sc := defScope s_law) (by decide +kernel)) (fun _ _ _ _ _ => (pg_name (i := 11) sclaw.nd rfl (Or.inl rfl))) (fun _ _ _ _ _ => pts_nil) (fun _ _ _ _ _ => (pe_call G__law_draw (hr.mono (by omega)) (by rfl) D__law_draw.m D__law_draw.k D__law_draw.b .nil pass0 (pa_cons (pv 1) (pa_cons pe_int pa_nil))))) (pa_cons (pe_lc (own := [("j", 11)]) (g := gName 11) (tt := tYes) rfl sclaw.nd (pi_range1 rfl T.m_range (pa_cons (pe_ix (r := rIxT K) ix_tup (pv 2) pe_int (fun _ _ => rfl)) pa_nil)) (blkOk_by (N := N_law) (sc := defScope s_law) (by decide +kernel)) (fun _ _ _ _ _ => (pg_name (i := 11) sclaw.nd rfl (Or.inl rfl))) (fun _ _ _ _ _ => pts_nil) (fun _ _ _ _ _ => (pe_call G__law_draw (hr.mono (by omega)) (by rfl) D__law_draw.m D__law_draw.k D__law_draw.b .nil pass0 (pa_cons (pv 1) (pa_cons pe_int pa_nil))))) pa_nil)))))
      (pss_cons (ps_set (i := 13) sclaw.nd rfl (.inr rfl) (pe_callTy call_list_of (by rfl) T.m_list (by decide +kernel) (pa_cons (pv 12) pa_nil)))
      (pss_cons (ps_for PassesOwn.never rfl (pi_range1 rfl T.m_range (pa_cons (pe_call G__law_draw (hr.mono (by omega)) (by rfl) D__law_draw.m D__law_draw.k D__law_draw.b .nil pass0 (pa_cons (pv 1) (pa_cons pe_int pa_nil))) pa_nil)) (pg_name (i := 11) sclaw.nd rfl (Or.inl rfl)) (pss_cons (ps_set (i := 14) sclaw.nd rfl (.inl rfl) (pe_call G__law_draw (hr.mono (by omega)) (by rfl) D__law_draw.m D__law_draw.k D__law_draw.b .nil pass0 (pa_cons (pv 1) (pa_cons (pe_callB call_len_seq (by rfl) T.m_len (by decide +kernel) (pa_cons (pv 13) pa_nil)) pa_nil))))
      (pss_one (ps_asg (pe_op op_sub pe_int (pe_ix (r := rIxL K) ix_list (pv 13) (pv 14) (fun _ _ => rfl))) (pg_sub (pv 13) (pv 14) set_list)))))
      (pss_cons (ps_set (i := 15) sclaw.nd rfl (.inl rfl) (pe_callB (cr_all (by rfl)) (by rfl) T.m_all (by decide +kernel) (pa_cons (pe_lc (own := [("clause", 18)]) (g := gName 18) (tt := tYes) rfl sclaw.nd (pi_list (pv 9)) (blkOk_by (N := N_law) (sc := defScope s_law) (by decide +kernel)) (fun _ _ _ _ _ => (pg_name (i := 18) sclaw.nd rfl (Or.inl rfl))) (fun _ _ _ _ _ => pts_nil) (fun _ _ _ _ _ => (pe_callB (r := rAny K) (cr_any (by rfl)) (by rfl) T.m_any (by decide +kernel) (pa_cons (pe_lc (own := [("one", 19)]) (wi := iList K _) (g := gName 19) (tt := tYes) rfl sclaw.nd (pi_list (pv 18)) (blkOk_by (N := N_law) (sc := relS _ (defScope s_law)) (by decide +kernel)) (fun _ _ _ _ _ => (pg_name (i := 19) sclaw.nd rfl (Or.inl rfl))) (fun _ _ _ _ _ => pts_nil) (fun _ _ _ _ _ => (pe_cmpR op_eq (pe_cmpR op_eq (pe_ix (r := rIxL K) ix_list (pv 13) (pe_op op_sub (pe_callB call_abs (by rfl) T.m_abs (by decide +kernel) (pa_cons (pv 19) pa_nil)) pe_int) (fun _ _ => rfl)) pe_int (nomark _)) (pe_cmpR op_gt (pv 19) pe_int (nomark _)) (nomark _)))) pa_nil)))) pa_nil)))
      (pss_cons (ps_set (i := 16) sclaw.nd rfl (.inl rfl) (pe_op op_add (pe_op op_add pe_int (pe_ix (r := rIxT K) ix_tup (pv 2) pe_int (fun _ _ => rfl))) (pe_callB call_len_seq (by rfl) T.m_len (by decide +kernel) (pa_cons (pe_ix (r := rIxT K) ix_tup (pv 2) pe_int (fun _ _ => rfl)) pa_nil))))
      (pss_cons (ps_set (i := 17) sclaw.nd rfl (.inl rfl) (pe_cmpR (op_eqD hr.units) (pv 13) (pe_call G__law_row (hr.mono (by omega)) (by rfl) D__law_row.m D__law_row.k D__law_row.b .nil pass0 (pa_cons (pv 2) (pa_cons (pe_slice sl_list (pv 13) (po_some (pe_op op_add pe_int (pe_ix (r := rIxT K) ix_tup (pv 2) pe_int (fun _ _ => rfl)))) (po_some (pv 16))) (pa_cons (pe_slice sl_list (pv 13) (po_some pe_int) (po_some (pe_op op_add pe_int (pe_ix (r := rIxT K) ix_tup (pv 2) pe_int (fun _ _ => rfl))))) pa_nil)))) (nomark _)))
      (pss_one (ps_if (pt_cmpR op_ne (pv 15) (pv 17) (nomark _)) (pss_one (ps_ret pe_bl)) pss_nil)))))))))
      (pss_one (ps_ret pe_bl)))))))))), ?_⟩
    refine ⟨_, rfl, a, ns, rfl, hS0, hl0, fun H1 p c s1 d1 => ?_⟩
    refine ⟨_, rfl, p, c, 3, 2, 5, rfl, d1, by decide, by decide, by decide, fun H2 qn n g2 nq hn ok => ?_⟩
    obtain ⟨_, aS, aG, aN, aO, e, rA, rS, rG, rN, rO⟩ := hn.net_inv
    cases e
    obtain ⟨_, e, rS⟩ := rS.natl_inv
    cases e
    have hA := (res_some rA).2.2
    have hS := (res_some rS).2.2
    obtain ⟨_, us, e, hGl, hus⟩ := rG.up.list_inv
    cases e
    have ok1 := ok.ins
    have ok2 := ok.fl
    have ok3 := ok.most
    -- due, number
    refine ⟨_, rfl, by show 1 ≤ sizeLine; decide, fun l1 n1 => ⟨by show 1 ≤ sizeLine; decide, fun pD nD => ?_⟩⟩
    have t1 := same_new (o := .lst [.int (-1)]) n1
    have t2 := t1.trans (same_new (o := .lst [.ref l1]) nD)
    have nD0 := none_of t1 nD
    refine ⟨_, rfl, qn, _, 1, _, rfl, rfl, SqT.of (t2 _ _ hA), atI_nat (j := 1) rfl, _, _, rfl, rfl, _, rfl, qn, _, 2, _, rfl, rfl, SqT.of (t2 _ _ hA), atI_nat (j := 2) rfl, aS, _, rfl, .inl (SqL.of (t2 _ _ hS)), _, _, rfl, rfl, ?_⟩
    have eB : (1 : Int) + (n.ins : Int) + ((vn n.starts).length : Int) = ((n.base : Nat) : Int) := by
      rw [vn_len]
      rfl
    refine ⟨_, rfl, qn, _, 3, _, rfl, rfl, SqT.of (t2 _ _ hA), atI_nat (j := 3) rfl, aG, rfl, ⟨_, SqL.of (t2 _ _ hGl)⟩, for_list (xs := us) (fun j σ H' => ∃ (y5 y6 y7 y8 : Option V) (cs : List V), σ = [some (.ref a), some (.ref p), some (.ref qn), some (.ref pD), some (.int ((n.base + j : Nat) : Int)), y5, y6, y7, y8, none, none, none, none, none, none, none, none, none, none, none] ∧ Same H2 H' ∧ H' pD = some (.lst cs) ∧ Dvs (del pD (fresh H2 H')) cs ([[-1]] ++ cls n.base (n.gates.take j))) ⟨none, none, none, none, [.ref l1], ?_, t2, upd_same, ?_⟩ (fun j σ H' _ ⟨_, _, _, _, _, _, s', _⟩ => SqL.of (s' _ _ hGl)) ?_ ?_⟩
    · show [some (V.ref a), some (V.ref p), some (V.ref qn), some (V.ref pD), some (V.int ((1 : Int) + (n.ins : Int) + ((vn n.starts).length : Int))), none, none, none, none, none, none, none, none, none, none, none, none, none, none, none] = _
      rw [eB]
      rfl
    · have nl : l1 ≠ pD := ne_of_none upd_same nD
      exact .cons (.intl (del_of nl (fresh_of n1 (by rw [upd_ne nl]; exact upd_same)))) .nil
    · rintro j u σ H' hu ⟨y5, y6, y7, y8, cs, rfl, s', hC, hcs⟩
      obtain ⟨⟨x, y⟩, hg1, hd⟩ := hus.at hu
      obtain ⟨t, u1, u2, rfl, ht, hx, hy⟩ := hd.pair_inv
      have hx := hx.nat_inv
      have hy := hy.nat_inv
      subst hx hy
      have hj : j < n.gates.length := (List.getElem?_eq_some_iff.mp hg1).1
      refine ⟨t, _, rfl, SqT.of (s' _ _ ht), rfl, _, _, rfl, _, _, rfl, rfl, ?_⟩
      refine ⟨_, rfl, _, _, rfl, rfl, ?_⟩
      refine ⟨_, rfl, x, rfl, _, rfl, y, rfl, _, _, rfl, ?_⟩
      refine ⟨_, rfl, .inl ⟨rfl, _, SqL.of hC⟩, ?_⟩
      refine ⟨_, rfl, _, rfl, _, rfl, by show 2 ≤ sizeLine; decide, fun l1 n1 => ⟨_, rfl, _, rfl, _, rfl, by show 2 ≤ sizeLine; decide, fun l2 n2 => ⟨_, rfl, _, rfl, _, rfl, _, rfl, _, rfl, by show 3 ≤ sizeLine; decide, fun l3 n3 => ⟨by show 3 ≤ sizeLine; decide, fun l4 n4 => ?_⟩⟩⟩⟩
      have q1 := same_new (o := .lst [.int (-((n.base + j : Nat) + 1 : Int)), .int (integ x)]) n1
      have q2 := same_new (o := .lst [.int (-((n.base + j : Nat) + 1 : Int)), .int (integ y)]) n2
      have q3 := same_new (o := .lst [.int ((n.base + j : Nat) + 1 : Int), .int (-integ x), .int (-integ y)]) n3
      have q4 := same_new (o := .lst [.ref l1, .ref l2, .ref l3]) n4
      have m1 := none_of s' n1
      have m2 := none_of (s'.trans q1) n2
      have m3 := none_of ((s'.trans q1).trans q2) n3
      have sA := ((q1.trans q2).trans q3).trans q4
      have dp1 : l1 ≠ pD := fun e => by rw [e, hC] at n1; cases n1
      have dp2 : l2 ≠ pD := fun e => by rw [e, q1 _ _ hC] at n2; cases n2
      have dp3 : l3 ≠ pD := fun e => by rw [e, (q1.trans q2) _ _ hC] at n3; cases n3
      have lc := hcs.len
      rw [List.length_append, cls_len, List.length_take] at lc
      refine ⟨pD, l4, cs, _, rfl, rfl, sA _ _ hC, upd_same, ?_, ?_⟩
      · rw [lc]
        exact Nat.le_of_lt (small64k (by show 1 + _ + 3 ≤ _; omega))
      · refine ⟨some (.int x), some (.int y), some (.int (integ x)), some (.int (integ y)), cs ++ [.ref l1, .ref l2, .ref l3], rfl, same_mut (s'.trans sA) nD0, upd_same, ?_⟩
        rw [take_snoc hg1, cls_snoc, ← List.append_assoc, List.length_take, Nat.min_eq_left (Nat.le_of_lt hj)]
        have up : ∀ {b : Addr} {o : HO}, H2 b = none → b ≠ pD → (upd (upd (upd (upd H' l1 (.lst [.int (-((n.base + j : Nat) + 1 : Int)), .int (integ x)])) l2 (.lst [.int (-((n.base + j : Nat) + 1 : Int)), .int (integ y)])) l3 (.lst [.int ((n.base + j : Nat) + 1 : Int), .int (-integ x), .int (-integ y)])) l4 (.lst [.ref l1, .ref l2, .ref l3])) b = some o → del pD (fresh H2 (upd (upd (upd (upd (upd H' l1 (.lst [.int (-((n.base + j : Nat) + 1 : Int)), .int (integ x)])) l2 (.lst [.int (-((n.base + j : Nat) + 1 : Int)), .int (integ y)])) l3 (.lst [.int ((n.base + j : Nat) + 1 : Int), .int (-integ x), .int (-integ y)])) l4 (.lst [.ref l1, .ref l2, .ref l3])) pD (.lst (cs ++ [.ref l1, .ref l2, .ref l3])))) b = some o := fun h1 h2 h3 => del_of h2 (fresh_of h1 (by rw [upd_ne h2]; exact h3))
        refine ((hcs.same (del_mono (fresh_post sA))).same (fun b o hb => ?_)).app (.cons (.intl (up m1 dp1 ((q2.trans (q3.trans q4)) _ _ upd_same))) (.cons (.intl (up m2 dp2 ((q3.trans q4) _ _ upd_same))) (.cons (.intl (up m3 dp3 (q4 _ _ upd_same))) .nil)))
        obtain ⟨b1, b2⟩ := del_some hb
        obtain ⟨b3, b4⟩ := fresh_some b2
        exact up b3 b1 b4
    · rintro σ H3 ⟨y5, y6, y7, y8, cs, rfl, s3, hC, hcs⟩
      rw [hus.len, List.take_length] at hcs
      rw [hus.len]
      have dueD : Dv H3 (.ref pD) n.clauses := .list hC (hcs.same ((del_same _ _).trans fresh_same))
      -- clauses
      have hn3 : Dv H3 (.ref qn) n := hn.up.same s3
      refine ⟨_, rfl, _, n, rfl, hn3, by omega, fun H4 pK s4 hK => ?_⟩
      have em : n.base + n.gates.length = n.many := rfl
      rw [em]
      have hmany : n.many ≤ 20 := by
        unfold Net.many Net.base
        omega
      refine ⟨_, rfl, _, rfl, neD (a := n.clauses) (b := n.clauses) (hK.same fresh_same) (dueD.same s4) (by decide) ⟨_, rfl, ?_⟩⟩
      rw [decide_eq_true rfl]
      refine iteF ?_
      refine ⟨_, rfl, _, _, rfl, rfl, .inl ⟨by decide, by decide⟩, _, rfl, by omega, by omega, fun D1 nD1 => lc_range (n := 2 * n.many) (fun i H' => Same H4 H' ∧ H' D1 = some (.lst (vi ((List.range i).map integ)))) ⟨same_new nD1, upd_same⟩ ?_ ?_⟩
      · rintro i H' hi ⟨s', hp⟩
        refine ⟨rfl, _, rfl, i, by show [V.int (0 + (i : Int))] = _; rw [Int.zero_add], _, hp, ?_, same_mut s' nD1, ?_⟩
        · rw [List.length_map, List.length_map, List.length_range]
          exact small1000 (by omega)
        · rw [upd_same, map_range_succ]
          unfold vi
          rw [List.map_append]
          rfl
      rintro H5 ⟨s5, hp5⟩
      refine ⟨_, rfl, _, _, rfl, rfl, .inl ⟨by decide, by decide⟩, _, rfl, by omega, by omega, fun D2 nD2 => lc_range (n := 2 * n.many) (fun i H' => Same H5 H' ∧ H' D2 = some (.lst (vi ((List.range i).map integ)))) ⟨same_new nD2, upd_same⟩ ?_ ?_⟩
      · rintro i H' hi ⟨s', hp⟩
        refine ⟨rfl, _, rfl, i, by show [V.int (0 + (i : Int))] = _; rw [Int.zero_add], _, hp, ?_, same_mut s' nD2, ?_⟩
        · rw [List.length_map, List.length_map, List.length_range]
          exact small1000 (by omega)
        · rw [upd_same, map_range_succ]
          unfold vi
          rw [List.map_append]
          rfl
      rintro H6 ⟨s6, hp6⟩
      refine neD (a := (List.range (2 * n.many)).map integ) (b := (List.range (2 * n.many)).map integ) (.intl (s6 _ _ hp5)) (.intl hp6) (by decide) ⟨_, rfl, ?_⟩
      rw [decide_eq_true rfl]
      refine iteF ?_
      have g3 : Go p c H2 H6 := Go.of g2.b (((s3.trans s4).trans s5).trans s6)
      have hK6 := (hK.same (fresh_pre s3)).same (fresh_post (s5.trans s6))
      clear hK hcs hC dueD hn3 hp5 hp6 nD1 nD2 t1 t2 nD n1
      refine ⟨6, rfl, by decide, by decide, for_range (n := 6) (fun _ σ H' => ∃ y10 y11 y12 y13 y14 y15 y16 y17 : Option V, σ = [some (.ref a), some (.ref p), some (.ref qn), some (.ref pD), some (.int (n.many : Nat)), y5, y6, y7, y8, some (.ref pK), y10, y11, y12, y13, y14, y15, y16, y17, none, none] ∧ Go p c H6 H') ⟨none, none, none, none, none, none, none, none, rfl, Go.refl g3.b⟩ ?_ ?_⟩
      · rintro k σ H' hk ⟨y10, y11, y12, y13, y14, y15, y16, y17, rfl, g⟩
        have gB := g3.trans g
        -- row
        refine ⟨_, rfl, _, rfl, qn, _, 2, _, rfl, rfl, SqT.of (gB.up rA), atI_nat (j := 2) rfl, aS, rfl, ⟨_, SqL.of (gB.up rS)⟩, fun D1 nD1 => lc_list (xs := vn n.starts) (fun j Hx => ∃ bs : List Nat, Go p c H' Hx ∧ Hx D1 = some (.lst (vn bs)) ∧ bs.length = j ∧ ∀ b ∈ bs, b < 2) ⟨[], Go.of g.b (same_new nD1), upd_same, rfl, by simp⟩ (fun j Hx _ h => ?_) ?_ ?_⟩
        · obtain ⟨bs, g', _⟩ := h
          exact SqL.of ((gB.trans g').up rS)
        · rintro j v Hx hv ⟨bs, g', hp, hl, hb⟩
          have hj : j < n.starts.length := by
            have h := (List.getElem?_eq_some_iff.mp hv).1
            rw [vn_len] at h
            exact h
          refine ⟨rfl, _, rfl, p, c, 2, rfl, g'.b, by decide, by decide, fun H'' d g'' hd => ⟨_, g''.get' g.b nD1 hp, by rw [vn_len]; exact small64k (by omega), bs ++ [d], (g'.trans g'').mut nD1, ?_, by rw [List.length_append, hl]; rfl, mem_snoc hb hd⟩⟩
          rw [upd_same, vn_snoc]
        rintro Hx ⟨held, gx, hD1, lh, bh⟩
        rw [vn_len] at lh
        have gC := gB.trans gx
        refine ⟨_, rfl, qn, _, 1, _, rfl, rfl, SqT.of (gC.up rA), atI_nat (j := 1) rfl, _, rfl, by omega, by omega, fun D2 nD2 => lc_range (n := n.ins) (fun j Hy => ∃ bs : List Nat, Go p c Hx Hy ∧ Hy D2 = some (.lst (vn bs)) ∧ bs.length = j ∧ ∀ b ∈ bs, b < 2) ⟨[], Go.of gx.b (same_new nD2), upd_same, rfl, by simp⟩ ?_ ?_⟩
        · rintro j Hy hj ⟨bs, g', hp, hl, hb⟩
          refine ⟨rfl, _, rfl, p, c, 2, rfl, g'.b, by decide, by decide, fun H'' d g'' hd => ⟨_, g''.get' gx.b nD2 hp, by rw [vn_len]; exact small64k (by omega), bs ++ [d], (g'.trans g'').mut nD2, ?_, by rw [List.length_append, hl]; rfl, mem_snoc hb hd⟩⟩
          rw [upd_same, vn_snoc]
        rintro Hy ⟨bits, gy, hD2, lb, bb⟩
        have gD := gC.trans gy
        refine ⟨.ref qn, n, D1, D2, held, bits, rfl, (hn.same gD.s).up, gy.get' g.b nD1 hD1, hD2, lh, lb, bh, bb, by omega, ok.g, fun H7 r s7 nr hr7 => ?_⟩
        have gE := gD.more s7
        -- some
        refine ⟨_, rfl, r, _, rfl, .inl (SqL.of hr7), fun pS nS => ?_⟩
        have lrow : (n.row held bits).length = n.many := by
          unfold Net.row
          rw [rowOf_len, List.length_append, List.length_cons]
          unfold Net.many Net.base
          omega
        have brow : ∀ x ∈ n.row held bits, x < 2 := by
          refine rowOf_lt fun x hx => ?_
          rcases List.mem_append.mp hx with hx | hx
          · rcases List.mem_cons.mp hx with rfl | hx
            · decide
            · exact bb x hx
          · exact bh x hx
        have gF := gE.more (same_new (o := .lst (vn (n.row held bits))) nS)
        refine ⟨_, rfl, p, c, 3, rfl, gF.b, by decide, by decide, fun H8 m g8 hm => ⟨_, rfl, by omega, by omega, for_range (n := m) (fun _ σ Hz => ∃ (y11 y14 : Option V) (xs : List Nat), σ = [some (.ref a), some (.ref p), some (.ref qn), some (.ref pD), some (.int (n.many : Nat)), y5, y6, y7, y8, some (.ref pK), some (.int (0 + (k : Int))), y11, some (.ref r), some (.ref pS), y14, y15, y16, y17, none, none] ∧ Go p c H7 Hz ∧ Hz pS = some (.lst (vn xs)) ∧ xs.length = n.many ∧ ∀ x ∈ xs, x < 2) ⟨y11, y14, n.row held bits, rfl, (Go.of gE.b (same_new nS)).trans g8, g8.get' gE.b nS upd_same, lrow, brow⟩ ?_ ?_⟩⟩
        · rintro j σ Hz hj ⟨y11, y14, xs, rfl, gz, hpS, lx, bx⟩
          refine ⟨_, rfl, _, rfl, pS, _, rfl, .inl (SqL.of hpS), p, c, n.many, by rw [vn_len, lx]; rfl, gz.b, by unfold Net.many Net.base; omega, by omega, fun H9 at' g9 hat => ?_⟩
          have hpS9 := g9.get' gE.b nS hpS
          have hx := List.getElem?_eq_getElem (l := xs) (i := at') (by omega)
          have bx' := bx _ (List.getElem_mem (l := xs) (n := at') (by omega))
          refine ⟨_, rfl, _, rfl, pS, _, _, _, rfl, rfl, SqL.of hpS9, atI_nat (vn_get hx), _, _, rfl, rfl, _, rfl, _, rfl, pS, _, _, at', rfl, rfl, hpS9, ix_nat (by rw [vn_len]; omega), ?_⟩
          refine ⟨_, _, xs.set at' (1 - xs[at']'(by omega)), rfl, (gz.trans g9).mut nS, ?_, by rw [List.length_set]; exact lx, mem_set bx (by omega)⟩
          rw [upd_same, ← set_vn]
          have e1 : ((1 - xs[at']'(by omega) : Nat) : Int) = 1 - ((xs[at']'(by omega) : Nat) : Int) := by omega
          rw [e1]
        rintro σ Hz ⟨y11, y14, xs, rfl, gz, hpS, lx, bx⟩
        have gG := gE.trans gz
        -- kept
        obtain ⟨_, ks, e, hKl, hks⟩ := ((hK6.same (fresh_res g2.b)).same (g.trans (gx.trans (gy.trans ((Go.of gy.b s7).trans gz)))).s).up.list_inv
        cases e
        refine ⟨_, rfl, pK, rfl, ⟨_, SqL.of hKl⟩, fun D nD => lc_list (xs := ks) (fun i Hw => Same Hz Hw ∧ Hw D = some (.lst ((n.clauses.take i).map fun c => V.bl (c.any (satI xs))))) ⟨same_new nD, upd_same⟩ (fun i Hw _ h => SqL.of (h.1 _ _ hKl)) ?_ ?_⟩
        · rintro i v Hw hv ⟨sw, hD⟩
          obtain ⟨cl, hc, dc⟩ := hks.at hv
          obtain ⟨pc, rfl, hpc⟩ := dc.intl_inv
          have hi : i < n.clauses.length := (List.getElem?_eq_some_iff.mp hc).1
          have bnd : ∀ z ∈ cl, z ≠ 0 ∧ z.natAbs ≤ n.many := by
            have hm := List.mem_of_getElem? hc
            unfold Net.clauses at hm
            rcases List.mem_append.mp hm with hm | hm
            · rw [List.mem_singleton.mp hm]
              intro z hz
              rw [List.mem_singleton.mp hz]
              exact ⟨by decide, by unfold Net.many Net.base; show 1 ≤ _; omega⟩
            · exact cls_bound n.gates n.base ok.g cl hm
          have lcl : cl.length ≤ 3 := by
            have hm := List.mem_of_getElem? hc
            unfold Net.clauses at hm
            rcases List.mem_append.mp hm with hm | hm
            · rw [List.mem_singleton.mp hm]
              decide
            · exact cls_len3 n.gates n.base cl hm
          have lcs : n.clauses.length ≤ 16 := by
            unfold Net.clauses
            rw [List.length_append, cls_len]
            show 1 + _ ≤ _
            omega
          refine ⟨rfl, _, rfl, pc, rfl, ⟨_, SqL.of (sw _ _ hpc)⟩, fun D' nD' => lc_list (xs := vi cl) (fun j Hv => Same Hw Hv ∧ Hv D' = some (.lst ((cl.take j).map fun z => V.bl (satI xs z)))) ⟨same_new nD', upd_same⟩ (fun j Hv _ h => SqL.of ((sw.trans h.1) _ _ hpc)) ?_ ?_⟩
          · rintro j v Hv hv' ⟨sv, hD'⟩
            obtain ⟨z, hz, rfl⟩ : ∃ z, cl[j]? = some z ∧ v = V.int z := by
              rw [List.getElem?_map] at hv'
              cases e : cl[j]? with
              | none =>
                rw [e] at hv'
                cases hv'
              | some z =>
                rw [e] at hv'
                cases hv'
                exact ⟨z, rfl, rfl⟩
            have bz := bnd z (List.mem_of_getElem? hz)
            have hx := List.getElem?_eq_getElem (l := xs) (i := z.natAbs - 1) (by omega)
            have ez : (if z < 0 then -z else z) - 1 = ((z.natAbs - 1 : Nat) : Int) := by
              by_cases h : z < 0
              · rw [if_pos h]
                omega
              · rw [if_neg h]
                omega
            refine ⟨rfl, _, rfl, _, rfl, _, rfl, _, _, rfl, rfl, pS, _, _, _, rfl, rfl, SqL.of (sv _ _ (sw _ _ hpS)), (by show atI _ ((if z < 0 then -z else z) - 1) = _; rw [ez]; exact atI_nat (vn_get hx)), rfl, _, rfl, _, _, rfl, rfl, rfl, ?_⟩
            refine ⟨_, hD', ?_, same_mut sv nD', ?_⟩
            · rw [List.length_map, List.length_take]
              exact small1000 (by omega)
            · rw [upd_same, take_snoc hz, List.map_append]
              have es : decide (V.bl (decide (V.int ((xs[z.natAbs - 1]'(by omega) : Nat) : Int) = V.int 1)) = V.bl (decide (z > 0))) = satI xs z := by
                rw [dec_bool, dec_one]
                unfold satI
                rw [hx]
                rfl
              show some (HO.lst (_ ++ [V.bl (decide (V.bl (decide (V.int ((xs[z.natAbs - 1]'(by omega) : Nat) : Int) = V.int 1)) = V.bl (decide (z > 0))))])) = _
              rw [es]
              rfl
          rintro Hv ⟨sv, hD'⟩
          rw [List.length_map, List.take_length, ← Function.comp_def V.bl (satI xs), ← List.map_map] at hD'
          refine ⟨D', _, rfl, SqL.of hD', ?_⟩
          rw [any_id]
          refine ⟨_, sv _ _ hD, ?_, same_mut (sw.trans sv) nD, ?_⟩
          · rw [List.length_map, List.length_take]
            exact small1000 (by omega)
          · rw [upd_same, take_snoc hc, List.map_append]
            rfl
        rintro Hw ⟨sw, hD⟩
        rw [hks.len, List.take_length, ← Function.comp_def V.bl (fun c : List Int => c.any (satI xs)), ← List.map_map] at hD
        refine ⟨D, _, rfl, SqL.of hD, ?_⟩
        rw [all_id]
        have gH := gG.more sw
        -- free
        refine ⟨_, rfl, qn, _, 1, _, rfl, rfl, SqT.of (gH.up rA), atI_nat (j := 1) rfl, _, _, rfl, rfl, _, rfl, qn, _, 2, _, rfl, rfl, SqT.of (gH.up rA), atI_nat (j := 2) rfl, aS, _, rfl, .inl (SqL.of (gH.up rS)), _, _, rfl, rfl, ?_⟩
        have hpW := sw _ _ hpS
        have hb1 : 1 + n.ins ≤ n.base := by unfold Net.base; omega
        have hb2 : n.base ≤ xs.length := by rw [lx]; exact Nat.le_add_right _ _
        -- true
        refine ⟨_, rfl, _, rfl, _, rfl, _, rfl, qn, _, 1, _, rfl, rfl, SqT.of (gH.up rA), atI_nat (j := 1) rfl, _, _, rfl, rfl, _, rfl, _, rfl, _, rfl, pS, _, rfl, SqL.of hpW, fun S1 nS1 => ?_⟩
        refine ⟨_, rfl, _, rfl, _, rfl, qn, _, 1, _, rfl, rfl, SqT.of (same_new nS1 _ _ (gH.up rA)), atI_nat (j := 1) rfl, _, _, rfl, rfl, _, rfl, pS, _, rfl, SqL.of (same_new nS1 _ _ hpW), fun S2 nS2 => ?_⟩
        have w1 := same_new (o := .lst (vn ((xs.drop (1 + n.ins)).take (n.base - (1 + n.ins))))) nS1
        have c1 : cutV (vn xs) (some ((1 : Int) + (n.ins : Int))) (some ((1 : Int) + (n.ins : Int) + ((vn n.starts).length : Int))) = vn ((xs.drop (1 + n.ins)).take (n.base - (1 + n.ins))) := by
          rw [eB, show (1 : Int) + (n.ins : Int) = ((1 + n.ins : Nat) : Int) by omega]
          exact cut_nn xs hb1 hb2
        have c2 : cutV (vn xs) (some (1 : Int)) (some ((1 : Int) + (n.ins : Int))) = vn ((xs.drop 1).take (1 + n.ins - 1)) := by
          rw [show (1 : Int) + (n.ins : Int) = ((1 + n.ins : Nat) : Int) by omega]
          exact cut_nn xs (a := 1) (by omega) (by omega)
        have nS12 : S1 ≠ S2 := ne_of_none upd_same nS2
        refine ⟨.ref qn, n, S1, S2, (xs.drop (1 + n.ins)).take (n.base - (1 + n.ins)), (xs.drop 1).take (1 + n.ins - 1), rfl, (((hn.same gH.s).up).same (same_new nS1)).same (same_new nS2), ?_, ?_, ?_, ?_, fun x hx => bx x (List.mem_of_mem_drop (List.mem_of_mem_take hx)), fun x hx => bx x (List.mem_of_mem_drop (List.mem_of_mem_take hx)), by omega, ok.g, fun Hr r2 sr nr2 hr2 => ?_⟩
        · rw [upd_ne nS12, upd_same]
          exact congrArg (fun z => some (HO.lst z)) c1
        · rw [upd_same]
          exact congrArg (fun z => some (HO.lst z)) c2
        · rw [List.length_take, List.length_drop]
          unfold Net.base at hb2 ⊢
          omega
        · rw [List.length_take, List.length_drop]
          omega
        refine eqD (a := xs) (b := n.row ((xs.drop (1 + n.ins)).take (n.base - (1 + n.ins))) ((xs.drop 1).take (1 + n.ins - 1))) (.natl (sr _ _ ((same_new nS2) _ _ ((same_new nS1) _ _ hpW)))) (.natl hr2) (by decide) ?_
        rw [← kept_net bx lx ok.g]
        refine ⟨_, rfl, _, rfl, rfl, _, rfl, ?_⟩
        rw [show (n.clauses.all fun c => c.any (satI xs)) = kept xs n.clauses from rfl]
        refine iteNS rfl ?_
        exact ⟨_, _, _, _, _, _, _, _, rfl, (Go.of g.b (Same.refl _)).trans ((gx.trans (gy.trans ((Go.of gy.b s7).trans gz))).more (((sw.trans (same_new nS1)).trans (same_new nS2)).trans sr)) |> g.trans⟩
      · rintro σ H' ⟨y10, y11, y12, y13, y14, y15, y16, y17, rfl, g⟩
        exact q H'
end K37
namespace K37
open PySem PySem.Spec PyProof.Rows L2 V0
theorem all_mk {l : PySem.W.OpenLaw} {w : World} {K : PySem.W.Frag} {h : Heap} {mg : Str → Option Value} {fa f1 f2 f3 f4 f5 f6 f7 f8 f9 f10 f11 f12 : Addr} (X : K.In h) (G : h.Ns mainGlobals mg) (hfa : mg "law" = some (.ref fa))
    {od1 an1 od2 an2 od3 an3 od4 an4 od5 an5 od6 an6 od7 an7 od8 an8 od9 an9 od10 an10 od11 an11 od12 an12 : Option Addr} {sl1 sl2 sl3 sl4 sl5 sl6 sl7 sl8 sl9 sl10 sl11 sl12 : Array (Option Value)} {oc1 kV1 dc1 pm1 cd1 ct1 oc2 kV2 dc2 pm2 cd2 ct2 oc3 kV3 dc3 pm3 cd3 ct3 oc4 kV4 dc4 pm4 cd4 ct4 oc5 kV5 dc5 pm5 cd5 ct5 oc6 kV6 dc6 pm6 cd6 ct6 oc7 kV7 dc7 pm7 cd7 ct7 oc8 kV8 dc8 pm8 cd8 ct8 oc9 kV9 dc9 pm9 cd9 ct9 oc10 kV10 dc10 pm10 cd10 ct10 oc11 kV11 dc11 pm11 cd11 ct11 oc12 kV12 dc12 pm12 cd12 ct12 : Value}
    (a1 : PySem.W.nsIn K mainGlobals "_law_state" = some (some (.ref f1))) (l1 : K.lookup f1 = some ⟨oc1, od1, .func (PySem.W.fnOf "_law_state" "_law_state" (defArgs s__law_state) (defBody s__law_state) (defScope s__law_state) .none kV1 dc1 pm1 an1 cd1 ct1), sl1⟩) (c1 : PySem.W.codeIn K cd1 "_law_state" = true) (k1 : PySem.W.keepIn K (.ref f1) = true)
    (a2 : PySem.W.nsIn K mainGlobals "_law_draw" = some (some (.ref f2))) (l2 : K.lookup f2 = some ⟨oc2, od2, .func (PySem.W.fnOf "_law_draw" "_law_draw" (defArgs s__law_draw) (defBody s__law_draw) (defScope s__law_draw) .none kV2 dc2 pm2 an2 cd2 ct2), sl2⟩) (c2 : PySem.W.codeIn K cd2 "_law_draw" = true) (k2 : PySem.W.keepIn K (.ref f2) = true)
    (a3 : PySem.W.nsIn K mainGlobals "_law_pick" = some (some (.ref f3))) (l3 : K.lookup f3 = some ⟨oc3, od3, .func (PySem.W.fnOf "_law_pick" "_law_pick" (defArgs s__law_pick) (defBody s__law_pick) (defScope s__law_pick) .none kV3 dc3 pm3 an3 cd3 ct3), sl3⟩) (c3 : PySem.W.codeIn K cd3 "_law_pick" = true) (k3 : PySem.W.keepIn K (.ref f3) = true)
    (a4 : PySem.W.nsIn K mainGlobals "_law_net" = some (some (.ref f4))) (l4 : K.lookup f4 = some ⟨oc4, od4, .func (PySem.W.fnOf "_law_net" "_law_net" (defArgs s__law_net) (defBody s__law_net) (defScope s__law_net) .none kV4 dc4 pm4 an4 cd4 ct4), sl4⟩) (c4 : PySem.W.codeIn K cd4 "_law_net" = true) (k4 : PySem.W.keepIn K (.ref f4) = true)
    (a5 : PySem.W.nsIn K mainGlobals "base_of" = some (some (.ref f5))) (l5 : K.lookup f5 = some ⟨oc5, od5, .func (PySem.W.fnOf "base_of" "base_of" (defArgs s_base_of) (defBody s_base_of) (defScope s_base_of) .none kV5 dc5 pm5 an5 cd5 ct5), sl5⟩) (c5 : PySem.W.codeIn K cd5 "base_of" = true) (k5 : PySem.W.keepIn K (.ref f5) = true)
    (a6 : PySem.W.nsIn K mainGlobals "gate_clauses" = some (some (.ref f6))) (l6 : K.lookup f6 = some ⟨oc6, od6, .func (PySem.W.fnOf "gate_clauses" "gate_clauses" (defArgs s_gate_clauses) (defBody s_gate_clauses) (defScope s_gate_clauses) .none kV6 dc6 pm6 an6 cd6 ct6), sl6⟩) (c6 : PySem.W.codeIn K cd6 "gate_clauses" = true) (k6 : PySem.W.keepIn K (.ref f6) = true)
    (a7 : PySem.W.nsIn K mainGlobals "integer_of" = some (some (.ref f7))) (l7 : K.lookup f7 = some ⟨oc7, od7, .func (PySem.W.fnOf "integer_of" "integer_of" (defArgs s_integer_of) (defBody s_integer_of) (defScope s_integer_of) .none kV7 dc7 pm7 an7 cd7 ct7), sl7⟩) (c7 : PySem.W.codeIn K cd7 "integer_of" = true) (k7 : PySem.W.keepIn K (.ref f7) = true)
    (a8 : PySem.W.nsIn K mainGlobals "net_clauses" = some (some (.ref f8))) (l8 : K.lookup f8 = some ⟨oc8, od8, .func (PySem.W.fnOf "net_clauses" "net_clauses" (defArgs s_net_clauses) (defBody s_net_clauses) (defScope s_net_clauses) .none kV8 dc8 pm8 an8 cd8 ct8), sl8⟩) (c8 : PySem.W.codeIn K cd8 "net_clauses" = true) (k8 : PySem.W.keepIn K (.ref f8) = true)
    (a9 : PySem.W.nsIn K mainGlobals "_law_bit" = some (some (.ref f9))) (l9 : K.lookup f9 = some ⟨oc9, od9, .func (PySem.W.fnOf "_law_bit" "_law_bit" (defArgs s__law_bit) (defBody s__law_bit) (defScope s__law_bit) .none kV9 dc9 pm9 an9 cd9 ct9), sl9⟩) (c9 : PySem.W.codeIn K cd9 "_law_bit" = true) (k9 : PySem.W.keepIn K (.ref f9) = true)
    (a10 : PySem.W.nsIn K mainGlobals "_law_row" = some (some (.ref f10))) (l10 : K.lookup f10 = some ⟨oc10, od10, .func (PySem.W.fnOf "_law_row" "_law_row" (defArgs s__law_row) (defBody s__law_row) (defScope s__law_row) .none kV10 dc10 pm10 an10 cd10 ct10), sl10⟩) (c10 : PySem.W.codeIn K cd10 "_law_row" = true) (k10 : PySem.W.keepIn K (.ref f10) = true)
    (a11 : PySem.W.nsIn K mainGlobals "_law_integer" = some (some (.ref f11))) (l11 : K.lookup f11 = some ⟨oc11, od11, .func (PySem.W.fnOf "_law_integer" "_law_integer" (defArgs s__law_integer) (defBody s__law_integer) (defScope s__law_integer) .none kV11 dc11 pm11 an11 cd11 ct11), sl11⟩) (c11 : PySem.W.codeIn K cd11 "_law_integer" = true) (k11 : PySem.W.keepIn K (.ref f11) = true)
    (a12 : PySem.W.nsIn K mainGlobals "law" = some (some (.ref f12))) (l12 : K.lookup f12 = some ⟨oc12, od12, .func (PySem.W.fnOf "law" "law" (defArgs s_law) (defBody s_law) (defScope s_law) .none kV12 dc12 pm12 an12 cd12 ct12), sl12⟩) (c12 : PySem.W.codeIn K cd12 "law" = true) (k12 : PySem.W.keepIn K (.ref f12) = true)
    (z_abs : PySem.W.nsIn K mainGlobals "abs" = some none)
    (z_all : PySem.W.nsIn K mainGlobals "all" = some none)
    (z_any : PySem.W.nsIn K mainGlobals "any" = some none)
    (z_int : PySem.W.nsIn K mainGlobals "int" = some none)
    (z_len : PySem.W.nsIn K mainGlobals "len" = some none)
    (z_list : PySem.W.nsIn K mainGlobals "list" = some none)
    (z_max : PySem.W.nsIn K mainGlobals "max" = some none)
    (z_range : PySem.W.nsIn K mainGlobals "range" = some none) :
    ∃ fd : FuncData, (∀ (s : Shared) (v : Value), BindsTo s fd ⟨[v], []⟩ [("script", v)]) ∧ ∀ base : Heap, K.In base → base.Ns mainGlobals mg → FnOk l.prog w K mg base CX0 4 fa fd ["script"] (sp_law K) := by
  have e := hfa.symm.trans (PySem.W.mg_of X G a12)
  cases e
  have T : Txt K mg := ⟨PySem.W.mg_none_of X G z_abs, PySem.W.mg_none_of X G z_all, PySem.W.mg_none_of X G z_any, PySem.W.mg_none_of X G z_int, PySem.W.mg_none_of X G z_len, PySem.W.mg_none_of X G z_list, PySem.W.mg_none_of X G z_max, PySem.W.mg_none_of X G z_range⟩
  have F1 := fun_mk (st := s__law_state) l1 c1 k1
  have D1 : Def K mg "_law_state" f1 _ ["script"] := ⟨PySem.W.mg_of X G a1, F1.kp, F1.binds (ps := ["script"]) fun _ _ _ _ _ _ us hl => match us, hl with | [_], _ => rfl⟩
  have F2 := fun_mk (st := s__law_draw) l2 c2 k2
  have D2 : Def K mg "_law_draw" f2 _ ["state", "many"] := ⟨PySem.W.mg_of X G a2, F2.kp, F2.binds (ps := ["state", "many"]) fun _ _ _ _ _ _ us hl => match us, hl with | [_, _], _ => rfl⟩
  have F3 := fun_mk (st := s__law_pick) l3 c3 k3
  have D3 : Def K mg "_law_pick" f3 _ ["state", "row"] := ⟨PySem.W.mg_of X G a3, F3.kp, F3.binds (ps := ["state", "row"]) fun _ _ _ _ _ _ us hl => match us, hl with | [_, _], _ => rfl⟩
  have F4 := fun_mk (st := s__law_net) l4 c4 k4
  have D4 : Def K mg "_law_net" f4 _ ["state", "ins", "flops", "most"] := ⟨PySem.W.mg_of X G a4, F4.kp, F4.binds (ps := ["state", "ins", "flops", "most"]) fun _ _ _ _ _ _ us hl => match us, hl with | [_, _, _, _], _ => rfl⟩
  have F5 := fun_mk (st := s_base_of) l5 c5 k5
  have D5 : Def K mg "base_of" f5 _ ["net"] := ⟨PySem.W.mg_of X G a5, F5.kp, F5.binds (ps := ["net"]) fun _ _ _ _ _ _ us hl => match us, hl with | [_], _ => rfl⟩
  have F6 := fun_mk (st := s_gate_clauses) l6 c6 k6
  have D6 : Def K mg "gate_clauses" f6 _ ["variable", "x", "y"] := ⟨PySem.W.mg_of X G a6, F6.kp, F6.binds (ps := ["variable", "x", "y"]) fun _ _ _ _ _ _ us hl => match us, hl with | [_, _, _], _ => rfl⟩
  have F7 := fun_mk (st := s_integer_of) l7 c7 k7
  have D7 : Def K mg "integer_of" f7 _ ["literal"] := ⟨PySem.W.mg_of X G a7, F7.kp, F7.binds (ps := ["literal"]) fun _ _ _ _ _ _ us hl => match us, hl with | [_], _ => rfl⟩
  have F8 := fun_mk (st := s_net_clauses) l8 c8 k8
  have D8 : Def K mg "net_clauses" f8 _ ["net"] := ⟨PySem.W.mg_of X G a8, F8.kp, F8.binds (ps := ["net"]) fun _ _ _ _ _ _ us hl => match us, hl with | [_], _ => rfl⟩
  have F9 := fun_mk (st := s__law_bit) l9 c9 k9
  have D9 : Def K mg "_law_bit" f9 _ ["row", "literal"] := ⟨PySem.W.mg_of X G a9, F9.kp, F9.binds (ps := ["row", "literal"]) fun _ _ _ _ _ _ us hl => match us, hl with | [_, _], _ => rfl⟩
  have F10 := fun_mk (st := s__law_row) l10 c10 k10
  have D10 : Def K mg "_law_row" f10 _ ["net", "held", "bits"] := ⟨PySem.W.mg_of X G a10, F10.kp, F10.binds (ps := ["net", "held", "bits"]) fun _ _ _ _ _ _ us hl => match us, hl with | [_, _, _], _ => rfl⟩
  have F11 := fun_mk (st := s__law_integer) l11 c11 k11
  have D11 : Def K mg "_law_integer" f11 _ ["literal"] := ⟨PySem.W.mg_of X G a11, F11.kp, F11.binds (ps := ["literal"]) fun _ _ _ _ _ _ us hl => match us, hl with | [_], _ => rfl⟩
  have F12 := fun_mk (st := s_law) l12 c12 k12
  refine ⟨PySem.W.fnOf "law" "law" (defArgs s_law) (defBody s_law) (defScope s_law) .none kV12 dc12 pm12 an12 cd12 ct12, fun s v => .of_eq rfl, fun base _ _ => ?_⟩
  have G1 : FnOk l.prog w K mg base CX0 1 f1 _ ["script"] (sp__law_state K) := ok__law_state F1 T 
  have G2 : FnOk l.prog w K mg base CX0 1 f2 _ ["state", "many"] (sp__law_draw K) := ok__law_draw F2 T 
  have G3 : FnOk l.prog w K mg base CX0 2 f3 _ ["state", "row"] (sp__law_pick K) := ok__law_pick F3 T G2 D2
  have G4 : FnOk l.prog w K mg base CX0 3 f4 _ ["state", "ins", "flops", "most"] (sp__law_net K) := ok__law_net F4 T G2 D2 G3 D3
  have G5 : FnOk l.prog w K mg base CX0 1 f5 _ ["net"] (sp_base_of K) := ok_base_of F5 T 
  have G6 : FnOk l.prog w K mg base CX0 1 f6 _ ["variable", "x", "y"] (sp_gate_clauses K) := ok_gate_clauses F6 T 
  have G7 : FnOk l.prog w K mg base CX0 1 f7 _ ["literal"] (sp_integer_of K) := ok_integer_of F7 T 
  have G8 : FnOk l.prog w K mg base CX0 2 f8 _ ["net"] (sp_net_clauses K) := ok_net_clauses F8 T G5 D5 G6 D6 G7 D7
  have G9 : FnOk l.prog w K mg base CX0 1 f9 _ ["row", "literal"] (sp__law_bit K) := ok__law_bit F9 T 
  have G10 : FnOk l.prog w K mg base CX0 2 f10 _ ["net", "held", "bits"] (sp__law_row K) := ok__law_row F10 T G9 D9
  have G11 : FnOk l.prog w K mg base CX0 1 f11 _ ["literal"] (sp__law_integer K) := ok__law_integer F11 T 
  exact ok_law F12 T G1 D1 G4 D4 G8 D8 G10 D10 G11 D11 G2 D2 G7 D7
end K37
open PySem PySem.W PyProof.Rows
set_option maxHeartbeats 0 in
theorem PySem.Challenge.cw_cellcloth_k37_clauses_of_nets_holds : PySem.Challenge.rw_cellcloth_k37_clauses_of_nets.Holds := by
  w_on; o_law; k_head; (case hw => w_witness2)
  k_fill
  refine L2.walk_of (l := PySem.Challenge.rw_cellcloth_k37_clauses_of_nets) (n := 63) (k := 4) (x := "script") (CX := fun _ => L2.CX0) (sp := fun w => K37.sp_law _) rfl (by decide) rfl ⟨rfl, by decide, by decide⟩ (fun w h Y => PySem.W.kIn_of Y) ?F (fun _ _ a ns hl _ hS => ⟨a, ns, rfl, hS, hl, fun _ => rfl⟩) (fun _ _ _ _ _ h => h)
  case F =>
    intro w mg fa h KX G hmg
    refine' K37.all_mk KX G hmg ?a1 ?l1 ?c1 ?k1 ?a2 ?l2 ?c2 ?k2 ?a3 ?l3 ?c3 ?k3 ?a4 ?l4 ?c4 ?k4 ?a5 ?l5 ?c5 ?k5 ?a6 ?l6 ?c6 ?k6 ?a7 ?l7 ?c7 ?k7 ?a8 ?l8 ?c8 ?k8 ?a9 ?l9 ?c9 ?k9 ?a10 ?l10 ?c10 ?k10 ?a11 ?l11 ?c11 ?k11 ?a12 ?l12 ?c12 ?k12 ?z_abs ?z_all ?z_any ?z_int ?z_len ?z_list ?z_max ?z_range
    (case a1 => k_is)
    (case l1 => k_is)
    (case c1 => k_is)
    (case k1 => k_is)
    (case a2 => k_is)
    (case l2 => k_is)
    (case c2 => k_is)
    (case k2 => k_is)
    (case a3 => k_is)
    (case l3 => k_is)
    (case c3 => k_is)
    (case k3 => k_is)
    (case a4 => k_is)
    (case l4 => k_is)
    (case c4 => k_is)
    (case k4 => k_is)
    (case a5 => k_is)
    (case l5 => k_is)
    (case c5 => k_is)
    (case k5 => k_is)
    (case a6 => k_is)
    (case l6 => k_is)
    (case c6 => k_is)
    (case k6 => k_is)
    (case a7 => k_is)
    (case l7 => k_is)
    (case c7 => k_is)
    (case k7 => k_is)
    (case a8 => k_is)
    (case l8 => k_is)
    (case c8 => k_is)
    (case k8 => k_is)
    (case a9 => k_is)
    (case l9 => k_is)
    (case c9 => k_is)
    (case k9 => k_is)
    (case a10 => k_is)
    (case l10 => k_is)
    (case c10 => k_is)
    (case k10 => k_is)
    (case a11 => k_is)
    (case l11 => k_is)
    (case c11 => k_is)
    (case k11 => k_is)
    (case a12 => k_is)
    (case l12 => k_is)
    (case c12 => k_is)
    (case k12 => k_is)
    (case z_abs => k_is)
    (case z_all => k_is)
    (case z_any => k_is)
    (case z_int => k_is)
    (case z_len => k_is)
    (case z_list => k_is)
    (case z_max => k_is)
    (case z_range => k_is)
