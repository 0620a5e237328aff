import PyProof.Rows.All
import Wide.All
import OpenK.AllK
import Wide.FinOn
import HandS.ForMost
import HandS.Codes
import HandS.IsInst
import HandS.WideBits
import KE.Datum
import PyProof.ReprRoads
import PyProof.ReprLen
import PyProof.Rows.SetFrom
import HandS.Set
import HandS.SetFor
import HandS.Strs
import HandS.TupSets
import HandS.Iter
import HandS.More
import HandS.Deep
import HandS.SortInts
import HandS.Small
import HandS.Walk
import HandS.Star
import HandS.TupLen
import PySem.Challenge.RW_cellcloth_k32_gates_made_once
set_option Elab.async false
set_option linter.all false
set_option maxRecDepth 100000
set_option maxHeartbeats 4000000
/-! data with a Lean type in the abstract heap: what a value holds, kept by growth; the heap but for what is mutable -/
namespace V0
open PySem PySem.Spec PyProof.Rows L2
open PySem.W (Datum)
/-- a def of the text as callers need it -/
structure Def (K : PySem.W.Frag) (mg : Str → Option Value) (x : Str) (f : Addr) (fd : FuncData) (ps : List Str) : Prop where
  m : mg x = some (.ref f)
  k : PySem.W.keepIn K (.ref f) = true
  b : Binds K fd ps []
abbrev vLen (K : PySem.W.Frag) : List V → Hp → VK → Prop := fun xs H Q => ∃ p ys, xs = [.ref p] ∧ (SqL K H p ys ∨ SqT K H p ys) ∧ Q (.int ys.length) H
abbrev vListOf (K : PySem.W.Frag) : List V → Hp → VK → Prop := fun xs H Q => ∃ p ys, xs = [.ref p] ∧ (SqL K H p ys ∨ SqT K H p ys) ∧ ∀ l, H l = none → Q (.ref l) (upd H l (.lst ys))
abbrev vTupleOf (K : PySem.W.Frag) : List V → Hp → VK → Prop := fun xs H Q => ∃ p ys, xs = [.ref p] ∧ ((SqL K H p ys ∧ ∀ l, H l = none → Q (.ref l) (upd H l (.tup ys))) ∨ (SqT K H p ys ∧ Q (.ref p) H))
/-- a statement that is never reached -/
theorem ps_never {X : Cx} {st : Stmt} : PS X st (fun _ _ _ => False) := ⟨fun _ _ _ _ _ _ h => h.elim⟩
def tTru (K : PySem.W.Frag) (ta : TE) : TT := fun σ H Q => ta σ H fun x H' => ∃ k, TruV K x H' k ∧ Q k H'
/-- as pt_truth, K told -/
theorem pt_truthK {X : Cx} {K : PySem.W.Frag} {a : Expr} {ta : TE} (hK : X.K = K) (ha : PE X a ta) (he : ∀ whole, isTrue a X.env whole = (do let v ← whole; standAt a.pos; holding [v] (truthy v))) :
    PT X a (tTru K ta) := by
  subst hK
  exact pt_truth ha he
theorem hu65 {A : Around} {k : Nat} (hr : Room k A) : A.units + 65 < cLine := by
  have := hr.un
  omega
theorem same_new {H : Hp} {p : Addr} {o : HO} (h : H p = none) : Same H (upd H p o) := fun b x e => by
  rw [upd_ne (ne_of_none e h)]
  exact e
theorem same_mut {H H' : Hp} {p : Addr} {o : HO} (e : Same H H') (h : H p = none) : Same H (upd H' p o) := fun a u ha => by
  rw [upd_ne (ne_of_none ha h)]
  exact e a u ha
theorem tup_same {K : PySem.W.Frag} {H H' : Hp} {a : Addr} {xs : List V} (e : Same H H') (h : SqT K H a xs) : SqT K H' a xs := by
  rcases h with (h | ⟨o, h⟩) | h
  · exact .inl (.inl (e _ _ h))
  · exact .inl (.inr ⟨o, e _ _ h⟩)
  · exact .inr h
theorem map_range_succ {α : Type} (f : Nat → α) (i : Nat) : (List.range (i + 1)).map f = (List.range i).map f ++ [f i] := by
  rw [List.range_succ, List.map_append]
  rfl
/-! ### data -/
class Dm (α : Type) [DecidableEq α] extends Datum α where
  lay : ∀ a : α, (Datum.toD a).canLay0 = true
instance : Dm Int where
  lay _ := by simp only [Datum.toD, PyData.canLay0]
instance : Dm Bool where
  lay _ := by simp only [Datum.toD, PyData.canLay0]
instance : Datum Nat where
  toD n := .int (n : Int)
  plain _ := rfl
  eqv a b := by
    simp only [PyData.eqv]
    rw [PySem.W.beq_decide]
    exact decide_eq_decide.mpr ⟨fun e => by omega, fun e => by rw [e]⟩
  depth := 0
  depth_le _ := Nat.le_refl _
instance : Dm Nat where
  lay _ := by simp only [Datum.toD, PyData.canLay0]
section
variable {α β : Type} [DecidableEq α] [Dm α] [DecidableEq β] [Dm β]
theorem lay_all : ∀ xs : List α, PyData.canLayAll0 (xs.map Datum.toD) = true
  | [] => by simp only [List.map_nil, PyData.canLayAll0]
  | x :: xs => by
    rw [List.map_cons, PyData.canLayAll0, Dm.lay x, lay_all xs]
    rfl
instance : Dm (List α) where
  lay xs := by
    simp only [Datum.toD, PyData.canLay0]
    exact lay_all xs
instance : Dm (α × β) where
  lay p := by
    simp only [Datum.toD, PyData.canLay0, PyData.canLayAll0, Bool.and_true, Bool.and_eq_true]
    exact ⟨Dm.lay p.1, Dm.lay p.2⟩
end
mutual
/-- as Dp, of what stands in the abstract heap alone -/
inductive Dh (H : Hp) : V → PyData → Prop
  | non : Dh H .non .none
  | bl (b : Bool) : Dh H (.bl b) (.bool b)
  | int (i : Int) : Dh H (.int i) (.int i)
  | str (x : Str) : Dh H (.str x) (.str x)
  | lst {a : Addr} {xs : List V} {ds : List PyData} : H a = some (.lst xs) → DhAll H xs ds → Dh H (.ref a) (.list ds)
  | tup {a : Addr} {xs : List V} {ds : List PyData} : H a = some (.tup xs) → DhAll H xs ds → Dh H (.ref a) (.tuple ds)
inductive DhAll (H : Hp) : List V → List PyData → Prop
  | nil : DhAll H [] []
  | cons {v : V} {vs : List V} {d : PyData} {ds : List PyData} : Dh H v d → DhAll H vs ds → DhAll H (v :: vs) (d :: ds)
end
mutual
theorem dh_same {H H' : Hp} (s : Same H H') : ∀ (d : PyData) (v : V), Dh H v d → Dh H' v d
  | .none, _, h => by cases h; exact .non
  | .bool b, _, h => by cases h; exact .bl b
  | .int i, _, h => by cases h; exact .int i
  | .str x, _, h => by cases h; exact .str x
  | .list ds, _, h => by
    cases h with
    | lst h1 h2 => exact .lst (s _ _ h1) (dh_sameAll s ds _ h2)
  | .tuple ds, _, h => by
    cases h with
    | tup h1 h2 => exact .tup (s _ _ h1) (dh_sameAll s ds _ h2)
  | .dict _, _, h => by cases h
theorem dh_sameAll {H H' : Hp} (s : Same H H') : ∀ (ds : List PyData) (vs : List V), DhAll H vs ds → DhAll H' vs ds
  | [], _, h => by cases h; exact .nil
  | d :: ds, _, h => by
    cases h with
    | cons h1 h2 => exact .cons (dh_same s d _ h1) (dh_sameAll s ds _ h2)
end
mutual
theorem dh_dp {K : PySem.W.Frag} {H : Hp} : ∀ (d : PyData) (v : V), Dh H v d → Dp K H v d
  | .none, _, h => by cases h; exact .non
  | .bool b, _, h => by cases h; exact .bl b
  | .int i, _, h => by cases h; exact .int i
  | .str x, _, h => by cases h; exact .str x
  | .list ds, _, h => by
    cases h with
    | lst h1 h2 => exact .lst (SqL.of h1) (dh_dpAll ds _ h2)
  | .tuple ds, _, h => by
    cases h with
    | tup h1 h2 => exact .tup (SqT.of h1) (dh_dpAll ds _ h2)
  | .dict _, _, h => by cases h
theorem dh_dpAll {K : PySem.W.Frag} {H : Hp} : ∀ (ds : List PyData) (vs : List V), DhAll H vs ds → DpAll K H vs ds
  | [], _, h => by cases h; exact .nil
  | d :: ds, _, h => by
    cases h with
    | cons h1 h2 => exact .cons (dh_dp d _ h1) (dh_dpAll ds _ h2)
end
section
variable {α β : Type} [DecidableEq α] [Dm α] [DecidableEq β] [Dm β]
/-- v holds x -/
def Dv (H : Hp) (v : V) (x : α) : Prop := Dh H v (Datum.toD x)
def Dvs (H : Hp) (vs : List V) (xs : List α) : Prop := DhAll H vs (xs.map Datum.toD)
theorem Dv.same {H H' : Hp} {v : V} {x : α} (h : Dv H v x) (s : Same H H') : Dv H' v x := dh_same s _ _ h
theorem Dvs.same {H H' : Hp} {vs : List V} {xs : List α} (h : Dvs H vs xs) (s : Same H H') : Dvs H' vs xs := dh_sameAll s _ _ h
theorem Dv.int {H : Hp} (i : Int) : Dv H (.int i) i := Dh.int i
theorem Dv.nat {H : Hp} (n : Nat) : Dv H (.int (n : Int)) n := Dh.int (n : Int)
theorem Dv.bl {H : Hp} (b : Bool) : Dv H (.bl b) b := Dh.bl b
theorem Dv.int_inv {H : Hp} {v : V} {i : Int} (h : Dv H v i) : v = .int i := by
  unfold Dv at h
  cases h
  rfl
theorem Dv.nat_inv {H : Hp} {v : V} {n : Nat} (h : Dv H v n) : v = .int (n : Int) := by
  unfold Dv at h
  cases h
  rfl
theorem Dvs.nil {H : Hp} : Dvs H [] ([] : List α) := DhAll.nil
theorem Dvs.cons {H : Hp} {v : V} {vs : List V} {x : α} {xs : List α} (h : Dv H v x) (hs : Dvs H vs xs) : Dvs H (v :: vs) (x :: xs) := DhAll.cons h hs
theorem Dvs.cons_inv {H : Hp} {vs : List V} {x : α} {xs : List α} (h : Dvs H vs (x :: xs)) : ∃ v us, vs = v :: us ∧ Dv H v x ∧ Dvs H us xs := by
  unfold Dvs at h
  cases h with
  | cons h1 h2 => exact ⟨_, _, rfl, h1, h2⟩
theorem Dvs.nil_inv {H : Hp} {vs : List V} (h : Dvs H vs ([] : List α)) : vs = [] := by
  unfold Dvs at h
  cases h
  rfl
theorem Dvs.app {H : Hp} : ∀ {vs us : List V} {xs ys : List α}, Dvs H vs xs → Dvs H us ys → Dvs H (vs ++ us) (xs ++ ys)
  | _, _, [], _, h, g => by rw [h.nil_inv]; exact g
  | _, _, _ :: _, _, h, g => by
    obtain ⟨v, us, rfl, h1, h2⟩ := h.cons_inv
    exact .cons h1 (h2.app g)
theorem Dvs.len {H : Hp} : ∀ {vs : List V} {xs : List α}, Dvs H vs xs → vs.length = xs.length
  | _, [], h => by rw [h.nil_inv]; rfl
  | _, _ :: _, h => by
    obtain ⟨v, us, rfl, h1, h2⟩ := h.cons_inv
    rw [List.length_cons, List.length_cons, h2.len]
theorem Dvs.get {H : Hp} : ∀ {vs : List V} {xs : List α} {i : Nat} {x : α}, Dvs H vs xs → xs[i]? = some x → ∃ v, vs[i]? = some v ∧ Dv H v x
  | _, [], i, _, h, e => by simp at e
  | _, _ :: _, 0, _, h, e => by
    obtain ⟨v, us, rfl, h1, h2⟩ := h.cons_inv
    cases e
    exact ⟨_, rfl, h1⟩
  | _, _ :: _, i + 1, _, h, e => by
    obtain ⟨v, us, rfl, h1, h2⟩ := h.cons_inv
    exact h2.get (i := i) e
theorem Dvs.at {H : Hp} {vs : List V} {xs : List α} {i : Nat} {v : V} (h : Dvs H vs xs) (e : vs[i]? = some v) : ∃ x, xs[i]? = some x ∧ Dv H v x := by
  have hi : i < xs.length := by
    rw [← h.len]
    exact (List.getElem?_eq_some_iff.mp e).1
  obtain ⟨u, e2, d⟩ := h.get (List.getElem?_eq_getElem hi)
  rw [e] at e2
  cases e2
  exact ⟨_, List.getElem?_eq_getElem hi, d⟩
theorem Dv.list {H : Hp} {a : Addr} {vs : List V} {xs : List α} (h : H a = some (.lst vs)) (hs : Dvs H vs xs) : Dv H (.ref a) xs := Dh.lst h hs
theorem Dv.list_inv {H : Hp} {v : V} {xs : List α} (h : Dv H v xs) : ∃ a vs, v = .ref a ∧ H a = some (.lst vs) ∧ Dvs H vs xs := by
  unfold Dv at h
  cases h with
  | lst h1 h2 => exact ⟨_, _, rfl, h1, h2⟩
theorem Dv.pair {H : Hp} {a : Addr} {u v : V} {x : α} {y : β} (h : H a = some (.tup [u, v])) (h1 : Dv H u x) (h2 : Dv H v y) : Dv H (.ref a) (x, y) := Dh.tup h (.cons h1 (.cons h2 .nil))
theorem Dv.pair_inv {H : Hp} {v : V} {p : α × β} (h : Dv H v p) : ∃ a u w, v = .ref a ∧ H a = some (.tup [u, w]) ∧ Dv H u p.1 ∧ Dv H w p.2 := by
  unfold Dv at h
  cases h with
  | tup h1 h2 =>
    cases h2 with
    | cons h3 h4 =>
      cases h4 with
      | cons h5 h6 =>
        cases h6
        exact ⟨_, _, _, rfl, h1, h3, h5⟩
abbrev vi (xs : List Int) : List V := xs.map V.int
abbrev vn (xs : List Nat) : List V := xs.map (fun (b : Nat) => V.int (b : Int))
theorem vn_len (xs : List Nat) : (vn xs).length = xs.length := List.length_map _
theorem vn_get {xs : List Nat} {i n : Nat} (h : xs[i]? = some n) : (vn xs)[i]? = some (.int (n : Int)) := by
  rw [List.getElem?_map, h]
  rfl
theorem Dvs.ints_inv {H : Hp} : ∀ {vs : List V} {xs : List Int}, Dvs H vs xs → vs = vi xs
  | _, [], h => h.nil_inv
  | _, _ :: _, h => by
    obtain ⟨v, us, rfl, h1, h2⟩ := h.cons_inv
    rw [h1.int_inv, h2.ints_inv]
    rfl
theorem Dvs.nats_inv {H : Hp} : ∀ {vs : List V} {xs : List Nat}, Dvs H vs xs → vs = vn xs
  | _, [], h => h.nil_inv
  | _, _ :: _, h => by
    obtain ⟨v, us, rfl, h1, h2⟩ := h.cons_inv
    rw [h1.nat_inv, h2.nats_inv]
    rfl
theorem Dvs.ints {H : Hp} : ∀ xs : List Int, Dvs H (vi xs) xs
  | [] => .nil
  | x :: r => .cons (.int x) (Dvs.ints r)
theorem Dvs.nats {H : Hp} : ∀ xs : List Nat, Dvs H (vn xs) xs
  | [] => .nil
  | x :: r => .cons (.nat x) (Dvs.nats r)
theorem Dvs.bls {H : Hp} : ∀ xs : List Bool, Dvs H (xs.map V.bl) xs
  | [] => .nil
  | x :: r => .cons (.bl x) (Dvs.bls r)
/-- a list of whole numbers from 0 on -/
theorem Dv.natl {H : Hp} {a : Addr} {xs : List Nat} (h : H a = some (.lst (vn xs))) : Dv H (.ref a) xs := .list h (Dvs.nats xs)
theorem Dv.natl_inv {H : Hp} {v : V} {xs : List Nat} (h : Dv H v xs) : ∃ a, v = .ref a ∧ H a = some (.lst (vn xs)) := by
  obtain ⟨a, vs, rfl, h1, h2⟩ := h.list_inv
  rw [h2.nats_inv] at h1
  exact ⟨a, rfl, h1⟩
theorem Dv.intl {H : Hp} {a : Addr} {xs : List Int} (h : H a = some (.lst (vi xs))) : Dv H (.ref a) xs := .list h (Dvs.ints xs)
theorem Dv.intl_inv {H : Hp} {v : V} {xs : List Int} (h : Dv H v xs) : ∃ a, v = .ref a ∧ H a = some (.lst (vi xs)) := by
  obtain ⟨a, vs, rfl, h1, h2⟩ := h.list_inv
  rw [h2.ints_inv] at h1
  exact ⟨a, rfl, h1⟩
theorem shaped_of (x : α) (hd : Datum.depth α ≤ 64) : SeqAt.shaped (Datum.toD x) = true := by
  unfold SeqAt.shaped
  rw [Dm.lay x, Bool.true_and]
  exact decide_eq_true (Nat.le_trans (Datum.depth_le x) hd)
theorem eqD {K : PySem.W.Frag} {H : Hp} {x y : V} {Q : VK} {a b : α} (hx : Dv H x a) (hy : Dv H y b) (hd : Datum.depth α ≤ 64) (q : Q (.bl (decide (a = b))) H) : rEqD K x y H Q := by
  refine ⟨_, _, dh_dp _ _ hx, dh_dp _ _ hy, shaped_of a hd, shaped_of b hd, ?_⟩
  rw [Datum.eqv]
  exact q
theorem neD {K : PySem.W.Frag} {H : Hp} {x y : V} {Q : VK} {a b : α} (hx : Dv H x a) (hy : Dv H y b) (hd : Datum.depth α ≤ 64) (q : Q (.bl (!decide (a = b))) H) : rNeD K x y H Q := by
  refine ⟨_, _, dh_dp _ _ hx, dh_dp _ _ hy, shaped_of a hd, shaped_of b hd, ?_⟩
  rw [Datum.eqv]
  exact q
end
/-! ### the heap but for two objects that change -/
def res (p c : Addr) (H : Hp) : Hp := fun b => if b = p ∨ b = c then none else H b
theorem res_eq {p c b : Addr} {H : Hp} (h1 : b ≠ p) (h2 : b ≠ c) : res p c H b = H b := if_neg (fun h => h.elim h1 h2)
theorem res_some {p c b : Addr} {H : Hp} {o : HO} (h : res p c H b = some o) : b ≠ p ∧ b ≠ c ∧ H b = some o := by
  unfold res at h
  by_cases e : b = p ∨ b = c
  · rw [if_pos e] at h
    cases h
  · rw [if_neg e] at h
    exact ⟨fun z => e (.inl z), fun z => e (.inr z), h⟩
theorem res_same (p c : Addr) (H : Hp) : Same (res p c H) H := fun _ _ h => (res_some h).2.2
theorem Same.res {H H' : Hp} (s : Same H H') (p c : Addr) : Same (res p c H) (res p c H') := fun b o h => by
  obtain ⟨h1, h2, h3⟩ := res_some h
  rw [res_eq h1 h2]
  exact s _ _ h3
theorem res_of {p c b : Addr} {H : Hp} {o : HO} (h1 : b ≠ p) (h2 : b ≠ c) (h : H b = some o) : res p c H b = some o := by
  rw [res_eq h1 h2]
  exact h
/-- the heap but for one object -/
def hid (q : Addr) (H : Hp) : Hp := fun b => if b = q then none else H b
theorem hid_eq {q b : Addr} {H : Hp} (h : b ≠ q) : hid q H b = H b := if_neg h
theorem hid_some {q b : Addr} {H : Hp} {o : HO} (h : hid q H b = some o) : b ≠ q ∧ H b = some o := by
  unfold hid at h
  by_cases e : b = q
  · rw [if_pos e] at h
    cases h
  · rw [if_neg e] at h
    exact ⟨e, h⟩
theorem hid_of {q b : Addr} {H : Hp} {o : HO} (h : b ≠ q) (e : H b = some o) : hid q H b = some o := by
  rw [hid_eq h]
  exact e
theorem hid_same (q : Addr) (H : Hp) : Same (hid q H) H := fun _ _ h => (hid_some h).2
theorem hid_mono {q : Addr} {H H' : Hp} (s : Same H H') : Same (hid q H) (hid q H') := fun b o h => by
  obtain ⟨h1, h2⟩ := hid_some h
  exact hid_of h1 (s _ _ h2)
theorem hid_mut {q : Addr} {H : Hp} {o : HO} : Same (hid q H) (hid q (upd H q o)) := fun b u h => by
  obtain ⟨h1, h2⟩ := hid_some h
  exact hid_of h1 (by rw [upd_ne h1]; exact h2)
theorem hid_res_mut {p c q : Addr} {H : Hp} {o : HO} : Same (hid q (res p c H)) (hid q (res p c (upd H q o))) := fun b u h => by
  obtain ⟨h1, h2⟩ := hid_some h
  obtain ⟨h3, h4, h5⟩ := res_some h2
  exact hid_of h1 (res_of h3 h4 (by rw [upd_ne h1]; exact h5))
theorem res_upd {p c q : Addr} {H : Hp} {o : HO} (h1 : q ≠ p) (h2 : q ≠ c) : res p c (upd H q o) q = some o := by
  rw [res_eq h1 h2]
  exact upd_same
theorem res_mut {p c D : Addr} {H H' : Hp} {o : HO} (e : Same (res p c H) (res p c H')) (h : H D = none) : Same (res p c H) (res p c (upd H' D o)) := fun b u hb => by
  obtain ⟨h1, h2, h3⟩ := res_some hb
  have h4 : b ≠ D := fun z => by
    rw [z, h] at h3
    cases h3
  rw [res_eq h1 h2, upd_ne h4]
  exact (res_some (e _ _ hb)).2.2
/-- the state of the draws: the script's numbers, from 0 on, and a seed -/
structure Dr (H : Hp) (p c : Addr) : Prop where
  ne : p ≠ c
  st : ∃ (cs : List Nat) (s : Int), H p = some (.lst [.ref c, .int s]) ∧ H c = some (.lst (vn cs)) ∧ cs.length ≤ 63
theorem Dr.same {H H' : Hp} {p c : Addr} (h : Dr H p c) (s : Same H H') : Dr H' p c := by
  obtain ⟨n, cs, z, h1, h2, h3⟩ := h
  exact ⟨n, cs, z, s _ _ h1, s _ _ h2, h3⟩
theorem Dr.off {H : Hp} {p c q : Addr} (h : Dr H p c) (hq : H q = none) : q ≠ p ∧ q ≠ c := by
  obtain ⟨n, cs, z, h1, h2, h3⟩ := h
  exact ⟨fun e => (by rw [e, h1] at hq; cases hq), fun e => (by rw [e, h2] at hq; cases hq)⟩
/-- from H to H' all but the state of the draws stays -/
structure Go (p c : Addr) (H H' : Hp) : Prop where
  a : Dr H p c
  b : Dr H' p c
  s : Same (res p c H) (res p c H')
theorem Go.refl {p c : Addr} {H : Hp} (h : Dr H p c) : Go p c H H := ⟨h, h, Same.refl _⟩
theorem Go.trans {p c : Addr} {H H1 H2 : Hp} (x : Go p c H H1) (y : Go p c H1 H2) : Go p c H H2 := ⟨x.a, y.b, x.s.trans y.s⟩
theorem Go.of {p c : Addr} {H H' : Hp} (h : Dr H p c) (s : Same H H') : Go p c H H' := ⟨h, h.same s, V0.Same.res s p c⟩
theorem Go.more {p c : Addr} {H H1 H2 : Hp} (x : Go p c H H1) (s : Same H1 H2) : Go p c H H2 := x.trans (Go.of x.b s)
theorem Go.mut {p c D : Addr} {H H' : Hp} {o : HO} (x : Go p c H H') (h : H D = none) : Go p c H (upd H' D o) := by
  refine ⟨x.a, ?_, res_mut x.s h⟩
  obtain ⟨h1, h2⟩ := x.a.off h
  obtain ⟨n, cs, z, e1, e2, e3⟩ := x.b
  exact ⟨n, cs, z, (by rw [upd_ne (fun e => h1 e.symm)]; exact e1), (by rw [upd_ne (fun e => h2 e.symm)]; exact e2), e3⟩
theorem Go.get {p c b : Addr} {H H' : Hp} {o : HO} (x : Go p c H H') (h1 : b ≠ p) (h2 : b ≠ c) (h : H b = some o) : H' b = some o := by
  rw [← res_eq (p := p) (c := c) (H := H) h1 h2] at h
  exact (res_some (x.s _ _ h)).2.2
/-- what was new at H and stands at H1 stands at H' -/
theorem Go.get' {p c b : Addr} {H H1 H' : Hp} {o : HO} (x : Go p c H1 H') (d : Dr H p c) (n : H b = none) (h : H1 b = some o) : H' b = some o := x.get (d.off n).1 (d.off n).2 h
theorem Go.up {p c b : Addr} {H H' : Hp} {o : HO} (x : Go p c H H') (h : res p c H b = some o) : H' b = some o := (res_some (x.s _ _ h)).2.2
theorem Go.none {p c b : Addr} {H H' : Hp} (x : Go p c H H') (h : H' b = none) : H b = none := by
  obtain ⟨h1, h2⟩ := x.b.off h
  cases e : H b with
  | none => rfl
  | some o =>
    rw [x.get h1 h2 e] at h
    cases h
theorem Dv.up {α : Type} [DecidableEq α] [Dm α] {p c : Addr} {H : Hp} {v : V} {x : α} (h : Dv (res p c H) v x) : Dv H v x := h.same (res_same p c H)
theorem Dvs.up {α : Type} [DecidableEq α] [Dm α] {p c : Addr} {H : Hp} {vs : List V} {x : List α} (h : Dvs (res p c H) vs x) : Dvs H vs x := h.same (res_same p c H)
theorem emod_range {x m : Int} (h : 0 < m) : 0 ≤ x.fmod m ∧ x.fmod m < m := by
  rw [Int.fmod_eq_emod_of_nonneg x (by omega)]
  exact ⟨Int.emod_nonneg _ (by omega), Int.emod_lt_of_pos _ h⟩
theorem ix_nat {n j : Nat} (h : j < n) : ixN n (j : Int) = some j := by
  unfold ixN
  rw [if_pos (Int.natCast_nonneg _), if_pos (by omega), Int.toNat_natCast]
/-- what is new at H' -/
def fresh (H H' : Hp) : Hp := fun b => match H b with
  | none => H' b
  | some _ => none
theorem fresh_some {H H' : Hp} {b : Addr} {o : HO} (h : fresh H H' b = some o) : H b = none ∧ H' b = some o := by
  unfold fresh at h
  cases e : H b with
  | none =>
    rw [e] at h
    exact ⟨rfl, h⟩
  | some u =>
    rw [e] at h
    cases h
theorem fresh_of {H H' : Hp} {b : Addr} {o : HO} (h : H b = none) (e : H' b = some o) : fresh H H' b = some o := by
  unfold fresh
  rw [h]
  exact e
theorem fresh_same {H H' : Hp} : Same (fresh H H') H' := fun _ _ h => (fresh_some h).2
theorem fresh_pre {H H1 H' : Hp} (s : Same H H1) : Same (fresh H1 H') (fresh H H') := fun b o h => by
  obtain ⟨h1, h2⟩ := fresh_some h
  refine fresh_of ?_ h2
  cases e : H b with
  | none => rfl
  | some u =>
    rw [s _ _ e] at h1
    cases h1
theorem fresh_post {H H' H2 : Hp} (s : Same H' H2) : Same (fresh H H') (fresh H H2) := fun b o h => by
  obtain ⟨h1, h2⟩ := fresh_some h
  exact fresh_of h1 (s _ _ h2)
theorem fresh_hid {H H' : Hp} {q : Addr} {o : HO} (h : H q = some o) : Same (fresh H H') (hid q H') := fun b u e => by
  obtain ⟨h1, h2⟩ := fresh_some e
  refine hid_of (fun z => ?_) h2
  rw [z, h] at h1
  cases h1
/-- new at H', as H goes to H' by growth -/
theorem none_of {H H' : Hp} {b : Addr} (s : Same H H') (h : H' b = none) : H b = none := by
  cases e : H b with
  | none => rfl
  | some u =>
    rw [s _ _ e] at h
    cases h
theorem upd_id {H : Hp} {a : Addr} {o : HO} (h : H a = some o) : upd H a o = H := funext fun b => by
  by_cases e : b = a
  · rw [e, upd_same, h]
  · rw [upd_ne e]
theorem small64k {n : Nat} (h : n ≤ 65536) : n < sizeLine := Nat.lt_of_le_of_lt h (by decide)
theorem fresh_res {p c : Addr} {H H' : Hp} (d : Dr H p c) : Same (fresh H H') (res p c H') := fun b o h => by
  obtain ⟨h1, h2⟩ := fresh_some h
  obtain ⟨h3, h4⟩ := d.off h1
  exact res_of h3 h4 h2
end V0
/-! nets as data, and what the laws make of them -/
namespace V0
open PySem PySem.Spec PyProof.Rows L2
open PySem.W (Datum)
structure Net where
  ins : Nat
  starts : List Nat
  gates : List (Nat × Nat)
  nexts : List Nat
  outs : List Nat
  deriving DecidableEq
theorem eqv_net (a b : Str) : PyData.eqv (.str a) (.str b) = decide (a = b) := by
  simp only [PyData.eqv]
  exact PySem.W.beq_decide a b
instance : Datum Net where
  toD n := .tuple [.str "net", Datum.toD n.ins, Datum.toD n.starts, Datum.toD n.gates, Datum.toD n.nexts, Datum.toD n.outs]
  plain n := by simp only [PyData.plain, PyData.plainAll, Datum.plain, Bool.and_self]
  eqv a b := by
    simp only [PyData.eqv, PyData.eqvAll, Datum.eqv, Bool.and_true]
    rw [PySem.W.beq_decide, ← Bool.decide_and, ← Bool.decide_and, ← Bool.decide_and, ← Bool.decide_and, ← Bool.decide_and]
    refine decide_eq_decide.mpr ⟨fun ⟨_, h1, h2, h3, h4, h5⟩ => ?_, fun e => by rw [e]; exact ⟨rfl, rfl, rfl, rfl, rfl, rfl⟩⟩
    cases a
    cases b
    simp only at h1 h2 h3 h4 h5
    rw [h1, h2, h3, h4, h5]
  depth := 3
  depth_le n := by
    have h1 := Datum.depth_le n.ins
    have h2 := Datum.depth_le n.starts
    have h3 := Datum.depth_le n.gates
    have h4 := Datum.depth_le n.nexts
    have h5 := Datum.depth_le n.outs
    have e1 : Datum.depth Nat = 0 := rfl
    have e2 : Datum.depth (List Nat) = 1 := rfl
    have e3 : Datum.depth (List (Nat × Nat)) = 2 := rfl
    rw [e1] at h1
    rw [e2] at h2 h4 h5
    rw [e3] at h3
    simp only [PyData.depth, PyData.depthAll]
    omega
instance : Dm Net where
  lay n := by
    have h1 := Dm.lay n.ins
    have h2 := Dm.lay n.starts
    have h3 := Dm.lay n.gates
    have h4 := Dm.lay n.nexts
    have h5 := Dm.lay n.outs
    simp only [Datum.toD] at h1 h2 h3 h4 h5 ⊢
    simp only [PyData.canLay0, PyData.canLayAll0, Bool.and_true] at h1 h2 h3 h4 h5 ⊢
    rw [h2, h3, h4, h5]
    decide +kernel
section
theorem Dv.net_inv {H : Hp} {v : V} {n : Net} (h : Dv H v n) : ∃ a s g x o, v = .ref a ∧ H a = some (.tup [.str "net", .int (n.ins : Int), .ref s, .ref g, .ref x, .ref o]) ∧
    Dv H (.ref s) n.starts ∧ Dv H (.ref g) n.gates ∧ Dv H (.ref x) n.nexts ∧ Dv H (.ref o) n.outs := by
  unfold Dv at h
  cases h with
  | tup h1 h2 =>
    cases h2 with
    | cons a1 h2 =>
      cases h2 with
      | cons a2 h2 =>
        cases h2 with
        | cons a3 h2 =>
          cases h2 with
          | cons a4 h2 =>
            cases h2 with
            | cons a5 h2 =>
              cases h2 with
              | cons a6 h2 =>
                cases h2
                cases a1
                have e2 := Dv.nat_inv (n := n.ins) a2
                subst e2
                obtain ⟨s, _, rfl, _⟩ := Dv.list_inv (xs := n.starts) a3
                obtain ⟨g, _, rfl, _⟩ := Dv.list_inv (xs := n.gates) a4
                obtain ⟨x, _, rfl, _⟩ := Dv.list_inv (xs := n.nexts) a5
                obtain ⟨o, _, rfl, _⟩ := Dv.list_inv (xs := n.outs) a6
                exact ⟨_, _, _, _, _, rfl, h1, a3, a4, a5, a6⟩
theorem Dv.net {H : Hp} {a : Addr} {n : Net} {s g x o : V} (h : H a = some (.tup [.str "net", .int (n.ins : Int), s, g, x, o])) (h1 : Dv H s n.starts) (h2 : Dv H g n.gates) (h3 : Dv H x n.nexts) (h4 : Dv H o n.outs) : Dv H (.ref a) n :=
  Dh.tup h (.cons (.str _) (.cons (.int _) (.cons h1 (.cons h2 (.cons h3 (.cons h4 .nil))))))
end
/-- how many nodes there are behind the inputs and flops -/
def Net.base (n : Net) : Nat := 1 + n.ins + n.starts.length
def Net.many (n : Net) : Nat := n.base + n.gates.length
structure Net.Ok (n : Net) (ins flops most : Nat) : Prop where
  ins : n.ins ≤ ins
  fl : n.starts.length ≤ flops
  bits : ∀ b ∈ n.starts, b < 2
  most : n.gates.length ≤ most
  g : ∀ j g, n.gates[j]? = some g → g.1 < 2 * (n.base + j) ∧ g.2 < 2 * (n.base + j)
  nl : n.nexts.length = n.starts.length
  nx : ∀ x ∈ n.nexts, x < 2 * n.many
  ol : n.outs.length ≤ 3
  ox : ∀ x ∈ n.outs, x < 2 * n.many
/-- a literal's bit in a row of values -/
def bitv (row : List Nat) (l : Nat) : Nat := (row[l / 2]?.getD 0) ^^^ (l % 2)
def rowOf (gs : List (Nat × Nat)) (row : List Nat) : List Nat := gs.foldl (fun r g => r ++ [bitv r g.1 * bitv r g.2]) row
def Net.row (n : Net) (held bits : List Nat) : List Nat := rowOf n.gates (0 :: bits ++ held)
theorem rowOf_len (gs : List (Nat × Nat)) (r : List Nat) : (rowOf gs r).length = r.length + gs.length := by
  induction gs generalizing r with
  | nil => rfl
  | cons g gs ih =>
    show (rowOf gs _).length = _
    rw [ih, List.length_append, List.length_cons, List.length_cons, List.length_nil]
    omega
theorem rowOf_snoc (gs : List (Nat × Nat)) (g : Nat × Nat) (r : List Nat) : rowOf (gs ++ [g]) r = rowOf gs r ++ [bitv (rowOf gs r) g.1 * bitv (rowOf gs r) g.2] := by
  unfold rowOf
  rw [List.foldl_append]
  rfl
theorem bitv_lt {row : List Nat} (h : ∀ b ∈ row, b < 2) (l : Nat) : bitv row l < 2 := by
  have h1 : row[l / 2]?.getD 0 < 2 := by
    cases e : row[l / 2]? with
    | none => decide
    | some x => exact h x (List.mem_of_getElem? e)
  exact Nat.xor_lt_two_pow (n := 1) h1 (Nat.mod_lt _ (by decide))
theorem mul_lt2 {a b : Nat} (ha : a < 2) (hb : b < 2) : a * b < 2 := by
  have : a = 0 ∨ a = 1 := by omega
  rcases this with rfl | rfl <;> omega
theorem rowOf_lt {gs : List (Nat × Nat)} {r : List Nat} (h : ∀ b ∈ r, b < 2) : ∀ b ∈ rowOf gs r, b < 2 := by
  induction gs generalizing r with
  | nil => exact h
  | cons g gs ih =>
    refine ih (r := r ++ [_]) fun b hb => ?_
    rcases List.mem_append.mp hb with hb | hb
    · exact h b hb
    · rw [List.mem_singleton.mp hb]
      exact mul_lt2 (bitv_lt h _) (bitv_lt h _)
theorem take_snoc {α : Type} {xs : List α} {i : Nat} {x : α} (h : xs[i]? = some x) : xs.take (i + 1) = xs.take i ++ [x] := by
  rw [List.take_add_one, h]
  rfl
theorem get_snoc {α : Type} {xs : List α} {x y : α} {k : Nat} (h : (xs ++ [x])[k]? = some y) : (k < xs.length ∧ xs[k]? = some y) ∨ (k = xs.length ∧ y = x) := by
  by_cases hk : k < xs.length
  · rw [List.getElem?_append_left hk] at h
    exact .inl ⟨hk, h⟩
  · rw [List.getElem?_append_right (by omega)] at h
    have e : k - xs.length = 0 := by
      cases e : k - xs.length with
      | zero => rfl
      | succ j =>
        rw [e] at h
        simp at h
    rw [e] at h
    cases h
    exact .inr ⟨by omega, rfl⟩
theorem mem_snoc {α : Type} {P : α → Prop} {xs : List α} {x : α} (h : ∀ y ∈ xs, P y) (hx : P x) : ∀ y ∈ xs ++ [x], P y := by
  intro y hy
  rcases List.mem_append.mp hy with hy | hy
  · exact h y hy
  · rw [List.mem_singleton.mp hy]
    exact hx
theorem vn_snoc (xs : List Nat) (x : Nat) : vn xs ++ [V.int (x : Int)] = vn (xs ++ [x]) := by
  unfold vn
  rw [List.map_append]
  rfl
theorem cut_nn (xs : List Nat) {a b : Nat} (h1 : a ≤ b) (h2 : b ≤ xs.length) : cutV (vn xs) (some (a : Int)) (some (b : Int)) = vn ((xs.drop a).take (b - a)) := by
  unfold cutV
  rw [HT.sIx_nat, HT.sIx_nat, vn_len, Nat.min_eq_left h2, Nat.min_eq_left (Nat.le_trans h1 h2)]
  unfold vn
  rw [← List.map_drop, ← List.map_take]
theorem set_vn (xs : List Nat) (i x : Nat) : (vn xs).set i (.int (x : Int)) = vn (xs.set i x) := by
  unfold vn
  rw [List.map_set]
theorem mem_set {α : Type} {P : α → Prop} {xs : List α} {i : Nat} {x : α} (h : ∀ y ∈ xs, P y) (hx : P x) : ∀ y ∈ xs.set i x, P y := by
  intro y hy
  rcases List.mem_or_eq_of_mem_set hy with hy | rfl
  · exact h y hy
  · exact hx
theorem dec_bool (a b : Bool) : decide (V.bl a = V.bl b) = decide (a = b) := by rw [Bool.eq_iff_iff]; simp
theorem dec_int (a b : Int) : decide (V.int a = V.int b) = decide (a = b) := by rw [Bool.eq_iff_iff]; simp
theorem dec_nat (a b : Nat) : decide (V.int (a : Int) = V.int (b : Int)) = decide (a = b) := by
  rw [dec_int]
  exact decide_eq_decide.mpr ⟨fun e => by omega, fun e => by rw [e]⟩
theorem dec_one (a : Nat) : decide (V.int (a : Int) = V.int 1) = decide (a = 1) := dec_nat a 1
theorem flat_vn : ∀ xs : List Nat, (vn xs).all flatV = true
  | [] => rfl
  | y :: r => by
    show (true && (vn r).all flatV) = true
    rw [flat_vn r]
    rfl
theorem inV_vn (c : Nat) : ∀ xs : List Nat, inV (.int (c : Int)) (vn xs) = decide (c ∈ xs)
  | [] => by rfl
  | y :: r => by
    have ih := inV_vn c r
    show (eqV (.int (y : Int)) (.int (c : Int)) || inV (.int (c : Int)) (vn r)) = _
    rw [ih]
    show (((y : Int) == (c : Int)) || decide (c ∈ r)) = _
    by_cases h : c ∈ r
    · rw [decide_eq_true h, Bool.or_true, decide_eq_true (List.mem_cons_of_mem _ h)]
    · by_cases e : y = c
      · subst e
        rw [beq_self_eq_true, Bool.true_or, decide_eq_true List.mem_cons_self]
      · rw [beq_eq_false_iff_ne.mpr (fun z => e (by omega)), decide_eq_false h, Bool.or_false, decide_eq_false (fun m => ?_)]
        rcases List.mem_cons.mp m with m | m
        · exact e m.symm
        · exact h m
theorem bxor (a b : Nat) : Builtin.bitXor (a : Int) (b : Int) = ((a ^^^ b : Nat) : Int) := by
  rw [Bits.bitXor_pp (Int.natCast_nonneg _) (Int.natCast_nonneg _), Int.toNat_natCast, Int.toNat_natCast]
theorem fdiv_nat (a b : Nat) : ((a : Int)).fdiv (b : Int) = ((a / b : Nat) : Int) := by
  rw [Int.fdiv_eq_ediv_of_nonneg _ (by omega)]
  rfl
theorem fmod_nat (a b : Nat) : ((a : Int)).fmod (b : Int) = ((a % b : Nat) : Int) := by
  rw [Int.fmod_eq_emod_of_nonneg _ (by omega)]
  rfl
theorem nfdiv2 (a : Nat) : ((a : Int)).fdiv 2 = ((a / 2 : Nat) : Int) := fdiv_nat a 2
theorem nfmod2 (a : Nat) : ((a : Int)).fmod 2 = ((a % 2 : Nat) : Int) := fmod_nat a 2
end V0
/-! repr of data, where nothing is being shown; the law's call with what stands around it -/
namespace V0
open PySem PySem.Spec PyProof.Rows L2
open PySem.W (Datum)
def rRepr (K : PySem.W.Frag) : List V → Hp → VK → Prop := fun xs H Q => ∃ (a : Addr) (d : PyData), xs = [.ref a] ∧ Dp K H (.ref a) d ∧ (d.showable = true ∧ d.hasDict = false ∧ d.depth ≤ 60 ∧ d.shown.length ≤ sizeLine) ∧ Q (.str d.shown) H
theorem call_reprD {X : Cx} (hg : X.A.guards = some []) (hu : X.A.units + 64 < cLine) : CallR X (.builtin "repr") (rRepr X.K) := by
  intro pins s σ H xs us Q I r h
  obtain ⟨a, d, rfl, hd, ⟨h1, h2, h3, h4⟩, q⟩ := h
  obtain ⟨u, rfl, rx⟩ := vals1 r
  obtain ⟨as, rd⟩ := Dp.reads I d _ _ hd rx
  obtain rfl : u = Value.ref a := rx
  refine repr_of_reads' rd h1 (PyData.noDict_hsm h2) hg (by omega) (fun _ _ e => e) (fun h' t tk hk => ?_) h4
  exact ⟨.str _, H, I.kept hk, ⟨t, rfl⟩, q⟩
/-- data whose text is short -/
structure Sm (d : PyData) (n : Nat) : Prop where
  sh : d.showable = true
  lv : d.leavesShort 13 = true
  wt : d.weight ≤ n
structure SmA (ds : List PyData) (n : Nat) : Prop where
  sh : PyData.showableAll ds = true
  lv : PyData.leavesShortAll 13 ds = true
  wt : PyData.weightAll ds ≤ n
theorem Sm.mono {d : PyData} {n m : Nat} (h : Sm d n) (l : n ≤ m) : Sm d m := ⟨h.sh, h.lv, Nat.le_trans h.wt l⟩
theorem Sm.int {i : Int} (h : i.natAbs < 10 ^ 12) : Sm (.int i) 40 := by
  have hl : i.natAbs.log2 < 40 := by
    by_cases h0 : i.natAbs = 0
    · rw [h0]
      decide
    · exact (Nat.log2_lt h0).mpr (Nat.lt_trans h (by decide))
  refine ⟨?_, ?_, ?_⟩
  · simp only [PyData.showable, decide_eq_true_eq]
    omega
  · simp only [PyData.leavesShort, decide_eq_true_eq]
    exact PyData.shown_int_le h
  · simp only [PyData.weight]
    split <;> omega
theorem Sm.nat {n : Nat} (h : n < 10 ^ 12) : Sm (.int (n : Int)) 40 := Sm.int (by rw [Int.natAbs_natCast]; exact h)
theorem SmA.nil : SmA [] 0 := ⟨by simp only [PyData.showableAll], by simp only [PyData.leavesShortAll], by simp only [PyData.weightAll]; exact Nat.le_refl _⟩
theorem SmA.cons {d : PyData} {ds : List PyData} {n m : Nat} (h : Sm d n) (hs : SmA ds m) : SmA (d :: ds) (n + 1 + m) :=
  ⟨by simp only [PyData.showableAll, h.sh, hs.sh, Bool.and_self], by simp only [PyData.leavesShortAll, h.lv, hs.lv, Bool.and_self], by simp only [PyData.weightAll]; have := h.wt; have := hs.wt; omega⟩
theorem SmA.all {n : Nat} : ∀ {ds : List PyData}, (∀ d ∈ ds, Sm d n) → SmA ds (ds.length * (n + 1))
  | [], _ => by rw [List.length_nil, Nat.zero_mul]; exact SmA.nil
  | d :: ds, h => by
    have a := SmA.cons (h d List.mem_cons_self) (SmA.all (ds := ds) fun e he => h e (List.mem_cons_of_mem _ he))
    have e : (d :: ds).length * (n + 1) = n + 1 + ds.length * (n + 1) := by
      rw [List.length_cons, Nat.add_mul, Nat.one_mul]
      omega
    rw [e]
    exact a
theorem Sm.list {ds : List PyData} {n : Nat} (h : SmA ds n) : Sm (.list ds) n := ⟨by simp only [PyData.showable, h.sh], by simp only [PyData.leavesShort, h.lv], by simp only [PyData.weight]; exact h.wt⟩
theorem Sm.tup {ds : List PyData} {n : Nat} (h : SmA ds n) : Sm (.tuple ds) n := ⟨by simp only [PyData.showable, h.sh], by simp only [PyData.leavesShort, h.lv], by simp only [PyData.weight]; exact h.wt⟩
theorem Sm.bl (b : Bool) : Sm (.bool b) 0 := ⟨by simp only [PyData.showable], by simp only [PyData.leavesShort], by simp only [PyData.weight]; exact Nat.le_refl _⟩
section
variable {α : Type} [DecidableEq α] [Dm α]
theorem Sm.of_list {xs : List α} {n : Nat} (h : ∀ x ∈ xs, Sm (Datum.toD x) n) : Sm (Datum.toD xs) (xs.length * (n + 1)) := by
  have a := SmA.all (ds := xs.map Datum.toD) (n := n) fun d hd => by
    obtain ⟨x, hx, rfl⟩ := List.mem_map.mp hd
    exact h x hx
  rw [List.length_map] at a
  exact Sm.list a
theorem Sm.nats {xs : List Nat} (h : ∀ x ∈ xs, x < 10 ^ 12) : Sm (Datum.toD xs) (xs.length * 41) := Sm.of_list fun x hx => Sm.nat (h x hx)
theorem Sm.ints {xs : List Int} (h : ∀ x ∈ xs, x.natAbs < 10 ^ 12) : Sm (Datum.toD xs) (xs.length * 41) := Sm.of_list fun x hx => Sm.int (h x hx)
/-- what repr tells of x -/
def txt (x : α) : Str := (Datum.toD x).shown
theorem reprD {K : PySem.W.Frag} {H : Hp} {a : Addr} {x : α} {n : Nat} {Q : VK} (hx : Dv H (.ref a) x) (s : Sm (Datum.toD x) n) (hn : n ≤ 2 ^ 20) (hd : Datum.depth α ≤ 60) (q : Q (.str (txt x)) H) : rRepr K [.ref a] H Q :=
  ⟨a, _, rfl, dh_dp _ _ hx, ⟨s.sh, PyData.hasDict_of_canLay _ (Dm.lay x), Nat.le_trans (Datum.depth_le x) hd, PyData.shown_fits (by decide) (by decide) s.lv (Nat.le_trans s.wt hn)⟩, q⟩
theorem four (x : α) {n : Nat} (s : Sm (Datum.toD x) n) (hn : n ≤ 2 ^ 20) (hd : Datum.depth α ≤ 60) : (Datum.toD x).showable = true ∧ (Datum.toD x).hasDict = false ∧ (Datum.toD x).depth ≤ 60 ∧ (Datum.toD x).shown.length ≤ sizeLine :=
  ⟨s.sh, PyData.hasDict_of_canLay _ (Dm.lay x), Nat.le_trans (Datum.depth_le x) hd, PyData.shown_fits (by decide) (by decide) s.lv (Nat.le_trans s.wt hn)⟩
end
/-! ### the law's call -/
/-- the law's def from where a claim calls it -/
def LawOk (P : Program) (w : World) (K : PySem.W.Frag) (mg : Str → Option Value) (base : Heap) (f : Addr) (fd : FuncData) (ps : List Str) (sp : Sp) : Prop :=
  ∀ (s : Shared) (H : Hp) (args : Args) (us : List Value) (vs : List V) (Q : VK) (E : XK), Env0 P w K mg base callerA [] s H → BindsTo s fd args (ps.zip us) → Vals vs us → sp vs H Q E → codeAny (model P w) callerA (.call (.ref f) args) (CR CX0 [] P w H s Q E) s
theorem lawOk {P : Program} {w : World} {K : PySem.W.Frag} {mg : Str → Option Value} {base : Heap} {x qual : Str} {st : Stmt} {f : Addr} {fd : FuncData} {N ps : List Str} {k : Nat} {sp : Sp} (F : Fun K x qual st f fd) (S : FnScope N ps (defScope st)) (room : Room (k + 1) callerA)
    (len : ∀ vs H Q E, sp vs H Q E → vs.length = ps.length)
    (body : ∀ (cdv : Value) (A : Around) (outer : List Env) (s : Shared) (H : Hp) (vs : List V) (Q : VK) (E : XK), Room k (A.deeper (envOfC qual (defScope st) s.heap.objs.size f cdv)) → (A.deeper (envOfC qual (defScope st) s.heap.objs.size f cdv)).guards = some [] → sp vs H Q E →
      ∃ t, PSs (cxOf CX0 P w K mg base N qual (defScope st) f cdv A outer s H E).nox (defBody st) t ∧ t { nx := fun _ H' => Q .non H', rt := Q } (L2.start N vs) H) : LawOk P w K mg base f fd ps sp := by
  obtain ⟨_, _, _, _, _, _, cdv, _, _, rfl, look, cod⟩ := F.ex
  intro s H args us vs Q E env bind rel want
  have inK : K.In s.heap := env.mod.kin.keeps fun b o g => (env.bs b o g).1
  have free : s.heap.NoLimit := env.mod.nolimit.keeps fun b o g => (env.bs b o g).1
  have vis : ∀ y ∈ ps.zip us, (defScope st).names.lookup y.1 = some .local ∨ ((defScope st).names.lookup y.1 = some .cell ∧ ((cellsFrom (s.heap.objs.size + 1) (defScope st).names []).lookup y.1).isSome = true) := by
    rintro ⟨n, v⟩ hy
    exact (S.par n (List.of_mem_zip hy).1).imp id fun c => ⟨c, PySem.W.cellsFrom_some _ _ _ (.inl c)⟩
  refine codeAny_call_function room.depth (inK _ _ look) rfl S.co S.gen rfl (PySem.W.codeRec_of inK cod) (bind _ _ _ _ ?_)
  refine wpAny_newFunctionEnv_cells S.kind vis fun env1 he s1 made => ?_
  subst he
  refine ⟨free.keeps made.toInCall.keep, codeAny_func ?_⟩
  obtain ⟨t, ht, ok⟩ := body cdv callerA [] s H vs Q E (room.deeper _) rfl want
  have I := inv_start (CX := CX0) (E := E) S room.hd env (len _ _ _ _ want) rel made
  refine wpAny_mono ((ht.nox).run [] s1 (L2.start N vs) H _ I ok) (fun fl s' told => ?_) fun e s' told => told
  cases fl with
  | next =>
    obtain ⟨_, H', J, done⟩ := told
    exact ⟨.non, H', J.os, J.bare, J.base, J.hok, rfl, done⟩
  | ret u =>
    obtain ⟨v, _, H', J, rv, done⟩ := told
    exact ⟨v, H', J.os, J.bare, J.base, J.hok, rv, done⟩
  | brk => exact told.elim fun _ h => h.elim fun _ h => h.2.elim
  | cont => exact told.elim fun _ h => h.elim fun _ h => h.2.elim
theorem law_at {P : Program} {w : World} {K : PySem.W.Frag} {mg mb : Str → Option Value} {f a : Addr} {fd : FuncData} {x : Str} {sp : Sp} {s : Shared} {us : List Value} {ns : List Int}
    (kin : K.In s.heap) (glob : s.heap.Ns mainGlobals mg) (blt : s.heap.Ns builtinsNs mb) (same : ∀ y : Str, y ≠ "__name__" → mb y = bootBuiltins y) (free : s.heap.NoLimit) (gens : s.gens = #[])
    (script : s.heap.get? a = some { cls := .type "list", data := .seq us.toArray }) (whole : IntsAre us ns) (few : ns.length ≤ sizeLine)
    (F : ∀ base : Heap, K.In base → base.Ns mainGlobals mg → LawOk P w K mg base f fd [x] sp) (binds : ∀ (t : Shared) (u : Value), BindsTo t fd ⟨[u], []⟩ [(x, u)])
    (want : ∀ H : Hp, Only H → SqL K H a (ns.map V.int) → sp [.ref a] H (fun v _ => v = .bl true) fun _ _ _ => False) :
    codeAny (model P w) callerA (.call (.ref f) ⟨[.ref a], []⟩) (fun r t => r = .ok (.ret (.bool true)) ∧ OldK s.heap t.heap ∧ t.os = s.os ∧ AllBare t.gens) s := by
  have rel := vals_ints whole
  have long := whole.length
  -- what is tracked at the start: the script, if it is not one of the module's own objects
  obtain ⟨H, only, seq, fits, dom, own⟩ : ∃ H : Hp, Only H ∧ SqL K H a (ns.map V.int) ∧ HOk P w H s.heap ∧ (∀ b o, H b = some o → b = a) ∧ (∀ o, H a = some o → K.lookup a = none) := by
    cases kl : K.lookup a with
    | some o =>
      have g := kin a o kl
      rw [script] at g
      cases g
      refine ⟨fun _ => none, fun _ => .inl rfl, .inr ⟨_, us.toArray, _, kl, rfl, rfl, rfl, ?_, ?_⟩, ?_, ?_, ?_⟩
      · rw [List.size_toArray, long]
        exact few
      · rw [List.toList_toArray]
        exact rel
      · intro b u z
        cases z
      · intro b u z
        cases z
      · intro u z
        cases z
    | none =>
      let fz : HO := .frz { cls := .type "list", data := .seq us.toArray } (.lst (ns.map V.int))
      have at_a : (fun b => if b = a then some fz else none : Hp) a = some fz := if_pos rfl
      have off_a : ∀ {b : Addr}, b ≠ a → (fun b => if b = a then some fz else none : Hp) b = none := fun h => if_neg h
      refine ⟨fun b => if b = a then some fz else none, fun b => ?_, .inl (.inr ⟨_, at_a⟩), fun b u z => ?_, fun b u z => ?_, fun _ _ => rfl⟩
      · by_cases e : b = a
        · subst e
          exact .inr ⟨_, _, at_a⟩
        · exact .inl (off_a e)
      · by_cases e : b = a
        · subst e
          rw [at_a] at z
          cases z
          refine ⟨script, ?_, us, _, rel, script⟩
          rw [List.length_map]
          exact few
        · rw [off_a e] at z
          cases z
      · by_cases e : b = a
        · exact e
        · rw [off_a e] at z
          cases z
  have under : ∀ {b : Addr} {o : Obj}, s.heap.get? b = some o → H b = none → (hidT s.heap H).get? b = some o := fun g n => hidT_get g n
  have dicts : ∀ {b : Addr} {m : Str → Option Value}, s.heap.Ns b m → (hidT s.heap H).Ns b m := by
    rintro b m ⟨o, es, ep, g, d, r⟩
    refine ⟨o, es, ep, under g ?_, d, r⟩
    cases hb : H b with
    | none => rfl
    | some u =>
      obtain rfl := dom b u hb
      rw [script] at g
      cases g
      cases d
  have kinB : K.In (hidT s.heap H) := by
    intro b o kl
    refine under (kin b o kl) ?_
    cases hb : H b with
    | none => rfl
    | some u =>
      obtain rfl := dom b u hb
      rw [own u hb] at kl
      cases kl
  have modB : Mod K mg (hidT s.heap H) := by
    refine ⟨kinB, dicts glob, ⟨mb, dicts blt, same⟩, ?_⟩
    obtain ⟨mc, z1, z2⟩ := free
    exact ⟨mc, dicts z1, z2⟩
  have env : Env0 P w K mg (hidT s.heap H) callerA [] s H :=
    ⟨rfl, modB, fun b o g => of_hidT g, Nat.le_of_eq (hidT_size _ _), trivial, fun b hb => (by cases hb), fits, .of_eq gens⟩
  refine codeAny_mono (F _ kinB (dicts glob) s H ⟨[.ref a], []⟩ [.ref a] [.ref a] _ _ env (binds s (.ref a)) (.cons rfl .nil) (want H only seq)) fun r t told => ?_
  match r, told with
  | .error e, told => exact told.elim
  | .ok .next, told => exact told.elim
  | .ok .brk, told => exact told.elim
  | .ok .cont, told => exact told.elim
  | .ok (.ret u), ⟨v, H', os, bare, un, fits', rv, yes⟩ =>
    have yes' : v = .bl true := yes
    subst yes'
    have eu : u = Value.bool true := rv
    subst eu
    refine ⟨rfl, OldK.of_keep fun b o g => ?_, os, bare⟩
    cases hb : H b with
    | none => exact un.keep b o g hb (fun z => (by cases z)) (by simp)
    | some u2 =>
      rcases only b with z | ⟨ob, xs, z⟩
      · rw [z] at hb
        cases hb
      · obtain ⟨e1, _⟩ := fits b _ z
        obtain ⟨e2, _⟩ := fits' b _ (un.frzs b ob _ z)
        rw [g] at e1
        cases e1
        exact e2
/-- the goal that k_head leaves, where the law's promise is LawOk -/
theorem walk_at {l : PySem.W.OpenLaw} {n : Nat} {q : Program} {loose : List Str} {XP : (Str → Option Value) → Heap → Prop} {YP : World → Heap → Prop} {d : DefRec} {K : Params → PySem.W.Frag} {sp : PySem.W.Frag → Sp} {x : Str}
    (hn : l.most = some n) (hs : n ≤ sizeLine) (plain : d.params.defaults = []) (hY : ∀ (w : World) (h : Heap), YP w h → (K w.params).In h)
    (F : ∀ (w : World) (mg : Str → Option Value) (f : Addr) (h : Heap), (K w.params).In h → h.Ns mainGlobals mg → mg d.name = some (.ref f) →
      ∃ fd : FuncData, (∀ (s : Shared) (u : Value), BindsTo s fd ⟨[u], []⟩ [(x, u)]) ∧ ∀ base : Heap, (K w.params).In base → base.Ns mainGlobals mg → LawOk l.prog w (K w.params) mg base f fd [x] (sp (K w.params)))
    (want : ∀ (K : PySem.W.Frag) (H : Hp) (a : Addr) (ns : List Int), ns.length ≤ n → Only H → SqL K H a (ns.map V.int) → sp K [.ref a] H (fun v _ => v = .bl true) fun _ _ _ => False) :
    PySem.W.WalkO q loose XP YP l.row.toRowW d [] (fun f vs => PySem.call f vs) := by
  refine Att.attach_call hn plain fun w _ s1 mg mb f _ _ _ _ a us ns G Y _ _ _ named obj whole few gens => ?_
  have kin := hY w _ Y
  obtain ⟨fd, binds, told⟩ := F w mg f _ kin G.T.g named
  exact law_at kin G.T.g G.T.b G.T.builtins G.T.nolimit gens obj whole (Nat.le_trans few hs) told binds fun H only seq => want _ H a ns few only seq
end V0
/-! set(xs) of a list of whole numbers, and len of such a set -/
namespace V0
open PySem PySem.Spec PyProof.Rows L2
/-- the set that set.__new__ leaves -/
def bare (w : World) : Obj := { cls := .type "set", dict := none, data := .set #[] 0 (.fresh 0 0 (!w.params.followText "set-order")) }
section
variable {P : Program} {w : World} {A : Around} {E : Value → Shared → Prop} {s : Shared}
/-- what set.__init__ does with a list of ints -/
theorem set_filled {l : Addr} {arr : Array Value} {xs : List Int} {R : Value → Shared → Prop} (calm : A.handled = none) (lst : s.heap.IsList l arr) (num : IntsAre arr.toList xs) (few : xs.length + 1 < scanBound)
    (told : ∀ (h' : Heap) (tk c : Nat), SetR w h' s.heap.objs.size (fun j => decide (j ∈ xs)) c → c ≤ xs.length → (∀ b o, s.heap.get? b = some o → h'.get? b = some o) → R .none { s with heap := h', toks := tk }) :
    codeAny (model P w) A (.call (.builtin "set.__init__") ⟨[.ref s.heap.objs.size, .ref l], []⟩) (wants R E) { s with heap := s.heap.push (bare w) } := by
  have own : (s.heap.push (bare w)).get? s.heap.objs.size = some (bare w) := Heap.get?_push_size _ rfl
  have kind : Shared.TypeIs { s with heap := s.heap.push (bare w) } (.ref s.heap.objs.size) "set" := ⟨_, own, rfl⟩
  have many : arr.size = xs.length := by rw [← Array.length_toList, IntsAre.length num]
  refine codeAny_call_builtin F.called_set.init.plain F.entry_set_init (check_set_init_1 kind ?_)
  obtain ⟨⟨cl, od, dat, sl⟩, at_l, is_l, nn, is_d⟩ := lst
  dsimp only at is_l is_d
  subst is_l is_d
  have below := Heap.lt_size at_l
  have at_l1 : (s.heap.push (bare w)).get? l = some ⟨.type "list", od, .seq arr nn, sl⟩ := Heap.get?_push_of_some _ at_l
  have lst1 : (s.heap.push (bare w)).IsList l arr := ⟨_, at_l1, rfl, nn, rfl⟩
  have no1 := F.sub_list_set
  have no2 := F.sub_list_frozenset
  have no3 : (Value.type "list" == Value.type "dict") = false := by decide
  unfold Builtin.«set.__init__» noKeywords Builtin.Frozenset.updateFrom
  generalize walker : pyIter = PI
  wp_walk
  subst walker
  refine wpAny_pyIter_list lst1 (wpAny_bind (wpAny_runValue ?_))
  have size1 : (s.heap.push (bare w)).objs.size = s.heap.objs.size + 1 := Heap.size_push ..
  have ne1 : l ≠ (s.heap.push (bare w)).objs.size := size1 ▸ Nat.ne_of_lt (Nat.lt_succ_of_lt below)
  have calm3 : A.in1.in1.handled = none := by simp [calm]
  have out : s.heap.objs.size ∉ [(s.heap.push (bare w)).objs.size, l] := by
    intro hm
    rcases List.mem_cons.mp hm with e | hm
    · rw [size1] at e
      exact Nat.ne_of_lt (Nat.lt_succ_self _) e
    · exact Nat.ne_of_lt below (List.mem_singleton.mp hm).symm
  have each : ∀ (i : Nat) (v : Value), arr[i]? = some v → ∃ k t, xs[i]? = some k ∧ v = .int k t := by
    intro i v hv
    have hi : i < xs.length := many ▸ (Array.getElem?_eq_some_iff.mp hv).1
    obtain ⟨t, e⟩ := PyProof.Rows.IntsAre.int_at num i v ((Array.getElem?_toList ..).trans hv)
    refine ⟨xs[i], t, List.getElem?_eq_getElem hi, ?_⟩
    rw [e, List.getD_eq_getElem?_getD, List.getElem?_eq_getElem hi]
    rfl
  refine set_update_ints ((Walks.list calm3 _ l ne1 arr).toS) s.heap.objs.size out xs many few each (arr.size - 0) 0 _ (by omega) (Nat.zero_le _) ⟨⟨_, Heap.get?_push_size _ rfl, rfl, rfl⟩, lst1.push _⟩ ⟨0, Nat.le_refl 0, setR_new_at (Heap.get?_push_of_some _ own)⟩ ?_
  rintro ⟨h', g', d', tk', os'⟩ c moved bound full
  obtain rfl : g' = s.gens := moved.gens
  obtain rfl : d' = s.drawn := moved.drawn
  obtain rfl : os' = s.os := moved.os
  show wpAny _ _ _ _ _ _
  refine wpAny_pure ?_
  show wpAny _ _ (ret Value.none) _ _ _
  refine wpAny_pure (told h' tk' c full (many ▸ bound) fun b o e => ?_)
  have low := Heap.lt_size e
  refine moved.heap b o ?_ (Heap.get?_push_of_some _ (Heap.get?_push_of_some _ e))
  intro hm
  rcases List.mem_cons.mp hm with z | hm
  · exact Nat.ne_of_lt low z
  · have z := List.mem_singleton.mp hm
    rw [size1] at z
    exact Nat.ne_of_lt (Nat.lt_succ_of_lt low) z
theorem call_set_ints {l : Addr} {arr : Array Value} {xs : List Int} {Q : Value → Shared → Prop} (calm : A.handled = none) (lst : s.heap.IsList l arr) (num : IntsAre arr.toList xs) (few : xs.length + 1 < scanBound)
    (then_ : ∀ (h' : Heap) (tk c : Nat), SetR w h' s.heap.objs.size (fun j => decide (j ∈ xs)) c → c ≤ xs.length → (∀ b o, s.heap.get? b = some o → h'.get? b = some o) → Q (.ref s.heap.objs.size) { s with heap := h', toks := tk }) :
    wpAny (model P w) A (call (.type "set") [.ref l]) Q E s := by
  obtain ⟨_, _, order⟩ := F.called_set.mro
  have made := F.called_set.made
  have below := F.called_set.sub
  refine wpAny_call (codeAny_of_tree ?_)
  show wpAny _ _ (callAny (.type "set") ⟨[.ref l], []⟩) _ _ s
  refine wpAny_pure ⟨Code.quiet_builtin _ (by decide +kernel), codeAny_builtin F.entry_type_call ?_⟩
  rw [Around.under_plain (weight_type_call_type "set" [.ref l] []) rfl]
  have f1 := F.called_set.notType
  have f2 := F.called_set.canCreate
  have f3 := F.typeCall_set_1 (.ref l)
  repeat (any_goals (first | assumption | wp_step))
  refine codeAny_mono (code_set_led1 (.ref l) (E := E) (Q₁ := fun u t => u = .ref s.heap.objs.size ∧ t = { s with heap := s.heap.push (bare w) }) ⟨rfl, rfl⟩) fun r t first => ?_
  match r, first with
  | .error e, first => exact first
  | .ok .next, first => exact first.elim
  | .ok .brk, first => exact first.elim
  | .ok .cont, first => exact first.elim
  | .ok (.ret u), ⟨eu, et⟩ =>
    subst eu et
    have kind : Shared.TypeIs { s with heap := s.heap.push (bare w) } (.ref s.heap.objs.size) "set" := ⟨_, Heap.get?_push_size _ rfl, rfl⟩
    have f4 := F.called_set.init.lookup
    have f5 := F.called_set.init.bind (.ref s.heap.objs.size)
    repeat (any_goals (first | assumption | wp_step))
    refine codeAny_mono (set_filled (A := _) (E := E) (R := fun v t => v = .none ∧ ∃ h' tk c, t = { s with heap := h', toks := tk } ∧ SetR w h' s.heap.objs.size (fun j => decide (j ∈ xs)) c ∧ c ≤ xs.length ∧ (∀ b o, s.heap.get? b = some o → h'.get? b = some o)) (by simp [calm]) lst num few fun h' tk c a b k => ⟨rfl, h', tk, c, rfl, a, b, k⟩) fun r t second => ?_
    match r, second with
    | .error e, second => exact second
    | .ok .next, second => exact second.elim
    | .ok .brk, second => exact second.elim
    | .ok .cont, second => exact second.elim
    | .ok (.ret v), ⟨ev, h', tk, c, et, a, b, k⟩ =>
      subst ev et
      repeat (any_goals (first | assumption | wp_step))
      exact then_ _ _ _ a b k
end
/-- set(xs) -/
def rSetOf (K : PySem.W.Frag) (w : World) : List V → Hp → VK → Prop := fun vs H Q => ∃ (l : Addr) (xs : List Int), vs = [.ref l] ∧ SqL K H l (xs.map V.int) ∧ xs.length ≤ 4000 ∧ ∀ p c, H p = none → c ≤ xs.length → Q (.ref p) (upd H p (SetO w p (fun j => decide (j ∈ xs)) c))
theorem cr_setOf {X : Cx} (hc : X.calm = true) : CallR X (.type "set") (rSetOf X.K X.w) := by
  intro pins s σ H vs us Q I r h
  obtain ⟨l, xs, rfl, seq, few, q⟩ := h
  obtain rfl := Vals.ref1 r
  obtain ⟨its, rv, pl, _⟩ := I.list seq
  have num : IntsAre its xs := intsAre_of rv
  refine call_set_ints (I.ok.hd hc) pl.isList (by simpa using num) (by unfold scanBound; omega) fun h' tk c full bound k => ?_
  exact ⟨.ref _, _, I.laid (t' := tk) k (Nat.le_refl _) (setO_new full), rfl, q _ c (I.hok.fresh (Nat.le_refl _)) bound⟩
/-- the ascending list of what stands in xs -/
theorem asc_mem {ns : List Int} {xs : List Nat} (h1 : ns.Pairwise (· < ·)) (h2 : ∀ k : Int, k ∈ ns ↔ k ∈ xs.map (fun (x : Nat) => (x : Int))) : ∃ ys : List Nat, ns = ys.map (fun (x : Nat) => (x : Int)) ∧ ys.Pairwise (· < ·) ∧ ∀ y, y ∈ ys ↔ y ∈ xs := by
  refine ⟨ns.map Int.toNat, ?_, ?_, ?_⟩
  · rw [List.map_map]
    refine (List.map_id ns).symm.trans (List.map_congr_left fun k hk => ?_)
    obtain ⟨x, _, rfl⟩ := List.mem_map.mp ((h2 k).mp hk)
    rfl
  · rw [List.pairwise_map]
    refine h1.imp_of_mem fun {a b} ha hb hab => ?_
    obtain ⟨x, _, rfl⟩ := List.mem_map.mp ((h2 a).mp ha)
    obtain ⟨y, _, rfl⟩ := List.mem_map.mp ((h2 b).mp hb)
    show (x : Int).toNat < (y : Int).toNat
    omega
  · intro y
    rw [List.mem_map]
    constructor
    · rintro ⟨k, hk, rfl⟩
      obtain ⟨x, hx, rfl⟩ := List.mem_map.mp ((h2 k).mp hk)
      exact hx
    · intro hy
      exact ⟨(y : Int), (h2 _).mpr (List.mem_map.mpr ⟨y, hy, rfl⟩), rfl⟩
theorem asc_unique : ∀ {xs ys : List Nat}, xs.Pairwise (· < ·) → ys.Pairwise (· < ·) → (∀ y, y ∈ xs ↔ y ∈ ys) → xs = ys
  | [], [], _, _, _ => rfl
  | [], y :: ys, _, _, h => by
    have := (h y).mpr List.mem_cons_self
    cases this
  | x :: xs, [], _, _, h => by
    have := (h x).mp List.mem_cons_self
    cases this
  | x :: xs, y :: ys, h1, h2, h => by
    rw [List.pairwise_cons] at h1 h2
    have e : x = y := by
      have a := (h x).mp List.mem_cons_self
      have b := (h y).mpr List.mem_cons_self
      rcases List.mem_cons.mp a with a | a
      · exact a
      · rcases List.mem_cons.mp b with b | b
        · exact b.symm
        · have c := h1.1 y b
          have d := h2.1 x a
          omega
    subst e
    rw [asc_unique h1.2 h2.2 fun z => ?_]
    have hz := h z
    rw [List.mem_cons, List.mem_cons] at hz
    constructor
    · intro m
      rcases hz.mp (.inr m) with rfl | m2
      · exact absurd (h1.1 z m) (Nat.lt_irrefl _)
      · exact m2
    · intro m
      rcases hz.mpr (.inr m) with rfl | m2
      · exact absurd (h2.1 z m) (Nat.lt_irrefl _)
      · exact m2
abbrev toI (xs : List Nat) : List Int := xs.map (fun (b : Nat) => (b : Int))
theorem vn_int (xs : List Nat) : vn xs = (toI xs).map V.int := by
  unfold toI
  rw [List.map_map]
  rfl
/-- sorted(set(xs)) -/
theorem sorted_set_nat {K : PySem.W.Frag} {w : World} {H : Hp} {l : Addr} {xs : List Nat} {Q : VK} (h : H l = some (.lst (vn xs))) (few : xs.length < 64)
    (q : ∀ p ys H', Same H H' → H p = none → H' p = some (.lst (vn ys)) → ys.Pairwise (· < ·) → (∀ y, y ∈ ys ↔ y ∈ xs) → ys.length ≤ xs.length → Q (.ref p) H') :
    rSetOf K w [.ref l] H (fun z Hz => rSortedSet w [z] Hz Q) := by
  refine ⟨l, toI xs, rfl, SqL.of (by rw [h, vn_int]), by rw [List.length_map]; omega, fun pz c nz hc => ⟨pz, _, c, rfl, upd_same, ?_, fun ns p asc mem len np => ?_⟩⟩
  · rw [List.length_map] at hc
    omega
  · obtain ⟨ys, rfl, h1, h2⟩ := asc_mem (xs := xs) asc fun k => by rw [mem k, decide_eq_true_eq]
    rw [List.length_map] at hc len
    have s1 := same_new (o := SetO w pz (fun j => decide (j ∈ toI xs)) c) nz
    refine q p ys _ (s1.trans (same_new np)) (none_of s1 np) ?_ h1 h2 (by omega)
    rw [upd_same, vn_int]
theorem perm_asc {ns : List Int} {ks : List Nat} (h1 : ns.Perm (toI ks)) (h2 : ns.Pairwise (· ≤ ·)) (nd : ks.Nodup) : ∃ zs : List Nat, ns = toI zs ∧ zs.Pairwise (· < ·) ∧ ∀ y, y ∈ zs ↔ y ∈ ks := by
  have nd1 : (toI ks).Nodup := by
    show List.Pairwise (· ≠ ·) (List.map _ ks)
    rw [List.pairwise_map]
    have nd' : ks.Pairwise (· ≠ ·) := nd
    exact nd'.imp fun {a b} h e => h (by omega)
  have nd2 : ns.Nodup := h1.nodup_iff.mpr nd1
  have h3 : ns.Pairwise (· < ·) := by
    have h4 : ns.Pairwise (· ≠ ·) := nd2
    exact (h2.and h4).imp fun {a b} h => by omega
  exact asc_mem h3 fun k => h1.mem_iff
/-! ### marks in a dict -/
def mkD (ks : List Nat) : List (Key × V) := ks.map fun (x : Nat) => (Sum.inl (x : Int), V.bl true)
theorem mkD_val (ks : List Nat) (y : Nat) : valV (mkD ks) (Sum.inl (y : Int)) = if y ∈ ks then some (V.bl true) else none := by
  induction ks with
  | nil =>
    rw [if_neg List.not_mem_nil]
    rfl
  | cons x r ih =>
    show valV ((Sum.inl (x : Int), V.bl true) :: mkD r) _ = _
    by_cases e : x = y
    · subst e
      rw [valV_pos (p := (Sum.inl (x : Int), V.bl true)) rfl, if_pos List.mem_cons_self]
    · rw [valV_neg (p := (Sum.inl (x : Int), V.bl true)) (fun z => e (by have := Sum.inl.inj z; omega)), ih]
      by_cases h : y ∈ r
      · rw [if_pos h, if_pos (List.mem_cons_of_mem _ h)]
      · rw [if_neg h, if_neg (fun m => (List.mem_cons.mp m).elim (fun z => e z.symm) h)]
def addN (ks : List Nat) (y : Nat) : List Nat := if y ∈ ks then ks else ks ++ [y]
theorem mkD_put (ks : List Nat) (y : Nat) : putK (mkD ks) (Sum.inl (y : Int)) (V.bl true) = mkD (addN ks y) := by
  unfold addN
  have hv := mkD_val ks y
  by_cases h : y ∈ ks
  · rw [if_pos h]
    rw [if_pos h] at hv
    have ha : ((mkD ks).any fun kv => decide (kv.1 = Sum.inl (y : Int))) = true := by rw [valV_any, hv]; rfl
    unfold putK
    rw [if_pos ha]
    unfold mkD
    rw [List.map_map]
    refine List.map_congr_left fun x _ => ?_
    show (if (Sum.inl (x : Int) : Key) = Sum.inl (y : Int) then ((Sum.inl (x : Int) : Key), V.bl true) else (Sum.inl (x : Int), V.bl true)) = _
    split <;> rfl
  · rw [if_neg h] at hv ⊢
    rw [putK_new _ hv]
    unfold mkD
    rw [List.map_append]
    rfl
theorem addN_mem (ks : List Nat) (y z : Nat) : z ∈ addN ks y ↔ z ∈ ks ∨ z = y := by
  unfold addN
  split
  · rename_i h
    constructor
    · exact .inl
    · rintro (m | rfl)
      · exact m
      · exact h
  · rw [List.mem_append, List.mem_singleton]
theorem addN_nodup {ks : List Nat} (h : ks.Nodup) (y : Nat) : (addN ks y).Nodup := by
  unfold addN
  split
  · exact h
  · rename_i hy
    rw [List.nodup_append]
    refine ⟨h, by simp, fun a ha b hb e => ?_⟩
    rw [List.mem_singleton.mp hb] at e
    exact hy (e ▸ ha)
theorem sum_int : ∀ xs : List Nat, (toI xs).sum = ((xs.sum : Nat) : Int)
  | [] => rfl
  | b :: r => by
    show ((b : Int) :: toI r).sum = ((b + r.sum : Nat) : Int)
    rw [List.sum_cons, sum_int r]
    omega
end V0
/-! cuts of nets, bits of tables -/
namespace V0
open PySem PySem.Spec PyProof.Rows L2
open PySem.W (Datum)
/-! ### numbers by their bits -/
def num : List Nat → Nat
  | [] => 0
  | b :: r => b + 2 * num r
theorem num_append (xs ys : List Nat) : num (xs ++ ys) = num xs + 2 ^ xs.length * num ys := by
  induction xs with
  | nil => simp [num]
  | cons b r ih =>
    show b + 2 * num (r ++ ys) = b + 2 * num r + 2 ^ (r.length + 1) * num ys
    rw [ih, Nat.pow_succ, Nat.mul_add, Nat.mul_comm (2 ^ r.length) 2, Nat.mul_assoc, Nat.add_assoc]
theorem num_snoc (xs : List Nat) (b : Nat) : num (xs ++ [b]) = num xs + b * 2 ^ xs.length := by
  rw [num_append]
  show num xs + 2 ^ xs.length * (b + 2 * 0) = _
  rw [Nat.mul_zero, Nat.add_zero, Nat.mul_comm]
theorem num_lt {xs : List Nat} (h : ∀ b ∈ xs, b < 2) : num xs < 2 ^ xs.length := by
  induction xs with
  | nil => decide
  | cons b r ih =>
    have h1 := h b List.mem_cons_self
    have h2 := ih fun c hc => h c (List.mem_cons_of_mem _ hc)
    show b + 2 * num r < 2 ^ (r.length + 1)
    rw [Nat.pow_succ]
    omega
theorem num_testBit {xs : List Nat} (h : ∀ b ∈ xs, b < 2) (i : Nat) : (num xs).testBit i = decide (xs[i]? = some 1) := by
  induction xs generalizing i with
  | nil => simp [num]
  | cons b r ih =>
    have h1 := h b List.mem_cons_self
    have hb : b = 0 ∨ b = 1 := by omega
    have h2 := fun j => ih (fun c hc => h c (List.mem_cons_of_mem _ hc)) j
    cases i with
    | zero =>
      show (b + 2 * num r).testBit 0 = decide (some b = some 1)
      rw [Nat.testBit_zero]
      rcases hb with rfl | rfl
      · have : (0 + 2 * num r) % 2 = 0 := by omega
        rw [this]
        rfl
      · have : (1 + 2 * num r) % 2 = 1 := by omega
        rw [this]
        rfl
    | succ j =>
      show (b + 2 * num r).testBit (j + 1) = decide (r[j]? = some 1)
      rw [Nat.testBit_succ, ← h2 j]
      congr 1
      omega
/-- the columns of bits f 0, f 1, .. -/
def colN (m : Nat) (f : Nat → Nat) : Nat := num ((List.range m).map f)
theorem col_succ (m : Nat) (f : Nat → Nat) : colN (m + 1) f = colN m f + f m * 2 ^ m := by
  unfold colN
  rw [map_range_succ, num_snoc, List.length_map, List.length_range]
theorem col_lt (m : Nat) (f : Nat → Nat) (h : ∀ i, i < m → f i < 2) : colN m f < 2 ^ m := by
  have := num_lt (xs := (List.range m).map f) fun b hb => by
    obtain ⟨i, hi, rfl⟩ := List.mem_map.mp hb
    exact h i (List.mem_range.mp hi)
  rw [List.length_map, List.length_range] at this
  exact this
theorem col_testBit {m : Nat} {f : Nat → Nat} (h : ∀ i, i < m → f i < 2) (i : Nat) : (colN m f).testBit i = (decide (i < m) && decide (f i = 1)) := by
  unfold colN
  rw [num_testBit]
  · by_cases hi : i < m
    · rw [List.getElem?_map, List.getElem?_range hi, decide_eq_true hi, Bool.true_and]
      show decide (some (f i) = some 1) = _
      exact decide_eq_decide.mpr ⟨fun e => Option.some.inj e, fun e => by rw [e]⟩
    · rw [List.getElem?_eq_none (by rw [List.length_map, List.length_range]; omega), decide_eq_false hi]
      rfl
  · intro b hb
    obtain ⟨i, hi, rfl⟩ := List.mem_map.mp hb
    exact h i (List.mem_range.mp hi)
theorem col_and {m : Nat} {f g : Nat → Nat} (hf : ∀ i, i < m → f i < 2) (hg : ∀ i, i < m → g i < 2) : colN m f &&& colN m g = colN m (fun i => f i * g i) := by
  apply Nat.eq_of_testBit_eq
  intro i
  rw [Nat.testBit_and, col_testBit hf, col_testBit hg, col_testBit (fun i hi => mul_lt2 (hf i hi) (hg i hi))]
  by_cases hi : i < m
  · rw [decide_eq_true hi, Bool.true_and, Bool.true_and, Bool.true_and]
    have h1 := hf i hi
    have h2 := hg i hi
    have e1 : f i = 0 ∨ f i = 1 := by omega
    have e2 : g i = 0 ∨ g i = 1 := by omega
    rcases e1 with e1 | e1 <;> rcases e2 with e2 | e2 <;> rw [e1, e2] <;> decide
  · rw [decide_eq_false hi]
    rfl
theorem col_xor {m : Nat} {f : Nat → Nat} (hf : ∀ i, i < m → f i < 2) (l : Nat) : colN m f ^^^ (if l % 2 = 1 then 2 ^ m - 1 else 0) = colN m (fun i => f i ^^^ (l % 2)) := by
  have hx : ∀ i, i < m → f i ^^^ (l % 2) < 2 := fun i hi => Nat.xor_lt_two_pow (n := 1) (hf i hi) (Nat.mod_lt _ (by decide))
  apply Nat.eq_of_testBit_eq
  intro i
  rw [Nat.testBit_xor, col_testBit hf, col_testBit hx]
  rcases Nat.mod_two_eq_zero_or_one l with e | e
  · rw [if_neg (by omega), e, Nat.zero_testBit, Bool.xor_false]
    simp
  · rw [if_pos e, e, Nat.testBit_two_pow_sub_one]
    by_cases hi : i < m
    · rw [decide_eq_true hi, Bool.true_and, Bool.true_and]
      have h1 := hf i hi
      have e1 : f i = 0 ∨ f i = 1 := by omega
      rcases e1 with e1 | e1 <;> rw [e1] <;> decide
    · rw [decide_eq_false hi]
      rfl
/-- the sum of the powers whose bit is set -/
theorem sum_pows (m : Nat) (f : Nat → Nat) (h : ∀ i, i < m → f i < 2) : (((List.range m).filter fun i => decide (f i = 1)).map fun i => 2 ^ i).sum = colN m f := by
  induction m with
  | zero => rfl
  | succ m ih =>
    rw [List.range_succ, List.filter_append, List.map_append, List.sum_append, ih fun i hi => h i (by omega), col_succ]
    have h1 := h m (by omega)
    have e1 : f m = 0 ∨ f m = 1 := by omega
    rcases e1 with e1 | e1
    · simp [e1]
    · simp [e1]
/-! ### cuts -/
inductive Sep (n : Net) (cut : List Nat) : Nat → Prop
  | hit {x : Nat} : x ∈ cut → Sep n cut x
  | gate {x : Nat} {g : Nat × Nat} : n.base ≤ x → n.gates[x - n.base]? = some g → Sep n cut (g.1 / 2) → Sep n cut (g.2 / 2) → Sep n cut x
def kids (n : Net) (x : Nat) : List Nat := if x < n.base then [] else match n.gates[x - n.base]? with
  | some g => [g.1 / 2, g.2 / 2]
  | none => []
theorem Sep.expand {n : Net} {cut other : List Nat} {node : Nat} (hn : kids n node ≠ []) (hk : ∀ y ∈ kids n node, y ∈ other) (ho : ∀ y ∈ cut, y ≠ node → y ∈ other) {x : Nat} (h : Sep n cut x) : Sep n other x := by
  induction h with
  | @hit x hx =>
    by_cases e : x = node
    · subst e
      unfold kids at hn hk
      by_cases hb : x < n.base
      · rw [if_pos hb] at hn
        exact absurd rfl hn
      · rw [if_neg hb] at hn hk
        cases eg : n.gates[x - n.base]? with
        | none =>
          rw [eg] at hn
          exact absurd rfl hn
        | some g =>
          rw [eg] at hk
          exact .gate (by omega) eg (.hit (hk _ (by simp))) (.hit (hk _ (by simp)))
    · exact .hit (ho x hx e)
  | gate hb hg _ _ i1 i2 => exact .gate hb hg i1 i2
theorem Sep.mono {n : Net} {cut other : List Nat} (ho : ∀ y ∈ cut, y ∈ other) {x : Nat} (h : Sep n cut x) : Sep n other x := by
  induction h with
  | hit hx => exact .hit (ho _ hx)
  | gate hb hg _ _ i1 i2 => exact .gate hb hg i1 i2
theorem Sep.some {n : Net} {cut : List Nat} {x : Nat} (h : Sep n cut x) : cut ≠ [] := by
  induction h with
  | hit hx => exact List.ne_nil_of_mem hx
  | gate _ _ _ _ i1 _ => exact i1
/-- a net as the law draws it -/
structure TOk (n : Net) : Prop where
  i1 : 1 ≤ n.ins
  i4 : n.ins ≤ 4
  fl : n.starts.length ≤ 2
  gl : n.gates.length ≤ 9
  g : ∀ j g, n.gates[j]? = some g → (2 ≤ g.1 ∧ g.1 < 2 * (n.base + j)) ∧ (2 ≤ g.2 ∧ g.2 < 2 * (n.base + j)) ∧ g.1 / 2 ≠ g.2 / 2
theorem TOk.kid {n : Net} (t : TOk n) {x y : Nat} (h : y ∈ kids n x) : 1 ≤ y ∧ y < x ∧ n.base ≤ x := by
  unfold kids at h
  by_cases hb : x < n.base
  · rw [if_pos hb] at h
    cases h
  · rw [if_neg hb] at h
    cases eg : n.gates[x - n.base]? with
    | none =>
      rw [eg] at h
      cases h
    | some g =>
      rw [eg] at h
      have := t.g _ _ eg
      simp only [List.mem_cons, List.not_mem_nil, or_false] at h
      rcases h with rfl | rfl <;> omega
structure IsCut (n : Net) (gate : Nat) (cut : List Nat) (k : Nat) : Prop where
  len : cut.length ≤ k
  asc : cut.Pairwise (· < ·)
  bnd : ∀ x ∈ cut, 0 < x ∧ x < gate
  sep : ∀ y ∈ kids n gate, Sep n cut y
theorem kids_gate {n : Net} {x : Nat} (h1 : n.base ≤ x) (h2 : x < n.many) : ∃ g, n.gates[x - n.base]? = some g ∧ kids n x = [g.1 / 2, g.2 / 2] := by
  have hj : x - n.base < n.gates.length := by
    unfold Net.many at h2
    omega
  refine ⟨_, List.getElem?_eq_getElem hj, ?_⟩
  unfold kids
  rw [if_neg (by omega), List.getElem?_eq_getElem hj]
theorem IsCut.some {n : Net} {gate k : Nat} {cut : List Nat} (c : IsCut n gate cut k) (h1 : n.base ≤ gate) (h2 : gate < n.many) : cut ≠ [] := by
  obtain ⟨g, _, e⟩ := kids_gate h1 h2
  exact (c.sep (g.1 / 2) (by rw [e]; simp)).some
theorem Sep.gate_of {n : Net} {cut : List Nat} {x : Nat} (h : Sep n cut x) (hx : x ∉ cut) : n.base ≤ x ∧ x < n.many ∧ ∀ y ∈ kids n x, Sep n cut y := by
  cases h with
  | hit h => exact absurd h hx
  | @gate _ g hb hg h1 h2 =>
    have hj := (List.getElem?_eq_some_iff.mp hg).1
    refine ⟨hb, by unfold Net.many; omega, fun y hy => ?_⟩
    unfold kids at hy
    rw [if_neg (by omega), hg] at hy
    simp only [List.mem_cons, List.not_mem_nil, or_false] at hy
    rcases hy with rfl | rfl
    · exact h1
    · exact h2
theorem kids_len (n : Net) (x : Nat) : (kids n x).length ≤ 2 := by
  unfold kids
  split
  · decide
  · split <;> simp
theorem nodup_bound : ∀ {m : Nat} {xs : List Nat}, xs.Nodup → (∀ x ∈ xs, x < m) → xs.length ≤ m
  | 0, xs, _, b => by
    cases xs with
    | nil => exact Nat.le_refl _
    | cons x r => exact absurd (b x List.mem_cons_self) (Nat.not_lt_zero _)
  | m + 1, xs, h, b => by
    have ih := nodup_bound (m := m) (xs := xs.erase m) (h.erase m) fun x hx => by
      have h1 := (h.mem_erase_iff).mp hx
      have h2 := b x h1.2
      have h3 := h1.1
      omega
    rw [List.length_erase] at ih
    split at ih <;> omega
theorem many16 {n : Net} (ok : TOk n) : n.many ≤ 16 := by
  have := ok.i4
  have := ok.fl
  have := ok.gl
  unfold Net.many Net.base
  omega
/-! ### bits of gates -/
def gbit (n : Net) (kn : Nat → Option Nat) (x : Nat) : Nat := match kn x with
  | some b => b
  | none => match n.gates[x - n.base]? with
    | none => 0
    | some g => if h : g.1 / 2 < x ∧ g.2 / 2 < x then (gbit n kn (g.1 / 2) ^^^ (g.1 % 2)) * (gbit n kn (g.2 / 2) ^^^ (g.2 % 2)) else 0
termination_by x
decreasing_by
  · exact h.1
  · exact h.2
theorem gbit_hit {n : Net} {kn : Nat → Option Nat} {x b : Nat} (h : kn x = some b) : gbit n kn x = b := by
  rw [gbit, h]
theorem gbit_gate {n : Net} {kn : Nat → Option Nat} {x : Nat} {g : Nat × Nat} (h : kn x = none) (hg : n.gates[x - n.base]? = some g) (h1 : g.1 / 2 < x) (h2 : g.2 / 2 < x) :
    gbit n kn x = (gbit n kn (g.1 / 2) ^^^ (g.1 % 2)) * (gbit n kn (g.2 / 2) ^^^ (g.2 % 2)) := by
  rw [gbit, h]
  simp only [hg]
  rw [dif_pos ⟨h1, h2⟩]
theorem gbit_lt {n : Net} {kn : Nat → Option Nat} (hk : ∀ x b, kn x = some b → b < 2) (x : Nat) : gbit n kn x < 2 := by
  induction x using Nat.strongRecOn with
  | ind x ih =>
    rw [gbit]
    cases e : kn x with
    | some b => exact hk x b e
    | none =>
      simp only
      cases eg : n.gates[x - n.base]? with
      | none =>
        show 0 < 2
        decide
      | some g =>
        simp only
        split
        · rename_i h
          exact mul_lt2 (Nat.xor_lt_two_pow (n := 1) (ih _ h.1) (Nat.mod_lt _ (by decide))) (Nat.xor_lt_two_pow (n := 1) (ih _ h.2) (Nat.mod_lt _ (by decide)))
        · decide
/-- what is known of the m-th choice of values of a cut -/
def kn (cut : List Nat) (m x : Nat) : Option Nat := if x ∈ cut then some (m / 2 ^ (cut.idxOf x) % 2) else none
theorem kn_lt (cut : List Nat) (m : Nat) : ∀ x b, kn cut m x = some b → b < 2 := by
  intro x b h
  unfold kn at h
  split at h
  · cases h
    exact Nat.mod_lt _ (by decide)
  · cases h
def colOf (n : Net) (cut : List Nat) (x : Nat) : Nat := colN (2 ^ cut.length) fun m => gbit n (kn cut m) x
theorem colOf_hit {n : Net} {cut : List Nat} {x : Nat} (h : x ∈ cut) : colOf n cut x = colN (2 ^ cut.length) fun m => m / 2 ^ (cut.idxOf x) % 2 := by
  unfold colOf
  congr 1
  funext m
  exact gbit_hit (if_pos h)
theorem colOf_gate {n : Net} {cut : List Nat} {x : Nat} {g : Nat × Nat} (h : x ∉ cut) (hg : n.gates[x - n.base]? = some g) (h1 : g.1 / 2 < x) (h2 : g.2 / 2 < x) :
    colOf n cut x = (colOf n cut (g.1 / 2) ^^^ (if g.1 % 2 = 1 then 2 ^ 2 ^ cut.length - 1 else 0)) &&& (colOf n cut (g.2 / 2) ^^^ (if g.2 % 2 = 1 then 2 ^ 2 ^ cut.length - 1 else 0)) := by
  have hx : ∀ (y l : Nat), ∀ i, i < 2 ^ cut.length → gbit n (kn cut i) y ^^^ (l % 2) < 2 := fun y l i _ => Nat.xor_lt_two_pow (n := 1) (gbit_lt (kn_lt cut i) y) (Nat.mod_lt _ (by decide))
  unfold colOf
  rw [col_xor fun i _ => gbit_lt (kn_lt cut i) _, col_xor fun i _ => gbit_lt (kn_lt cut i) _, col_and (hx _ _) (hx _ _)]
  congr 1
  funext m
  exact gbit_gate (if_neg h) hg h1 h2
/-! ### what stands above a cut -/
structure MK (n : Net) (gate : Nat) (cut ks : List Nat) : Prop where
  nd : ks.Nodup
  g : gate ∈ ks
  b : ∀ x ∈ ks, n.base ≤ x ∧ x ≤ gate ∧ x ∉ cut ∧ ∀ y ∈ kids n x, Sep n cut y
structure Above (n : Net) (gate : Nat) (cut ab : List Nat) : Prop where
  asc : ab.Pairwise (· < ·)
  g : gate ∈ ab
  b : ∀ x ∈ ab, n.base ≤ x ∧ x ≤ gate ∧ x ∉ cut
  k : ∀ x ∈ ab, ∀ y ∈ kids n x, y ∈ cut ∨ y ∈ ab
theorem band (a b : Nat) : Builtin.bitAnd (a : Int) (b : Int) = ((a &&& b : Nat) : Int) := by
  rw [bitAnd_pp (Int.natCast_nonneg _) (Int.natCast_nonneg _), Int.toNat_natCast, Int.toNat_natCast]
theorem band_one (a : Nat) : Builtin.bitAnd (a : Int) 1 = ((a % 2 : Nat) : Int) := by
  have h := PySem.W.kbt_mask ((a : Nat) : Int) 1
  rw [show (2 : Int) ^ 1 - 1 = 1 by decide, show (2 : Int) ^ 1 = 2 by decide] at h
  rw [h]
  rfl
theorem shl_nat (a k : Nat) : (a : Int) * 2 ^ ((k : Int)).toNat = ((a * 2 ^ k : Nat) : Int) := by
  rw [Int.toNat_natCast, Int.natCast_mul, Int.natCast_pow]
  rfl
theorem shl_one (k : Nat) : (1 : Int) * 2 ^ ((k : Int)).toNat = ((2 ^ k : Nat) : Int) := by
  rw [Int.one_mul, Int.toNat_natCast, Int.natCast_pow]
  rfl
theorem shr_nat (a k : Nat) : (a : Int) / 2 ^ ((k : Int)).toNat = ((a / 2 ^ k : Nat) : Int) := by
  rw [Int.toNat_natCast, Int.natCast_ediv, Int.natCast_pow]
  rfl
theorem shr_one (a : Nat) : (a : Int) / 2 ^ ((1 : Int)).toNat = ((a / 2 : Nat) : Int) := rfl
end V0
/-! methods and classes of the text as callers need them; len of a set of tuples -/
namespace V0
open PySem PySem.Spec PyProof.Rows L2
structure MDef (K : PySem.W.Frag) (C : Addr) (m : Str) (f : Addr) (fd : FuncData) (ps : List Str) : Prop where
  m : Meth K C m f
  b : Binds K fd ps []
structure IDef (K : PySem.W.Frag) (C : Addr) (f : Addr) (fd : FuncData) (ps : List Str) : Prop where
  k : Mk K C f
  b : Binds K fd ps []
/-- len of a set of tuples -/
def rLenST (P : Program) (w : World) : List V → Hp → VK → Prop := fun vs H Q => ∃ (a : Addr) (L : List (Addr × List Int)), vs = [.ref a] ∧ H a = some (SetTO P w a L) ∧ ((L.map (·.2)).Nodup → Q (.int (L.length : Nat)) H)
theorem call_lenST {X : Cx} : CallR X (.builtin "len") (rLenST X.prog X.w) := by
  intro pins s σ H vs us Q I r h
  obtain ⟨a, L, rfl, ha, q⟩ := h
  obtain rfl := Vals.ref1 r
  have R0 : SetT0 X.prog X.w s.heap a L := (I.hok a _ ha).1
  obtain ⟨es, ep, t, ⟨o, ho, hex, hd⟩, rows, tab, nd, _, _, room, few⟩ := R0.ex
  have hl : es.size = L.length := by
    rw [← Array.length_toList, rows]
    exact List.length_map _
  have hfits : t.fits es.size = true := by
    unfold SetTable.fits SetTable.fill
    have hsz := tab.sz
    rw [List.length_map] at hsz
    rw [tab.dm, Bool.and_eq_true, beq_iff_eq, decide_eq_true_eq]
    show t.place.size = es.size ∧ t.place.size + 0 ≤ t.mask
    omega
  refine call_len_set ho hex hd hfits (by omega) ⟨.int (L.length : Nat), H, I.tok _, ⟨_, by rw [hl]⟩, q nd⟩
end V0
namespace K32
open PySem PySem.Spec PyProof.Rows L2 V0
def topS (i : Nat) : Stmt := PySem.Challenge.pw_cellcloth_k32_gates_made_once.main.body.getD i (.Pass ⟨0, 0, 0, 0⟩)
abbrev s__law_state : Stmt := topS 11
abbrev N__law_state : List Str := ["script", "seed", "cell"]
theorem sc_law_state : FnScope ["script", "seed", "cell"] ["script"] (defScope s__law_state) := ⟨rfl, rfl, rfl, by decide +kernel, rfl, by decide +kernel, by decide +kernel⟩
abbrev s__law_draw : Stmt := topS 12
abbrev N__law_draw : List Str := ["state", "many", "cells", "value", "mixed"]
theorem sc_law_draw : FnScope ["state", "many", "cells", "value", "mixed"] ["state", "many"] (defScope s__law_draw) := ⟨rfl, rfl, rfl, by decide +kernel, rfl, by decide +kernel, by decide +kernel⟩
abbrev s_Builder___init__ : Stmt := inClass (topS 1) 0
abbrev N_Builder___init__ : List Str := ["self", "ins", "starts"]
theorem scBuilder___init__ : FnScope ["self", "ins", "starts"] ["self", "ins", "starts"] (defScope s_Builder___init__) := ⟨rfl, rfl, rfl, by decide +kernel, rfl, by decide +kernel, by decide +kernel⟩
abbrev s_Builder_net : Stmt := inClass (topS 1) 3
abbrev N_Builder_net : List Str := ["self", "nexts", "outs"]
theorem scBuilder_net : FnScope ["self", "nexts", "outs"] ["self", "nexts", "outs"] (defScope s_Builder_net) := ⟨rfl, rfl, rfl, by decide +kernel, rfl, by decide +kernel, by decide +kernel⟩
abbrev s_Builder_standing : Stmt := inClass (topS 1) 2
abbrev N_Builder_standing : List Str := ["self", "a", "b", "low", "high"]
theorem scBuilder_standing : FnScope ["self", "a", "b", "low", "high"] ["self", "a", "b"] (defScope s_Builder_standing) := ⟨rfl, rfl, rfl, by decide +kernel, rfl, by decide +kernel, by decide +kernel⟩
abbrev s_Builder_both : Stmt := inClass (topS 1) 1
abbrev N_Builder_both : List Str := ["self", "a", "b", "told", "pair"]
theorem scBuilder_both : FnScope ["self", "a", "b", "told", "pair"] ["self", "a", "b"] (defScope s_Builder_both) := ⟨rfl, rfl, rfl, by decide +kernel, rfl, by decide +kernel, by decide +kernel⟩
abbrev s__law_masks : Stmt := topS 19
abbrev N__law_masks : List Str := ["net", "free", "size", "k", "full", "masks", "mask", "number", "a", "b"]
theorem sc_law_masks : FnScope ["net", "free", "size", "k", "full", "masks", "mask", "number", "a", "b"] ["net"] (defScope s__law_masks) := ⟨rfl, rfl, rfl, by decide +kernel, rfl, by decide +kernel, by decide +kernel⟩
abbrev s_base_of : Stmt := topS 8
abbrev N_base_of : List Str := ["net"]
theorem scbase_of : FnScope ["net"] ["net"] (defScope s_base_of) := ⟨rfl, rfl, rfl, by decide +kernel, rfl, by decide +kernel, by decide +kernel⟩
abbrev s_many_nodes : Stmt := topS 9
abbrev N_many_nodes : List Str := ["net"]
theorem scmany_nodes : FnScope ["net"] ["net"] (defScope s_many_nodes) := ⟨rfl, rfl, rfl, by decide +kernel, rfl, by decide +kernel, by decide +kernel⟩
abbrev s_fault_of : Stmt := topS 7
abbrev N_fault_of : List Str := ["net", "_", "starts", "gates", "nexts", "outs", "base", "k", "start", "gate", "literal", "word", "literals"]
theorem scfault_of : FnScope ["net", "_", "starts", "gates", "nexts", "outs", "base", "k", "start", "gate", "literal", "word", "literals"] ["net"] (defScope s_fault_of) := ⟨rfl, rfl, rfl, by decide +kernel, rfl, by decide +kernel, by decide +kernel⟩
abbrev s_check : Stmt := topS 6
abbrev N_check : List Str := ["net", "fault"]
theorem sccheck : FnScope ["net", "fault"] ["net"] (defScope s_check) := ⟨rfl, rfl, rfl, by decide +kernel, rfl, by decide +kernel, by decide +kernel⟩
abbrev s_law : Stmt := topS 20
abbrev N_law : List Str := ["script", "state", "ins", "k", "starts", "made", "told", "asked", "pairs", "a", "b", "literal", "outs", "nexts", "net", "kept", "other", "later", "masks", "full", "left", "right", "node"]
theorem sclaw : FnScope ["script", "state", "ins", "k", "starts", "made", "told", "asked", "pairs", "a", "b", "literal", "outs", "nexts", "net", "kept", "other", "later", "masks", "full", "left", "right", "node"] ["script"] (defScope s_law) := ⟨rfl, rfl, rfl, by decide +kernel, rfl, by decide +kernel, by decide +kernel⟩
structure Txt (K : PySem.W.Frag) (mg : Str → Option Value) (C_Builder : Addr) : Prop where
  c_Builder : Cls K C_Builder
  m_Builder : mg "Builder" = some (.ref C_Builder)
  n_Builder_ins : NoAttr K C_Builder "ins"
  n_Builder_starts : NoAttr K C_Builder "starts"
  n_Builder_gates : NoAttr K C_Builder "gates"
  n_Builder_known : NoAttr K C_Builder "known"
  m_abs : mg "abs" = none
  m_any : mg "any" = none
  m_enumerate : mg "enumerate" = none
  m_int : mg "int" = none
  m_len : mg "len" = none
  m_list : mg "list" = none
  m_max : mg "max" = none
  m_min : mg "min" = none
  m_range : mg "range" = none
  m_repr : mg "repr" = none
  m_set : mg "set" = none
end K32
namespace K32
open PySem PySem.Spec PyProof.Rows L2 V0
/-! ### the builder -/
theorem fn1 : ¬ (("ins" : Str) = "starts") := by decide +kernel
theorem fn2 : ¬ (("ins" : Str) = "gates") := by decide +kernel
theorem fn3 : ¬ (("ins" : Str) = "known") := by decide +kernel
theorem fn4 : ¬ (("starts" : Str) = "gates") := by decide +kernel
theorem fn5 : ¬ (("starts" : Str) = "known") := by decide +kernel
theorem fn6 : ¬ (("gates" : Str) = "known") := by decide +kernel
def bflds (ins : Nat) (s g d : Addr) : List (Str × V) := putF "known" (.ref d) (putF "gates" (.ref g) (putF "starts" (.ref s) (putF "ins" (.int (ins : Nat)) [])))
theorem bf_known (ins : Nat) (s g d : Addr) : (bflds ins s g d).lookup ("known" : Str) = some (.ref d) := by
  unfold bflds
  rw [lookup_putF, if_pos rfl]
theorem bf_gates (ins : Nat) (s g d : Addr) : (bflds ins s g d).lookup ("gates" : Str) = some (.ref g) := by
  unfold bflds
  rw [lookup_putF, if_neg fn6, lookup_putF, if_pos rfl]
theorem bf_starts (ins : Nat) (s g d : Addr) : (bflds ins s g d).lookup ("starts" : Str) = some (.ref s) := by
  unfold bflds
  rw [lookup_putF, if_neg fn5, lookup_putF, if_neg fn4, lookup_putF, if_pos rfl]
theorem bf_ins (ins : Nat) (s g d : Addr) : (bflds ins s g d).lookup ("ins" : Str) = some (.int (ins : Nat)) := by
  unfold bflds
  rw [lookup_putF, if_neg fn3, lookup_putF, if_neg fn2, lookup_putF, if_neg fn1, lookup_putF, if_pos rfl]
theorem bf_no (ins : Nat) (s g d : Addr) {m : Str} (h1 : ¬ m = "known") (h2 : ¬ m = "gates") (h3 : ¬ m = "starts") (h4 : ¬ m = "ins") : (bflds ins s g d).lookup m = none := by
  unfold bflds
  rw [lookup_putF, if_neg h1, lookup_putF, if_neg h2, lookup_putF, if_neg h3, lookup_putF, if_neg h4]
  rfl
/-- gates made, and what is known of pairs of literals -/
structure BSt where
  ins : Nat
  starts : List Nat
  gates : List (Nat × Nat)
def BSt.first (b : BSt) : Nat := 1 + b.ins + b.starts.length
def keyOf2 (p : Nat × Nat) : List Key := [Sum.inl (p.1 : Int), Sum.inl (p.2 : Int)]
/-- the dict of pairs: each gate's pair with its literal -/
def kdict (first : Nat) (gs : List (Nat × Nat)) : List (List Key × V) := gs.zipIdx.map fun q => (keyOf2 q.1, V.int ((2 * (first + q.2) : Nat) : Int))
/-- a Builder stands at p -/
structure BAt (C : Addr) (H : Hp) (p s g d : Addr) (b : BSt) : Prop where
  ob : ∃ dx, H p = some (.ins C dx (bflds b.ins s g d))
  st : H s = some (.lst (vn b.starts))
  gt : ∃ us, H g = some (.lst us) ∧ Dvs (hid g (hid d (hid p H))) us b.gates
  kn : H d = some (.dT (kdict b.first b.gates))
  nd : b.gates.Nodup
  sg : s ≠ g
def sp_Builder___init__ (K : PySem.W.Frag) (C : Addr) : Sp := fun vs H Q _ => ∃ (p dx r : Addr) (ins : Nat) (ss : List Nat), vs = [.ref p, .int (ins : Nat), .ref r] ∧ H p = some (.ins C dx []) ∧ H r = some (.lst (vn ss)) ∧ r ≠ p ∧
  ∀ (s g d : Addr) (H' : Hp), H s = none → H g = none → H d = none → BAt C H' p s g d ⟨ins, ss, []⟩ → (∀ b o, H b = some o → b ≠ p → H' b = some o) → Q .non H'
theorem ok_Builder___init__ {P : Program} {w : World} {K : PySem.W.Frag} {mg : Str → Option Value} {base : Heap} {C_Builder : Addr} {f  : Addr} {fd  : FuncData} (F : Fun K "__init__" "Builder.__init__" s_Builder___init__ f fd) (T : Txt K mg C_Builder) :
    FnOk P w K mg base CX0 1 f fd ["self", "ins", "starts"] (sp_Builder___init__ K C_Builder) := by
  refine F.ok scBuilder___init__ (fun vs H Q E h => ?_) (fun cdv A outer s H vs Q E hr h => ?_)
  · obtain ⟨p, dx, r, ins, ss, rfl, _⟩ := h
    rfl
  · obtain ⟨p, dx, r, ins, ss, rfl, hp, hr', nrp, q⟩ := h
    refine ⟨_, (pss_cons (ps_fld (pv 0) (pv 1) rfl)
      (pss_cons (ps_fld (pv 0) (pe_callTy call_list_of (by rfl) T.m_list (by decide +kernel) (pa_cons (pv 2) pa_nil)) rfl)
      (pss_cons (ps_fld (pv 0) (pe_lst pa_nil) rfl)
      (pss_one (ps_fld (pv 0) pe_dnewT rfl))))), ?_⟩
    refine ⟨_, rfl, _, rfl, p, C_Builder, dx, [], rfl, hp, T.c_Builder, T.n_Builder_ins, (by show 0 < 1000; decide), ?_⟩
    have k1 : ∀ b o, H b = some o → b ≠ p → (upd H p (.ins C_Builder dx (putF "ins" (.int (ins : Nat)) []))) b = some o := fun b o e hb => by rw [upd_ne hb]; exact e
    have e1 : (upd H p (.ins C_Builder dx (putF "ins" (.int (ins : Nat)) []))) p = some (.ins C_Builder dx (putF "ins" (.int (ins : Nat)) [])) := upd_same
    have r1 := k1 _ _ hr' nrp
    generalize (upd H p (.ins C_Builder dx (putF "ins" (.int (ins : Nat)) []))) = H1 at k1 e1 r1 ⊢
    refine ⟨_, rfl, r, _, rfl, .inl (SqL.of r1), fun s ns => ?_⟩
    have nps : p ≠ s := ne_of_none e1 ns
    have e2 := same_new (o := .lst (vn ss)) ns _ _ e1
    have k2 : ∀ b o, H b = some o → b ≠ p → (upd H1 s (.lst (vn ss))) b = some o := fun b o e hb => same_new ns _ _ (k1 b o e hb)
    have s2 : (upd H1 s (.lst (vn ss))) s = some (.lst (vn ss)) := upd_same
    have ns0 : H s = none := by
      cases e : H s with
      | none => rfl
      | some o => rw [k1 _ _ e nps.symm] at ns; cases ns
    generalize (upd H1 s (.lst (vn ss))) = H2 at k2 e2 s2 ⊢
    refine ⟨_, rfl, p, C_Builder, dx, _, rfl, e2, T.c_Builder, T.n_Builder_starts, (by show 1 < 1000; decide), ?_⟩
    have k3 : ∀ b o, H b = some o → b ≠ p → (upd H2 p (.ins C_Builder dx (putF "starts" (.ref s) (putF "ins" (.int (ins : Nat)) [])))) b = some o := fun b o e hb => by rw [upd_ne hb]; exact k2 b o e hb
    have e3 : (upd H2 p (.ins C_Builder dx (putF "starts" (.ref s) (putF "ins" (.int (ins : Nat)) [])))) p = some (.ins C_Builder dx (putF "starts" (.ref s) (putF "ins" (.int (ins : Nat)) []))) := upd_same
    have s3 : (upd H2 p (.ins C_Builder dx (putF "starts" (.ref s) (putF "ins" (.int (ins : Nat)) [])))) s = some (.lst (vn ss)) := by rw [upd_ne nps.symm]; exact s2
    generalize (upd H2 p (.ins C_Builder dx (putF "starts" (.ref s) (putF "ins" (.int (ins : Nat)) [])))) = H3 at k3 e3 s3 ⊢
    refine ⟨by show 0 ≤ sizeLine; decide, fun g ng => ?_⟩
    have npg : p ≠ g := ne_of_none e3 ng
    have nsg : s ≠ g := ne_of_none s3 ng
    have e4 := same_new (o := .lst []) ng _ _ e3
    have s4 := same_new (o := .lst []) ng _ _ s3
    have k4 : ∀ b o, H b = some o → b ≠ p → (upd H3 g (.lst [])) b = some o := fun b o e hb => same_new ng _ _ (k3 b o e hb)
    have g4 : (upd H3 g (.lst [])) g = some (.lst []) := upd_same
    have ng0 : H g = none := by
      cases e : H g with
      | none => rfl
      | some o => rw [k3 _ _ e npg.symm] at ng; cases ng
    generalize (upd H3 g (.lst [])) = H4 at k4 e4 s4 g4 ⊢
    refine ⟨_, rfl, p, C_Builder, dx, _, rfl, e4, T.c_Builder, T.n_Builder_gates, (by show 2 < 1000; decide), ?_⟩
    have k5 : ∀ b o, H b = some o → b ≠ p → (upd H4 p (.ins C_Builder dx (putF "gates" (.ref g) (putF "starts" (.ref s) (putF "ins" (.int (ins : Nat)) []))))) b = some o := fun b o e hb => by rw [upd_ne hb]; exact k4 b o e hb
    have e5 : (upd H4 p (.ins C_Builder dx (putF "gates" (.ref g) (putF "starts" (.ref s) (putF "ins" (.int (ins : Nat)) []))))) p = some (.ins C_Builder dx (putF "gates" (.ref g) (putF "starts" (.ref s) (putF "ins" (.int (ins : Nat)) [])))) := upd_same
    have s5 : (upd H4 p (.ins C_Builder dx (putF "gates" (.ref g) (putF "starts" (.ref s) (putF "ins" (.int (ins : Nat)) []))))) s = some (.lst (vn ss)) := by rw [upd_ne nps.symm]; exact s4
    have g5 : (upd H4 p (.ins C_Builder dx (putF "gates" (.ref g) (putF "starts" (.ref s) (putF "ins" (.int (ins : Nat)) []))))) g = some (.lst []) := by rw [upd_ne npg.symm]; exact g4
    generalize (upd H4 p (.ins C_Builder dx (putF "gates" (.ref g) (putF "starts" (.ref s) (putF "ins" (.int (ins : Nat)) []))))) = H5 at k5 e5 s5 g5 ⊢
    refine fun d nd => ?_
    have npd : p ≠ d := ne_of_none e5 nd
    have nsd : s ≠ d := ne_of_none s5 nd
    have ngd : g ≠ d := ne_of_none g5 nd
    have e6 := same_new (o := .dT []) nd _ _ e5
    have nd0 : H d = none := by
      cases e : H d with
      | none => rfl
      | some o => rw [k5 _ _ e npd.symm] at nd; cases nd
    refine ⟨_, rfl, p, C_Builder, dx, _, rfl, e6, T.c_Builder, T.n_Builder_known, (by show 3 < 1000; decide), ?_⟩
    refine q s g d _ ns0 ng0 nd0 ⟨⟨dx, upd_same⟩, ?_, ⟨[], ?_, .nil⟩, ?_, List.nodup_nil, nsg⟩ fun b o e hb => ?_
    · rw [upd_ne nps.symm]
      exact same_new nd _ _ s5
    · rw [upd_ne npg.symm]
      exact same_new nd _ _ g5
    · rw [upd_ne npd.symm, upd_same]
      rfl
    · rw [upd_ne hb]
      exact same_new nd _ _ (k5 b o e hb)
theorem vmin2 (a b : Nat) : V.int (if (b : Int) < (a : Int) then (b : Int) else (a : Int)) = V.int ((min a b : Nat) : Int) := by
  congr 1
  split
  · rw [Nat.min_eq_right (by omega)]
  · rw [Nat.min_eq_left (by omega)]
theorem vmax2 (a b : Nat) : V.int (if (b : Int) > (a : Int) then (b : Int) else (a : Int)) = V.int ((max a b : Nat) : Int) := by
  congr 1
  split
  · rw [Nat.max_eq_right (by omega)]
  · rw [Nat.max_eq_left (by omega)]
theorem keyOf2_inj {p q : Nat × Nat} (h : keyOf2 p = keyOf2 q) : p = q := by
  obtain ⟨a, b⟩ := p
  obtain ⟨c, d⟩ := q
  unfold keyOf2 at h
  simp only [List.cons.injEq, Sum.inl.injEq, and_true] at h
  have h1 := h.1
  have h2 := h.2
  rw [show a = c by omega, show b = d by omega]
theorem kd_val : ∀ (gs : List (Nat × Nat)) (m : Nat) (f : Nat → V) (p : Nat × Nat), (p ∉ gs → valV ((gs.zipIdx m).map fun q => (keyOf2 q.1, f q.2)) (keyOf2 p) = none) ∧ (p ∈ gs → ∃ j, gs[j]? = some p ∧ valV ((gs.zipIdx m).map fun q => (keyOf2 q.1, f q.2)) (keyOf2 p) = some (f (m + j)))
  | [], m, f, p => ⟨fun _ => rfl, fun h => by cases h⟩
  | g :: gs, m, f, p => by
    have ih := kd_val gs (m + 1) f p
    rw [List.zipIdx_cons, List.map_cons]
    by_cases e : g = p
    · subst e
      rw [valV_pos (p := (keyOf2 g, f m)) rfl]
      exact ⟨fun h => absurd List.mem_cons_self h, fun _ => ⟨0, rfl, rfl⟩⟩
    · rw [valV_neg (p := (keyOf2 g, f m)) (fun z => e (keyOf2_inj z))]
      refine ⟨fun h => ih.1 fun m => h (List.mem_cons_of_mem _ m), fun h => ?_⟩
      rcases List.mem_cons.mp h with h | h
      · exact absurd h.symm e
      · obtain ⟨j, hj, hv⟩ := ih.2 h
        exact ⟨j + 1, hj, by rw [hv, show m + 1 + j = m + (j + 1) by omega]⟩
theorem kdict_eq (first : Nat) (gs : List (Nat × Nat)) : kdict first gs = (gs.zipIdx 0).map fun q => (keyOf2 q.1, V.int ((2 * (first + q.2) : Nat) : Int)) := rfl
theorem kdict_no {first : Nat} {gs : List (Nat × Nat)} {p : Nat × Nat} (h : p ∉ gs) : valV (kdict first gs) (keyOf2 p) = none := (kd_val gs 0 (fun j => V.int ((2 * (first + j) : Nat) : Int)) p).1 h
theorem kdict_at {first : Nat} {gs : List (Nat × Nat)} {p : Nat × Nat} (h : p ∈ gs) : ∃ j, gs[j]? = some p ∧ valV (kdict first gs) (keyOf2 p) = some (V.int ((2 * (first + j) : Nat) : Int)) := by
  obtain ⟨j, hj, e⟩ := (kd_val gs 0 (fun j => V.int ((2 * (first + j) : Nat) : Int)) p).2 h
  exact ⟨j, hj, by rw [kdict_eq, e, Nat.zero_add]⟩
theorem kdict_put {first : Nat} {gs : List (Nat × Nat)} {p : Nat × Nat} (h : p ∉ gs) : putK (kdict first gs) (keyOf2 p) (V.int ((2 * (first + gs.length) : Nat) : Int)) = kdict first (gs ++ [p]) := by
  rw [putK_new _ (kdict_no h)]
  unfold kdict
  rw [List.zipIdx_append, List.map_append]
  simp
theorem kdict_len (first : Nat) (gs : List (Nat × Nat)) : (kdict first gs).length = gs.length := by
  unfold kdict
  rw [List.length_map, List.length_zipIdx]
/-- what stands for the pair lo, hi already -/
inductive Stands (b : BSt) (lo hi : Nat) : V → Prop
  | zero : lo = 0 ∨ lo = hi ^^^ 1 → Stands b lo hi (.int ((0 : Nat) : Int))
  | high : ¬ (lo = 0 ∨ lo = hi ^^^ 1) → lo = 1 ∨ lo = hi → Stands b lo hi (.int (hi : Int))
  | gate {j : Nat} : ¬ (lo = 0 ∨ lo = hi ^^^ 1) → ¬ (lo = 1 ∨ lo = hi) → b.gates[j]? = some (lo, hi) → Stands b lo hi (.int ((2 * (b.first + j) : Nat) : Int))
  | none : ¬ (lo = 0 ∨ lo = hi ^^^ 1) → ¬ (lo = 1 ∨ lo = hi) → (lo, hi) ∉ b.gates → Stands b lo hi .non
def sp_Builder_standing (K : PySem.W.Frag) (C : Addr) : Sp := fun vs H Q _ => ∃ (p s g d : Addr) (b : BSt) (x y : Nat), vs = [.ref p, .int (x : Nat), .int (y : Nat)] ∧ BAt C H p s g d b ∧ ∀ H' v, Same H H' → Stands b (min x y) (max x y) v → Q v H'
theorem ok_Builder_standing {P : Program} {w : World} {K : PySem.W.Frag} {mg : Str → Option Value} {base : Heap} {C_Builder : Addr} {f  : Addr} {fd  : FuncData} (F : Fun K "standing" "Builder.standing" s_Builder_standing f fd) (T : Txt K mg C_Builder) :
    FnOk P w K mg base CX0 1 f fd ["self", "a", "b"] (sp_Builder_standing K C_Builder) := by
  refine F.ok scBuilder_standing (fun vs H Q E h => ?_) (fun cdv A outer s H vs Q E hr h => ?_)
  · obtain ⟨p, s, g, d, b, x, y, rfl, _⟩ := h
    rfl
  · obtain ⟨p, s, g, d, b, x, y, rfl, hB, q⟩ := h
    obtain ⟨⟨dx, hp⟩, hs, hg, hd, nd, nsg⟩ := id hB
    refine ⟨_, (pss_cons (ps_set (i := 3) scBuilder_standing.nd rfl (.inl rfl) (pe_callB (call_min2 (by rfl)) (by rfl) T.m_min (by decide +kernel) (pa_cons (pv 1) (pa_cons (pv 2) pa_nil))))
      (pss_cons (ps_set (i := 4) scBuilder_standing.nd rfl (.inl rfl) (pe_callB (call_max2 (by rfl)) (by rfl) T.m_max (by decide +kernel) (pa_cons (pv 1) (pa_cons (pv 2) pa_nil))))
      (pss_cons (ps_if (PW.pt (pw_or (pt_cmpR op_eq (pv 3) pe_int (nomark _)) (pw_or1 (pt_cmpR op_eq (pv 3) (pe_op op_xor (pv 4) pe_int) (nomark _))))) (pss_one (ps_ret pe_int)) pss_nil)
      (pss_cons (ps_if (PW.pt (pw_or (pt_cmpR op_eq (pv 3) pe_int (nomark _)) (pw_or1 (pt_cmpR op_eq (pv 3) (pv 4) (nomark _))))) (pss_one (ps_ret (pv 4))) pss_nil)
      (pss_one (ps_ret (pe_dget1 (hu_of hr) (pe_fld (pv 0) rfl) (pe_tup (pa_cons (pv 3) (pa_cons (pv 4) pa_nil))) ⟨rfl, rfl, rfl, rfl⟩))))))), ?_⟩
    refine ⟨_, rfl, _, rfl, _, _, rfl, ?_⟩
    simp only [vmin2]
    refine ⟨_, rfl, _, rfl, _, _, rfl, ?_⟩
    simp only [vmax2]
    generalize min x y = lo at q ⊢
    generalize max x y = hi at q ⊢
    -- low == 0 or low == high ^ 1
    refine ⟨_, rfl, rfl, _, rfl, ?_⟩
    rw [show decide (V.int (lo : Int) = V.int 0) = decide (lo = 0) from dec_nat lo 0]
    by_cases h0 : lo = 0
    · rw [decide_eq_true h0]
      exact iteT (q H _ (fun _ _ h => h) (.zero (.inl h0)))
    rw [decide_eq_false h0]
    refine iteF ?_
    refine ⟨_, rfl, _, rfl, _, _, rfl, rfl, rfl, _, rfl, ?_⟩
    simp only [show (Builtin.bitXor (hi : Int) 1) = ((hi ^^^ 1 : Nat) : Int) from bxor hi 1]
    rw [show decide (V.int (lo : Int) = V.int ((hi ^^^ 1 : Nat) : Int)) = decide (lo = hi ^^^ 1) from dec_nat _ _]
    by_cases h1 : lo = hi ^^^ 1
    · rw [decide_eq_true h1]
      exact iteT (q H _ (fun _ _ h => h) (.zero (.inr h1)))
    rw [decide_eq_false h1]
    refine iteF ?_
    have n01 : ¬ (lo = 0 ∨ lo = hi ^^^ 1) := fun h => h.elim h0 h1
    refine ⟨_, rfl, rfl, _, rfl, ?_⟩
    rw [show decide (V.int (lo : Int) = V.int 1) = decide (lo = 1) from dec_nat lo 1]
    by_cases h2 : lo = 1
    · rw [decide_eq_true h2]
      exact iteT ⟨_, rfl, q H _ (fun _ _ h => h) (.high n01 (.inl h2))⟩
    rw [decide_eq_false h2]
    refine iteF ?_
    refine ⟨_, rfl, _, rfl, rfl, _, rfl, ?_⟩
    rw [show decide (V.int (lo : Int) = V.int (hi : Int)) = decide (lo = hi) from dec_nat _ _]
    by_cases h3 : lo = hi
    · rw [decide_eq_true h3]
      exact iteT ⟨_, rfl, q H _ (fun _ _ h => h) (.high n01 (.inr h3))⟩
    rw [decide_eq_false h3]
    refine iteF ?_
    have n23 : ¬ (lo = 1 ∨ lo = hi) := fun h => h.elim h2 h3
    refine ⟨_, rfl, p, C_Builder, dx, _, _, rfl, hp, T.c_Builder, T.n_Builder_known, bf_known _ _ _ _, d, rfl, .inr ⟨_, .inl hd⟩, ?_⟩
    refine ⟨_, rfl, _, rfl, by show 2 ≤ sizeLine; decide, fun t nt => ?_⟩
    have st := same_new (o := .tup [.int (lo : Int), .int (hi : Int)]) nt
    refine ⟨_, DGet.t (k := keyOf2 (lo, hi)) (st _ _ hd) upd_same, ?_⟩
    by_cases hm : (lo, hi) ∈ b.gates
    · obtain ⟨j, hj, e⟩ := kdict_at (first := b.first) hm
      rw [e]
      exact q _ _ st (.gate n01 n23 hj)
    · rw [kdict_no hm]
      exact q _ _ st (.none n01 n23 hm)
/-- what both leaves -/
inductive Both (b : BSt) (lo hi : Nat) : Nat → BSt → Prop
  | old {r : Nat} : Stands b lo hi (.int (r : Int)) → Both b lo hi r b
  | new : ¬ (lo = 0 ∨ lo = hi ^^^ 1) → ¬ (lo = 1 ∨ lo = hi) → (lo, hi) ∉ b.gates → Both b lo hi (2 * (b.first + b.gates.length)) ⟨b.ins, b.starts, b.gates ++ [(lo, hi)]⟩
def hidB (p g d : Addr) (H : Hp) : Hp := hid g (hid d (hid p H))
theorem hidB_same (p g d : Addr) (H : Hp) : Same (hidB p g d H) H := ((hid_same _ _).trans (hid_same _ _)).trans (hid_same _ _)
theorem hidB_mono {p g d : Addr} {H H' : Hp} (s : Same H H') : Same (hidB p g d H) (hidB p g d H') := hid_mono (hid_mono (hid_mono s))
theorem hidB_some {p g d b : Addr} {H : Hp} {o : HO} (h : hidB p g d H b = some o) : b ≠ p ∧ b ≠ g ∧ b ≠ d ∧ H b = some o := by
  obtain ⟨h1, h⟩ := hid_some h
  obtain ⟨h2, h⟩ := hid_some h
  obtain ⟨h3, h⟩ := hid_some h
  exact ⟨h3, h1, h2, h⟩
theorem hidB_of {p g d b : Addr} {H : Hp} {o : HO} (h1 : b ≠ p) (h2 : b ≠ g) (h3 : b ≠ d) (h : H b = some o) : hidB p g d H b = some o := hid_of h2 (hid_of h3 (hid_of h1 h))
def sp_Builder_both (K : PySem.W.Frag) (C : Addr) : Sp := fun vs H Q _ => ∃ (p s g d : Addr) (b : BSt) (x y : Nat), vs = [.ref p, .int (x : Nat), .int (y : Nat)] ∧ BAt C H p s g d b ∧ b.gates.length ≤ 1000 ∧
  ∀ H' (r : Nat) b', Same (hidB p g d H) (hidB p g d H') → BAt C H' p s g d b' → Both b (min x y) (max x y) r b' → Q (.int (r : Nat)) H'
theorem ok_Builder_both {P : Program} {w : World} {K : PySem.W.Frag} {mg : Str → Option Value} {base : Heap} {C_Builder : Addr} {f fBuilder_standing : Addr} {fd fdBuilder_standing : FuncData} (F : Fun K "both" "Builder.both" s_Builder_both f fd) (T : Txt K mg C_Builder)
    (G_Builder_standing : FnOk P w K mg base CX0 1 fBuilder_standing fdBuilder_standing ["self", "a", "b"] (sp_Builder_standing K C_Builder)) (D_Builder_standing : MDef K C_Builder "standing" fBuilder_standing fdBuilder_standing ["self", "a", "b"]) :
    FnOk P w K mg base CX0 2 f fd ["self", "a", "b"] (sp_Builder_both K C_Builder) := by
  refine F.ok scBuilder_both (fun vs H Q E h => ?_) (fun cdv A outer s H vs Q E hr h => ?_)
  · obtain ⟨p, s, g, d, b, x, y, rfl, _⟩ := h
    rfl
  · obtain ⟨p, s, g, d, b, x, y, rfl, hB, hbl, q⟩ := h
    obtain ⟨⟨dx, hp⟩, hs, ⟨us, hg, hus⟩, hd, nd, nsg⟩ := id hB
    refine ⟨_, (pss_cons (ps_set (i := 3) scBuilder_both.nd rfl (.inl rfl) (pe_meth (pv 0) T.c_Builder D_Builder_standing.m G_Builder_standing (hr.mono (by omega)) D_Builder_standing.b .nil pass0 (pa_cons (pv 1) (pa_cons (pv 2) pa_nil))))
      (pss_cons (ps_if (pt_cmpR op_notN (pv 3) pe_non (nomark _)) (pss_one (ps_ret (pv 3))) pss_nil)
      (pss_cons (ps_set (i := 3) scBuilder_both.nd rfl (.inl rfl) (pe_op op_mul pe_int (pe_op op_add (pe_op op_add (pe_op op_add pe_int (pe_fld (pv 0) rfl)) (pe_callB call_len_seq (by rfl) T.m_len (by decide +kernel) (pa_cons (pe_fld (pv 0) rfl) pa_nil))) (pe_callB call_len_seq (by rfl) T.m_len (by decide +kernel) (pa_cons (pe_fld (pv 0) rfl) pa_nil)))))
      (pss_cons (ps_set (i := 4) scBuilder_both.nd rfl (.inl rfl) (pe_tup (pa_cons (pe_callB (call_min2 (by rfl)) (by rfl) T.m_min (by decide +kernel) (pa_cons (pv 1) (pa_cons (pv 2) pa_nil))) (pa_cons (pe_callB (call_max2 (by rfl)) (by rfl) T.m_max (by decide +kernel) (pa_cons (pv 1) (pa_cons (pv 2) pa_nil))) pa_nil))))
      (pss_cons (ps_expr (pe_bm PySem.F.plainAttrs_list PySem.F.slot_list_append PySem.F.type_list_append mt_append (pe_fld (pv 0) rfl) (pa_cons (pv 4) pa_nil)))
      (pss_cons (ps_dput (hu_of hr) (pe_fld (pv 0) rfl) (pv 4) (pv 3) rfl)
      (pss_one (ps_ret (pv 3))))))))), ?_⟩
    refine ⟨_, rfl, p, dx, _, rfl, hp, bf_no _ _ _ _ (by decide +kernel) (by decide +kernel) (by decide +kernel) (by decide +kernel), _, rfl, _, rfl, p, s, g, d, b, x, y, rfl, hB, fun H1 v s1 sv => ?_⟩
    have hB1 : BAt C_Builder H1 p s g d b := ⟨⟨dx, s1 _ _ hp⟩, s1 _ _ hs, ⟨us, s1 _ _ hg, hus.same (hidB_mono s1)⟩, s1 _ _ hd, nd, nsg⟩
    refine ⟨_, rfl, rfl, _, rfl, ?_⟩
    have s1' := hidB_mono (p := p) (g := g) (d := d) s1
    cases sv with
    | zero h => exact iteT ⟨_, rfl, q H1 0 b s1' hB1 (.old (.zero h))⟩
    | high h1 h2 => exact iteT ⟨_, rfl, q H1 _ b s1' hB1 (.old (.high h1 h2))⟩
    | gate h1 h2 h3 => exact iteT ⟨_, rfl, q H1 _ b s1' hB1 (.old (.gate h1 h2 h3))⟩
    | none h1 h2 h3 =>
      refine iteF ?_
      have hp1 := s1 _ _ hp
      have hg1 := s1 _ _ hg
      have hs1 := s1 _ _ hs
      have hd1 := s1 _ _ hd
      have lus := hus.len
      refine ⟨_, rfl, p, C_Builder, dx, _, _, rfl, hp1, T.c_Builder, T.n_Builder_ins, bf_ins _ _ _ _, _, _, rfl, rfl, _, rfl, p, C_Builder, dx, _, _, rfl, hp1, T.c_Builder, T.n_Builder_starts, bf_starts _ _ _ _, s, _, rfl, .inl (SqL.of hs1), _, _, rfl, rfl, _, rfl, p, C_Builder, dx, _, _, rfl, hp1, T.c_Builder, T.n_Builder_gates, bf_gates _ _ _ _, g, _, rfl, .inl (SqL.of hg1), _, _, rfl, rfl, _, _, rfl, rfl, .inl ⟨by decide, by decide⟩, ?_⟩
      have eT : V.int ((2 : Int) * ((1 : Int) + (b.ins : Int) + ((vn b.starts).length : Int) + (us.length : Int))) = V.int ((2 * (b.first + b.gates.length) : Nat) : Int) := by
        rw [vn_len, lus]
        rfl
      simp only [eT]
      refine ⟨_, rfl, _, rfl, _, _, rfl, ?_⟩
      simp only [vmin2]
      refine ⟨_, rfl, _, rfl, _, _, rfl, ?_⟩
      simp only [vmax2]
      generalize min x y = lo at q h1 h2 h3 ⊢
      generalize max x y = hi at q h1 h2 h3 ⊢
      refine ⟨by show 2 ≤ sizeLine; decide, fun t nt => ?_⟩
      have st := same_new (o := .tup [.int (lo : Int), .int (hi : Int)]) nt
      have et : (upd H1 t (.tup [.int (lo : Int), .int (hi : Int)])) t = some (.tup [.int (lo : Int), .int (hi : Int)]) := upd_same
      have hp2 := st _ _ hp1
      have hg2 := st _ _ hg1
      have hs2 := st _ _ hs1
      have hd2 := st _ _ hd1
      have s2 := s1.trans st
      have ntp : t ≠ p := fun z => by rw [z, hp1] at nt; cases nt
      have ntg : t ≠ g := fun z => by rw [z, hg1] at nt; cases nt
      have ntd : t ≠ d := fun z => by rw [z, hd1] at nt; cases nt
      generalize (upd H1 t (.tup [.int (lo : Int), .int (hi : Int)])) = H2 at et hp2 hg2 hs2 hd2 s2 ⊢
      clear st
      have npg : p ≠ g := ne_of hp2 hg2 (by intro z; cases z)
      have npd : p ≠ d := ne_of hp2 hd2 (by intro z; cases z)
      have ngd : g ≠ d := ne_of hg2 hd2 (by intro z; cases z)
      refine ⟨_, rfl, p, C_Builder, dx, _, _, rfl, hp2, T.c_Builder, T.n_Builder_gates, bf_gates _ _ _ _, .inl ⟨rfl, _, SqL.of hg2⟩, _, rfl, g, _, _, rfl, rfl, hg2, by rw [lus]; exact small1000 hbl, ?_⟩
      have e3 : ∀ b o, b ≠ g → H2 b = some o → (upd H2 g (.lst (us ++ [V.ref t]))) b = some o := fun b o hb e => by rw [upd_ne hb]; exact e
      have g3 : (upd H2 g (.lst (us ++ [V.ref t]))) g = some (.lst (us ++ [V.ref t])) := upd_same
      generalize (upd H2 g (.lst (us ++ [V.ref t]))) = H3 at e3 g3 ⊢
      have hd3 := e3 _ _ ngd.symm hd2
      refine ⟨_, rfl, _, rfl, p, C_Builder, dx, _, _, rfl, e3 _ _ npg hp2, T.c_Builder, T.n_Builder_known, bf_known _ _ _ _, _, rfl, d, _, rfl, DPut.t (k := keyOf2 (lo, hi)) hd3 (e3 _ _ ntg et) (by rw [kdict_len]; exact small1000 hbl), ?_⟩
      rw [kdict_put h3]
      have e4 : ∀ b' o, b' ≠ g → b' ≠ d → H2 b' = some o → (upd H3 d (.dT (kdict b.first (b.gates ++ [(lo, hi)])))) b' = some o := fun b' o hb hb2 e => by rw [upd_ne hb2]; exact e3 _ _ hb e
      have sB : Same (hidB p g d H) (hidB p g d (upd H3 d (.dT (kdict b.first (b.gates ++ [(lo, hi)]))))) := fun b' o h => by
        obtain ⟨n1, n2, n3, e⟩ := hidB_some h
        exact hidB_of n1 n2 n3 (e4 _ _ n2 n3 (s2 _ _ e))
      have nsd : s ≠ d := ne_of hs2 hd2 (by intro z; cases z)
      refine ⟨_, rfl, q _ _ ⟨b.ins, b.starts, b.gates ++ [(lo, hi)]⟩ sB ⟨⟨dx, e4 _ _ npg npd hp2⟩, ?_, ⟨us ++ [V.ref t], ?_, ?_⟩, ?_, ?_, nsg⟩ (.new h1 h2 h3)⟩
      · exact e4 _ _ nsg nsd hs2
      · rw [upd_ne ngd]
        exact g3
      · refine (hus.same sB).app (.cons (.pair (hidB_of ntp ntg ntd (e4 _ _ ntg ntd et)) (Dv.nat _) (Dv.nat _)) .nil)
      · rw [upd_same]
        rfl
      · rw [List.nodup_append]
        refine ⟨nd, by simp, fun x hx y hy e => ?_⟩
        rw [List.mem_singleton.mp hy] at e
        exact h3 (e ▸ hx)
theorem bdvs_pairs {H H' : Hp} (k : ∀ t xs, H t = some (.tup xs) → H' t = some (.tup xs)) : ∀ {us : List V} {gs : List (Nat × Nat)}, Dvs H us gs → Dvs H' us gs
  | _, [], h => by rw [h.nil_inv]; exact .nil
  | _, g :: gs, h => by
    obtain ⟨u, us, rfl, h1, h2⟩ := h.cons_inv
    obtain ⟨t, x, y, rfl, ht, hx, hy⟩ := h1.pair_inv
    have hx := hx.nat_inv
    have hy := hy.nat_inv
    subst hx hy
    exact .cons (.pair (k _ _ ht) (Dv.nat _) (Dv.nat _)) (bdvs_pairs k h2)
def BSt.net (b : BSt) (nexts outs : List Nat) : Net := ⟨b.ins, b.starts, b.gates, nexts, outs⟩
def sp_Builder_net (K : PySem.W.Frag) (C : Addr) : Sp := fun vs H Q _ => ∃ (p s g d x o : Addr) (b : BSt) (nexts outs : List Nat), vs = [.ref p, .ref x, .ref o] ∧ BAt C H p s g d b ∧ H x = some (.lst (vn nexts)) ∧ H o = some (.lst (vn outs)) ∧
  ∀ H' q, Same H H' → H q = none → (∀ P c, Dr H P c → Dv (hidB p g d (res P c H')) (.ref q) (b.net nexts outs)) → Q (.ref q) H'
theorem ok_Builder_net {P : Program} {w : World} {K : PySem.W.Frag} {mg : Str → Option Value} {base : Heap} {C_Builder : Addr} {f  : Addr} {fd  : FuncData} (F : Fun K "net" "Builder.net" s_Builder_net f fd) (T : Txt K mg C_Builder) :
    FnOk P w K mg base CX0 1 f fd ["self", "nexts", "outs"] (sp_Builder_net K C_Builder) := by
  refine F.ok scBuilder_net (fun vs H Q E h => ?_) (fun cdv A outer s H vs Q E hr h => ?_)
  · obtain ⟨p, s, g, d, x, o, b, nexts, outs, rfl, _⟩ := h
    rfl
  · obtain ⟨p, s, g, d, x, o, b, nexts, outs, rfl, hB, hx, ho, q⟩ := h
    obtain ⟨⟨dx, hp⟩, hs, ⟨us, hg, hus⟩, hd, nd, nsg⟩ := id hB
    refine ⟨_, (pss_one (ps_ret (pe_tup (pa_cons pe_str (pa_cons (pe_fld (pv 0) rfl) (pa_cons (pe_callTy call_list_of (by rfl) T.m_list (by decide +kernel) (pa_cons (pe_fld (pv 0) rfl) pa_nil)) (pa_cons (pe_callTy call_list_of (by rfl) T.m_list (by decide +kernel) (pa_cons (pe_fld (pv 0) rfl) pa_nil)) (pa_cons (pe_callTy call_list_of (by rfl) T.m_list (by decide +kernel) (pa_cons (pv 1) pa_nil)) (pa_cons (pe_callTy call_list_of (by rfl) T.m_list (by decide +kernel) (pa_cons (pv 2) pa_nil)) pa_nil))))))))), ?_⟩
    refine ⟨_, rfl, p, C_Builder, dx, _, _, rfl, hp, T.c_Builder, T.n_Builder_ins, bf_ins _ _ _ _, _, rfl, p, C_Builder, dx, _, _, rfl, hp, T.c_Builder, T.n_Builder_starts, bf_starts _ _ _ _, s, _, rfl, .inl (SqL.of hs), fun a1 n1 => ?_⟩
    have s1 := same_new (o := .lst (vn b.starts)) n1
    have e1 : (upd H a1 (.lst (vn b.starts))) a1 = some (.lst (vn b.starts)) := upd_same
    have w1 : ∀ {z : Addr} {u : HO}, H z = some u → a1 ≠ z := fun h e => by rw [e, h] at n1; cases n1
    generalize (upd H a1 (.lst (vn b.starts))) = H1 at s1 e1 ⊢
    refine ⟨_, rfl, p, C_Builder, dx, _, _, rfl, s1 _ _ hp, T.c_Builder, T.n_Builder_gates, bf_gates _ _ _ _, g, _, rfl, .inl (SqL.of (s1 _ _ hg)), fun a2 n2 => ?_⟩
    have s2 := same_new (o := .lst us) n2
    have e2 : (upd H1 a2 (.lst us)) a2 = some (.lst us) := upd_same
    have e1 := s2 _ _ e1
    have w2 : ∀ {z : Addr} {u : HO}, H z = some u → a2 ≠ z := fun h e => by rw [e, s1 _ _ h] at n2; cases n2
    have s2 := s1.trans s2
    generalize (upd H1 a2 (.lst us)) = H2 at s2 e2 e1 ⊢
    refine ⟨_, rfl, x, _, rfl, .inl (SqL.of (s2 _ _ hx)), fun a3 n3 => ?_⟩
    have s3 := same_new (o := .lst (vn nexts)) n3
    have e3 : (upd H2 a3 (.lst (vn nexts))) a3 = some (.lst (vn nexts)) := upd_same
    have e1 := s3 _ _ e1
    have e2 := s3 _ _ e2
    have w3 : ∀ {z : Addr} {u : HO}, H z = some u → a3 ≠ z := fun h e => by rw [e, s2 _ _ h] at n3; cases n3
    have s3 := s2.trans s3
    generalize (upd H2 a3 (.lst (vn nexts))) = H3 at s3 e3 e2 e1 ⊢
    refine ⟨_, rfl, o, _, rfl, .inl (SqL.of (s3 _ _ ho)), fun a4 n4 => ?_⟩
    have s4 := same_new (o := .lst (vn outs)) n4
    have e4 : (upd H3 a4 (.lst (vn outs))) a4 = some (.lst (vn outs)) := upd_same
    have e1 := s4 _ _ e1
    have e2 := s4 _ _ e2
    have e3 := s4 _ _ e3
    have w4 : ∀ {z : Addr} {u : HO}, H z = some u → a4 ≠ z := fun h e => by rw [e, s3 _ _ h] at n4; cases n4
    have s4 := s3.trans s4
    generalize (upd H3 a4 (.lst (vn outs))) = H4 at s4 e4 e3 e2 e1 ⊢
    refine ⟨by show 6 ≤ sizeLine; decide, fun t nt => ?_⟩
    have s5 := same_new (o := .tup [.str "net", .int (b.ins : Nat), .ref a1, .ref a2, .ref a3, .ref a4]) nt
    have w5 : ∀ {z : Addr} {u : HO}, H z = some u → t ≠ z := fun h e => by rw [e, s4 _ _ h] at nt; cases nt
    have s5' := s4.trans s5
    refine q _ t s5' (none_of s4 nt) fun P c dr => ?_
    obtain ⟨_, cs, z, l1, l2, _⟩ := dr
    refine Dv.net (hidB_of (w5 hp) (w5 hg) (w5 hd) (res_of (w5 l1) (w5 l2) upd_same)) (.natl (hidB_of (w1 hp) (w1 hg) (w1 hd) (res_of (w1 l1) (w1 l2) (s5 _ _ e1)))) (.list (hidB_of (w2 hp) (w2 hg) (w2 hd) (res_of (w2 l1) (w2 l2) (s5 _ _ e2))) ?_) (.natl (hidB_of (w3 hp) (w3 hg) (w3 hd) (res_of (w3 l1) (w3 l2) (s5 _ _ e3)))) (.natl (hidB_of (w4 hp) (w4 hg) (w4 hd) (res_of (w4 l1) (w4 l2) (s5 _ _ e4))))
    refine bdvs_pairs (fun t xs e => ?_) hus
    obtain ⟨h1, h2, h3, e⟩ := hidB_some e
    exact hidB_of h1 h2 h3 (res_of (ne_of e l1 (by intro z; cases z)) (ne_of e l2 (by intro z; cases z)) (s5' _ _ e))
end K32
namespace K32
open PySem PySem.Spec PyProof.Rows L2 V0
/-! ### masks of nodes -/
theorem cpow1 {x : Nat} (h : x ≤ 1000000) : CPow 1 (x : Int) := ⟨Int.natCast_nonneg _, by omega, by decide⟩
def frees (n : Net) : Nat := n.ins + n.starts.length
def mlit (fu : Nat) (f : List Nat) (l : Nat) : Nat := (f[l / 2]?.getD 0) ^^^ fu * (l % 2)
def mfull (n : Net) : Nat := 2 ^ 2 ^ (frees n) - 1
def mbase (n : Net) (i : Nat) : List Nat := 0 :: (List.range i).map fun k => colN (2 ^ (frees n)) fun m => m / 2 ^ k % 2
def maskTo (n : Net) (gs : List (Nat × Nat)) : List Nat := gs.foldl (fun f g => f ++ [mlit (mfull n) f g.1 &&& mlit (mfull n) f g.2]) (mbase n (frees n))
theorem mask_snoc (n : Net) (gs : List (Nat × Nat)) (g : Nat × Nat) : maskTo n (gs ++ [g]) = maskTo n gs ++ [mlit (mfull n) (maskTo n gs) g.1 &&& mlit (mfull n) (maskTo n gs) g.2] := by
  unfold maskTo
  rw [List.foldl_append]
  rfl
theorem mask_len (n : Net) (gs : List (Nat × Nat)) : (maskTo n gs).length = n.base + gs.length := by
  have h : ∀ (gs : List (Nat × Nat)) (f : List Nat), (gs.foldl (fun f g => f ++ [mlit (mfull n) f g.1 &&& mlit (mfull n) f g.2]) f).length = f.length + gs.length := by
    intro gs
    induction gs with
    | nil => exact fun f => rfl
    | cons g gs ih =>
      intro f
      rw [List.foldl_cons, ih, List.length_append, List.length_cons, List.length_cons, List.length_nil]
      omega
  unfold maskTo
  rw [h]
  unfold mbase frees Net.base
  rw [List.length_cons, List.length_map, List.length_range]
  omega
def sp__law_masks (K : PySem.W.Frag) : Sp := fun vs H Q _ => ∃ (v : V) (n : Net), vs = [v] ∧ Dv H v n ∧ (frees n) ≤ 4 ∧ n.many ≤ 1000 ∧ (∀ j g, n.gates[j]? = some g → g.1 < 2 * (n.base + j) ∧ g.2 < 2 * (n.base + j)) ∧
  ∀ H' t m, Same H H' → H t = none → H m = none → H' t = some (.tup [.ref m, .int (mfull n : Nat)]) → H' m = some (.lst (vn (maskTo n n.gates))) → Q (.ref t) H'
theorem ok__law_masks {P : Program} {w : World} {K : PySem.W.Frag} {mg : Str → Option Value} {base : Heap} {C_Builder : Addr} {f  : Addr} {fd  : FuncData} (F : Fun K "_law_masks" "_law_masks" s__law_masks f fd) (T : Txt K mg C_Builder) :
    FnOk P w K mg base CX0 1 f fd ["net"] (sp__law_masks K) := by
  refine F.ok sc_law_masks (fun vs H Q E h => ?_) (fun cdv A outer s H vs Q E hr h => ?_)
  · obtain ⟨v, n, rfl, _⟩ := h
    rfl
  · obtain ⟨v, n, rfl, hn, fr4, hm, hgb, q⟩ := h
    obtain ⟨a, aS, aG, aN, aO, rfl, hA, hS, hG, hN, hO⟩ := hn.net_inv
    obtain ⟨_, e, hS⟩ := hS.natl_inv
    cases e
    obtain ⟨_, us, e, hGl, hus⟩ := hG.list_inv
    cases e
    have eF : V.int ((n.ins : Int) + ((vn n.starts).length : Int)) = V.int (((frees n) : Nat) : Int) := by
      rw [vn_len]
      rfl
    obtain ⟨SZ, hSZ⟩ : ∃ SZ, SZ = 2 ^ (frees n) := ⟨_, rfl⟩
    have sz16 : SZ ≤ 16 := by rw [hSZ]; exact Nat.le_trans (Nat.pow_le_pow_right (by decide) fr4) (by decide)
    obtain ⟨FU, hFU⟩ : ∃ FU, FU = mfull n := ⟨_, rfl⟩
    have eFU : FU = 2 ^ SZ - 1 := by rw [hFU, hSZ]; rfl
    have fu16 : FU < 65536 := by
      have h1 : 2 ^ SZ ≤ 2 ^ 16 := Nat.pow_le_pow_right (by decide) sz16
      have h2 : (2 : Nat) ^ 16 = 65536 := by decide
      have h3 := Nat.two_pow_pos SZ
      omega
    refine ⟨_, (pss_cons (ps_set (i := 1) sc_law_masks.nd rfl (.inl rfl) (pe_op op_add (pe_ix (r := rIxT K) ix_tup (pv 0) pe_int (fun _ _ => rfl)) (pe_callB call_len_seq (by rfl) T.m_len (by decide +kernel) (pa_cons (pe_ix (r := rIxT K) ix_tup (pv 0) pe_int (fun _ _ => rfl)) pa_nil))))
      (pss_cons (ps_set (i := 2) sc_law_masks.nd rfl (.inl rfl) pe_int)
      (pss_cons (ps_for PassesOwn.never rfl (pi_range1 rfl T.m_range (pa_cons (pv 1) pa_nil)) (pg_name (i := 3) sc_law_masks.nd rfl (Or.inl rfl)) (pss_one (ps_set (i := 2) sc_law_masks.nd rfl (.inl rfl) (pe_op op_mul pe_int (pv 2)))))
      (pss_cons (ps_set (i := 4) sc_law_masks.nd rfl (.inl rfl) (pe_op op_sub (pe_op op_shl pe_int (pv 2)) pe_int))
      (pss_cons (ps_set (i := 5) sc_law_masks.nd rfl (.inl rfl) (pe_lst (pa_cons pe_int pa_nil)))
      (pss_cons (ps_for PassesOwn.never rfl (pi_range1 rfl T.m_range (pa_cons (pv 1) pa_nil)) (pg_name (i := 3) sc_law_masks.nd rfl (Or.inl rfl)) (pss_cons (ps_set (i := 6) sc_law_masks.nd rfl (.inl rfl) pe_int)
      (pss_cons (ps_for PassesOwn.never rfl (pi_range1 rfl T.m_range (pa_cons (pv 2) pa_nil)) (pg_name (i := 7) sc_law_masks.nd rfl (Or.inl rfl)) (pss_one (ps_set (i := 6) sc_law_masks.nd rfl (.inl rfl) (pe_op op_add (pv 6) (pe_op op_shl (pe_op op_and (pe_op op_shr (pv 7) (pv 3)) pe_int) (pv 7))))))
      (pss_one (ps_expr (pe_bm PySem.F.plainAttrs_list PySem.F.slot_list_append PySem.F.type_list_append mt_append (pv 5) (pa_cons (pv 6) pa_nil)))))))
      (pss_cons (ps_for PassesOwn.never rfl (pi_list (pe_ix (r := rIxT K) ix_tup (pv 0) pe_int (fun _ _ => rfl))) (pg_tup (by rfl) (pgs_cons (pg_name (i := 8) sc_law_masks.nd rfl (Or.inl rfl)) (pgs_cons (pg_name (i := 9) sc_law_masks.nd rfl (Or.inl rfl)) pgs_nil))) (pss_one (ps_expr (pe_bm PySem.F.plainAttrs_list PySem.F.slot_list_append PySem.F.type_list_append mt_append (pv 5) (pa_cons (pe_op op_and (pe_op op_xor (pe_ix (r := rIxL K) ix_list (pv 5) (pe_op op_fdivN (pv 8) pe_int) (fun _ _ => rfl)) (pe_op op_mul (pv 4) (pe_op op_modN (pe_callTy call_int1 (by rfl) T.m_int (by decide +kernel) (pa_cons (pv 8) pa_nil)) pe_int))) (pe_op op_xor (pe_ix (r := rIxL K) ix_list (pv 5) (pe_op op_fdivN (pv 9) pe_int) (fun _ _ => rfl)) (pe_op op_mul (pv 4) (pe_op op_modN (pe_callTy call_int1 (by rfl) T.m_int (by decide +kernel) (pa_cons (pv 9) pa_nil)) pe_int)))) pa_nil)))))
      (pss_one (ps_ret (pe_tup (pa_cons (pv 5) (pa_cons (pv 4) pa_nil)))))))))))), ?_⟩
    refine ⟨_, rfl, a, _, 1, _, rfl, rfl, SqT.of hA, atI_nat (j := 1) rfl, _, rfl, a, _, 2, _, rfl, rfl, SqT.of hA, atI_nat (j := 2) rfl, aS, _, rfl, .inl (SqL.of hS), _, _, rfl, rfl, ?_⟩
    simp only [eF]
    refine ⟨_, rfl, _, rfl, by omega, by omega, for_range (n := (frees n)) (fun i σ Hx => ∃ y3 : Option V, σ = [some (.ref a), some (.int ((frees n) : Nat)), some (.int (2 ^ i : Nat)), y3, none, none, none, none, none, none] ∧ Hx = H) ⟨none, rfl, rfl⟩ ?_ ?_⟩
    · rintro i σ Hx hi ⟨y3, rfl, rfl⟩
      refine ⟨_, rfl, _, _, rfl, rfl, .inl ⟨by decide, by decide⟩, ?_⟩
      have e2 : V.int ((2 : Int) * ((2 ^ i : Nat) : Int)) = V.int ((2 ^ (i + 1) : Nat) : Int) := by
        rw [show (2 : Int) * ((2 ^ i : Nat) : Int) = ((2 ^ i * 2 : Nat) : Int) by omega, Nat.pow_succ]
      simp only [e2]
      exact ⟨_, rfl, rfl⟩
    rintro σ Hx ⟨y3, rfl, rfl⟩
    rw [← hSZ]
    -- full
    refine ⟨_, rfl, _, _, rfl, rfl, cpow1 (by omega), _, _, rfl, rfl, ?_⟩
    have eU : V.int ((1 : Int) * 2 ^ ((SZ : Int)).toNat - 1) = V.int ((FU : Nat) : Int) := by
      rw [shl_one, eFU]
      have := Nat.two_pow_pos SZ
      rw [show ((2 ^ SZ : Nat) : Int) - 1 = ((2 ^ SZ - 1 : Nat) : Int) by omega]
    simp only [eU]
    -- masks
    refine ⟨by show 1 ≤ sizeLine; decide, fun pm npm => ?_⟩
    have s0 := same_new (o := .lst [.int 0]) npm
    have e0 : (upd Hx pm (.lst [.int 0])) pm = some (.lst (vn (mbase n 0))) := upd_same
    generalize (upd Hx pm (.lst [.int 0])) = H0 at s0 e0 ⊢
    refine ⟨_, rfl, _, rfl, by omega, by omega, for_range (n := (frees n)) (fun i σ Hy => ∃ y3 y6 y7 : Option V, σ = [some (.ref a), some (.int ((frees n) : Nat)), some (.int (SZ : Nat)), y3, some (.int (FU : Nat)), some (.ref pm), y6, y7, none, none] ∧ Same Hx Hy ∧ Hy pm = some (.lst (vn (mbase n i)))) ⟨_, none, none, rfl, s0, e0⟩ ?_ ?_⟩
    · rintro i σ Hy hi ⟨y3, y6, y7, rfl, sy, hp⟩
      rw [show (0 : Int) + (i : Int) = (i : Int) by omega]
      refine ⟨_, rfl, _, rfl, by omega, by omega, for_range (n := SZ) (fun m σ Hz => ∃ y7 : Option V, σ = [some (.ref a), some (.int ((frees n) : Nat)), some (.int (SZ : Nat)), some (.int (i : Nat)), some (.int (FU : Nat)), some (.ref pm), some (.int (colN m (fun m => m / 2 ^ i % 2) : Nat)), y7, none, none] ∧ Hz = Hy) ⟨_, rfl, rfl⟩ ?_ ?_⟩
      · rintro m σ Hz hm ⟨y7, rfl, rfl⟩
        rw [show (0 : Int) + (m : Int) = (m : Int) by omega]
        refine ⟨_, rfl, _, rfl, _, rfl, _, _, rfl, rfl, Int.natCast_nonneg _, _, _, rfl, rfl, ?_⟩
        simp only [shr_nat, band_one]
        have hb : m / 2 ^ i % 2 < 2 := Nat.mod_lt _ (by decide)
        refine ⟨_, rfl, _, _, rfl, rfl, ⟨Int.natCast_nonneg _, by omega, by omega⟩, _, _, rfl, rfl, ?_⟩
        simp only [shl_nat, ← Int.natCast_add, ← col_succ]
        exact ⟨_, rfl, rfl⟩
      · rintro σ Hz ⟨y7, rfl, rfl⟩
        have hl : (mbase n i).length = i + 1 := by
          unfold mbase
          rw [List.length_cons, List.length_map, List.length_range]
        refine ⟨_, rfl, .inl ⟨rfl, _, SqL.of hp⟩, _, rfl, pm, _, _, rfl, rfl, hp, by rw [vn_len, hl]; exact small1000 (by omega), ?_⟩
        refine ⟨_, _, _, rfl, same_mut sy npm, ?_⟩
        rw [upd_same, vn_snoc]
        unfold mbase
        rw [map_range_succ, ← hSZ]
        rfl
    rintro σ Hy ⟨y3, y6, y7, rfl, sy, hp⟩
    have hp : Hy pm = some (.lst (vn (maskTo n []))) := hp
    -- gates
    refine ⟨_, rfl, a, _, 3, _, rfl, rfl, SqT.of (sy _ _ hA), atI_nat (j := 3) rfl, aG, rfl, ⟨_, SqL.of (sy _ _ hGl)⟩, for_list (xs := us) (fun j σ H' => ∃ y3 y6 y7 y8 y9 : Option V, σ = [some (.ref a), some (.int ((frees n) : Nat)), some (.int (SZ : Nat)), y3, some (.int (FU : Nat)), some (.ref pm), y6, y7, y8, y9] ∧ Same Hx H' ∧ H' pm = some (.lst (vn (maskTo n (n.gates.take j))))) ⟨_, _, _, none, none, rfl, sy, hp⟩ (fun j σ H' _ ⟨_, _, _, _, _, _, s', _⟩ => SqL.of (s' _ _ hGl)) ?_ ?_⟩
    · rintro j u σ H' hu ⟨y3, y6, y7, y8, y9, rfl, s', hp⟩
      obtain ⟨⟨x, y⟩, hg1, hd⟩ := hus.at hu
      obtain ⟨t, u1, u2, rfl, ht, hx, hy⟩ := hd.pair_inv
      have hx := hx.nat_inv
      have hy := hy.nat_inv
      subst hx hy
      have hj : j < n.gates.length := (List.getElem?_eq_some_iff.mp hg1).1
      have hb2 := hgb j _ hg1
      have lrow : (maskTo n (n.gates.take j)).length = n.base + j := by
        rw [mask_len, List.length_take]
        omega
      have hb1 : x < 2 * (n.base + j) := hb2.1
      have hb3 : y < 2 * (n.base + j) := hb2.2
      have hmj : n.base + j < 1000 := by unfold Net.many at hm; omega
      rw [take_snoc hg1, mask_snoc, ← hFU]
      generalize maskTo n (n.gates.take j) = f at hp lrow ⊢
      have hx2 : x / 2 < f.length := by omega
      have hy2 : y / 2 < f.length := by omega
      refine ⟨t, _, rfl, SqT.of (s' _ _ ht), rfl, _, _, rfl, _, _, rfl, rfl, ?_⟩
      refine ⟨_, rfl, .inl ⟨rfl, _, SqL.of hp⟩, _, rfl, _, rfl, _, _, rfl, rfl, ⟨by decide, by decide⟩, pm, _, _, _, rfl, rfl, SqL.of hp, (by rw [nfdiv2]; exact atI_nat (vn_get (List.getElem?_eq_getElem hx2))), _, rfl, _, rfl, .inl ⟨_, rfl, _, _, rfl, rfl, (show (2 : Int) ≠ 0 by decide), _, _, rfl, rfl, .inl ⟨by omega, by omega⟩, _, _, rfl, rfl, _, rfl, _, rfl, _, _, rfl, rfl, ⟨by decide, by decide⟩, pm, _, _, _, rfl, rfl, SqL.of hp, (by rw [nfdiv2]; exact atI_nat (vn_get (List.getElem?_eq_getElem hy2))), _, rfl, _, rfl, .inl ⟨_, rfl, _, _, rfl, rfl, (show (2 : Int) ≠ 0 by decide), _, _, rfl, rfl, .inl ⟨by omega, by omega⟩, _, _, rfl, rfl, _, _, rfl, rfl, pm, _, _, rfl, rfl, hp, by rw [vn_len, lrow]; exact small64k (by omega), ?_⟩⟩⟩
      refine ⟨_, _, _, _, _, rfl, same_mut s' npm, ?_⟩
      rw [upd_same]
      have ml : ∀ l : Nat, Builtin.bitXor (((f[l / 2]?.getD 0 : Nat)) : Int) ((FU : Int) * ((l : Int).fmod 2)) = ((mlit FU f l : Nat) : Int) := fun l => by
        rw [nfmod2, ← Int.natCast_mul, bxor]
        rfl
      have m1 := ml x
      have m2 := ml y
      rw [List.getElem?_eq_getElem hx2] at m1
      rw [List.getElem?_eq_getElem hy2] at m2
      show some (HO.lst (vn f ++ [V.int (Builtin.bitAnd (Builtin.bitXor ((f[x / 2] : Nat) : Int) ((FU : Int) * ((x : Int).fmod 2))) (Builtin.bitXor ((f[y / 2] : Nat) : Int) ((FU : Int) * ((y : Int).fmod 2))))])) = _
      rw [show Builtin.bitXor ((f[x / 2] : Nat) : Int) ((FU : Int) * ((x : Int).fmod 2)) = _ from m1, show Builtin.bitXor ((f[y / 2] : Nat) : Int) ((FU : Int) * ((y : Int).fmod 2)) = _ from m2, band, vn_snoc]
    rintro σ H' ⟨y3, y6, y7, y8, y9, rfl, s', hp⟩
    rw [hus.len, List.take_length] at hp
    refine ⟨_, rfl, _, rfl, by show 2 ≤ sizeLine; decide, fun t nt => ?_⟩
    have st := same_new (o := .tup [.ref pm, .int (FU : Nat)]) nt
    exact q _ t pm (s'.trans st) (none_of s' nt) npm (by rw [upd_same, hFU]) (st _ _ hp)
end K32
namespace K32
open PySem PySem.Spec PyProof.Rows L2 V0
/-! ### the draws -/
def sp__law_state (K : PySem.W.Frag) : Sp := fun vs H Q _ => ∃ (a : Addr) (ns : List Int), vs = [.ref a] ∧ SqL K H a (vi ns) ∧ ns.length ≤ 63 ∧ ∀ H' p c, Same H H' → Dr H' p c → Q (.ref p) H'
theorem ok__law_state {P : Program} {w : World} {K : PySem.W.Frag} {mg : Str → Option Value} {base : Heap} {C_Builder : Addr} {f  : Addr} {fd  : FuncData} (F : Fun K "_law_state" "_law_state" s__law_state f fd) (T : Txt K mg C_Builder) :
    FnOk P w K mg base CX0 1 f fd ["script"] (sp__law_state K) := by
  refine F.ok sc_law_state (fun vs H Q E h => ?_) (fun cdv A outer s H vs Q E hr h => ?_)
  · obtain ⟨a, ns, rfl, _⟩ := h
    rfl
  · obtain ⟨a, ns, rfl, hS, hl, q⟩ := h
    refine ⟨_, (pss_cons (ps_set (i := 1) sc_law_state.nd rfl (.inl rfl) pe_int)
      (pss_cons (ps_for PassesOwn.never rfl (pi_list (pv 0)) (pg_name (i := 2) sc_law_state.nd rfl (Or.inl rfl)) (pss_one (ps_set (i := 1) sc_law_state.nd rfl (.inl rfl) (pe_op op_modN (pe_callTy call_int1 (by rfl) T.m_int (by decide +kernel) (pa_cons (pe_op op_add (pe_op op_mul (pv 1) pe_int) (pv 2)) pa_nil)) pe_int))))
      (pss_one (ps_ret (pe_lst (pa_cons (pe_lc (own := [("cell", 2)]) (g := gName 2) (tt := tYes) rfl sc_law_state.nd (pi_list (pv 0)) (blkOk_by (N := N__law_state) (sc := defScope s__law_state) (by decide +kernel)) (fun _ _ _ _ _ => (pg_name (i := 2) sc_law_state.nd rfl (Or.inl rfl))) (fun _ _ _ _ _ => pts_nil) (fun _ _ _ _ _ => (pe_callB call_abs (by rfl) T.m_abs (by decide +kernel) (pa_cons (pe_callTy call_int1 (by rfl) T.m_int (by decide +kernel) (pa_cons (pv 2) pa_nil)) pa_nil)))) (pa_cons (pe_op op_add (pv 1) pe_int) pa_nil))))))), ?_⟩
    refine ⟨_, rfl, a, rfl, ⟨_, hS⟩, for_list (xs := vi ns) (fun _ σ H' => ∃ (z : Int) (y : Option V), σ = [some (.ref a), some (.int z), y] ∧ H' = H) ⟨7, none, rfl, rfl⟩ (fun i σ H' _ h => ?_) ?_ ?_⟩
    · obtain ⟨z, y, _, rfl⟩ := h
      exact hS
    · rintro i v σ H' hv ⟨z, y, rfl, rfl⟩
      obtain ⟨n, hn, rfl⟩ := List.mem_map.mp (List.mem_of_getElem? hv)
      refine ⟨_, rfl, _, _, rfl, rfl, .inr ⟨by decide, by decide⟩, _, rfl, _, _, rfl, rfl, .inl ⟨_, rfl, _, _, rfl, rfl, (show (1000003 : Int) ≠ 0 by decide), ?_⟩⟩
      exact ⟨_, _, rfl, rfl⟩
    · rintro σ H' ⟨z, y, rfl, rfl⟩
      refine ⟨_, rfl, a, rfl, ⟨_, hS⟩, fun D hD => lc_list (xs := vi ns) (fun i H'' => Same H' H'' ∧ H'' D = some (.lst (vn ((ns.take i).map Int.natAbs)))) ⟨same_new hD, upd_same⟩ (fun i H'' _ h => h.1.seq hS) ?_ ?_⟩
      · rintro i v H'' hv ⟨sm, hD'⟩
        have hi : i < ns.length := by
          have h := (List.getElem?_eq_some_iff.mp hv).1
          rw [List.length_map] at h
          exact h
        rw [List.getElem?_map, List.getElem?_eq_getElem hi] at hv
        cases hv
        refine ⟨rfl, _, rfl, .inl ⟨_, rfl, _, rfl, _, hD', ?_, same_mut sm hD, ?_⟩⟩
        · rw [vn_len, List.length_map, List.length_take]
          exact small1000 (by omega)
        · rw [upd_same, List.take_add_one, List.getElem?_eq_getElem hi]
          have e : (if ns[i] < 0 then -ns[i] else ns[i]) = ((ns[i].natAbs : Nat) : Int) := by
            by_cases h : ns[i] < 0
            · rw [if_pos h]
              omega
            · rw [if_neg h]
              omega
          rw [e]
          unfold vn
          rw [List.map_append, List.map_append]
          rfl
      · rintro H'' ⟨sm, hD'⟩
        refine ⟨_, rfl, _, _, rfl, rfl, by show 2 ≤ sizeLine; decide, fun p hp => ?_⟩
        have hDp : D ≠ p := fun e => by
          rw [e, hp] at hD'
          cases hD'
        refine q _ p D (same_mut sm (by rcases hq : H' p with _ | o; rfl; rw [sm _ _ hq] at hp; cases hp)) ⟨fun e => hDp e.symm, (ns.take (vi ns).length).map Int.natAbs, z + 1, upd_same, ?_, ?_⟩
        · rw [upd_ne hDp]
          exact hD'
        · rw [List.length_map, List.length_take]
          omega
def sp__law_draw (K : PySem.W.Frag) : Sp := fun vs H Q _ => ∃ (p c : Addr) (n : Nat), vs = [.ref p, .int n] ∧ Dr H p c ∧ 0 < n ∧ n < 1073741824 ∧ ∀ H' (d : Nat), Go p c H H' → d < n → Q (.int d) H'
theorem ok__law_draw {P : Program} {w : World} {K : PySem.W.Frag} {mg : Str → Option Value} {base : Heap} {C_Builder : Addr} {f  : Addr} {fd  : FuncData} (F : Fun K "_law_draw" "_law_draw" s__law_draw f fd) (T : Txt K mg C_Builder) :
    FnOk P w K mg base CX0 1 f fd ["state", "many"] (sp__law_draw K) := by
  refine F.ok sc_law_draw (fun vs H Q E h => ?_) (fun cdv A outer s H vs Q E hr h => ?_)
  · obtain ⟨p, c, n, rfl, _⟩ := h
    rfl
  · obtain ⟨p, c, n, rfl, d0, h0, h1, q⟩ := h
    have nz : ((n : Nat) : Int) ≠ 0 := by omega
    have fm : ∀ x : Nat, ((x : Int)).fmod (n : Int) = ((x % n : Nat) : Int) := fun x => by rw [Int.fmod_eq_emod_of_nonneg _ (by omega)]; omega
    obtain ⟨nc, cs0, z0, hp0, hc0, hl0⟩ := d0
    refine ⟨_, (pss_cons (ps_set (i := 2) sc_law_draw.nd rfl (.inl rfl) (pe_ix (r := rIxL K) ix_list (pv 0) pe_int (fun _ _ => rfl)))
      (C8.pss_cut (ps_while PassesOwn.never (PW.pt (pw_and (pt_cmpR op_gt (pe_callB call_len_seq (by rfl) T.m_len (by decide +kernel) (pa_cons (pv 2) pa_nil)) pe_int (nomark _)) (pw_and1 (pt_cmpR op_eq (pe_ix (r := rIxL K) ix_list (pv 2) pe_int (fun _ _ => rfl)) pe_int (nomark _))))) (pss_one (ps_expr (pe_bm PySem.F.plainAttrs_list PySem.F.slot_list_pop PySem.F.type_list_pop mt_popAt (pv 2) (pa_cons pe_int pa_nil)))))
      (pss_cons (ps_if (pt_cmpR op_gt (pe_callB call_len_seq (by rfl) T.m_len (by decide +kernel) (pa_cons (pv 2) pa_nil)) pe_int (nomark _)) (pss_cons (ps_set (i := 3) sc_law_draw.nd rfl (.inl rfl) (pe_ix (r := rIxL K) ix_list (pv 2) pe_int (fun _ _ => rfl)))
      (pss_cons (ps_asg (pe_op op_fdivN (pv 3) (pv 1)) (pg_sub (pv 2) pe_int set_list))
      (pss_one (ps_ret (pe_op op_modN (pe_callTy call_int1 (by rfl) T.m_int (by decide +kernel) (pa_cons (pv 3) pa_nil)) (pv 1)))))) pss_nil)
      (pss_cons (ps_set (i := 4) sc_law_draw.nd rfl (.inl rfl) (pe_op op_modN (pe_callTy call_int1 (by rfl) T.m_int (by decide +kernel) (pa_cons (pe_op op_add (pe_op op_mul (pe_ix (r := rIxL K) ix_list (pv 0) pe_int (fun _ _ => rfl)) pe_int) pe_int) pa_nil)) pe_int))
      (pss_cons (ps_asg (pv 4) (pg_sub (pv 0) pe_int set_list))
      (pss_one (ps_ret (pe_op op_modN (pe_callTy call_int1 (by rfl) T.m_int (by decide +kernel) (pa_cons (pe_op op_fdivN (pv 4) pe_int) pa_nil)) (pv 1))))))))), ?_⟩
    refine ⟨_, rfl, p, _, 0, _, rfl, rfl, SqL.of hp0, atI_nat (j := 0) rfl, ?_⟩
    have go : ∀ (cs : List Nat) (z : Int), cs.length ≤ 63 → Go p c H (upd (upd H c (.lst (vn cs))) p (.lst [.ref c, .int z])) := fun cs z hl =>
      ⟨⟨nc, _, _, hp0, hc0, hl0⟩, ⟨nc, cs, z, upd_same, by rw [upd_ne (fun e => nc e.symm)]; exact upd_same, hl⟩, fun b o hb => by
        obtain ⟨b1, b2, b3⟩ := res_some hb
        rw [res_eq b1 b2, upd_ne b1, upd_ne b2]
        exact b3⟩
    have hpc : ∀ cs : List Nat, (upd H c (.lst (vn cs))) p = some (.lst [.ref c, .int z0]) := fun cs => by
      rw [upd_ne nc]
      exact hp0
    refine ⟨fun σ H' => ∃ cs : List Nat, σ = [some (.ref p), some (.int n), some (.ref c), none, none] ∧ H' = upd H c (.lst (vn cs)) ∧ cs.length ≤ 63, ?_, ?_⟩
    · refine while_by (fun σ H' => ∃ cs : List Nat, σ = [some (.ref p), some (.int n), some (.ref c), none, none] ∧ H' = upd H c (.lst (vn cs)) ∧ cs.length ≤ 63) (fun _ H' => match H' c with | some (.lst xs) => xs.length | _ => 0) ⟨cs0, rfl, (upd_id hc0).symm, hl0⟩ ?_ ?_
      · rintro σ H' ⟨cs, rfl, rfl, hl⟩
        refine ⟨_, rfl, c, _, rfl, .inl (SqL.of upd_same), _, _, rfl, rfl, _, rfl, ?_⟩
        cases cs with
        | nil => exact iteF (iteF ⟨[], rfl, rfl, hl⟩)
        | cons x r =>
          have e : decide ((((vn (x :: r)).length : Nat) : Int) > 0) = true := decide_eq_true (by rw [vn_len, List.length_cons]; omega)
          rw [e]
          refine iteT ?_
          refine ⟨_, rfl, c, _, 0, _, rfl, rfl, SqL.of upd_same, atI_nat (j := 0) rfl, rfl, _, rfl, ?_⟩
          refine ite2 (fun _ => ?_) (fun _ => ⟨x :: r, rfl, rfl, hl⟩)
          refine ⟨_, rfl, .inl ⟨rfl, _, SqL.of upd_same⟩, c, _, 0, 0, _, rfl, rfl, upd_same, by decide, by decide, ?_, rfl, ?_, ?_⟩
          · rw [vn_len, List.length_cons]
            unfold seqIndex?
            simp
          · exact ⟨r, rfl, by rw [upd_upd]; rfl, by rw [List.length_cons] at hl; omega⟩
          · show (match (upd _ c _) c with | some (.lst xs) => xs.length | _ => 0) < (match (upd H c (.lst (vn (x :: r)))) c with | some (.lst xs) => xs.length | _ => 0)
            rw [upd_same, upd_same]
            show ((vn (x :: r)).eraseIdx 0).length < (vn (x :: r)).length
            simp
      · intro σ H' Q Q' hq h
        obtain ⟨x, e1, p', ys, e2, e3, i, j, e4, e5, k, e6, h⟩ := h
        refine ⟨x, e1, p', ys, e2, e3, i, j, e4, e5, k, e6, ?_⟩
        cases k with
        | false => exact iteF (hq _ _ (by rw [if_neg Bool.false_ne_true] at h; exact h))
        | true =>
          rw [if_pos rfl] at h
          obtain ⟨y, f1, l, xs, i2, v, f2, f3, f4, f5, f6, k2, f7, h⟩ := h
          exact iteT ⟨y, f1, l, xs, i2, v, f2, f3, f4, f5, f6, k2, f7, hq _ _ h⟩
    · rintro σ H' ⟨cs, rfl, rfl, hl⟩
      refine ⟨_, rfl, c, _, rfl, .inl (SqL.of upd_same), _, _, rfl, rfl, _, rfl, ?_⟩
      cases cs with
      | nil =>
        refine iteF ?_
        refine ⟨_, rfl, p, _, 1, _, rfl, rfl, SqL.of (hpc []), atI_nat (j := 1) rfl, _, _, rfl, rfl, .inr ⟨by decide, by decide⟩, _, _, rfl, rfl, .inl ⟨_, rfl, _, _, rfl, rfl, (show (2147483647 : Int) ≠ 0 by decide), ?_⟩⟩
        refine ⟨_, rfl, _, rfl, p, _, 1, 1, rfl, rfl, hpc [], rfl, ?_⟩
        have r := emod_range (x := z0 * 48271 + 12345) (show (0 : Int) < 2147483647 by decide)
        refine ⟨_, rfl, _, _, rfl, rfl, ⟨by decide, by decide⟩, .inl ⟨_, rfl, _, rfl, _, _, rfl, rfl, nz, ?_⟩⟩
        obtain ⟨y, hy⟩ : ∃ y : Nat, ((z0 * 48271 + 12345).fmod 2147483647).fdiv 64 = (y : Int) := ⟨_, (Int.toNat_of_nonneg (by
          rw [Int.fdiv_eq_ediv_of_nonneg _ (by decide)]
          omega)).symm⟩
        show Q (V.int ((((z0 * 48271 + 12345).fmod 2147483647).fdiv 64).fmod n)) _
        rw [hy, fm]
        exact q _ _ (go [] _ hl) (Nat.mod_lt _ h0)
      | cons x r =>
        have e : decide ((((vn (x :: r)).length : Nat) : Int) > 0) = true := decide_eq_true (by rw [vn_len, List.length_cons]; omega)
        rw [e]
        refine iteT ?_
        refine ⟨_, rfl, c, _, 0, _, rfl, rfl, SqL.of upd_same, atI_nat (j := 0) rfl, ?_⟩
        refine ⟨_, rfl, _, rfl, _, _, rfl, rfl, ⟨nz, by show ((n : Nat) : Int).natAbs < 1073741824; omega⟩, ?_⟩
        refine ⟨_, rfl, c, _, 0, 0, rfl, rfl, upd_same, ix_nat (j := 0) (by rw [vn_len, List.length_cons]; omega), ?_⟩
        refine ⟨_, rfl, .inl ⟨_, rfl, _, rfl, _, _, rfl, rfl, nz, ?_⟩⟩
        show Q (V.int ((x : Int).fmod n)) _
        rw [fm, upd_upd]
        have ed : (x : Int).fdiv n = ((x / n : Nat) : Int) := by
          rw [Int.fdiv_eq_ediv_of_nonneg _ (by omega)]
          rfl
        show Q _ (upd H c (.lst ((V.int ((x : Int).fdiv n)) :: vn r)))
        rw [ed]
        have g := go (x / n :: r) z0 hl
        rw [upd_id (show (upd H c (.lst (vn (x / n :: r)))) p = _ from hpc _)] at g
        exact q _ _ g (Nat.mod_lt _ h0)

/-! ### base_of -/
def sp_base_of (K : PySem.W.Frag) : Sp := fun vs H Q _ => ∃ (v : V) (n : Net), vs = [v] ∧ Dv H v n ∧ Q (.int (n.base : Nat)) H
theorem ok_base_of {P : Program} {w : World} {K : PySem.W.Frag} {mg : Str → Option Value} {base : Heap} {C_Builder : Addr} {f  : Addr} {fd  : FuncData} (F : Fun K "base_of" "base_of" s_base_of f fd) (T : Txt K mg C_Builder) :
    FnOk P w K mg base CX0 1 f fd ["net"] (sp_base_of K) := by
  refine F.ok scbase_of (fun vs H Q E h => ?_) (fun cdv A outer s H vs Q E hr h => ?_)
  · obtain ⟨l, n, rfl, _⟩ := h
    rfl
  · obtain ⟨v, n, rfl, hn, q⟩ := h
    obtain ⟨a, aS, aG, aN, aO, rfl, hA, hS, hG, hN, hO⟩ := hn.net_inv
    obtain ⟨_, e, hS⟩ := hS.natl_inv
    cases e
    refine ⟨_, (pss_one (ps_ret (pe_op op_add (pe_op op_add pe_int (pe_ix (r := rIxT K) ix_tup (pv 0) pe_int (fun _ _ => rfl))) (pe_callB call_len_seq (by rfl) T.m_len (by decide +kernel) (pa_cons (pe_ix (r := rIxT K) ix_tup (pv 0) pe_int (fun _ _ => rfl)) pa_nil))))), ?_⟩
    refine ⟨_, rfl, a, _, 1, _, rfl, rfl, SqT.of hA, atI_nat (j := 1) rfl, _, _, rfl, rfl, _, rfl, a, _, 2, _, rfl, rfl, SqT.of hA, atI_nat (j := 2) rfl, aS, _, rfl, .inl (SqL.of hS), _, _, rfl, rfl, ?_⟩
    show Q (V.int ((1 : Int) + (n.ins : Int) + ((vn n.starts).length : Int))) H
    rw [vn_len]
    exact q

/-! ### the faults of nets: there is none -/
structure Kind (n : Net) : Prop where
  bits : ∀ b ∈ n.starts, b < 2
  g : ∀ j g, n.gates[j]? = some g → g.1 < 2 * (n.base + j) ∧ g.2 < 2 * (n.base + j)
  nl : n.nexts.length = n.starts.length
  nx : ∀ x ∈ n.nexts, x < 2 * n.many
  ox : ∀ x ∈ n.outs, x < 2 * n.many
theorem kind_of {n : Net} {i f m : Nat} (h : n.Ok i f m) : Kind n := ⟨h.bits, h.g, h.nl, h.nx, h.ox⟩
def sp_many_nodes (K : PySem.W.Frag) : Sp := fun vs H Q _ => ∃ (v : V) (n : Net), vs = [v] ∧ Dv H v n ∧ Q (.int (n.many : Nat)) H
theorem ok_many_nodes {P : Program} {w : World} {K : PySem.W.Frag} {mg : Str → Option Value} {base : Heap} {C_Builder : Addr} {f fbase_of : Addr} {fd fdbase_of : FuncData} (F : Fun K "many_nodes" "many_nodes" s_many_nodes f fd) (T : Txt K mg C_Builder)
    (G_base_of : FnOk P w K mg base CX0 1 fbase_of fdbase_of ["net"] (sp_base_of K)) (D_base_of : Def K mg "base_of" fbase_of fdbase_of ["net"]) :
    FnOk P w K mg base CX0 2 f fd ["net"] (sp_many_nodes K) := by
  refine F.ok scmany_nodes (fun vs H Q E h => ?_) (fun cdv A outer s H vs Q E hr h => ?_)
  · obtain ⟨l, n, rfl, _⟩ := h
    rfl
  · obtain ⟨v, n, rfl, hn, q⟩ := h
    have hn0 := hn
    obtain ⟨a, aS, aG, aN, aO, rfl, hA, hS, hG, hN, hO⟩ := hn.net_inv
    obtain ⟨_, us, e, hGl, hus⟩ := hG.list_inv
    cases e
    refine ⟨_, (pss_one (ps_ret (pe_op op_add (pe_call G_base_of (hr.mono (by omega)) (by rfl) D_base_of.m D_base_of.k D_base_of.b .nil pass0 (pa_cons (pv 0) pa_nil)) (pe_callB call_len_seq (by rfl) T.m_len (by decide +kernel) (pa_cons (pe_ix (r := rIxT K) ix_tup (pv 0) pe_int (fun _ _ => rfl)) pa_nil))))), ?_⟩
    refine ⟨_, rfl, .ref a, n, rfl, hn0, _, rfl, a, _, 3, _, rfl, rfl, SqT.of hA, atI_nat (j := 3) rfl, aG, _, rfl, .inl (SqL.of hGl), _, _, rfl, rfl, ?_⟩
    show Q (V.int ((n.base : Int) + (us.length : Int))) H
    rw [hus.len]
    exact q
def sp_fault_of (K : PySem.W.Frag) : Sp := fun vs H Q _ => ∃ (v : V) (n : Net), vs = [v] ∧ Dv H v n ∧ Kind n ∧ ∀ H', Same H H' → Q .non H'
theorem ok_fault_of {P : Program} {w : World} {K : PySem.W.Frag} {mg : Str → Option Value} {base : Heap} {C_Builder : Addr} {f fbase_of fmany_nodes : Addr} {fd fdbase_of fdmany_nodes : FuncData} (F : Fun K "fault_of" "fault_of" s_fault_of f fd) (T : Txt K mg C_Builder)
    (G_base_of : FnOk P w K mg base CX0 1 fbase_of fdbase_of ["net"] (sp_base_of K)) (D_base_of : Def K mg "base_of" fbase_of fdbase_of ["net"])
    (G_many_nodes : FnOk P w K mg base CX0 2 fmany_nodes fdmany_nodes ["net"] (sp_many_nodes K)) (D_many_nodes : Def K mg "many_nodes" fmany_nodes fdmany_nodes ["net"]) :
    FnOk P w K mg base CX0 3 f fd ["net"] (sp_fault_of K) := by
  refine F.ok scfault_of (fun vs H Q E h => ?_) (fun cdv A outer s H vs Q E hr h => ?_)
  · obtain ⟨l, n, rfl, _⟩ := h
    rfl
  · obtain ⟨v, n, rfl, hn, kd, q⟩ := h
    have hn0 := hn
    obtain ⟨a, aS, aG, aN, aO, rfl, hA, hS, hG, hN, hO⟩ := hn.net_inv
    obtain ⟨_, us, e, hGl, hus⟩ := hG.list_inv
    cases e
    obtain ⟨_, e, hS⟩ := hS.natl_inv
    cases e
    obtain ⟨_, e, hN⟩ := hN.natl_inv
    cases e
    obtain ⟨_, e, hO⟩ := hO.natl_inv
    cases e
    refine ⟨_, (pss_cons (ps_asg (pv 0) (pg_tup (by rfl) (pgs_cons (pg_name (i := 1) scfault_of.nd rfl (Or.inl rfl)) (pgs_cons (pg_name (i := 1) scfault_of.nd rfl (Or.inl rfl)) (pgs_cons (pg_name (i := 2) scfault_of.nd rfl (Or.inl rfl)) (pgs_cons (pg_name (i := 3) scfault_of.nd rfl (Or.inl rfl)) (pgs_cons (pg_name (i := 4) scfault_of.nd rfl (Or.inl rfl)) (pgs_cons (pg_name (i := 5) scfault_of.nd rfl (Or.inl rfl)) pgs_nil))))))))
      (pss_cons (ps_set (i := 6) scfault_of.nd rfl (.inr rfl) (pe_call G_base_of (hr.mono (by omega)) (by rfl) D_base_of.m D_base_of.k D_base_of.b .nil pass0 (pa_cons (pv 0) pa_nil)))
      (pss_cons (ps_for PassesOwn.never rfl (pi_enum (by rfl) T.m_enumerate (pa_cons (pv 2) pa_nil)) (pg_tup (by rfl) (pgs_cons (pg_name (i := 7) scfault_of.nd rfl (Or.inr rfl)) (pgs_cons (pg_name (i := 8) scfault_of.nd rfl (Or.inl rfl)) pgs_nil))) (pss_one (ps_if (pt_cmpR (r := rIn K true) op_notIn_seq (pv 8) (pe_tup (pa_cons pe_int (pa_cons pe_int pa_nil))) (by rfl)) (pss_one V0.ps_never) pss_nil)))
      (pss_cons (ps_for PassesOwn.never rfl (pi_enum (by rfl) T.m_enumerate (pa_cons (pv 3) pa_nil)) (pg_tup (by rfl) (pgs_cons (pg_name (i := 7) scfault_of.nd rfl (Or.inr rfl)) (pgs_cons (pg_name (i := 9) scfault_of.nd rfl (Or.inl rfl)) pgs_nil))) (pss_one (ps_if (pt_val (pe_callB (cr_any (by rfl)) (by rfl) T.m_any (by decide +kernel) (pa_cons (pe_lc (own := [("literal", 10)]) (g := gName 10) (tt := tYes) rfl scfault_of.nd (pi_tup (pv 9)) (blkOk_by (N := N_fault_of) (sc := defScope s_fault_of) (by decide +kernel)) (fun _ _ _ _ _ => (pg_name (i := 10) scfault_of.nd rfl (Or.inl rfl))) (fun _ _ _ _ _ => pts_nil) (fun _ _ _ _ _ => (pe_or (pe_cmpR op_lt (pv 10) pe_int (nomark _)) (pe_one (pe_cmpR op_ge (pv 10) (pe_op op_mul pe_int (pe_op op_add (pv 6) (pv 7))) (nomark _)))))) pa_nil))) (pss_one V0.ps_never) pss_nil)))
      (pss_cons (ps_if (pt_cmpR op_ne (pe_callB call_len_seq (by rfl) T.m_len (by decide +kernel) (pa_cons (pv 4) pa_nil)) (pe_callB call_len_seq (by rfl) T.m_len (by decide +kernel) (pa_cons (pv 2) pa_nil)) (nomark _)) (pss_one V0.ps_never) pss_nil)
      (pss_cons (ps_for PassesOwn.never rfl (pi_tup (pe_tup (pa_cons (pe_tup (pa_cons pe_str (pa_cons (pv 4) pa_nil))) (pa_cons (pe_tup (pa_cons pe_str (pa_cons (pv 5) pa_nil))) pa_nil)))) (pg_tup (by rfl) (pgs_cons (pg_name (i := 11) scfault_of.nd rfl (Or.inl rfl)) (pgs_cons (pg_name (i := 12) scfault_of.nd rfl (Or.inl rfl)) pgs_nil))) (pss_one (ps_for PassesOwn.never rfl (pi_enum (by rfl) T.m_enumerate (pa_cons (pv 12) pa_nil)) (pg_tup (by rfl) (pgs_cons (pg_name (i := 7) scfault_of.nd rfl (Or.inr rfl)) (pgs_cons (pg_name (i := 10) scfault_of.nd rfl (Or.inl rfl)) pgs_nil))) (pss_one (ps_if (PW.pt (pw_or (pt_cmpR op_lt (pv 10) pe_int (nomark _)) (pw_or1 (pt_cmpR op_ge (pv 10) (pe_op op_mul pe_int (pe_call G_many_nodes (hr.mono (by omega)) (by rfl) D_many_nodes.m D_many_nodes.k D_many_nodes.b .nil pass0 (pa_cons (pv 0) pa_nil))) (nomark _))))) (pss_one V0.ps_never) pss_nil)))))
      (pss_one (ps_ret pe_non)))))))), ?_⟩
    refine ⟨_, rfl, a, _, rfl, SqT.of hA, rfl, _, _, rfl, _, _, rfl, _, _, rfl, _, _, rfl, _, _, rfl, _, _, rfl, rfl, ?_⟩
    refine ⟨_, rfl, .ref a, n, rfl, hn0, ?_⟩
    -- starts
    refine ⟨_, rfl, aS, _, rfl, SqL.of hS, for_it walk_enum (fun i σ Hx => ∃ y7 y8 : Option V, σ = [some (.ref a), some (.int (n.ins : Nat)), some (.ref aS), some (.ref aG), some (.ref aN), some (.ref aO), some (.int (n.base : Nat)), y7, y8, none, none, none, none] ∧ Same H Hx) ⟨none, none, rfl, fun _ _ h => h⟩ (fun i σ Hx _ ⟨_, _, _, s'⟩ => SqL.of (s' _ _ hS)) ?_ ?_⟩
    · rintro i v σ Hx Hx' hi ⟨y7, y8, rfl, sx⟩ ⟨T1, x, y, rfl, nT, rfl, ex, ey⟩
      cases ex
      rw [vn_len] at hi
      have hx := List.getElem?_eq_getElem hi
      have ey : (vn n.starts)[i]? = some y := ey
      rw [vn_get hx] at ey
      cases ey
      have hb := kd.bits _ (List.getElem_mem hi)
      have sT := same_new (o := .tup [.int (i : Nat), .int ((n.starts[i] : Nat) : Int)]) nT
      refine ⟨T1, _, rfl, SqT.of upd_same, rfl, _, _, rfl, _, _, rfl, rfl, ?_⟩
      refine ⟨_, rfl, by show 2 ≤ sizeLine; decide, fun T2 nT2 => ?_⟩
      refine ⟨T2, _, rfl, .inr (SqT.of upd_same), rfl, rfl, _, rfl, ?_⟩
      show if (if true = true then !inV (.int ((n.starts[i] : Nat) : Int)) (vn [0, 1]) else inV (.int ((n.starts[i] : Nat) : Int)) (vn [0, 1])) = true then _ else _
      rw [if_pos rfl, inV_vn, decide_eq_true (show n.starts[i] ∈ [0, 1] by simp; omega)]
      refine iteF ⟨_, _, rfl, sx.trans (sT.trans (same_new nT2))⟩
    rintro σ Hx ⟨y7, y8, rfl, sx⟩
    -- gates
    refine ⟨_, rfl, aG, _, rfl, SqL.of (sx _ _ hGl), for_it walk_enum (fun i σ Hx => ∃ y7 y8 y9 y10 : Option V, σ = [some (.ref a), some (.int (n.ins : Nat)), some (.ref aS), some (.ref aG), some (.ref aN), some (.ref aO), some (.int (n.base : Nat)), y7, y8, y9, y10, none, none] ∧ Same H Hx) ⟨_, _, _, _, rfl, sx⟩ (fun i σ Hx _ ⟨_, _, _, _, _, s'⟩ => SqL.of (s' _ _ hGl)) ?_ ?_⟩
    · rintro i v σ Hx Hx' hi ⟨y7, y8, y9, y10, rfl, sx⟩ ⟨T1, x, y, rfl, nT, rfl, ex, ey⟩
      cases ex
      have ey : us[i]? = some y := ey
      obtain ⟨g, hg, hd⟩ := hus.at ey
      obtain ⟨t, u1, u2, rfl, ht, hx1, hx2⟩ := hd.pair_inv
      have hx1 := hx1.nat_inv
      have hx2 := hx2.nat_inv
      subst hx1 hx2
      have hb := kd.g i g hg
      have sT := same_new (o := .tup [.int (i : Nat), .ref t]) nT
      have sy := sx.trans sT
      refine ⟨T1, _, rfl, SqT.of upd_same, rfl, _, _, rfl, _, _, rfl, rfl, ?_⟩
      refine ⟨_, rfl, t, rfl, ⟨_, SqT.of (sy _ _ ht)⟩, fun D nD => lc_tup (xs := [.int (g.1 : Int), .int (g.2 : Int)]) (fun j Hz => Same (upd Hx T1 (.tup [.int (i : Nat), .ref t])) Hz ∧ Hz D = some (.lst ((List.replicate j false).map V.bl))) ⟨same_new nD, upd_same⟩ (fun j Hz _ h => SqT.of (h.1 _ _ (sy _ _ ht))) ?_ ?_⟩
      · rintro j v Hz hv ⟨sz, hp⟩
        obtain ⟨l, rfl, hl, hj2⟩ : ∃ l : Nat, v = V.int (l : Int) ∧ l < 2 * (n.base + i) ∧ j < 2 := by
          have hj : j = 0 ∨ j = 1 := by
            have h : j < 2 := (List.getElem?_eq_some_iff.mp hv).1
            omega
          rcases hj with rfl | rfl
          · cases hv
            exact ⟨g.1, rfl, hb.1, by decide⟩
          · cases hv
            exact ⟨g.2, rfl, hb.2, by decide⟩
        refine ⟨rfl, _, rfl, _, _, rfl, rfl, _, rfl, ?_⟩
        rw [decide_eq_false (show ¬ (l : Int) < 0 by omega)]
        refine iteF ?_
        refine ⟨_, rfl, _, rfl, _, rfl, _, _, rfl, rfl, _, _, rfl, rfl, .inl ⟨by decide, by decide⟩, _, _, rfl, rfl, ?_⟩
        refine ⟨_, hp, by rw [List.length_map, List.length_replicate]; exact small1000 (by omega), same_mut sz nD, ?_⟩
        rw [upd_same]
        show some (HO.lst (_ ++ [V.bl (decide ((l : Int) ≥ 2 * ((n.base : Int) + (i : Int))))])) = _
        rw [decide_eq_false (show ¬ (l : Int) ≥ 2 * ((n.base : Int) + (i : Int)) by omega), List.replicate_succ', List.map_append]
        rfl
      · rintro Hz ⟨sz, hp⟩
        refine ⟨D, _, rfl, SqL.of hp, _, rfl, ?_⟩
        rw [show (List.replicate [V.int (g.1 : Int), V.int (g.2 : Int)].length false).any id = false from rfl]
        exact iteF ⟨_, _, _, _, rfl, sy.trans sz⟩
    rintro σ Hx ⟨y7, y8, y9, y10, rfl, sx⟩
    refine ⟨_, rfl, aN, _, rfl, .inl (SqL.of (sx _ _ hN)), _, rfl, aS, _, rfl, .inl (SqL.of (sx _ _ hS)), rfl, _, rfl, ?_⟩
    rw [show (!decide (V.int ((vn n.nexts).length : Nat) = V.int ((vn n.starts).length : Nat))) = false by rw [vn_len, vn_len, kd.nl, decide_eq_true rfl]; rfl]
    refine iteF ?_
    -- nexts, outs
    refine ⟨_, rfl, by show 2 ≤ sizeLine; decide, fun t1 nt1 => ?_⟩
    have s1 := sx.trans (same_new (o := .tup [.str "next", .ref aN]) nt1)
    have e1 : (upd Hx t1 (.tup [.str "next", .ref aN])) t1 = some (.tup [.str "next", .ref aN]) := upd_same
    generalize (upd Hx t1 (.tup [.str "next", .ref aN])) = H1 at s1 e1 ⊢
    refine ⟨_, rfl, by show 2 ≤ sizeLine; decide, fun t2 nt2 => ?_⟩
    have s2 := same_new (o := .tup [.str "out", .ref aO]) nt2
    have e2 : (upd H1 t2 (.tup [.str "out", .ref aO])) t2 = some (.tup [.str "out", .ref aO]) := upd_same
    have e1 := s2 _ _ e1
    have s2 := s1.trans s2
    generalize (upd H1 t2 (.tup [.str "out", .ref aO])) = H2 at s2 e2 e1 ⊢
    refine ⟨by show 2 ≤ sizeLine; decide, fun t3 nt3 => ?_⟩
    have s3 := same_new (o := .tup [.ref t1, .ref t2]) nt3
    have e3 : (upd H2 t3 (.tup [.ref t1, .ref t2])) t3 = some (.tup [.ref t1, .ref t2]) := upd_same
    have e1 := s3 _ _ e1
    have e2 := s3 _ _ e2
    have s3 := s2.trans s3
    generalize (upd H2 t3 (.tup [.ref t1, .ref t2])) = H3 at s3 e3 e1 e2 ⊢
    refine ⟨t3, rfl, ⟨_, SqT.of e3⟩, for_tup (xs := [.ref t1, .ref t2]) (fun j σ Hy => ∃ y7 y8 y9 y10 y11 y12 : Option V, σ = [some (.ref a), some (.int (n.ins : Nat)), some (.ref aS), some (.ref aG), some (.ref aN), some (.ref aO), some (.int (n.base : Nat)), y7, y8, y9, y10, y11, y12] ∧ Same H3 Hy) ⟨_, _, _, _, _, _, rfl, fun _ _ h => h⟩ (fun j σ Hy _ ⟨_, _, _, _, _, _, _, s'⟩ => SqT.of (s' _ _ e3)) ?_ ?_⟩
    · rintro j v σ Hy hv ⟨y7, y8, y9, y10, y11, y12, rfl, sy⟩
      obtain ⟨wd, tt, ls, hls, rfl, et, el, bl⟩ : ∃ (wd : Str) (tt ls : Addr) (xs : List Nat), v = V.ref tt ∧ H3 tt = some (.tup [.str wd, .ref ls]) ∧ H3 ls = some (.lst (vn xs)) ∧ ∀ x ∈ xs, x < 2 * n.many := by
        have hj : j = 0 ∨ j = 1 := by
          have h : j < 2 := (List.getElem?_eq_some_iff.mp hv).1
          omega
        rcases hj with rfl | rfl
        · cases hv
          exact ⟨"next", t1, aN, n.nexts, rfl, e1, s3 _ _ hN, kd.nx⟩
        · cases hv
          exact ⟨"out", t2, aO, n.outs, rfl, e2, s3 _ _ hO, kd.ox⟩
      refine ⟨tt, _, rfl, SqT.of (sy _ _ et), rfl, _, _, rfl, _, _, rfl, rfl, ?_⟩
      refine ⟨_, rfl, ls, _, rfl, SqL.of (sy _ _ el), for_it walk_enum (fun i σ Hz => ∃ y7 y10 : Option V, σ = [some (.ref a), some (.int (n.ins : Nat)), some (.ref aS), some (.ref aG), some (.ref aN), some (.ref aO), some (.int (n.base : Nat)), y7, y8, y9, y10, some (.str wd), some (.ref ls)] ∧ Same H3 Hz) ⟨_, _, rfl, sy⟩ (fun i σ Hz _ ⟨_, _, _, s'⟩ => SqL.of (s' _ _ el)) ?_ ?_⟩
      · rintro i v σ Hz Hz' hi ⟨y7, y10, rfl, sz⟩ ⟨T1, x, y, rfl, nT, rfl, ex, ey⟩
        cases ex
        rw [vn_len] at hi
        have hx := List.getElem?_eq_getElem hi
        have ey : (vn hls)[i]? = some y := ey
        rw [vn_get hx] at ey
        cases ey
        have hb := bl _ (List.getElem_mem hi)
        have sT := same_new (o := .tup [.int (i : Nat), .int ((hls[i] : Nat) : Int)]) nT
        have s4 := sz.trans sT
        refine ⟨T1, _, rfl, SqT.of upd_same, rfl, _, _, rfl, _, _, rfl, rfl, ?_⟩
        refine ⟨_, rfl, _, _, rfl, rfl, _, rfl, ?_⟩
        rw [decide_eq_false (show ¬ ((hls[i] : Nat) : Int) < 0 by omega)]
        refine iteF ?_
        refine ⟨_, rfl, _, rfl, .ref a, n, rfl, (hn0.same s3).same s4, _, _, rfl, rfl, .inl ⟨by decide, by decide⟩, _, _, rfl, rfl, _, rfl, ?_⟩
        rw [decide_eq_false (show ¬ ((hls[i] : Nat) : Int) ≥ 2 * (n.many : Int) by omega)]
        exact iteF ⟨_, _, rfl, s4⟩
      · rintro σ Hz ⟨y7, y10, rfl, sz⟩
        exact ⟨_, _, _, _, _, _, rfl, sz⟩
    rintro σ Hy ⟨y7, y8, y9, y10, y11, y12, rfl, sy⟩
    exact q Hy (s3.trans sy)
def sp_check (K : PySem.W.Frag) : Sp := fun vs H Q _ => ∃ (v : V) (n : Net), vs = [v] ∧ Dv H v n ∧ Kind n ∧ ∀ H', Same H H' → Q .non H'
theorem ok_check {P : Program} {w : World} {K : PySem.W.Frag} {mg : Str → Option Value} {base : Heap} {C_Builder : Addr} {f ffault_of : Addr} {fd fdfault_of : FuncData} (F : Fun K "check" "check" s_check f fd) (T : Txt K mg C_Builder)
    (G_fault_of : FnOk P w K mg base CX0 3 ffault_of fdfault_of ["net"] (sp_fault_of K)) (D_fault_of : Def K mg "fault_of" ffault_of fdfault_of ["net"]) :
    FnOk P w K mg base CX0 4 f fd ["net"] (sp_check K) := by
  refine F.ok sccheck (fun vs H Q E h => ?_) (fun cdv A outer s H vs Q E hr h => ?_)
  · obtain ⟨l, n, rfl, _⟩ := h
    rfl
  · obtain ⟨v, n, rfl, hn, kd, q⟩ := h
    refine ⟨_, (pss_cons (ps_set (i := 1) sccheck.nd rfl (.inl rfl) (pe_call G_fault_of (hr.mono (by omega)) (by rfl) D_fault_of.m D_fault_of.k D_fault_of.b .nil pass0 (pa_cons (pv 0) pa_nil)))
      (pss_one (ps_if (pt_cmpR op_notN (pv 1) pe_non (nomark _)) (pss_one V0.ps_never) pss_nil))), ?_⟩
    refine ⟨_, rfl, v, n, rfl, hn, kd, fun H1 s1 => ?_⟩
    exact ⟨_, rfl, rfl, _, rfl, iteF (q H1 s1)⟩

end K32
namespace K32
open PySem PySem.Spec PyProof.Rows L2 V0
/-! ### what the masks tell -/
theorem mask_pre (n : Net) (gs hs : List (Nat × Nat)) : ∃ r, maskTo n (gs ++ hs) = maskTo n gs ++ r := by
  induction hs generalizing gs with
  | nil => exact ⟨[], by rw [List.append_nil, List.append_nil]⟩
  | cons h hs ih =>
    obtain ⟨r, e⟩ := ih (gs ++ [h])
    rw [List.append_assoc] at e
    rw [show gs ++ h :: hs = gs ++ ([h] ++ hs) from rfl, e, mask_snoc, List.append_assoc]
    exact ⟨_, rfl⟩
theorem mlit_lt {n : Net} {f : List Nat} (h : ∀ x ∈ f, x < 2 ^ 2 ^ frees n) (l : Nat) : mlit (mfull n) f l < 2 ^ 2 ^ frees n := by
  have h1 : f[l / 2]?.getD 0 < 2 ^ 2 ^ frees n := by
    cases e : f[l / 2]? with
    | none => exact Nat.two_pow_pos _
    | some x => exact h x (List.mem_of_getElem? e)
  have h2 : mfull n * (l % 2) < 2 ^ 2 ^ frees n := by
    have h3 := Nat.two_pow_pos (2 ^ frees n)
    have h4 : l % 2 = 0 ∨ l % 2 = 1 := by omega
    unfold mfull
    rcases h4 with e | e <;> rw [e]
    · omega
    · omega
  exact Nat.xor_lt_two_pow h1 h2
theorem mask_lt (n : Net) (gs : List (Nat × Nat)) : ∀ x ∈ maskTo n gs, x < 2 ^ 2 ^ frees n := by
  have h : ∀ (gs : List (Nat × Nat)) (f : List Nat), (∀ x ∈ f, x < 2 ^ 2 ^ frees n) → ∀ x ∈ gs.foldl (fun f g => f ++ [mlit (mfull n) f g.1 &&& mlit (mfull n) f g.2]) f, x < 2 ^ 2 ^ frees n := by
    intro gs
    induction gs with
    | nil => exact fun f h => h
    | cons g gs ih =>
      intro f h
      rw [List.foldl_cons]
      refine ih _ fun x hx => ?_
      rcases List.mem_append.mp hx with hx | hx
      · exact h x hx
      · rw [List.mem_singleton.mp hx]
        exact Nat.lt_of_le_of_lt Nat.and_le_left (mlit_lt h _)
  refine h gs _ fun x hx => ?_
  unfold mbase at hx
  rcases List.mem_cons.mp hx with rfl | hx
  · exact Nat.two_pow_pos _
  · obtain ⟨k, _, rfl⟩ := List.mem_map.mp hx
    exact col_lt _ _ fun i _ => Nat.mod_lt _ (by decide)
theorem mask_gate {n : Net} {j : Nat} {g : Nat × Nat} (hg : n.gates[j]? = some g) (h1 : g.1 < 2 * (n.base + j)) (h2 : g.2 < 2 * (n.base + j)) :
    (maskTo n n.gates)[n.base + j]? = some (mlit (mfull n) (maskTo n n.gates) g.1 &&& mlit (mfull n) (maskTo n n.gates) g.2) := by
  have hj := (List.getElem?_eq_some_iff.mp hg).1
  have e1 : n.gates = n.gates.take j ++ ([g] ++ n.gates.drop (j + 1)) := by
    rw [← List.append_assoc, ← take_snoc hg, List.take_append_drop]
  obtain ⟨r, e2⟩ := mask_pre n (n.gates.take j ++ [g]) (n.gates.drop (j + 1))
  rw [List.append_assoc, ← e1, mask_snoc, List.append_assoc] at e2
  have ll : (maskTo n (n.gates.take j)).length = n.base + j := by
    rw [mask_len, List.length_take]
    omega
  have lit : ∀ l, l < 2 * (n.base + j) → mlit (mfull n) (maskTo n n.gates) l = mlit (mfull n) (maskTo n (n.gates.take j)) l := fun l hl => by
    unfold mlit
    rw [e2, List.getElem?_append_left (by omega)]
  rw [lit _ h1, lit _ h2, e2, List.getElem?_append_right (by omega), ll, Nat.sub_self]
  rfl
theorem mlit_even (fu : Nat) (f : List Nat) (i : Nat) : mlit fu f (2 * i) = f[i]?.getD 0 := by
  unfold mlit
  rw [show 2 * i / 2 = i by omega, show 2 * i % 2 = 0 by omega, Nat.mul_zero, Nat.xor_zero]
theorem and_full {x m : Nat} (h : x < 2 ^ m) : (2 ^ m - 1) &&& x = x := by
  rw [Nat.and_comm, Nat.and_two_pow_sub_one_eq_mod, Nat.mod_eq_of_lt h]
theorem and_not {x m : Nat} (h : x < 2 ^ m) : (x ^^^ (2 ^ m - 1)) &&& x = 0 := by
  rw [Nat.and_xor_distrib_right, and_full h, Nat.and_self, Nat.xor_self]
theorem xor_pair (h : Nat) : (h ^^^ 1) / 2 = h / 2 ∧ (h ^^^ 1) % 2 = 1 - h % 2 := by
  refine ⟨?_, ?_⟩
  · rw [show (2 : Nat) = 2 ^ 1 from rfl, Nat.xor_div_two_pow]
    simp
  · have := Nat.xor_mod_two_pow (a := h) (b := 1) (n := 1)
    rw [show (2 : Nat) ^ 1 = 2 from rfl] at this
    rw [this]
    rcases Nat.mod_two_eq_zero_or_one h with e | e <;> rw [e] <;> decide
theorem stands_mask {b : BSt} {n : Net} {lo hi r : Nat} (eg : n.gates = b.gates) (eb : n.base = b.first) (kd : ∀ j g, n.gates[j]? = some g → g.1 < 2 * (n.base + j) ∧ g.2 < 2 * (n.base + j)) (s : Stands b lo hi (.int (r : Int))) :
    mlit (mfull n) (maskTo n n.gates) r = mlit (mfull n) (maskTo n n.gates) lo &&& mlit (mfull n) (maskTo n n.gates) hi := by
  have ml := mlit_lt (mask_lt n n.gates)
  have m0 : (maskTo n n.gates)[0]? = some 0 := by
    obtain ⟨q, e⟩ := mask_pre n [] n.gates
    rw [List.nil_append] at e
    rw [e]
    rfl
  have l0 : mlit (mfull n) (maskTo n n.gates) 0 = 0 := by
    unfold mlit
    rw [m0]
    show 0 ^^^ mfull n * 0 = 0
    rw [Nat.mul_zero, Nat.xor_self]
  have l1 : mlit (mfull n) (maskTo n n.gates) 1 = mfull n := by
    unfold mlit
    rw [m0]
    show 0 ^^^ mfull n * 1 = mfull n
    rw [Nat.mul_one, Nat.zero_xor]
  generalize ev : V.int (r : Int) = v at s
  cases s with
  | zero h =>
    have er : r = 0 := by have := V.int.inj ev; omega
    rw [er, l0]
    rcases h with h | h
    · rw [h, l0, Nat.zero_and]
    · have hx := xor_pair hi
      have e1 : mlit (mfull n) (maskTo n n.gates) lo = mlit (mfull n) (maskTo n n.gates) hi ^^^ mfull n := by
        rw [h]
        unfold mlit
        rw [hx.1, hx.2, Nat.xor_assoc]
        congr 1
        rcases Nat.mod_two_eq_zero_or_one hi with e | e <;> rw [e]
        · simp
        · simp
      rw [e1]
      exact (and_not (ml hi)).symm
  | high _ h =>
    have er : r = hi := by have := V.int.inj ev; omega
    rw [er]
    rcases h with h | h
    · rw [h, l1]
      exact (and_full (ml hi)).symm
    · rw [h, Nat.and_self]
  | @gate j _ _ h =>
    have er : r = 2 * (b.first + j) := by have := V.int.inj ev; omega
    rw [← eg] at h
    have hk := kd j _ h
    rw [er, ← eb, mlit_even, mask_gate h hk.1 hk.2]
    rfl
  | none _ _ _ => cases ev
end K32
namespace K32
open PySem PySem.Spec PyProof.Rows L2 V0
/-! ### what the loop of the law keeps -/
theorem dvs_pairs {H H' : Hp} (k : ∀ t xs, H t = some (.tup xs) → H' t = some (.tup xs)) : ∀ {us : List V} {gs : List (Nat × Nat)}, Dvs H us gs → Dvs H' us gs
  | _, [], h => by rw [h.nil_inv]; exact .nil
  | _, g :: gs, h => by
    obtain ⟨u, us, rfl, h1, h2⟩ := h.cons_inv
    obtain ⟨t, x, y, rfl, ht, hx, hy⟩ := h1.pair_inv
    have hx := hx.nat_inv
    have hy := hy.nat_inv
    subst hx hy
    exact .cons (.pair (k _ _ ht) (Dv.nat _) (Dv.nat _)) (dvs_pairs k h2)
theorem tup_hidB {H : Hp} {x g d t : Addr} {C dx : Addr} {fs : List (Str × V)} {us xs : List V} {kv : List (List Key × V)} (hx : H x = some (.ins C dx fs)) (hg : H g = some (.lst us)) (hd : H d = some (.dT kv)) (h : H t = some (.tup xs)) : hidB x g d H t = some (.tup xs) :=
  hidB_of (ne_of h hx (by intro z; cases z)) (ne_of h hg (by intro z; cases z)) (ne_of h hd (by intro z; cases z)) h
/-- the builder stays where tuples stay and its own objects do -/
theorem BAt.keep {C : Addr} {H H' : Hp} {x s g d : Addr} {b : BSt} (h : BAt C H x s g d b) (kx : H' x = H x) (ks : H' s = H s) (kg : H' g = H g) (kd : H' d = H d) (k : ∀ t xs, H t = some (.tup xs) → H' t = some (.tup xs)) : BAt C H' x s g d b := by
  obtain ⟨⟨dx, hx⟩, hs, ⟨us, hg, hus⟩, hd, nd, sg⟩ := h
  refine ⟨⟨dx, kx.trans hx⟩, ks.trans hs, ⟨us, kg.trans hg, ?_⟩, kd.trans hd, nd, sg⟩
  refine dvs_pairs (fun t xs e => ?_) hus
  obtain ⟨h1, h2, h3, e⟩ := hidB_some e
  exact hidB_of h1 h2 h3 (k _ _ e)
/-- the heap of the law's loop -/
structure LSt (C p c x s g d pS pT pA pP : Addr) (H : Hp) (b : BSt) (tl : List Nat) (ts : List (Addr × (Nat × Nat × Nat))) (ps : List (Addr × (Nat × Nat))) : Prop where
  dr : Dr H p c
  bt : BAt C H x s g d b
  hS : H pS = some (.lst (vn b.starts))
  hT : H pT = some (.lst (vn tl))
  hA : H pA = some (.lst (ts.map fun e => V.ref e.1))
  hP : H pP = some (.lst (ps.map fun e => V.ref e.1))
  eA : ∀ e ∈ ts, H e.1 = some (.tup [.int (e.2.1 : Nat), .int (e.2.2.1 : Nat), .int (e.2.2.2 : Nat)])
  eP : ∀ e ∈ ps, H e.1 = some (.tup [.int (e.2.1 : Nat), .int (e.2.2 : Nat)])
/-- its lists are different ones -/
abbrev LNe (p c s g pS pT pA pP : Addr) : Prop := [p, c, s, g, pS, pT, pA, pP].Nodup
section
variable {C p c x s g d pS pT pA pP : Addr} {H H' : Hp} {b : BSt} {tl : List Nat} {ts : List (Addr × (Nat × Nat × Nat))} {ps : List (Addr × (Nat × Nat))}
theorem LSt.dr_lists (h : LSt C p c x s g d pS pT pA pP H b tl ts ps) : (∃ us, H p = some (.lst us)) ∧ ∃ us, H c = some (.lst us) := by
  obtain ⟨_, cs, z, h1, h2, _⟩ := h.dr
  exact ⟨⟨_, h1⟩, _, h2⟩
theorem LSt.same (h : LSt C p c x s g d pS pT pA pP H b tl ts ps) (k : Same H H') : LSt C p c x s g d pS pT pA pP H' b tl ts ps := by
  obtain ⟨⟨dx, hx⟩, hs, ⟨us, hg, hus⟩, hd, nd, sg⟩ := id h.bt
  exact ⟨h.dr.same k, ⟨⟨dx, k _ _ hx⟩, k _ _ hs, ⟨us, k _ _ hg, hus.same (hidB_mono k)⟩, k _ _ hd, nd, sg⟩, k _ _ h.hS, k _ _ h.hT, k _ _ h.hA, k _ _ h.hP, fun e he => k _ _ (h.eA e he), fun e he => k _ _ (h.eP e he)⟩
/-- a draw -/
theorem LSt.go (h : LSt C p c x s g d pS pT pA pP H b tl ts ps) (ne : LNe p c s g pS pT pA pP) (k : Go p c H H') : LSt C p c x s g d pS pT pA pP H' b tl ts ps := by
  obtain ⟨⟨u1, l1⟩, u2, l2⟩ := h.dr_lists
  obtain ⟨⟨dx, hx⟩, hs, ⟨us, hg, hus⟩, hd, nd, sg⟩ := id h.bt
  simp only [LNe, List.nodup_cons, List.mem_cons, List.not_mem_nil, or_false, not_or, List.nodup_nil, and_true, not_false_eq_true] at ne
  obtain ⟨⟨_, n1, n2, n3, n4, n5, n6⟩, ⟨m1, m2, m3, m4, m5, m6⟩, _⟩ := ne
  have tk : ∀ t xs, H t = some (.tup xs) → H' t = some (.tup xs) := fun t xs e => k.get (ne_of e l1 (by intro z; cases z)) (ne_of e l2 (by intro z; cases z)) e
  have kx := k.get (ne_of hx l1 (by intro z; cases z)) (ne_of hx l2 (by intro z; cases z)) hx
  have kd := k.get (ne_of hd l1 (by intro z; cases z)) (ne_of hd l2 (by intro z; cases z)) hd
  have ks := k.get (Ne.symm n1) (Ne.symm m1) hs
  have kg := k.get (Ne.symm n2) (Ne.symm m2) hg
  exact ⟨k.b, h.bt.keep (kx.trans hx.symm) (ks.trans hs.symm) (kg.trans hg.symm) (kd.trans hd.symm) tk, k.get (Ne.symm n3) (Ne.symm m3) h.hS, k.get (Ne.symm n4) (Ne.symm m4) h.hT, k.get (Ne.symm n5) (Ne.symm m5) h.hA, k.get (Ne.symm n6) (Ne.symm m6) h.hP, fun e he => tk _ _ (h.eA e he), fun e he => tk _ _ (h.eP e he)⟩
/-- a call of both -/
theorem LSt.both {b' : BSt} (h : LSt C p c x s g d pS pT pA pP H b tl ts ps) (ne : LNe p c s g pS pT pA pP) (k : Same (hidB x g d H) (hidB x g d H')) (bt : BAt C H' x s g d b') (es : b'.starts = b.starts) : LSt C p c x s g d pS pT pA pP H' b' tl ts ps := by
  obtain ⟨_, cs, z, l1, l2, l3⟩ := id h.dr
  obtain ⟨⟨dx, hx⟩, hs, ⟨us, hg, hus⟩, hd, nd, sg⟩ := id h.bt
  simp only [LNe, List.nodup_cons, List.mem_cons, List.not_mem_nil, or_false, not_or, List.nodup_nil, and_true, not_false_eq_true] at ne
  obtain ⟨⟨npc, n1, n2, n3, n4, n5, n6⟩, ⟨m1, m2, m3, m4, m5, m6⟩, _, ⟨g1, g2, g3, g4⟩, _⟩ := ne
  have tk : ∀ t xs, H t = some (.tup xs) → H' t = some (.tup xs) := fun t xs e => (hidB_some (k _ _ (tup_hidB hx hg hd e))).2.2.2
  have lk : ∀ t xs, t ≠ g → H t = some (.lst xs) → H' t = some (.lst xs) := fun t xs n e => (hidB_some (k _ _ (hidB_of (ne_of e hx (by intro z; cases z)) n (ne_of e hd (by intro z; cases z)) e))).2.2.2
  exact ⟨⟨npc, cs, z, lk _ _ n2 l1, lk _ _ m2 l2, l3⟩, bt, by rw [es]; exact lk _ _ (Ne.symm g1) h.hS, lk _ _ (Ne.symm g2) h.hT, lk _ _ (Ne.symm g3) h.hA, lk _ _ (Ne.symm g4) h.hP, fun e he => tk _ _ (h.eA e he), fun e he => tk _ _ (h.eP e he)⟩
theorem LSt.mutd (h : LSt C p c x s g d pS pT pA pP H b tl ts ps) {q : Addr} {us : List V} {o : HO} (hq : H q = some (.lst us)) (np : p ≠ q) (nc : c ≠ q) (ns : s ≠ q) (ng : g ≠ q) :
    Dr (upd H q o) p c ∧ BAt C (upd H q o) x s g d b ∧ (∀ t xs, H t = some (.tup xs) → (upd H q o) t = some (.tup xs)) := by
  obtain ⟨npc, cs, z, l1, l2, l3⟩ := id h.dr
  obtain ⟨⟨dx, hx⟩, hs, ⟨us2, hg, hus⟩, hd, nd, sg⟩ := id h.bt
  have tk : ∀ t xs, H t = some (.tup xs) → (upd H q o) t = some (.tup xs) := fun t xs e => by rw [upd_ne (ne_of e hq (by intro z; cases z))]; exact e
  refine ⟨⟨npc, cs, z, by rw [upd_ne np]; exact l1, by rw [upd_ne nc]; exact l2, l3⟩, h.bt.keep (upd_ne (ne_of hx hq (by intro z; cases z))) (upd_ne ns) (upd_ne ng) (upd_ne (ne_of hd hq (by intro z; cases z))) tk, tk⟩
theorem LSt.setT (h : LSt C p c x s g d pS pT pA pP H b tl ts ps) (ne : LNe p c s g pS pT pA pP) (tl' : List Nat) : LSt C p c x s g d pS pT pA pP (upd H pT (.lst (vn tl'))) b tl' ts ps := by
  simp only [LNe, List.nodup_cons, List.mem_cons, List.not_mem_nil, or_false, not_or, List.nodup_nil, and_true, not_false_eq_true] at ne
  obtain ⟨⟨_, _, _, _, n4, _, _⟩, ⟨_, _, _, m4, _, _⟩, ⟨_, _, s2, _, _⟩, ⟨_, g2, _, _⟩, ⟨q2, _, _⟩, ⟨t1, t2⟩, _⟩ := ne
  obtain ⟨d1, d2, tk⟩ := h.mutd (o := .lst (vn tl')) h.hT n4 m4 s2 g2
  exact ⟨d1, d2, by rw [upd_ne q2]; exact h.hS, upd_same, by rw [upd_ne (Ne.symm t1)]; exact h.hA, by rw [upd_ne (Ne.symm t2)]; exact h.hP, fun e he => tk _ _ (h.eA e he), fun e he => tk _ _ (h.eP e he)⟩
theorem LSt.addA (h : LSt C p c x s g d pS pT pA pP H b tl ts ps) (ne : LNe p c s g pS pT pA pP) {t : Addr} {i j k : Nat} (ht : H t = some (.tup [.int (i : Nat), .int (j : Nat), .int (k : Nat)])) : LSt C p c x s g d pS pT pA pP (upd H pA (.lst ((ts.map fun e => V.ref e.1) ++ [.ref t]))) b tl (ts ++ [(t, (i, j, k))]) ps := by
  simp only [LNe, List.nodup_cons, List.mem_cons, List.not_mem_nil, or_false, not_or, List.nodup_nil, and_true, not_false_eq_true] at ne
  obtain ⟨⟨_, _, _, _, _, n5, _⟩, ⟨_, _, _, _, m5, _⟩, ⟨_, _, _, s3, _⟩, ⟨_, _, g3, _⟩, ⟨_, q3, _⟩, ⟨t1, t2⟩, a1⟩ := ne
  obtain ⟨d1, d2, tk⟩ := h.mutd (o := .lst ((ts.map fun e => V.ref e.1) ++ [.ref t])) h.hA n5 m5 s3 g3
  refine ⟨d1, d2, by rw [upd_ne q3]; exact h.hS, by rw [upd_ne t1]; exact h.hT, by rw [upd_same, List.map_append]; rfl, by rw [upd_ne (Ne.symm a1)]; exact h.hP, fun e he => ?_, fun e he => tk _ _ (h.eP e he)⟩
  rcases List.mem_append.mp he with he | he
  · exact tk _ _ (h.eA e he)
  · rw [List.mem_singleton.mp he]
    exact tk _ _ ht
theorem LSt.addP (h : LSt C p c x s g d pS pT pA pP H b tl ts ps) (ne : LNe p c s g pS pT pA pP) {t : Addr} {i j : Nat} (ht : H t = some (.tup [.int (i : Nat), .int (j : Nat)])) : LSt C p c x s g d pS pT pA pP (upd H pP (.lst ((ps.map fun e => V.ref e.1) ++ [.ref t]))) b tl ts (ps ++ [(t, (i, j))]) := by
  simp only [LNe, List.nodup_cons, List.mem_cons, List.not_mem_nil, or_false, not_or, List.nodup_nil, and_true, not_false_eq_true] at ne
  obtain ⟨⟨_, _, _, _, _, _, n6⟩, ⟨_, _, _, _, _, m6⟩, ⟨_, _, _, _, s4⟩, ⟨_, _, _, g4⟩, ⟨_, _, q4⟩, ⟨t1, t2⟩, a1⟩ := ne
  obtain ⟨d1, d2, tk⟩ := h.mutd (o := .lst ((ps.map fun e => V.ref e.1) ++ [.ref t])) h.hP n6 m6 s4 g4
  refine ⟨d1, d2, by rw [upd_ne q4]; exact h.hS, by rw [upd_ne t2]; exact h.hT, by rw [upd_ne a1]; exact h.hA, by rw [upd_same, List.map_append]; rfl, fun e he => tk _ _ (h.eA e he), fun e he => ?_⟩
  rcases List.mem_append.mp he with he | he
  · exact tk _ _ (h.eP e he)
  · rw [List.mem_singleton.mp he]
    exact tk _ _ ht
/-- what is so of the asks -/
structure LOk (b : BSt) (tl : List Nat) (ts : List (Addr × (Nat × Nat × Nat))) (ps : List (Addr × (Nat × Nat))) (i : Nat) : Prop where
  gb : ∀ j g, b.gates[j]? = some g → g.1 < 2 * (b.first + j) ∧ g.2 < 2 * (b.first + j)
  gl : b.gates.length ≤ i
  tb : ∀ l ∈ tl, l < 2 * (b.first + b.gates.length)
  tl : tl.length = b.first + i
  al : ts.length ≤ i
  ab : ∀ e ∈ ts, Stands b (min e.2.1 e.2.2.1) (max e.2.1 e.2.2.1) (.int (e.2.2.2 : Nat)) ∧ e.2.1 < 2 * (b.first + b.gates.length) ∧ e.2.2.1 < 2 * (b.first + b.gates.length)
  pl : ps.length ≤ i
  pm : ∀ q, q ∈ ps.map (·.2) ↔ q ∈ b.gates
theorem Stands.grow {b : BSt} {lo hi r : Nat} {q : Nat × Nat} (s : Stands b lo hi (.int (r : Nat))) : Stands ⟨b.ins, b.starts, b.gates ++ [q]⟩ lo hi (.int (r : Nat)) := by
  generalize ev : V.int (r : Int) = v at s
  cases s with
  | zero h => exact .zero h
  | high h1 h2 => exact .high h1 h2
  | @gate j h1 h2 h3 =>
    refine .gate (b := ⟨b.ins, b.starts, b.gates ++ [q]⟩) h1 h2 ?_
    rw [List.getElem?_append_left (List.getElem?_eq_some_iff.mp h3).1]
    exact h3
  | none _ _ _ => cases ev
end
end K32
namespace K32
open PySem PySem.Spec PyProof.Rows L2 V0
/-! ### the law -/
theorem xor_bit {l bit : Nat} (h : bit < 2) : (l ^^^ bit) / 2 = l / 2 := by
  rw [show (2 : Nat) = 2 ^ 1 from rfl, Nat.xor_div_two_pow]
  rw [show bit / 2 ^ 1 = 0 by omega, Nat.xor_zero]
theorem lohi (a c : Nat) : (a / 2 ≠ c / 2 ∧ 1 < a ∧ 1 < c) ↔ (¬ (min a c = 0 ∨ min a c = max a c ^^^ 1) ∧ ¬ (min a c = 1 ∨ min a c = max a c)) := by
  have hx := xor_pair (max a c)
  rcases Nat.le_total a c with h | h
  · rw [Nat.min_eq_left h, Nat.max_eq_right h] at *
    constructor
    · rintro ⟨h1, h2, h3⟩
      refine ⟨fun z => ?_, fun z => ?_⟩
      · rcases z with z | z
        · omega
        · rw [← z] at hx
          omega
      · omega
    · rintro ⟨h1, h2⟩
      refine ⟨fun e => ?_, ?_, ?_⟩
      · refine h1 (.inr ?_)
        have h3 : a ≠ c := fun z => h2 (.inr z)
        omega
      · have h3 : a ≠ 0 := fun z => h1 (.inl z)
        have h4 : a ≠ 1 := fun z => h2 (.inl z)
        omega
      · have h3 : a ≠ 0 := fun z => h1 (.inl z)
        have h4 : a ≠ 1 := fun z => h2 (.inl z)
        omega
  · rw [Nat.min_eq_right h, Nat.max_eq_left h] at *
    constructor
    · rintro ⟨h1, h2, h3⟩
      refine ⟨fun z => ?_, fun z => ?_⟩
      · rcases z with z | z
        · omega
        · rw [← z] at hx
          omega
      · omega
    · rintro ⟨h1, h2⟩
      refine ⟨fun e => ?_, ?_, ?_⟩
      · refine h1 (.inr ?_)
        have h3 : c ≠ a := fun z => h2 (.inr z)
        omega
      · have h3 : c ≠ 0 := fun z => h1 (.inl z)
        have h4 : c ≠ 1 := fun z => h2 (.inl z)
        omega
      · have h3 : c ≠ 0 := fun z => h1 (.inl z)
        have h4 : c ≠ 1 := fun z => h2 (.inl z)
        omega
/-- a turn of the loop -/
theorem LOk.turn {b b' : BSt} {tl : List Nat} {ts : List (Addr × (Nat × Nat × Nat))} {ps ps' : List (Addr × (Nat × Nat))} {i va vc r : Nat} {t : Addr} (h : LOk b tl ts ps i) (ha : va < 2 * (b.first + b.gates.length)) (hc : vc < 2 * (b.first + b.gates.length)) (bo : Both b (min va vc) (max va vc) r b')
    (hp : ∀ q, q ∈ ps'.map (·.2) ↔ q ∈ ps.map (·.2) ∨ ((va / 2 ≠ vc / 2 ∧ 1 < va ∧ 1 < vc) ∧ q = (min va vc, max va vc))) (hl : ps'.length ≤ ps.length + 1) : LOk b' (tl ++ [r]) (ts ++ [(t, (va, vc, r))]) ps' (i + 1) ∧ b'.ins = b.ins ∧ b'.starts = b.starts := by
  have c0 := lohi va vc
  have hi : max va vc < 2 * (b.first + b.gates.length) := Nat.max_lt.mpr ⟨ha, hc⟩
  have hlo : min va vc < 2 * (b.first + b.gates.length) := Nat.lt_of_le_of_lt (Nat.min_le_left _ _) ha
  cases bo with
  | old s =>
    have rb : r < 2 * (b.first + b.gates.length) := by
      generalize ev : V.int (r : Int) = v at s
      cases s with
      | zero _ => have := V.int.inj ev; omega
      | high _ _ => have := V.int.inj ev; omega
      | gate _ _ hj =>
        have := V.int.inj ev
        have := (List.getElem?_eq_some_iff.mp hj).1
        omega
      | none _ _ _ => cases ev
    have pin : (va / 2 ≠ vc / 2 ∧ 1 < va ∧ 1 < vc) → (min va vc, max va vc) ∈ b.gates := fun z => by
      obtain ⟨z1, z2⟩ := c0.mp z
      generalize ev : V.int (r : Int) = v at s
      cases s with
      | zero z => exact absurd z z1
      | high _ z => exact absurd z z2
      | gate _ _ hj => exact List.mem_of_getElem? hj
      | none _ _ _ => cases ev
    refine ⟨⟨h.gb, by have := h.gl; omega, mem_snoc h.tb rb, by rw [List.length_append, h.tl]; rfl, by rw [List.length_append]; have := h.al; show _ + 1 ≤ _; omega, ?_, by have := h.pl; omega, fun q => ?_⟩, rfl, rfl⟩
    · intro e he
      rcases List.mem_append.mp he with he | he
      · exact h.ab e he
      · rw [List.mem_singleton.mp he]
        exact ⟨s, ha, hc⟩
    · rw [hp q, h.pm q]
      constructor
      · rintro (z | ⟨z, rfl⟩)
        · exact z
        · exact pin z
      · exact .inl
  | new h1 h2 h3 =>
    have e1 : (⟨b.ins, b.starts, b.gates ++ [(min va vc, max va vc)]⟩ : BSt).first = b.first := rfl
    refine ⟨⟨fun j g hg => ?_, by rw [List.length_append]; have := h.gl; show _ + 1 ≤ _; omega, ?_, by rw [List.length_append, h.tl]; rfl, by rw [List.length_append]; have := h.al; show _ + 1 ≤ _; omega, ?_, by have := h.pl; omega, fun q => ?_⟩, rfl, rfl⟩
    · rcases get_snoc hg with ⟨_, z⟩ | ⟨z1, z2⟩
      · exact h.gb j g z
      · rw [z2, z1]
        exact ⟨hlo, hi⟩
    · rw [List.length_append]
      refine mem_snoc (fun l hl => ?_) ?_
      · have := h.tb l hl
        show l < 2 * (b.first + (b.gates.length + 1))
        omega
      · show 2 * (b.first + b.gates.length) < 2 * (b.first + (b.gates.length + 1))
        omega
    · intro e he
      have lg : (b.gates ++ [(min va vc, max va vc)]).length = b.gates.length + 1 := by rw [List.length_append]; rfl
      rcases List.mem_append.mp he with he | he
      · obtain ⟨z1, z2, z3⟩ := h.ab e he
        exact ⟨z1.grow, by rw [lg]; show _ < 2 * (b.first + _); omega, by rw [lg]; show _ < 2 * (b.first + _); omega⟩
      · rw [List.mem_singleton.mp he]
        refine ⟨?_, by rw [lg]; show va < 2 * (b.first + _); omega, by rw [lg]; show vc < 2 * (b.first + _); omega⟩
        refine .gate (b := ⟨b.ins, b.starts, b.gates ++ [(min va vc, max va vc)]⟩) h1 h2 ?_
        rw [List.getElem?_append_right (Nat.le_refl _), Nat.sub_self]
        rfl
    · rw [hp q, h.pm q, List.mem_append, List.mem_singleton]
      constructor
      · rintro (z | ⟨_, z⟩)
        · exact .inl z
        · exact .inr z
      · rintro (z | z)
        · exact .inl z
        · exact .inr ⟨c0.mpr ⟨h1, h2⟩, z⟩
end K32
namespace K32
open PySem PySem.Spec PyProof.Rows L2 V0
theorem atI_end {xs : List V} {v : V} (h : xs[xs.length - 1]? = some v) (hl : 0 < xs.length) : atI xs (-1) = some v := by
  unfold atI ixN
  rw [if_neg (by omega), if_pos (by omega)]
  show xs[((-1 : Int) + (xs.length : Int)).toNat]? = _
  rw [show ((-1 : Int) + (xs.length : Int)).toNat = xs.length - 1 by omega]
  exact h
theorem nodup_len_le {α : Type} [DecidableEq α] : ∀ {xs ys : List α}, xs.Nodup → (∀ x ∈ xs, x ∈ ys) → xs.length ≤ ys.length
  | [], _, _, _ => Nat.zero_le _
  | x :: xs, ys, nd, h => by
    have hx := h x List.mem_cons_self
    have nd := List.nodup_cons.mp nd
    have ih := nodup_len_le (ys := ys.erase x) nd.2 fun y hy => (List.mem_erase_of_ne (fun e => nd.1 (by rw [← e]; exact hy))).mpr (h y (List.mem_cons_of_mem _ hy))
    rw [List.length_erase_of_mem hx] at ih
    have := List.length_pos_of_mem hx
    rw [List.length_cons]
    omega
theorem nodup_map {α β : Type} {f : α → β} (inj : ∀ x y, f x = f y → x = y) : ∀ {xs : List α}, xs.Nodup → (xs.map f).Nodup
  | [], _ => List.nodup_nil
  | x :: xs, nd => by
    have nd := List.nodup_cons.mp nd
    rw [List.map_cons, List.nodup_cons]
    refine ⟨fun h => ?_, nodup_map inj nd.2⟩
    obtain ⟨y, hy, e⟩ := List.mem_map.mp h
    exact nd.1 (inj _ _ e ▸ hy)
/-- a net's first three parts -/
structure NHead where
  ins : Nat
  starts : List Nat
  deriving DecidableEq
instance : PySem.W.Datum NHead where
  toD n := .tuple [.str "net", PySem.W.Datum.toD n.ins, PySem.W.Datum.toD n.starts]
  plain n := by simp only [PyData.plain, PyData.plainAll, PySem.W.Datum.plain, Bool.and_self]
  eqv a b := by
    simp only [PyData.eqv, PyData.eqvAll, PySem.W.Datum.eqv, Bool.and_true]
    rw [PySem.W.beq_decide, ← Bool.decide_and, ← Bool.decide_and]
    refine decide_eq_decide.mpr ⟨fun ⟨_, h1, h2⟩ => ?_, fun e => by rw [e]; exact ⟨rfl, rfl, rfl⟩⟩
    cases a
    cases b
    simp only at h1 h2
    rw [h1, h2]
  depth := 2
  depth_le n := by
    have h1 := PySem.W.Datum.depth_le n.ins
    have h2 := PySem.W.Datum.depth_le n.starts
    have e1 : PySem.W.Datum.depth Nat = 0 := rfl
    have e2 : PySem.W.Datum.depth (List Nat) = 1 := rfl
    rw [e1] at h1
    rw [e2] at h2
    simp only [PyData.depth, PyData.depthAll]
    omega
instance : Dm NHead where
  lay n := by
    have h1 := Dm.lay n.ins
    have h2 := Dm.lay n.starts
    simp only [PySem.W.Datum.toD] at h1 h2 ⊢
    simp only [PyData.canLay0, PyData.canLayAll0, Bool.and_true] at h1 h2 ⊢
    rw [h2]
    decide +kernel
theorem dvs_take {H : Hp} : ∀ {us : List V} {gs : List (Nat × Nat)} (n : Nat), Dvs H us gs → Dvs H (us.take n) (gs.take n)
  | us, gs, 0, _ => by rw [List.take_zero, List.take_zero]; exact .nil
  | us, [], n + 1, h => by rw [h.nil_inv, List.take_nil, List.take_nil]; exact .nil
  | us, g :: gs, n + 1, h => by
    obtain ⟨u, us, rfl, h1, h2⟩ := h.cons_inv
    exact .cons h1 (dvs_take n h2)
theorem cut_to (xs : List V) (n : Nat) : cutV xs none (some (n : Int)) = xs.take n := by
  unfold cutV
  rw [HT.sIx_none, HT.sIx_nat, List.drop_zero, Nat.sub_zero]
  rcases Nat.le_total n xs.length with h | h
  · rw [Nat.min_eq_left h]
  · rw [Nat.min_eq_right h, List.take_of_length_le (Nat.le_refl _), List.take_of_length_le h]
theorem hidB_res {x g d p c : Addr} {H H' : Hp} (ne : p ≠ x ∧ p ≠ g ∧ p ≠ d) (s : Same (hidB x g d H) (hidB x g d H')) : Same (hidB x g d (res p c H)) (hidB x g d (res p c H')) := fun b o h => by
  obtain ⟨h1, h2, h3, h⟩ := hidB_some h
  obtain ⟨h4, h5, h⟩ := res_some h
  exact hidB_of h1 h2 h3 (res_of h4 h5 (hidB_some (s _ _ (hidB_of h1 h2 h3 h))).2.2.2)
theorem net_small {n : Net} (h1 : n.ins ≤ 3) (h2 : n.starts.length ≤ 3) (h3 : ∀ b ∈ n.starts, b < 2) (h4 : n.gates.length ≤ 40) (h5 : ∀ (j : Nat) (g : Nat × Nat), n.gates[j]? = some g → g.1 < 1000 ∧ g.2 < 1000) (h6 : n.nexts.length ≤ 3) (h7 : ∀ x ∈ n.nexts, x < 1000) (h8 : n.outs.length ≤ 3) (h9 : ∀ x ∈ n.outs, x < 1000) : ∃ m, m ≤ 2 ^ 20 ∧ Sm (PySem.W.Datum.toD n) m := by
  have hg : ∀ g ∈ n.gates, Sm (PySem.W.Datum.toD g) 82 := fun g hg => by
    obtain ⟨j, hj, e⟩ := List.getElem_of_mem hg
    have h := h5 j g (by rw [List.getElem?_eq_getElem hj, e])
    exact Sm.tup ((SmA.cons (Sm.nat (n := g.1) (by omega)) (SmA.cons (Sm.nat (n := g.2) (by omega)) SmA.nil)))
  have s0 : Sm (.str "net") 40 := ⟨by decide +kernel, by decide +kernel, by decide +kernel⟩
  have e1 := Sm.nat (n := n.ins) (by omega)
  have e2 := Sm.nats (xs := n.starts) fun x hx => by have := h3 x hx; omega
  have e3 := Sm.of_list hg
  have e4 := Sm.nats (xs := n.nexts) fun x hx => by have := h7 x hx; omega
  have e5 := Sm.nats (xs := n.outs) fun x hx => by have := h9 x hx; omega
  refine ⟨_, ?_, Sm.tup (SmA.cons s0 (SmA.cons e1 (SmA.cons e2 (SmA.cons e3 (SmA.cons e4 (SmA.cons e5 SmA.nil))))))⟩
  omega
def sp_law (K : PySem.W.Frag) : Sp := fun vs H Q _ => ∃ (a : Addr) (ns : List Int), vs = [.ref a] ∧ SqL K H a (ns.map V.int) ∧ ns.length ≤ 63 ∧ ∀ H', Q (.bl true) H'
theorem ok_law {P : Program} {w : World} {K : PySem.W.Frag} {mg : Str → Option Value} {base : Heap} {C_Builder : Addr} {f f_law_state f_law_draw fBuilder___init__ fBuilder_net fBuilder_both f_law_masks fcheck : Addr} {fd fd_law_state fd_law_draw fdBuilder___init__ fdBuilder_net fdBuilder_both fd_law_masks fdcheck : FuncData} (F : Fun K "law" "law" s_law f fd) (T : Txt K mg C_Builder)
    (G__law_state : FnOk P w K mg base CX0 1 f_law_state fd_law_state ["script"] (sp__law_state K)) (D__law_state : Def K mg "_law_state" f_law_state fd_law_state ["script"])
    (G__law_draw : FnOk P w K mg base CX0 1 f_law_draw fd_law_draw ["state", "many"] (sp__law_draw K)) (D__law_draw : Def K mg "_law_draw" f_law_draw fd_law_draw ["state", "many"])
    (G_Builder___init__ : FnOk P w K mg base CX0 1 fBuilder___init__ fdBuilder___init__ ["self", "ins", "starts"] (sp_Builder___init__ K C_Builder)) (D_Builder___init__ : IDef K C_Builder fBuilder___init__ fdBuilder___init__ ["self", "ins", "starts"])
    (G_Builder_net : FnOk P w K mg base CX0 1 fBuilder_net fdBuilder_net ["self", "nexts", "outs"] (sp_Builder_net K C_Builder)) (D_Builder_net : MDef K C_Builder "net" fBuilder_net fdBuilder_net ["self", "nexts", "outs"])
    (G_Builder_both : FnOk P w K mg base CX0 2 fBuilder_both fdBuilder_both ["self", "a", "b"] (sp_Builder_both K C_Builder)) (D_Builder_both : MDef K C_Builder "both" fBuilder_both fdBuilder_both ["self", "a", "b"])
    (G__law_masks : FnOk P w K mg base CX0 1 f_law_masks fd_law_masks ["net"] (sp__law_masks K)) (D__law_masks : Def K mg "_law_masks" f_law_masks fd_law_masks ["net"])
    (G_check : FnOk P w K mg base CX0 4 fcheck fdcheck ["net"] (sp_check K)) (D_check : Def K mg "check" fcheck fdcheck ["net"]) :
    LawOk P w K mg base f fd ["script"] (sp_law K) := by
  refine lawOk F sclaw (k := 4) ⟨rfl, by decide, by decide⟩ (fun vs H Q E h => ?_) (fun cdv A outer s H vs Q E hr hgd h => ?_)
  · obtain ⟨a, ns, rfl, _⟩ := h
    rfl
  · obtain ⟨a, ns, rfl, hSc, hl, q⟩ := h
    refine ⟨_, (pss_cons (ps_set (i := 1) sclaw.nd rfl (.inr rfl) (pe_call G__law_state (hr.mono (by omega)) (by rfl) D__law_state.m D__law_state.k D__law_state.b .nil pass0 (pa_cons (pv 0) pa_nil)))
      (pss_cons (ps_set (i := 2) sclaw.nd rfl (.inl rfl) (pe_call G__law_draw (hr.mono (by omega)) (by rfl) D__law_draw.m D__law_draw.k D__law_draw.b .nil pass0 (pa_cons (pv 1) (pa_cons pe_int pa_nil))))
      (pss_cons (ps_setLc (i := 4) (own := [("k", 3)]) (g := gName 3) (tt := tYes) rfl sclaw.nd rfl rfl (sw_true rfl rfl rfl (by decide +kernel)) (pi_range1 rfl T.m_range (pa_cons (pe_call G__law_draw (hr.mono (by omega)) (by rfl) D__law_draw.m D__law_draw.k D__law_draw.b .nil pass0 (pa_cons (pv 1) (pa_cons pe_int pa_nil))) pa_nil)) (blkOk_by (N := N_law) (sc := defScope s_law) (by decide +kernel)) (fun _ _ _ _ _ => (pg_name (i := 3) sclaw.nd rfl (Or.inl rfl))) (fun _ _ _ _ _ => pts_nil) (fun _ _ _ _ _ => (pe_call G__law_draw (hr.mono (by omega)) (by rfl) D__law_draw.m D__law_draw.k D__law_draw.b .nil pass0 (pa_cons (pv 1) (pa_cons pe_int pa_nil)))))
      (pss_cons (ps_set (i := 5) sclaw.nd rfl (.inl rfl) (pe_make D_Builder___init__.k G_Builder___init__ (hr.mono (by omega)) (by rfl) T.m_Builder D_Builder___init__.b .nil pass0 (pa_cons (pv 2) (pa_cons (pv 4) pa_nil))))
      (pss_cons (ps_set (i := 6) sclaw.nd rfl (.inr rfl) (pe_lc (own := [("node", 22)]) (g := gName 22) (tt := tYes) rfl sclaw.nd (pi_range1 rfl T.m_range (pa_cons (pe_op op_add (pe_op op_add pe_int (pv 2)) (pe_callB call_len_seq (by rfl) T.m_len (by decide +kernel) (pa_cons (pv 4) pa_nil))) pa_nil)) (blkOk_by (N := N_law) (sc := defScope s_law) (by decide +kernel)) (fun _ _ _ _ _ => (pg_name (i := 22) sclaw.nd rfl (Or.inl rfl))) (fun _ _ _ _ _ => pts_nil) (fun _ _ _ _ _ => (pe_op op_mul pe_int (pv 22)))))
      (pss_cons (ps_set (i := 7) sclaw.nd rfl (.inl rfl) (pe_lst pa_nil))
      (pss_cons (ps_set (i := 8) sclaw.nd rfl (.inl rfl) (pe_lst pa_nil))
      (pss_cons (ps_for PassesOwn.never rfl (pi_range1 rfl T.m_range (pa_cons (pe_call G__law_draw (hr.mono (by omega)) (by rfl) D__law_draw.m D__law_draw.k D__law_draw.b .nil pass0 (pa_cons (pv 1) (pa_cons pe_int pa_nil))) pa_nil)) (pg_name (i := 3) sclaw.nd rfl (Or.inl rfl)) (pss_cons (ps_set (i := 9) sclaw.nd rfl (.inl rfl) (pe_op op_xor (pe_ix (r := rIxL K) ix_list (pv 6) (pe_call G__law_draw (hr.mono (by omega)) (by rfl) D__law_draw.m D__law_draw.k D__law_draw.b .nil pass0 (pa_cons (pv 1) (pa_cons (pe_callB call_len_seq (by rfl) T.m_len (by decide +kernel) (pa_cons (pv 6) pa_nil)) pa_nil))) (fun _ _ => rfl)) (pe_call G__law_draw (hr.mono (by omega)) (by rfl) D__law_draw.m D__law_draw.k D__law_draw.b .nil pass0 (pa_cons (pv 1) (pa_cons pe_int pa_nil)))))
      (pss_cons (ps_set (i := 10) sclaw.nd rfl (.inl rfl) (pe_op op_xor (pe_ix (r := rIxL K) ix_list (pv 6) (pe_call G__law_draw (hr.mono (by omega)) (by rfl) D__law_draw.m D__law_draw.k D__law_draw.b .nil pass0 (pa_cons (pv 1) (pa_cons (pe_callB call_len_seq (by rfl) T.m_len (by decide +kernel) (pa_cons (pv 6) pa_nil)) pa_nil))) (fun _ _ => rfl)) (pe_call G__law_draw (hr.mono (by omega)) (by rfl) D__law_draw.m D__law_draw.k D__law_draw.b .nil pass0 (pa_cons (pv 1) (pa_cons pe_int pa_nil)))))
      (pss_cons (ps_set (i := 11) sclaw.nd rfl (.inl rfl) (pe_meth (pv 5) T.c_Builder D_Builder_both.m G_Builder_both (hr.mono (by omega)) D_Builder_both.b .nil pass0 (pa_cons (pv 9) (pa_cons (pv 10) pa_nil))))
      (pss_cons (ps_expr (pe_bm PySem.F.plainAttrs_list PySem.F.slot_list_append PySem.F.type_list_append mt_append (pv 7) (pa_cons (pe_tup (pa_cons (pv 9) (pa_cons (pv 10) (pa_cons (pv 11) pa_nil)))) pa_nil)))
      (C8.pss_cut (ps_if (PW.pt (pw_and (pt_cmpR op_ne (pe_op op_fdivN (pv 9) pe_int) (pe_op op_fdivN (pv 10) pe_int) (nomark _)) (pw_and (pt_cmpR op_gt (pv 9) pe_int (nomark _)) (pw_and1 (pt_cmpR op_gt (pv 10) pe_int (nomark _)))))) (pss_one (ps_expr (pe_bm PySem.F.plainAttrs_list PySem.F.slot_list_append PySem.F.type_list_append mt_append (pv 8) (pa_cons (pe_tup (pa_cons (pe_callB (call_min2 (by rfl)) (by rfl) T.m_min (by decide +kernel) (pa_cons (pv 9) (pa_cons (pv 10) pa_nil))) (pa_cons (pe_callB (call_max2 (by rfl)) (by rfl) T.m_max (by decide +kernel) (pa_cons (pv 9) (pa_cons (pv 10) pa_nil))) pa_nil))) pa_nil)))) pss_nil)
      (pss_one (ps_expr (pe_bm PySem.F.plainAttrs_list PySem.F.slot_list_append PySem.F.type_list_append mt_append (pv 6) (pa_cons (pv 11) pa_nil))))))))))
      (pss_cons (ps_setLc (i := 12) (own := [("k", 3)]) (g := gName 3) (tt := tYes) rfl sclaw.nd rfl rfl (sw_true rfl rfl rfl (by decide +kernel)) (pi_range1 rfl T.m_range (pa_cons pe_int pa_nil)) (blkOk_by (N := N_law) (sc := defScope s_law) (by decide +kernel)) (fun _ _ _ _ _ => (pg_name (i := 3) sclaw.nd rfl (Or.inl rfl))) (fun _ _ _ _ _ => pts_nil) (fun _ _ _ _ _ => (pe_ix (r := rIxL K) ix_list (pv 6) (pe_call G__law_draw (hr.mono (by omega)) (by rfl) D__law_draw.m D__law_draw.k D__law_draw.b .nil pass0 (pa_cons (pv 1) (pa_cons (pe_callB (r := vLen K) call_len_seq (by rfl) T.m_len (by decide +kernel) (pa_cons (pv 6) pa_nil)) pa_nil))) (fun _ _ => rfl))))
      (pss_cons (ps_setLc (i := 13) (own := [("k", 3)]) (g := gName 3) (tt := tYes) rfl sclaw.nd rfl rfl (sw_true rfl rfl rfl (by decide +kernel)) (pi_list (pv 4)) (blkOk_by (N := N_law) (sc := defScope s_law) (by decide +kernel)) (fun _ _ _ _ _ => (pg_name (i := 3) sclaw.nd rfl (Or.inl rfl))) (fun _ _ _ _ _ => pts_nil) (fun _ _ _ _ _ => (pe_ix (r := rIxL K) ix_list (pv 6) (pe_call G__law_draw (hr.mono (by omega)) (by rfl) D__law_draw.m D__law_draw.k D__law_draw.b .nil pass0 (pa_cons (pv 1) (pa_cons (pe_callB (r := vLen K) call_len_seq (by rfl) T.m_len (by decide +kernel) (pa_cons (pv 6) pa_nil)) pa_nil))) (fun _ _ => rfl))))
      (pss_cons (ps_set (i := 14) sclaw.nd rfl (.inl rfl) (pe_meth (pv 5) T.c_Builder D_Builder_net.m G_Builder_net (hr.mono (by omega)) D_Builder_net.b .nil pass0 (pa_cons (pv 13) (pa_cons (pv 12) pa_nil))))
      (pss_cons (ps_set (i := 15) sclaw.nd rfl (.inl rfl) (pe_callB (r := rRepr K) (call_reprD hgd hr.units) (by rfl) T.m_repr (by decide +kernel) (pa_cons (pv 14) pa_nil)))
      (pss_cons (ps_set (i := 16) sclaw.nd rfl (.inl rfl) (pe_meth (pv 5) T.c_Builder D_Builder_net.m G_Builder_net (hr.mono (by omega)) D_Builder_net.b .nil pass0 (pa_cons (pv 13) (pa_cons (pv 12) pa_nil))))
      (pss_cons (ps_set (i := 17) sclaw.nd rfl (.inl rfl) (pe_meth (pv 5) T.c_Builder D_Builder_both.m G_Builder_both (hr.mono (by omega)) D_Builder_both.b .nil pass0 (pa_cons (pe_op op_xor (pe_ix (r := rIxL K) ix_list (pv 6) (pe_call G__law_draw (hr.mono (by omega)) (by rfl) D__law_draw.m D__law_draw.k D__law_draw.b .nil pass0 (pa_cons (pv 1) (pa_cons (pe_callB call_len_seq (by rfl) T.m_len (by decide +kernel) (pa_cons (pv 6) pa_nil)) pa_nil))) (fun _ _ => rfl)) pe_int) (pa_cons (pe_ix (r := rIxL K) ix_list (pv 6) (pe_un un_neg pe_int) (fun _ _ => rfl)) pa_nil))))
      (pss_cons (ps_expr (pe_meth (pv 5) T.c_Builder D_Builder_both.m G_Builder_both (hr.mono (by omega)) D_Builder_both.b .nil pass0 (pa_cons (pe_op op_xor (pv 17) pe_int) (pa_cons (pe_op op_xor (pe_ix (r := rIxL K) ix_list (pv 6) (pe_un un_neg pe_int) (fun _ _ => rfl)) pe_int) pa_nil))))
      (pss_cons (ps_if (PW.pt (pw_or (pt_cmpR op_ne (pe_callB (r := rRepr K) (call_reprD hgd hr.units) (by rfl) T.m_repr (by decide +kernel) (pa_cons (pv 14) pa_nil)) (pv 15) (nomark _)) (pw_or1 (pt_cmpR op_ne (pe_callB (r := rRepr K) (call_reprD hgd hr.units) (by rfl) T.m_repr (by decide +kernel) (pa_cons (pv 16) pa_nil)) (pv 15) (nomark _))))) (pss_one (ps_ret pe_bl)) pss_nil)
      (pss_cons (ps_if (pt_cmpR (op_neD hr.units) (pe_slice sl_list (pe_ix (r := rIxT K) ix_tup (pe_meth (pv 5) T.c_Builder D_Builder_net.m G_Builder_net (hr.mono (by omega)) D_Builder_net.b .nil pass0 (pa_cons (pv 13) (pa_cons (pv 12) pa_nil))) pe_int (fun _ _ => rfl)) po_none (po_some (pe_callB call_len_seq (by rfl) T.m_len (by decide +kernel) (pa_cons (pe_ix (r := rIxT K) ix_tup (pv 14) pe_int (fun _ _ => rfl)) pa_nil)))) (pe_ix (r := rIxT K) ix_tup (pv 14) pe_int (fun _ _ => rfl)) (nomark _)) (pss_one (ps_ret pe_bl)) pss_nil)
      (pss_cons (ps_if (PW.pt (pw_or (pt_cmpR op_notN (pe_call G_check (hr.mono (by omega)) (by rfl) D_check.m D_check.k D_check.b .nil pass0 (pa_cons (pv 14) pa_nil)) pe_non (nomark _)) (pw_or1 (pt_cmpR op_ne (pe_callB call_len_seq (by rfl) T.m_len (by decide +kernel) (pa_cons (pe_ix (r := rIxT K) ix_tup (pv 14) pe_int (fun _ _ => rfl)) pa_nil)) (pe_callB (r := rLenST P w) call_lenST (by rfl) T.m_len (by decide +kernel) (pa_cons (pe_callTy (r := rSetOfT K P w) (cr_setOfT (by rfl) hr.units) (by rfl) T.m_set (by decide +kernel) (pa_cons (pv 8) pa_nil)) pa_nil)) (nomark _))))) (pss_one (ps_ret pe_bl)) pss_nil)
      (pss_cons (ps_if (PW.pt (pw_or (pt_cmpR (op_neD hr.units) (pe_slice sl_tup (pv 14) po_none (po_some pe_int)) (pe_tup (pa_cons pe_str (pa_cons (pv 2) (pa_cons (pv 4) pa_nil)))) (nomark _)) (pw_or1 (pt_cmpR (op_neD hr.units) (pe_slice sl_tup (pv 14) (po_some pe_int) po_none) (pe_tup (pa_cons (pv 13) (pa_cons (pv 12) pa_nil))) (nomark _))))) (pss_one (ps_ret pe_bl)) pss_nil)
      (pss_cons (ps_asg (pe_call G__law_masks (hr.mono (by omega)) (by rfl) D__law_masks.m D__law_masks.k D__law_masks.b .nil pass0 (pa_cons (pv 14) pa_nil)) (pg_tup (by rfl) (pgs_cons (pg_name (i := 18) sclaw.nd rfl (Or.inl rfl)) (pgs_cons (pg_name (i := 19) sclaw.nd rfl (Or.inl rfl)) pgs_nil))))
      (pss_cons (ps_for PassesOwn.never rfl (pi_list (pv 7)) (pg_tup (by rfl) (pgs_cons (pg_name (i := 9) sclaw.nd rfl (Or.inl rfl)) (pgs_cons (pg_name (i := 10) sclaw.nd rfl (Or.inl rfl)) (pgs_cons (pg_name (i := 11) sclaw.nd rfl (Or.inl rfl)) pgs_nil)))) (pss_cons (ps_set (i := 20) sclaw.nd rfl (.inl rfl) (pe_op op_xor (pe_ix (r := rIxL K) ix_list (pv 18) (pe_op op_fdivN (pv 9) pe_int) (fun _ _ => rfl)) (pe_op op_mul (pv 19) (pe_op op_modN (pe_callTy call_int1 (by rfl) T.m_int (by decide +kernel) (pa_cons (pv 9) pa_nil)) pe_int))))
      (pss_cons (ps_set (i := 21) sclaw.nd rfl (.inl rfl) (pe_op op_xor (pe_ix (r := rIxL K) ix_list (pv 18) (pe_op op_fdivN (pv 10) pe_int) (fun _ _ => rfl)) (pe_op op_mul (pv 19) (pe_op op_modN (pe_callTy call_int1 (by rfl) T.m_int (by decide +kernel) (pa_cons (pv 10) pa_nil)) pe_int))))
      (pss_one (ps_if (pt_cmpR op_ne (pe_op op_xor (pe_ix (r := rIxL K) ix_list (pv 18) (pe_op op_fdivN (pv 11) pe_int) (fun _ _ => rfl)) (pe_op op_mul (pv 19) (pe_op op_modN (pe_callTy call_int1 (by rfl) T.m_int (by decide +kernel) (pa_cons (pv 11) pa_nil)) pe_int))) (pe_op op_and (pv 20) (pv 21)) (nomark _)) (pss_one (ps_ret pe_bl)) pss_nil)))))
      (pss_one (ps_ret pe_bl))))))))))))))))))))))), ?_⟩
    refine ⟨_, rfl, a, ns, rfl, hSc, hl, fun H1 p c s1 d1 => ?_⟩
    refine ⟨_, rfl, p, c, 3, rfl, d1, by decide, by decide, fun H2 ins g2 hins => ?_⟩
    refine ⟨_, rfl, p, c, 3, rfl, g2.b, by decide, by decide, fun H3 fl g3 hfl => ⟨_, rfl, by omega, by omega, fun pS nS => lc_range (n := fl) (fun j Hx => ∃ bs : List Nat, Go p c H3 Hx ∧ Hx pS = some (.lst (vn bs)) ∧ bs.length = j ∧ ∀ b ∈ bs, b < 2) ⟨[], Go.of g3.b (same_new nS), upd_same, rfl, by simp⟩ ?_ ?_⟩⟩
    · rintro j Hx hj ⟨bs, g, hp, hlb, hb⟩
      refine ⟨rfl, _, rfl, p, c, 2, rfl, g.b, by decide, by decide, fun Hz x gz hx => ⟨_, gz.get' g3.b nS hp, by rw [vn_len]; exact small64k (by omega), bs ++ [x], (g.trans gz).mut nS, ?_, by rw [List.length_append, hlb]; rfl, mem_snoc hb hx⟩⟩
      rw [upd_same, vn_snoc]
    rintro H4 ⟨ss, g4, hS4, lss, bss⟩
    have oS := g3.b.off nS
    -- made
    refine ⟨_, rfl, _, rfl, fun x dx nx ndx nex => ?_⟩
    have sup : Same H4 (upd (upd H4 dx (.own x)) x (.ins C_Builder dx [])) := (same_new ndx).trans (same_new (by rw [upd_ne (Ne.symm nex)]; exact nx))
    refine ⟨x, dx, pS, ins, ss, rfl, upd_same, sup _ _ hS4, ne_of_none hS4 nx, fun s g d H5 ns ng nd bt5 kp => ⟨rfl, ?_⟩⟩
    have s5 : Same H4 H5 := fun b o e => kp b o (sup _ _ e) (ne_of_none e nx)
    have ns4 : H4 s = none := none_of sup ns
    have ng4 : H4 g = none := none_of sup ng
    have hS5 := s5 _ _ hS4
    have dr5 := g4.b.same s5
    obtain ⟨_, hs5, ⟨_, hg5, _⟩, _, _, nsg⟩ := id bt5
    have ofs := g4.b.off ns4
    have ofg := g4.b.off ng4
    clear sup kp ns ng nd nx ndx
    -- told
    have eB : V.int ((1 : Int) + (ins : Int) + ((vn ss).length : Int)) = V.int ((BSt.first ⟨ins, ss, []⟩ : Nat) : Int) := by
      rw [vn_len]
      rfl
    obtain ⟨F0, hF0⟩ : ∃ F0, F0 = BSt.first ⟨ins, ss, []⟩ := ⟨_, rfl⟩
    have f5 : F0 ≤ 5 := by rw [hF0]; unfold BSt.first; show 1 + ins + ss.length ≤ 5; omega
    have f1 : 1 ≤ F0 := by rw [hF0]; unfold BSt.first; show 1 ≤ 1 + ins + ss.length; omega
    rw [← hF0] at eB
    refine ⟨_, rfl, _, _, rfl, rfl, _, rfl, pS, _, rfl, .inl (SqL.of hS5), _, _, rfl, rfl, ?_⟩
    show ∃ j, [V.int ((1 : Int) + (ins : Int) + ((vn ss).length : Int))] = [V.int j] ∧ _
    rw [eB]
    refine ⟨_, rfl, by omega, by omega, fun pT nT => lc_range (n := F0) (fun j Hx => Same H5 Hx ∧ Hx pT = some (.lst (vn ((List.range j).map fun k => 2 * k)))) ⟨same_new nT, upd_same⟩ ?_ ?_⟩
    · rintro j Hx hj ⟨sx, hp⟩
      refine ⟨rfl, _, rfl, _, _, rfl, rfl, .inl ⟨by decide, by decide⟩, _, hp, ?_, same_mut sx nT, ?_⟩
      · rw [vn_len, List.length_map, List.length_range]
        exact small1000 (by omega)
      · rw [upd_same, map_range_succ, ← vn_snoc]
        show some (HO.lst (_ ++ [V.int (2 * (0 + (j : Int)))])) = _
        rw [show (2 : Int) * (0 + (j : Int)) = ((2 * j : Nat) : Int) by omega]
    rintro H6 ⟨s6, hT6⟩
    -- asked, pairs
    refine ⟨by show 0 ≤ sizeLine; decide, fun pA nA => ?_⟩
    have s7 := same_new (o := .lst []) nA
    have hA7 : (upd H6 pA (.lst [])) pA = some (.lst []) := upd_same
    have ntA := ne_of_none hT6 nA
    generalize (upd H6 pA (.lst [])) = H7 at s7 hA7 ⊢
    refine ⟨by show 0 ≤ sizeLine; decide, fun pP nP => ?_⟩
    have s8 := same_new (o := .lst []) nP
    have hP8 : (upd H7 pP (.lst [])) pP = some (.lst []) := upd_same
    have nAP := ne_of_none hA7 nP
    have ntP := ne_of_none (s7 _ _ hT6) nP
    have s78 := s7.trans s8
    have s58 := s6.trans s78
    have nA5 : H5 pA = none := none_of s6 nA
    have nP5 : H5 pP = none := none_of (s6.trans s7) nP
    generalize (upd H7 pP (.lst [])) = H8 at s8 hP8 s78 s58 ⊢
    obtain ⟨_, cs, z, l1, l2, l3⟩ := id dr5
    have lne : LNe p c s g pS pT pA pP := by
      simp only [LNe, List.nodup_cons, List.mem_cons, List.not_mem_nil, or_false, not_or, List.nodup_nil, and_true, not_false_eq_true]
      exact ⟨⟨dr5.ne, Ne.symm ofs.1, Ne.symm ofg.1, Ne.symm oS.1, ne_of_none l1 nT, ne_of_none l1 nA5, ne_of_none l1 nP5⟩, ⟨Ne.symm ofs.2, Ne.symm ofg.2, Ne.symm oS.2, ne_of_none l2 nT, ne_of_none l2 nA5, ne_of_none l2 nP5⟩, ⟨nsg, Ne.symm (ne_of_none hS4 ns4), ne_of_none hs5 nT, ne_of_none hs5 nA5, ne_of_none hs5 nP5⟩, ⟨Ne.symm (ne_of_none hS4 ng4), ne_of_none hg5 nT, ne_of_none hg5 nA5, ne_of_none hg5 nP5⟩, ⟨ne_of_none hS5 nT, ne_of_none hS5 nA5, ne_of_none hS5 nP5⟩, ⟨ntA, ntP⟩, nAP⟩
    have st8 : LSt C_Builder p c x s g d pS pT pA pP H8 ⟨ins, ss, []⟩ ((List.range F0).map fun k => 2 * k) [] [] := by
      refine ⟨dr5.same s58, ?_, s58 _ _ hS5, s78 _ _ hT6, s8 _ _ hA7, hP8, by simp, by simp⟩
      obtain ⟨⟨ex, hx⟩, hs, ⟨us, hg, hus⟩, hd, nd, sg⟩ := bt5
      exact ⟨⟨ex, s58 _ _ hx⟩, s58 _ _ hs, ⟨us, s58 _ _ hg, hus.same (hidB_mono s58)⟩, s58 _ _ hd, nd, sg⟩
    have ok8 : LOk ⟨ins, ss, []⟩ ((List.range F0).map fun k => 2 * k) [] [] 0 := by
      refine ⟨by simp, Nat.le_refl _, fun l hl => ?_, by rw [List.length_map, List.length_range]; exact hF0, Nat.le_refl _, by simp, Nat.le_refl _, by simp⟩
      obtain ⟨k, hk, rfl⟩ := List.mem_map.mp hl
      have := List.mem_range.mp hk
      show 2 * k < 2 * (BSt.first ⟨ins, ss, []⟩ + 0)
      rw [← hF0]
      omega
    clear s58 s78 s8 s7 hT6 hA7 hP8 nA5 nP5 nA nP nT l1 l2 l3 hs5 hg5 bt5
    -- the asks
    refine ⟨_, rfl, p, c, 31, rfl, st8.dr, by decide, by decide, fun H9 dk g9 hdk => ⟨_, rfl, by omega, by omega, for_range (n := dk) (fun i σ Hx => ∃ (y3 y9 y10 y11 : Option V) (b : BSt) (tl : List Nat) (ts : List (Addr × (Nat × Nat × Nat))) (ps : List (Addr × (Nat × Nat))), σ = [some (.ref a), some (.ref p), some (.int (ins : Nat)), y3, some (.ref pS), some (.ref x), some (.ref pT), some (.ref pA), some (.ref pP), y9, y10, y11, none, none, none, none, none, none, none, none, none, none, none] ∧ LSt C_Builder p c x s g d pS pT pA pP Hx b tl ts ps ∧ LOk b tl ts ps i ∧ b.ins = ins ∧ b.starts = ss) ⟨_, none, none, none, _, _, [], [], rfl, st8.go lne g9, ok8, rfl, rfl⟩ ?_ ?_⟩⟩
    · rintro i σ Hx hi ⟨y3, y9, y10, y11, b, tl, ts, ps, rfl, st, lo, eb1, eb2⟩
      have ebf : b.first = F0 := by rw [hF0]; unfold BSt.first; rw [eb1, eb2]
      have ltl : 0 < (vn tl).length := by rw [vn_len, lo.tl]; omega
      have ltm : (vn tl).length < 1073741824 := by rw [vn_len, lo.tl]; omega
      have hgl := lo.gl
      -- a
      refine ⟨_, rfl, _, rfl, _, rfl, pT, _, rfl, .inl (SqL.of st.hT), p, c, (vn tl).length, rfl, st.dr, ltl, ltm, fun Ha i1 ga hi1 => ?_⟩
      have sta := st.go lne ga
      rw [vn_len] at hi1
      refine ⟨pT, _, _, _, rfl, rfl, SqL.of sta.hT, atI_nat (vn_get (List.getElem?_eq_getElem hi1)), _, rfl, p, c, 2, rfl, sta.dr, by decide, by decide, fun Hb b1 gb hb1 => ⟨_, _, rfl, rfl, ?_⟩⟩
      have stb := sta.go lne gb
      simp only [bxor]
      have hva : tl[i1] ^^^ b1 < 2 * (b.first + b.gates.length) := by
        have h1 := lo.tb _ (List.getElem_mem hi1)
        have h2 := xor_bit (l := tl[i1]) hb1
        omega
      generalize tl[i1] ^^^ b1 = va at hva ⊢
      -- b
      refine ⟨_, rfl, _, rfl, _, rfl, pT, _, rfl, .inl (SqL.of stb.hT), p, c, (vn tl).length, rfl, stb.dr, ltl, ltm, fun Hc i2 gc hi2 => ?_⟩
      have stc := stb.go lne gc
      rw [vn_len] at hi2
      refine ⟨pT, _, _, _, rfl, rfl, SqL.of stc.hT, atI_nat (vn_get (List.getElem?_eq_getElem hi2)), _, rfl, p, c, 2, rfl, stc.dr, by decide, by decide, fun Hd b2 gd hb2 => ⟨_, _, rfl, rfl, ?_⟩⟩
      have std := stc.go lne gd
      simp only [bxor]
      have hvc : tl[i2] ^^^ b2 < 2 * (b.first + b.gates.length) := by
        have h1 := lo.tb _ (List.getElem_mem hi2)
        have h2 := xor_bit (l := tl[i2]) hb2
        omega
      generalize tl[i2] ^^^ b2 = vc at hvc ⊢
      -- literal
      obtain ⟨⟨ex, hex⟩, _⟩ := id std.bt
      refine ⟨_, rfl, x, ex, _, rfl, hex, bf_no _ _ _ _ (by decide +kernel) (by decide +kernel) (by decide +kernel) (by decide +kernel), _, rfl, _, rfl, x, s, g, d, b, va, vc, rfl, std.bt, by omega, fun He r b' se bt' bo => ?_⟩
      have es : b'.starts = b.starts := by cases bo <;> rfl
      have ste := std.both lne se bt' es
      -- asked
      refine ⟨_, rfl, .inl ⟨rfl, _, SqL.of ste.hA⟩, _, rfl, _, rfl, _, rfl, by show 3 ≤ sizeLine; decide, fun t nt => ?_⟩
      have st3 := same_new (o := .tup [.int (va : Nat), .int (vc : Nat), .int (r : Nat)]) nt
      have stf := (ste.same st3).addA lne (t := t) (i := va) (j := vc) (k := r) upd_same
      have lts := lo.al
      refine ⟨pA, _, _, rfl, rfl, st3 _ _ ste.hA, by rw [List.length_map]; exact small1000 (by omega), ?_⟩
      generalize (upd (upd He t (.tup [.int (va : Nat), .int (vc : Nat), .int (r : Nat)])) pA (.lst ((ts.map fun e => V.ref e.1) ++ [V.ref t]))) = Hf at stf ⊢
      -- pairs
      refine ⟨fun σ Hy => ∃ ps', σ = [some (.ref a), some (.ref p), some (.int (ins : Nat)), some (.int (0 + (i : Int))), some (.ref pS), some (.ref x), some (.ref pT), some (.ref pA), some (.ref pP), some (.int (va : Nat)), some (.int (vc : Nat)), some (.int (r : Nat)), none, none, none, none, none, none, none, none, none, none, none] ∧ LSt C_Builder p c x s g d pS pT pA pP Hy b' tl (ts ++ [(t, (va, vc, r))]) ps' ∧ (∀ q, q ∈ ps'.map (·.2) ↔ q ∈ ps.map (·.2) ∨ ((va / 2 ≠ vc / 2 ∧ 1 < va ∧ 1 < vc) ∧ q = (min va vc, max va vc))) ∧ ps'.length ≤ ps.length + 1, ?_, ?_⟩
      · refine ⟨_, rfl, _, _, rfl, rfl, ⟨by decide, by decide⟩, _, rfl, _, _, rfl, rfl, ⟨by decide, by decide⟩, rfl, _, rfl, ?_⟩
        have ed : (!decide (V.int ((va : Int).fdiv 2) = V.int ((vc : Int).fdiv 2))) = !decide (va / 2 = vc / 2) := by
          rw [nfdiv2, nfdiv2, show decide (V.int ((va / 2 : Nat) : Int) = V.int ((vc / 2 : Nat) : Int)) = decide (va / 2 = vc / 2) from dec_nat _ _]
        show if (!decide (V.int ((va : Int).fdiv 2) = V.int ((vc : Int).fdiv 2))) = true then _ else _
        rw [ed]
        by_cases c1 : va / 2 = vc / 2
        · rw [decide_eq_true c1]
          exact iteF ⟨ps, rfl, stf, fun q => ⟨.inl, fun z => z.elim id fun w => absurd c1 w.1.1⟩, Nat.le_succ _⟩
        rw [decide_eq_false c1]
        refine iteT ?_
        refine ⟨_, rfl, _, _, rfl, rfl, _, rfl, ?_⟩
        by_cases c2n : ¬ 1 < va
        · rw [decide_eq_false (show ¬ ((va : Nat) : Int) > 1 by omega)]
          exact iteF ⟨ps, rfl, stf, fun q => ⟨.inl, fun z => z.elim id fun w => absurd w.1.2.1 c2n⟩, Nat.le_succ _⟩
        have c2 : 1 < va := by omega
        rw [decide_eq_true (show ((va : Nat) : Int) > 1 by omega)]
        refine iteT ?_
        refine ⟨_, rfl, _, _, rfl, rfl, _, rfl, ?_⟩
        by_cases c3n : ¬ 1 < vc
        · rw [decide_eq_false (show ¬ ((vc : Nat) : Int) > 1 by omega)]
          exact iteF ⟨ps, rfl, stf, fun q => ⟨.inl, fun z => z.elim id fun w => absurd w.1.2.2 c3n⟩, Nat.le_succ _⟩
        have c3 : 1 < vc := by omega
        rw [decide_eq_true (show ((vc : Nat) : Int) > 1 by omega)]
        refine iteT ?_
        refine ⟨_, rfl, .inl ⟨rfl, _, SqL.of stf.hP⟩, _, rfl, _, rfl, _, _, rfl, ?_⟩
        simp only [vmin2]
        refine ⟨_, rfl, _, rfl, _, _, rfl, ?_⟩
        simp only [vmax2]
        refine ⟨by show 2 ≤ sizeLine; decide, fun t2 nt2 => ?_⟩
        have st4 := same_new (o := .tup [.int (min va vc : Nat), .int (max va vc : Nat)]) nt2
        have lps := lo.pl
        refine ⟨pP, _, _, rfl, rfl, st4 _ _ stf.hP, by rw [List.length_map]; exact small1000 (by omega), ?_⟩
        refine ⟨ps ++ [(t2, (min va vc, max va vc))], rfl, (stf.same st4).addP lne (t := t2) (i := min va vc) (j := max va vc) upd_same, fun q => ?_, by rw [List.length_append]; exact Nat.le_refl _⟩
        rw [List.map_append, List.mem_append]
        show q ∈ ps.map (·.2) ∨ q ∈ [(min va vc, max va vc)] ↔ _
        rw [List.mem_singleton]
        constructor
        · rintro (z | z)
          · exact .inl z
          · exact .inr ⟨⟨c1, c2, c3⟩, z⟩
        · rintro (z | ⟨_, z⟩)
          · exact .inl z
          · exact .inr z
      · rintro σ Hy ⟨ps', rfl, sty, hpm, hpl⟩
        obtain ⟨lo', e1, e2⟩ := lo.turn (t := t) hva hvc bo hpm hpl
        refine ⟨_, rfl, .inl ⟨rfl, _, SqL.of sty.hT⟩, _, rfl, pT, _, _, rfl, rfl, sty.hT, by rw [vn_len, lo.tl]; exact small1000 (by omega), ?_⟩
        refine ⟨_, _, _, _, b', tl ++ [r], _, ps', rfl, ?_, lo', e1.trans eb1, e2.trans eb2⟩
        rw [vn_snoc]
        exact sty.setT lne _
    rintro σ H10 ⟨y3, y9, y10, y11, b, tl, ts, ps, rfl, st, lo, eb1, eb2⟩
    have ebf : b.first = F0 := by rw [hF0]; unfold BSt.first; rw [eb1, eb2]
    have ltl : 0 < (vn tl).length := by rw [vn_len, lo.tl]; omega
    have ltm : (vn tl).length < 1073741824 := by rw [vn_len, lo.tl]; omega
    have hgl := lo.gl
    -- outs
    refine ⟨_, rfl, by decide, by decide, fun D nD => lc_range (n := 3) (fun i Hx => ∃ xs : List Nat, Go p c H10 Hx ∧ Hx D = some (.lst (vn xs)) ∧ xs.length = i ∧ ∀ l ∈ xs, l < 2 * (b.first + b.gates.length)) ⟨[], Go.of st.dr (same_new nD), upd_same, rfl, by simp⟩ ?_ ?_⟩
    · rintro i Hx hi ⟨xs, gx, hD, hlx, hx2⟩
      have sx := st.go lne gx
      refine ⟨rfl, _, rfl, _, rfl, _, rfl, pT, _, rfl, .inl (SqL.of sx.hT), p, c, (vn tl).length, rfl, sx.dr, ltl, ltm, fun Hz i1 gz hi1 => ?_⟩
      have sz := sx.go lne gz
      rw [vn_len] at hi1
      refine ⟨pT, _, _, _, rfl, rfl, SqL.of sz.hT, atI_nat (vn_get (List.getElem?_eq_getElem hi1)), _, gz.get' st.dr nD hD, by rw [vn_len]; exact small64k (by omega), xs ++ [tl[i1]], (gx.trans gz).mut nD, ?_, by rw [List.length_append, hlx]; rfl, mem_snoc hx2 (lo.tb _ (List.getElem_mem hi1))⟩
      rw [upd_same, vn_snoc]
    rintro H11 ⟨outs, g11, hO11, hlo, bo⟩
    have st11 := st.go lne g11
    -- nexts
    have hS11 := st11.hS
    rw [eb2] at hS11
    refine ⟨_, rfl, pS, rfl, ⟨_, SqL.of hS11⟩, fun D2 nD2 => lc_list (xs := vn ss) (fun i Hx => ∃ xs : List Nat, Go p c H11 Hx ∧ Hx D2 = some (.lst (vn xs)) ∧ xs.length = i ∧ ∀ l ∈ xs, l < 2 * (b.first + b.gates.length)) ⟨[], Go.of st11.dr (same_new nD2), upd_same, rfl, by simp⟩ (fun i Hx _ ⟨_, g, _⟩ => SqL.of (by have := (st11.go lne g).hS; rw [eb2] at this; exact this)) ?_ ?_⟩
    · rintro i v Hx hv ⟨xs, gx, hD, hlx, hx2⟩
      have hi : i < ss.length := by
        have h := (List.getElem?_eq_some_iff.mp hv).1
        rw [vn_len] at h
        exact h
      rw [vn_get (List.getElem?_eq_getElem hi)] at hv
      cases hv
      have sx := st11.go lne gx
      refine ⟨rfl, _, rfl, _, rfl, _, rfl, pT, _, rfl, .inl (SqL.of sx.hT), p, c, (vn tl).length, rfl, sx.dr, ltl, ltm, fun Hz i1 gz hi1 => ?_⟩
      have sz := sx.go lne gz
      rw [vn_len] at hi1
      refine ⟨pT, _, _, _, rfl, rfl, SqL.of sz.hT, atI_nat (vn_get (List.getElem?_eq_getElem hi1)), _, gz.get' st11.dr nD2 hD, by rw [vn_len]; exact small64k (by omega), xs ++ [tl[i1]], (gx.trans gz).mut nD2, ?_, by rw [List.length_append, hlx]; rfl, mem_snoc hx2 (lo.tb _ (List.getElem_mem hi1))⟩
      rw [upd_same, vn_snoc]
    rintro H12 ⟨nexts, g12, hN12, hln, bn⟩
    rw [vn_len] at hln
    have st12 := st11.go lne g12
    have oD := st.dr.off nD
    have hO12 := g12.get oD.1 oD.2 hO11
    -- net
    obtain ⟨⟨ex, hex⟩, _⟩ := id st12.bt
    refine ⟨_, rfl, x, ex, _, rfl, hex, bf_no _ _ _ _ (by decide +kernel) (by decide +kernel) (by decide +kernel) (by decide +kernel), _, rfl, _, rfl, x, s, g, d, D2, D, b, nexts, outs, rfl, st12.bt, hN12, hO12, fun H13 qn s13 nqn dn => ?_⟩
    have dn := dn p c st12.dr
    have st13 := st12.same s13
    have lb : ∀ l, l < 2 * (b.first + b.gates.length) → l < 1000 := fun l h => by omega
    obtain ⟨m, hm, small⟩ := net_small (n := b.net nexts outs) (by show b.ins ≤ 3; omega) (by show b.starts.length ≤ 3; rw [eb2]; omega) (by show ∀ z ∈ b.starts, z < 2; rw [eb2]; exact bss) (by show b.gates.length ≤ 40; omega) (fun j g hg => by
      have h1 := lo.gb j g hg
      have h2 := (List.getElem?_eq_some_iff.mp hg).1
      have h2 : j < b.gates.length := h2
      omega) (by show nexts.length ≤ 3; omega) (fun z hz => lb z (bn z hz)) (by show outs.length ≤ 3; omega) (fun z hz => lb z (bo z hz))
    have up : ∀ {Hq : Hp} {v : V}, Dv (hidB x g d (res p c Hq)) v (b.net nexts outs) → Dv Hq v (b.net nexts outs) := fun h => (h.same (hidB_same _ _ _ _)).same (res_same _ _ _)
    refine ⟨_, rfl, qn, _, rfl, dh_dp _ _ (up dn), four _ small hm (by decide), ?_⟩
    -- other
    refine ⟨_, rfl, x, ex, _, rfl, s13 _ _ hex, bf_no _ _ _ _ (by decide +kernel) (by decide +kernel) (by decide +kernel) (by decide +kernel), _, rfl, _, rfl, x, s, g, d, D2, D, b, nexts, outs, rfl, st13.bt, s13 _ _ hN12, s13 _ _ hO12, fun H14 qo s14 nqo do_ => ?_⟩
    have do_ := do_ p c st13.dr
    have st14 := st13.same s14
    have dn14 := dn.same (hidB_mono (V0.Same.res s14 p c))
    -- later
    have ltl' : 0 < tl.length := by rw [vn_len] at ltl; exact ltl
    obtain ⟨last, hlast, hlb⟩ : ∃ last : Nat, (vn tl)[(vn tl).length - 1]? = some (.int (last : Nat)) ∧ last < 2 * (b.first + b.gates.length) := by
      have hlt : tl.length - 1 < tl.length := by omega
      refine ⟨tl[tl.length - 1], ?_, lo.tb _ (List.getElem_mem hlt)⟩
      rw [show (vn tl).length - 1 = tl.length - 1 by rw [vn_len]]
      exact vn_get (List.getElem?_eq_getElem hlt)
    refine ⟨_, rfl, x, ex, _, rfl, s14 _ _ (s13 _ _ hex), bf_no _ _ _ _ (by decide +kernel) (by decide +kernel) (by decide +kernel) (by decide +kernel), _, rfl, _, rfl, _, rfl, pT, _, rfl, .inl (SqL.of st14.hT), p, c, (vn tl).length, rfl, st14.dr, ltl, ltm, fun H15 i1 g15 hi1 => ?_⟩
    have st15 := st14.go lne g15
    rw [vn_len] at hi1
    refine ⟨pT, _, _, _, rfl, rfl, SqL.of st15.hT, atI_nat (vn_get (List.getElem?_eq_getElem hi1)), _, _, rfl, rfl, ?_⟩
    simp only [show ∀ l : Nat, Builtin.bitXor (l : Int) 1 = ((l ^^^ 1 : Nat) : Int) from fun l => bxor l 1]
    refine ⟨_, rfl, _, rfl, pT, _, _, _, rfl, rfl, SqL.of st15.hT, atI_end hlast ltl, x, s, g, d, b, tl[i1] ^^^ 1, last, rfl, st15.bt, by omega, fun H16 r1 b1 se16 bt16 bo16 => ?_⟩
    have bs1 : b1.starts = b.starts ∧ b1.ins = b.ins ∧ b1.gates.length ≤ b.gates.length + 1 ∧ ∃ r, b1.gates = b.gates ++ r := by
      cases bo16 with
      | old _ => exact ⟨rfl, rfl, by omega, [], (List.append_nil _).symm⟩
      | new _ _ _ => exact ⟨rfl, rfl, by show (b.gates ++ _).length ≤ _; rw [List.length_append]; exact Nat.le_refl _, _, rfl⟩
    have st16 := st15.both lne se16 bt16 bs1.1
    obtain ⟨⟨ex2, hex2⟩, _⟩ := id bt16
    refine ⟨_, rfl, x, ex2, _, rfl, hex2, bf_no _ _ _ _ (by decide +kernel) (by decide +kernel) (by decide +kernel) (by decide +kernel), _, rfl, _, _, rfl, rfl, ?_⟩
    simp only [show ∀ l : Nat, Builtin.bitXor (l : Int) 1 = ((l ^^^ 1 : Nat) : Int) from fun l => bxor l 1]
    refine ⟨_, rfl, _, rfl, pT, _, _, _, rfl, rfl, SqL.of st16.hT, atI_end hlast ltl, _, _, rfl, rfl, ?_⟩
    simp only [show ∀ l : Nat, Builtin.bitXor (l : Int) 1 = ((l ^^^ 1 : Nat) : Int) from fun l => bxor l 1]
    refine ⟨x, s, g, d, b1, r1 ^^^ 1, last ^^^ 1, rfl, bt16, by omega, fun H17 r2 b2 se17 bt17 bo17 => ?_⟩
    have bs2 : b2.starts = b1.starts ∧ b2.ins = b1.ins ∧ b2.gates.length ≤ b1.gates.length + 1 ∧ ∃ r, b2.gates = b1.gates ++ r := by
      cases bo17 with
      | old _ => exact ⟨rfl, rfl, by omega, [], (List.append_nil _).symm⟩
      | new _ _ _ => exact ⟨rfl, rfl, by show (b1.gates ++ _).length ≤ _; rw [List.length_append]; exact Nat.le_refl _, _, rfl⟩
    have st17 := st16.both lne se17 bt17 bs2.1
    -- the nets stand as they were
    obtain ⟨_, cs15, z15, q1, q2, _⟩ := id st15.dr
    obtain ⟨⟨ex5, hex5⟩, _, ⟨_, hg5, _⟩, hd5, _, _⟩ := id st15.bt
    have npx : p ≠ x ∧ p ≠ g ∧ p ≠ d := by
      have hl := lne
      simp only [LNe, List.nodup_cons, List.mem_cons, List.not_mem_nil, or_false, not_or, List.nodup_nil, and_true, not_false_eq_true] at hl
      exact ⟨ne_of q1 hex5 (by intro z; cases z), hl.1.2.2.1, ne_of q1 hd5 (by intro z; cases z)⟩
    have k1417 : Same (hidB x g d (res p c H14)) (hidB x g d (res p c H17)) := ((hidB_mono g15.s).trans (hidB_res npx se16)).trans (hidB_res npx se17)
    have dn17 := dn14.same k1417
    have do17 := do_.same k1417
    -- repr(net) != kept or repr(other) != kept
    refine ⟨_, rfl, qn, _, rfl, dh_dp _ _ (up dn17), four _ small hm (by decide), _, rfl, rfl, _, rfl, ?_⟩
    rw [show (!decide (V.str (PySem.W.Datum.toD (b.net nexts outs)).shown = V.str (PySem.W.Datum.toD (b.net nexts outs)).shown)) = false by rw [decide_eq_true rfl]; rfl]
    refine iteF ?_
    refine ⟨_, rfl, qo, _, rfl, dh_dp _ _ (up do17), four _ small hm (by decide), _, rfl, rfl, _, rfl, ?_⟩
    rw [show (!decide (V.str (PySem.W.Datum.toD (b.net nexts outs)).shown = V.str (PySem.W.Datum.toD (b.net nexts outs)).shown)) = false by rw [decide_eq_true rfl]; rfl]
    refine iteF ?_
    -- made.net(nexts, outs)[3][:len(net[3])] != net[3]
    have oD2 := st11.dr.off nD2
    have hN15 := g15.get oD2.1 oD2.2 (s14 _ _ (s13 _ _ hN12))
    have hO15 := g15.get oD.1 oD.2 (s14 _ _ (s13 _ _ hO12))
    have ngD2 : D2 ≠ g := by
      obtain ⟨_, _, ⟨_, hg, _⟩, _⟩ := id st11.bt
      exact fun z => by rw [z, hg] at nD2; cases nD2
    have ngD : D ≠ g := by
      obtain ⟨_, _, ⟨_, hg, _⟩, _⟩ := id st.bt
      exact fun z => by rw [z, hg] at nD; cases nD
    have carry : ∀ {z : Addr} {zs : List V}, z ≠ g → H15 z = some (.lst zs) → H17 z = some (.lst zs) := fun nz h => by
      have h1 := hidB_of (ne_of h hex5 (by intro z; cases z)) nz (ne_of h hd5 (by intro z; cases z)) h
      have h2 := se16 _ _ h1
      exact (hidB_some (se17 _ _ h2)).2.2.2
    have hN17 := carry ngD2 hN15
    have hO17 := carry ngD hO15
    obtain ⟨⟨ex3, hex3⟩, _⟩ := id bt17
    refine ⟨_, rfl, x, ex3, _, rfl, hex3, bf_no _ _ _ _ (by decide +kernel) (by decide +kernel) (by decide +kernel) (by decide +kernel), _, rfl, _, rfl, x, s, g, d, D2, D, b2, nexts, outs, rfl, bt17, hN17, hO17, fun H18 q3 s18 nq3 d3 => ?_⟩
    have d3f := ((d3 p c st17.dr).same (hidB_same _ _ _ _)).same (res_same _ _ _)
    obtain ⟨z3, a3S, a3G, a3N, a3O, e3, hA3, _, hG3, _, _⟩ := d3f.net_inv
    cases e3
    obtain ⟨_, us3, e, hG3l, hus3⟩ := hG3.list_inv
    cases e
    have dn18 := dn17.same (hidB_mono (V0.Same.res s18 p c))
    obtain ⟨zn, nS_, nG, nN, nO, en, hAn, hSn, hGn, hNn, hOn⟩ := (up dn18).net_inv
    cases en
    obtain ⟨_, usn, e, hGnl, husn⟩ := hGn.list_inv
    cases e
    refine ⟨q3, _, 3, _, rfl, rfl, SqT.of hA3, atI_nat (j := 3) rfl, _, rfl, qn, _, 3, _, rfl, rfl, SqT.of hAn, atI_nat (j := 3) rfl, nG, _, rfl, .inl (SqL.of hGnl), _, rfl, a3G, _, rfl, SqL.of hG3l, fun S nS => ?_⟩
    refine ⟨_, rfl, qn, _, 3, _, rfl, rfl, SqT.of (same_new nS _ _ hAn), atI_nat (j := 3) rfl, ?_⟩
    have hlusn : usn.length = b.gates.length := husn.len
    have eg2 : b2.gates.take b.gates.length = b.gates := by
      obtain ⟨r1', e1'⟩ := bs1.2.2.2
      obtain ⟨r2', e2'⟩ := bs2.2.2.2
      rw [e2', e1', List.append_assoc, List.take_append_of_le_length (Nat.le_refl _), List.take_length]
    refine neD (a := b.gates) (b := b.gates) (.list upd_same ?_) (.list (same_new nS _ _ hGnl) (husn.same (same_new nS))) (by decide) ?_
    · rw [cut_to, hlusn]
      have h := dvs_take b.gates.length hus3
      rw [show (b2.net nexts outs).gates = b2.gates from rfl, eg2] at h
      exact h.same (same_new nS)
    rw [decide_eq_true rfl]
    refine ⟨_, rfl, iteF ?_⟩
    have s1819 := same_new (o := .lst (cutV us3 none (some ((usn.length : Nat) : Int)))) nS
    have st19 := (st17.same s18).same s1819
    have dn19 := dn18.same (hidB_mono (V0.Same.res s1819 p c))
    have hN19 := s1819 _ _ (s18 _ _ hN17)
    have hO19 := s1819 _ _ (s18 _ _ hO17)
    generalize (upd H18 S (.lst (cutV us3 none (some ((usn.length : Nat) : Int))))) = H19 at st19 dn19 hN19 hO19 ⊢
    clear s1819 s18 hN17 hO17 hN15 hO15 carry hA3 hG3 hG3l hus3 hAn hSn hGn hNn hOn hGnl husn d3 d3f nS
    -- check(net) is not None
    have kd : Kind (b.net nexts outs) := ⟨by show ∀ z ∈ b.starts, z < 2; rw [eb2]; exact bss, lo.gb, by show nexts.length = b.starts.length; rw [eb2]; exact hln, fun z hz => bn z hz, fun z hz => bo z hz⟩
    refine ⟨_, rfl, .ref qn, b.net nexts outs, rfl, up dn19, kd, fun H20 s20 => ⟨rfl, _, rfl, iteF ?_⟩⟩
    have st20 := st19.same s20
    have dn20 := dn19.same (hidB_mono (V0.Same.res s20 p c))
    have hN20 := s20 _ _ hN19
    have hO20 := s20 _ _ hO19
    obtain ⟨zn, nS_, nG, nN, nO, en, hAn, hSn, hGn, hNn, hOn⟩ := (up dn20).net_inv
    cases en
    obtain ⟨_, usg, e, hGnl, husn⟩ := hGn.list_inv
    cases e
    -- len(net[3]) != len(set(pairs))
    refine ⟨_, rfl, qn, _, 3, _, rfl, rfl, SqT.of hAn, atI_nat (j := 3) rfl, nG, _, rfl, .inl (SqL.of hGnl), _, rfl, pP, ps.map (fun e => (e.1, [(e.2.1 : Int), (e.2.2 : Int)])), rfl, ?_, ?_, ?_, fun aL L naL hL hK => ⟨aL, L, rfl, upd_same, fun nd => ⟨rfl, _, rfl, ?_⟩⟩⟩
    · rw [List.map_map]
      exact SqL.of st20.hP
    · intro e he
      obtain ⟨e', he', rfl⟩ := List.mem_map.mp he
      exact SqT.of (st20.eP e' he')
    · rw [List.length_map]
      have := lo.pl
      omega
    have lL : L.length = b.gates.length := by
      have ndg : b.gates.Nodup := by
        obtain ⟨r1', e1'⟩ := bs1.2.2.2
        obtain ⟨r2', e2'⟩ := bs2.2.2.2
        have h := st20.bt.nd
        rw [e2', e1', List.append_assoc] at h
        exact (List.nodup_append.mp h).1
      rw [← List.length_map (·.2), ← List.length_map (f := fun g : Nat × Nat => [(g.1 : Int), (g.2 : Int)]) (as := b.gates)]
      have ndm : (b.gates.map fun g : Nat × Nat => [(g.1 : Int), (g.2 : Int)]).Nodup := nodup_map (fun x y z => by
        obtain ⟨x1, x2⟩ := x
        obtain ⟨y1, y2⟩ := y
        simp only [List.cons.injEq, and_true] at z
        rw [show x1 = y1 by omega, show x2 = y2 by omega]) ndg
      refine Nat.le_antisymm (nodup_len_le nd fun v hv => ?_) (nodup_len_le ndm fun v hv => ?_)
      · obtain ⟨z, hz, rfl⟩ := List.mem_map.mp hv
        obtain ⟨e, he, rfl⟩ := List.mem_map.mp (hL z hz)
        exact List.mem_map.mpr ⟨e.2, (lo.pm _).mp (List.mem_map.mpr ⟨e, he, rfl⟩), rfl⟩
      · obtain ⟨g, hg, rfl⟩ := List.mem_map.mp hv
        obtain ⟨e, he, rfl⟩ := List.mem_map.mp ((lo.pm _).mpr hg)
        exact hK _ (List.mem_map.mpr ⟨e, he, rfl⟩)
    rw [show (!decide (V.int ((usg.length : Nat) : Int) = V.int ((L.length : Nat) : Int))) = false by rw [husn.len, lL, show (b.net nexts outs).gates = b.gates from rfl, decide_eq_true rfl]; rfl]
    refine iteF ?_
    have s21 := same_new (o := SetTO P w aL L) naL
    have st21 := st20.same s21
    have dn21 := dn20.same (hidB_mono (V0.Same.res s21 p c))
    have hAn := s21 _ _ hAn
    have hN21 := s21 _ _ hN20
    have hO21 := s21 _ _ hO20
    generalize (upd H20 aL (SetTO P w aL L)) = H21 at st21 dn21 hAn hN21 hO21 ⊢
    clear st20 dn20 s21 hSn hGn hNn hOn hGnl husn hN20 hO20 naL hL hK nd lL
    -- net[:3] != ("net", ins, starts)
    obtain ⟨zn, nS2, nG2, nN2, nO2, en, hAn2, hSn, hGn, hNn, hOn⟩ := (up dn21).net_inv
    cases en
    obtain ⟨_, e, hSn⟩ := hSn.natl_inv
    cases e
    refine ⟨_, rfl, _, rfl, qn, _, rfl, SqT.of hAn2, (show ¬ (HT.sIx 6 0 none = 0 ∧ HT.sIx 6 6 (some 3) = 6) by decide), fun S1 nS1 => ⟨_, rfl, _, rfl, by show 3 ≤ sizeLine; decide, fun T1 nT1 => ?_⟩⟩
    have hP21 := st21.hS
    rw [bs2.1, bs1.1, eb2] at hP21
    have hSn' : H21 nS2 = some (.lst (vn ss)) := by rw [← eb2]; exact hSn
    have sS1 := same_new (o := .tup (cutV [.str "net", .int ((b.net nexts outs).ins : Nat), .ref nS2, .ref nG2, .ref nN2, .ref nO2] none (some 3))) nS1
    have ec : cutV [V.str "net", .int ((b.net nexts outs).ins : Nat), .ref nS2, .ref nG2, .ref nN2, .ref nO2] none (some 3) = [.str "net", .int (ins : Nat), .ref nS2] := by
      rw [← eb1]
      rfl
    have eS1 : (upd H21 S1 (.tup (cutV [.str "net", .int ((b.net nexts outs).ins : Nat), .ref nS2, .ref nG2, .ref nN2, .ref nO2] none (some 3)))) S1 = some (.tup [.str "net", .int (ins : Nat), .ref nS2]) := by
      rw [upd_same, ec]
    generalize (upd H21 S1 (.tup (cutV [.str "net", .int ((b.net nexts outs).ins : Nat), .ref nS2, .ref nG2, .ref nN2, .ref nO2] none (some 3)))) = H22 at sS1 eS1 nT1 ⊢
    have sT1 := same_new (o := .tup [.str "net", .int (ins : Nat), .ref pS]) nT1
    have eT1 : (upd H22 T1 (.tup [.str "net", .int (ins : Nat), .ref pS])) T1 = some (.tup [.str "net", .int (ins : Nat), .ref pS]) := upd_same
    have s23 := sS1.trans sT1
    have eS1 := sT1 _ _ eS1
    generalize (upd H22 T1 (.tup [.str "net", .int (ins : Nat), .ref pS])) = H23 at s23 eS1 eT1 ⊢
    have D1 : Dv H23 (.ref S1) (⟨ins, ss⟩ : NHead) := Dh.tup eS1 (.cons (.str _) (.cons (.int _) (.cons (Dv.natl (s23 _ _ hSn')) .nil)))
    have D2' : Dv H23 (.ref T1) (⟨ins, ss⟩ : NHead) := Dh.tup eT1 (.cons (.str _) (.cons (.int _) (.cons (Dv.natl (s23 _ _ hP21)) .nil)))
    refine neD D1 D2' (by decide) ?_
    rw [decide_eq_true rfl]
    refine ⟨_, rfl, iteF ?_⟩
    have st23 := st21.same s23
    have dn23 := dn21.same (hidB_mono (V0.Same.res s23 p c))
    have hAn2 := s23 _ _ hAn2
    have hN23 := s23 _ _ hN21
    have hO23 := s23 _ _ hO21
    have hNn23 := hNn.same s23
    have hOn23 := hOn.same s23
    clear st21 dn21 s23 sS1 sT1 D1 D2' eS1 eT1 hSn hSn' hP21 ec hGn hNn hOn hN21 hO21
    -- net[4:] != (nexts, outs)
    refine ⟨_, rfl, _, rfl, qn, _, rfl, SqT.of hAn2, (show ¬ (HT.sIx 6 0 (some 4) = 0 ∧ HT.sIx 6 6 none = 6) by decide), fun S2 nwS2 => ⟨_, rfl, _, rfl, by show 2 ≤ sizeLine; decide, fun T2 nT2 => ?_⟩⟩
    have sS2 := same_new (o := .tup (cutV [.str "net", .int ((b.net nexts outs).ins : Nat), .ref nS2, .ref nG2, .ref nN2, .ref nO2] (some 4) none)) nwS2
    have eS2 : (upd H23 S2 (.tup (cutV [.str "net", .int ((b.net nexts outs).ins : Nat), .ref nS2, .ref nG2, .ref nN2, .ref nO2] (some 4) none))) S2 = some (.tup [.ref nN2, .ref nO2]) := upd_same
    generalize (upd H23 S2 (.tup (cutV [.str "net", .int ((b.net nexts outs).ins : Nat), .ref nS2, .ref nG2, .ref nN2, .ref nO2] (some 4) none))) = H24 at sS2 eS2 nT2 ⊢
    have sT2 := same_new (o := .tup [.ref D2, .ref D]) nT2
    have eT2 : (upd H24 T2 (.tup [.ref D2, .ref D])) T2 = some (.tup [.ref D2, .ref D]) := upd_same
    have s25 := sS2.trans sT2
    have eS2 := sT2 _ _ eS2
    generalize (upd H24 T2 (.tup [.ref D2, .ref D])) = H25 at s25 eS2 eT2 ⊢
    refine neD (a := (nexts, outs)) (b := (nexts, outs)) (.pair eS2 (hNn23.same s25) (hOn23.same s25)) (.pair eT2 (.natl (s25 _ _ hN23)) (.natl (s25 _ _ hO23))) (by decide) ?_
    rw [decide_eq_true rfl]
    refine ⟨_, rfl, iteF ?_⟩
    have st25 := st23.same s25
    have dn25 := dn23.same (hidB_mono (V0.Same.res s25 p c))
    clear st23 dn23 s25 sS2 sT2 eS2 eT2 hN23 hO23 hNn23 hOn23 hAn2
    -- masks
    have nb : (b.net nexts outs).base = b.first := rfl
    refine ⟨_, rfl, .ref qn, b.net nexts outs, rfl, up dn25, by show b.ins + b.starts.length ≤ 4; rw [eb2]; omega, by show b.first + b.gates.length ≤ 1000; omega, kd.g, fun H26 tm mk s26 _ _ etm emk => ⟨tm, _, rfl, SqT.of etm, rfl, _, _, rfl, _, _, rfl, rfl, ?_⟩⟩
    have st26 := st25.same s26
    obtain ⟨FU, hFU⟩ : ∃ FU, FU = mfull (b.net nexts outs) := ⟨_, rfl⟩
    obtain ⟨ms, hms⟩ : ∃ ms, ms = maskTo (b.net nexts outs) (b.net nexts outs).gates := ⟨_, rfl⟩
    have lms : ms.length = b.first + b.gates.length := by rw [hms, mask_len]; rfl
    have fu16 : FU < 65536 := by
      have h0 : frees (b.net nexts outs) ≤ 4 := by show b.ins + b.starts.length ≤ 4; rw [eb2]; omega
      have h1 : 2 ^ 2 ^ frees (b.net nexts outs) ≤ 2 ^ 2 ^ 4 := Nat.pow_le_pow_right (by decide) (Nat.pow_le_pow_right (by decide) h0)
      have h2 : (2 : Nat) ^ 2 ^ 4 = 65536 := by decide
      have h3 := Nat.two_pow_pos (2 ^ frees (b.net nexts outs))
      rw [hFU]
      unfold mfull
      omega
    rw [← hFU] at etm
    rw [← hms] at emk
    have sm := fun {lo hi r : Nat} => stands_mask (b := b) (n := b.net nexts outs) (lo := lo) (hi := hi) (r := r) rfl rfl kd.g
    rw [← hFU, ← hms] at sm
    clear dn25 st25
    -- the asks once more
    rw [← hFU]
    refine ⟨_, rfl, pA, rfl, ⟨_, SqL.of st26.hA⟩, for_list (xs := ts.map fun e => V.ref e.1) (fun i σ Hx => ∃ y9 y10 y11 y20 y21 y22 : Option V, σ = [some (.ref a), some (.ref p), some (.int (ins : Nat)), y3, some (.ref pS), some (.ref x), some (.ref pT), some (.ref pA), some (.ref pP), y9, y10, y11, some (.ref D), some (.ref D2), some (.ref qn), some (.str (PySem.W.Datum.toD (b.net nexts outs)).shown), some (.ref qo), some (.int (r1 : Nat)), some (.ref mk), some (.int (FU : Nat)), y20, y21, y22] ∧ Hx = H26) ⟨_, _, _, _, _, _, rfl, rfl⟩ (fun i σ Hx _ h => ?_) ?_ ?_⟩
    · obtain ⟨_, _, _, _, _, _, _, rfl⟩ := h
      exact SqL.of st26.hA
    · rintro i v σ Hx hv ⟨y9, y10, y11, y20, y21, y22, rfl, rfl⟩
      obtain ⟨e, he, ev⟩ : ∃ e, ts[i]? = some e ∧ v = V.ref e.1 := by
        rw [List.getElem?_map] at hv
        cases hte : ts[i]? with
        | none => rw [hte] at hv; cases hv
        | some e => rw [hte] at hv; cases hv; exact ⟨e, rfl, rfl⟩
      subst ev
      obtain ⟨te, va, vc, vr⟩ := e
      have hm := List.mem_of_getElem? he
      obtain ⟨sd, hva, hvc⟩ := lo.ab _ hm
      have het : Hx te = some (.tup [.int (va : Nat), .int (vc : Nat), .int (vr : Nat)]) := st26.eA _ hm
      have sd : Stands b (min va vc) (max va vc) (.int (vr : Nat)) := sd
      have hva : va < 2 * (b.first + b.gates.length) := hva
      have hvc : vc < 2 * (b.first + b.gates.length) := hvc
      have hvr : vr < 2 * (b.first + b.gates.length) := by
        have hi : max va vc < 2 * (b.first + b.gates.length) := by
          rcases Nat.le_total va vc with h | h
          · rw [Nat.max_eq_right h]; exact hvc
          · rw [Nat.max_eq_left h]; exact hva
        have esd : ∃ v, v = V.int (vr : Nat) := ⟨_, rfl⟩
        obtain ⟨v, ev⟩ := esd
        rw [← ev] at sd
        cases sd with
        | zero _ => have := V.int.inj ev; omega
        | high _ _ => have := V.int.inj ev; omega
        | gate _ _ hj =>
          have := V.int.inj ev
          have := (List.getElem?_eq_some_iff.mp hj).1
          omega
        | none _ _ _ => cases ev
      have ml : ∀ l : Nat, l < 2 * (b.first + b.gates.length) → ∃ z, ms[l / 2]? = some z ∧ Builtin.bitXor ((z : Nat) : Int) ((FU : Int) * ((l : Int).fmod 2)) = ((mlit FU ms l : Nat) : Int) := fun l hl => by
        have h2 : l / 2 < ms.length := by omega
        refine ⟨ms[l / 2], List.getElem?_eq_getElem h2, ?_⟩
        unfold mlit
        rw [nfmod2, ← Int.natCast_mul, bxor, List.getElem?_eq_getElem h2]
        rfl
      obtain ⟨za, hza, eza⟩ := ml va hva
      obtain ⟨zc, hzc, ezc⟩ := ml vc hvc
      obtain ⟨zr, hzr, ezr⟩ := ml vr hvr
      have lm : -(2 ^ 64) < (FU : Int) ∧ (FU : Int) < 2 ^ 64 := by omega
      refine ⟨te, _, rfl, SqT.of het, rfl, _, _, rfl, _, _, rfl, _, _, rfl, rfl, ?_⟩
      refine ⟨_, rfl, _, rfl, _, _, rfl, rfl, ⟨by decide, by decide⟩, mk, _, _, _, rfl, rfl, SqL.of emk, (by rw [nfdiv2]; exact atI_nat (vn_get hza)), _, rfl, _, rfl, .inl ⟨_, rfl, _, _, rfl, rfl, (show (2 : Int) ≠ 0 by decide), _, _, rfl, rfl, .inl lm, _, _, rfl, rfl, ?_⟩⟩
      simp only [eza]
      refine ⟨_, rfl, _, rfl, _, _, rfl, rfl, ⟨by decide, by decide⟩, mk, _, _, _, rfl, rfl, SqL.of emk, (by rw [nfdiv2]; exact atI_nat (vn_get hzc)), _, rfl, _, rfl, .inl ⟨_, rfl, _, _, rfl, rfl, (show (2 : Int) ≠ 0 by decide), _, _, rfl, rfl, .inl lm, _, _, rfl, rfl, ?_⟩⟩
      simp only [ezc]
      refine ⟨_, rfl, _, rfl, _, _, rfl, rfl, ⟨by decide, by decide⟩, mk, _, _, _, rfl, rfl, SqL.of emk, (by rw [nfdiv2]; exact atI_nat (vn_get hzr)), _, rfl, _, rfl, .inl ⟨_, rfl, _, _, rfl, rfl, (show (2 : Int) ≠ 0 by decide), _, _, rfl, rfl, .inl lm, _, _, rfl, rfl, ?_⟩⟩
      simp only [ezr]
      refine ⟨_, rfl, _, rfl, _, _, rfl, rfl, rfl, _, rfl, ?_⟩
      simp only [band]
      have em : mlit FU ms vr = mlit FU ms va &&& mlit FU ms vc := by
        rw [sm sd]
        rcases Nat.le_total va vc with h | h
        · rw [Nat.min_eq_left h, Nat.max_eq_right h]
        · rw [Nat.min_eq_right h, Nat.max_eq_left h, Nat.and_comm]
      rw [em, decide_eq_true rfl]
      exact iteF ⟨_, _, _, _, _, _, rfl, rfl⟩
    rintro σ Hx ⟨y9, y10, y11, y20, y21, y22, rfl, rfl⟩
    exact q _
end K32
namespace K32
open PySem PySem.Spec PyProof.Rows L2 V0
theorem all_mk {l : PySem.W.OpenLaw} {w : World} {K : PySem.W.Frag} {h : Heap} {mg : Str → Option Value} {fa f1 f2 f3 f4 f5 f6 f7 f8 f9 f10 f11 f12 : Addr} {C_Builder : Addr} (X : K.In h) (G : h.Ns mainGlobals mg) (hfa : mg "law" = some (.ref fa))
    {od1 an1 od2 an2 od3 an3 od4 an4 od5 an5 od6 an6 od7 an7 od8 an8 od9 an9 od10 an10 od11 an11 od12 an12 : Option Addr} {sl1 sl2 sl3 sl4 sl5 sl6 sl7 sl8 sl9 sl10 sl11 sl12 : Array (Option Value)} {oc1 kV1 dc1 pm1 cd1 ct1 oc2 kV2 dc2 pm2 cd2 ct2 oc3 kV3 dc3 pm3 cd3 ct3 oc4 kV4 dc4 pm4 cd4 ct4 oc5 kV5 dc5 pm5 cd5 ct5 oc6 kV6 dc6 pm6 cd6 ct6 oc7 kV7 dc7 pm7 cd7 ct7 oc8 kV8 dc8 pm8 cd8 ct8 oc9 kV9 dc9 pm9 cd9 ct9 oc10 kV10 dc10 pm10 cd10 ct10 oc11 kV11 dc11 pm11 cd11 ct11 oc12 kV12 dc12 pm12 cd12 ct12 : Value}
    (aC_Builder : PySem.W.nsIn K mainGlobals "Builder" = some (some (.ref C_Builder))) (pg_Builder : PySem.W.plainGet K C_Builder Str.empty = true) (hd_Builder : PySem.W.hasDictIn K C_Builder = true) (po_Builder : PySem.W.plainOver K C_Builder = true) (sa_Builder : PySem.W.findIn K (.ref C_Builder) "__setattr__" = some (some (.builtin "object.__setattr__"))) (mk_Builder : PySem.W.makesIn K C_Builder = true) (kc_Builder : PySem.W.keepIn K (.ref C_Builder) = true)
    (n_Builder_ins : PySem.W.findIn K (.ref C_Builder) "ins" = some none)
    (n_Builder_starts : PySem.W.findIn K (.ref C_Builder) "starts" = some none)
    (n_Builder_gates : PySem.W.findIn K (.ref C_Builder) "gates" = some none)
    (n_Builder_known : PySem.W.findIn K (.ref C_Builder) "known" = some none)
    (a1 : PySem.W.nsIn K mainGlobals "_law_state" = some (some (.ref f1))) (l1 : K.lookup f1 = some ⟨oc1, od1, .func (PySem.W.fnOf "_law_state" "_law_state" (defArgs s__law_state) (defBody s__law_state) (defScope s__law_state) .none kV1 dc1 pm1 an1 cd1 ct1), sl1⟩) (c1 : PySem.W.codeIn K cd1 "_law_state" = true) (k1 : PySem.W.keepIn K (.ref f1) = true)
    (a2 : PySem.W.nsIn K mainGlobals "_law_draw" = some (some (.ref f2))) (l2 : K.lookup f2 = some ⟨oc2, od2, .func (PySem.W.fnOf "_law_draw" "_law_draw" (defArgs s__law_draw) (defBody s__law_draw) (defScope s__law_draw) .none kV2 dc2 pm2 an2 cd2 ct2), sl2⟩) (c2 : PySem.W.codeIn K cd2 "_law_draw" = true) (k2 : PySem.W.keepIn K (.ref f2) = true)
    (a3 : PySem.W.findIn K (.ref C_Builder) "__init__" = some (some (.ref f3))) (i3 : PySem.W.isFn K (.ref f3) = true) (l3 : K.lookup f3 = some ⟨oc3, od3, .func (PySem.W.fnOf "__init__" "Builder.__init__" (defArgs s_Builder___init__) (defBody s_Builder___init__) (defScope s_Builder___init__) .none kV3 dc3 pm3 an3 cd3 ct3), sl3⟩) (c3 : PySem.W.codeIn K cd3 "Builder.__init__" = true) (k3 : PySem.W.keepIn K (.ref f3) = true)
    (a4 : PySem.W.findIn K (.ref C_Builder) "net" = some (some (.ref f4))) (i4 : PySem.W.isFn K (.ref f4) = true) (l4 : K.lookup f4 = some ⟨oc4, od4, .func (PySem.W.fnOf "net" "Builder.net" (defArgs s_Builder_net) (defBody s_Builder_net) (defScope s_Builder_net) .none kV4 dc4 pm4 an4 cd4 ct4), sl4⟩) (c4 : PySem.W.codeIn K cd4 "Builder.net" = true) (k4 : PySem.W.keepIn K (.ref f4) = true)
    (a5 : PySem.W.findIn K (.ref C_Builder) "standing" = some (some (.ref f5))) (i5 : PySem.W.isFn K (.ref f5) = true) (l5 : K.lookup f5 = some ⟨oc5, od5, .func (PySem.W.fnOf "standing" "Builder.standing" (defArgs s_Builder_standing) (defBody s_Builder_standing) (defScope s_Builder_standing) .none kV5 dc5 pm5 an5 cd5 ct5), sl5⟩) (c5 : PySem.W.codeIn K cd5 "Builder.standing" = true) (k5 : PySem.W.keepIn K (.ref f5) = true)
    (a6 : PySem.W.findIn K (.ref C_Builder) "both" = some (some (.ref f6))) (i6 : PySem.W.isFn K (.ref f6) = true) (l6 : K.lookup f6 = some ⟨oc6, od6, .func (PySem.W.fnOf "both" "Builder.both" (defArgs s_Builder_both) (defBody s_Builder_both) (defScope s_Builder_both) .none kV6 dc6 pm6 an6 cd6 ct6), sl6⟩) (c6 : PySem.W.codeIn K cd6 "Builder.both" = true) (k6 : PySem.W.keepIn K (.ref f6) = true)
    (a7 : PySem.W.nsIn K mainGlobals "_law_masks" = some (some (.ref f7))) (l7 : K.lookup f7 = some ⟨oc7, od7, .func (PySem.W.fnOf "_law_masks" "_law_masks" (defArgs s__law_masks) (defBody s__law_masks) (defScope s__law_masks) .none kV7 dc7 pm7 an7 cd7 ct7), sl7⟩) (c7 : PySem.W.codeIn K cd7 "_law_masks" = true) (k7 : PySem.W.keepIn K (.ref f7) = true)
    (a8 : PySem.W.nsIn K mainGlobals "base_of" = some (some (.ref f8))) (l8 : K.lookup f8 = some ⟨oc8, od8, .func (PySem.W.fnOf "base_of" "base_of" (defArgs s_base_of) (defBody s_base_of) (defScope s_base_of) .none kV8 dc8 pm8 an8 cd8 ct8), sl8⟩) (c8 : PySem.W.codeIn K cd8 "base_of" = true) (k8 : PySem.W.keepIn K (.ref f8) = true)
    (a9 : PySem.W.nsIn K mainGlobals "many_nodes" = some (some (.ref f9))) (l9 : K.lookup f9 = some ⟨oc9, od9, .func (PySem.W.fnOf "many_nodes" "many_nodes" (defArgs s_many_nodes) (defBody s_many_nodes) (defScope s_many_nodes) .none kV9 dc9 pm9 an9 cd9 ct9), sl9⟩) (c9 : PySem.W.codeIn K cd9 "many_nodes" = true) (k9 : PySem.W.keepIn K (.ref f9) = true)
    (a10 : PySem.W.nsIn K mainGlobals "fault_of" = some (some (.ref f10))) (l10 : K.lookup f10 = some ⟨oc10, od10, .func (PySem.W.fnOf "fault_of" "fault_of" (defArgs s_fault_of) (defBody s_fault_of) (defScope s_fault_of) .none kV10 dc10 pm10 an10 cd10 ct10), sl10⟩) (c10 : PySem.W.codeIn K cd10 "fault_of" = true) (k10 : PySem.W.keepIn K (.ref f10) = true)
    (a11 : PySem.W.nsIn K mainGlobals "check" = some (some (.ref f11))) (l11 : K.lookup f11 = some ⟨oc11, od11, .func (PySem.W.fnOf "check" "check" (defArgs s_check) (defBody s_check) (defScope s_check) .none kV11 dc11 pm11 an11 cd11 ct11), sl11⟩) (c11 : PySem.W.codeIn K cd11 "check" = true) (k11 : PySem.W.keepIn K (.ref f11) = true)
    (a12 : PySem.W.nsIn K mainGlobals "law" = some (some (.ref f12))) (l12 : K.lookup f12 = some ⟨oc12, od12, .func (PySem.W.fnOf "law" "law" (defArgs s_law) (defBody s_law) (defScope s_law) .none kV12 dc12 pm12 an12 cd12 ct12), sl12⟩) (c12 : PySem.W.codeIn K cd12 "law" = true) (k12 : PySem.W.keepIn K (.ref f12) = true)
    (z_abs : PySem.W.nsIn K mainGlobals "abs" = some none)
    (z_any : PySem.W.nsIn K mainGlobals "any" = some none)
    (z_enumerate : PySem.W.nsIn K mainGlobals "enumerate" = some none)
    (z_int : PySem.W.nsIn K mainGlobals "int" = some none)
    (z_len : PySem.W.nsIn K mainGlobals "len" = some none)
    (z_list : PySem.W.nsIn K mainGlobals "list" = some none)
    (z_max : PySem.W.nsIn K mainGlobals "max" = some none)
    (z_min : PySem.W.nsIn K mainGlobals "min" = some none)
    (z_range : PySem.W.nsIn K mainGlobals "range" = some none)
    (z_repr : PySem.W.nsIn K mainGlobals "repr" = some none)
    (z_set : PySem.W.nsIn K mainGlobals "set" = some none) :
    ∃ fd : FuncData, (∀ (s : Shared) (v : Value), BindsTo s fd ⟨[v], []⟩ [("script", v)]) ∧ ∀ base : Heap, K.In base → base.Ns mainGlobals mg → LawOk l.prog w K mg base fa fd ["script"] (sp_law K) := by
  have e := hfa.symm.trans (PySem.W.mg_of X G a12)
  cases e
  have T : Txt K mg C_Builder := ⟨⟨pg_Builder, hd_Builder, po_Builder, sa_Builder⟩, PySem.W.mg_of X G aC_Builder, n_Builder_ins, n_Builder_starts, n_Builder_gates, n_Builder_known, PySem.W.mg_none_of X G z_abs, PySem.W.mg_none_of X G z_any, PySem.W.mg_none_of X G z_enumerate, PySem.W.mg_none_of X G z_int, PySem.W.mg_none_of X G z_len, PySem.W.mg_none_of X G z_list, PySem.W.mg_none_of X G z_max, PySem.W.mg_none_of X G z_min, PySem.W.mg_none_of X G z_range, PySem.W.mg_none_of X G z_repr, PySem.W.mg_none_of X G z_set⟩
  have F1 := fun_mk (st := s__law_state) l1 c1 k1
  have D1 : Def K mg "_law_state" f1 _ ["script"] := ⟨PySem.W.mg_of X G a1, F1.kp, F1.binds (ps := ["script"]) fun _ _ _ _ _ _ us hl => match us, hl with | [_], _ => rfl⟩
  have F2 := fun_mk (st := s__law_draw) l2 c2 k2
  have D2 : Def K mg "_law_draw" f2 _ ["state", "many"] := ⟨PySem.W.mg_of X G a2, F2.kp, F2.binds (ps := ["state", "many"]) fun _ _ _ _ _ _ us hl => match us, hl with | [_, _], _ => rfl⟩
  have F3 := fun_mk (st := s_Builder___init__) l3 c3 k3
  have D3 : IDef K C_Builder f3 _ ["self", "ins", "starts"] := ⟨⟨mk_Builder, a3, i3, kc_Builder⟩, F3.binds (ps := ["self", "ins", "starts"]) fun _ _ _ _ _ _ us hl => match us, hl with | [_, _, _], _ => rfl⟩
  have F4 := fun_mk (st := s_Builder_net) l4 c4 k4
  have D4 : MDef K C_Builder "net" f4 _ ["self", "nexts", "outs"] := ⟨⟨a4, i4, k4⟩, F4.binds (ps := ["self", "nexts", "outs"]) fun _ _ _ _ _ _ us hl => match us, hl with | [_, _, _], _ => rfl⟩
  have F5 := fun_mk (st := s_Builder_standing) l5 c5 k5
  have D5 : MDef K C_Builder "standing" f5 _ ["self", "a", "b"] := ⟨⟨a5, i5, k5⟩, F5.binds (ps := ["self", "a", "b"]) fun _ _ _ _ _ _ us hl => match us, hl with | [_, _, _], _ => rfl⟩
  have F6 := fun_mk (st := s_Builder_both) l6 c6 k6
  have D6 : MDef K C_Builder "both" f6 _ ["self", "a", "b"] := ⟨⟨a6, i6, k6⟩, F6.binds (ps := ["self", "a", "b"]) fun _ _ _ _ _ _ us hl => match us, hl with | [_, _, _], _ => rfl⟩
  have F7 := fun_mk (st := s__law_masks) l7 c7 k7
  have D7 : Def K mg "_law_masks" f7 _ ["net"] := ⟨PySem.W.mg_of X G a7, F7.kp, F7.binds (ps := ["net"]) fun _ _ _ _ _ _ us hl => match us, hl with | [_], _ => rfl⟩
  have F8 := fun_mk (st := s_base_of) l8 c8 k8
  have D8 : Def K mg "base_of" f8 _ ["net"] := ⟨PySem.W.mg_of X G a8, F8.kp, F8.binds (ps := ["net"]) fun _ _ _ _ _ _ us hl => match us, hl with | [_], _ => rfl⟩
  have F9 := fun_mk (st := s_many_nodes) l9 c9 k9
  have D9 : Def K mg "many_nodes" f9 _ ["net"] := ⟨PySem.W.mg_of X G a9, F9.kp, F9.binds (ps := ["net"]) fun _ _ _ _ _ _ us hl => match us, hl with | [_], _ => rfl⟩
  have F10 := fun_mk (st := s_fault_of) l10 c10 k10
  have D10 : Def K mg "fault_of" f10 _ ["net"] := ⟨PySem.W.mg_of X G a10, F10.kp, F10.binds (ps := ["net"]) fun _ _ _ _ _ _ us hl => match us, hl with | [_], _ => rfl⟩
  have F11 := fun_mk (st := s_check) l11 c11 k11
  have D11 : Def K mg "check" f11 _ ["net"] := ⟨PySem.W.mg_of X G a11, F11.kp, F11.binds (ps := ["net"]) fun _ _ _ _ _ _ us hl => match us, hl with | [_], _ => rfl⟩
  have F12 := fun_mk (st := s_law) l12 c12 k12
  refine ⟨PySem.W.fnOf "law" "law" (defArgs s_law) (defBody s_law) (defScope s_law) .none kV12 dc12 pm12 an12 cd12 ct12, fun s v => .of_eq rfl, fun base _ _ => ?_⟩
  have G1 : FnOk l.prog w K mg base CX0 1 f1 _ ["script"] (sp__law_state K) := ok__law_state F1 T 
  have G2 : FnOk l.prog w K mg base CX0 1 f2 _ ["state", "many"] (sp__law_draw K) := ok__law_draw F2 T 
  have G3 : FnOk l.prog w K mg base CX0 1 f3 _ ["self", "ins", "starts"] (sp_Builder___init__ K C_Builder) := ok_Builder___init__ F3 T 
  have G4 : FnOk l.prog w K mg base CX0 1 f4 _ ["self", "nexts", "outs"] (sp_Builder_net K C_Builder) := ok_Builder_net F4 T 
  have G5 : FnOk l.prog w K mg base CX0 1 f5 _ ["self", "a", "b"] (sp_Builder_standing K C_Builder) := ok_Builder_standing F5 T 
  have G6 : FnOk l.prog w K mg base CX0 2 f6 _ ["self", "a", "b"] (sp_Builder_both K C_Builder) := ok_Builder_both F6 T G5 D5
  have G7 : FnOk l.prog w K mg base CX0 1 f7 _ ["net"] (sp__law_masks K) := ok__law_masks F7 T 
  have G8 : FnOk l.prog w K mg base CX0 1 f8 _ ["net"] (sp_base_of K) := ok_base_of F8 T 
  have G9 : FnOk l.prog w K mg base CX0 2 f9 _ ["net"] (sp_many_nodes K) := ok_many_nodes F9 T G8 D8
  have G10 : FnOk l.prog w K mg base CX0 3 f10 _ ["net"] (sp_fault_of K) := ok_fault_of F10 T G8 D8 G9 D9
  have G11 : FnOk l.prog w K mg base CX0 4 f11 _ ["net"] (sp_check K) := ok_check F11 T G10 D10
  exact ok_law F12 T G1 D1 G2 D2 G3 D3 G4 D4 G6 D6 G7 D7 G11 D11
end K32
open PySem PySem.W PyProof.Rows
set_option maxHeartbeats 0 in
theorem PySem.Challenge.cw_cellcloth_k32_gates_made_once_holds : PySem.Challenge.rw_cellcloth_k32_gates_made_once.Holds := by
  w_on; o_law; k_head; (case hw => w_witness2)
  k_fill
  refine V0.walk_at (l := PySem.Challenge.rw_cellcloth_k32_gates_made_once) (n := 63) (x := "script") (sp := K32.sp_law) rfl (by decide) rfl (fun w h Y => PySem.W.kIn_of Y) ?F (fun _ _ a ns hl _ hS => ⟨a, ns, rfl, hS, hl, fun _ => rfl⟩)
  case F =>
    intro w mg fa h KX G hmg
    refine' K32.all_mk KX G hmg ?aC_Builder ?pg_Builder ?hd_Builder ?po_Builder ?sa_Builder ?mk_Builder ?kc_Builder ?n_Builder_ins ?n_Builder_starts ?n_Builder_gates ?n_Builder_known ?a1 ?l1 ?c1 ?k1 ?a2 ?l2 ?c2 ?k2 ?a3 ?i3 ?l3 ?c3 ?k3 ?a4 ?i4 ?l4 ?c4 ?k4 ?a5 ?i5 ?l5 ?c5 ?k5 ?a6 ?i6 ?l6 ?c6 ?k6 ?a7 ?l7 ?c7 ?k7 ?a8 ?l8 ?c8 ?k8 ?a9 ?l9 ?c9 ?k9 ?a10 ?l10 ?c10 ?k10 ?a11 ?l11 ?c11 ?k11 ?a12 ?l12 ?c12 ?k12 ?z_abs ?z_any ?z_enumerate ?z_int ?z_len ?z_list ?z_max ?z_min ?z_range ?z_repr ?z_set
    (case aC_Builder => k_is)
    (case pg_Builder => k_is)
    (case hd_Builder => k_is)
    (case po_Builder => k_is)
    (case sa_Builder => k_is)
    (case mk_Builder => k_is)
    (case kc_Builder => k_is)
    (case n_Builder_ins => k_is)
    (case n_Builder_starts => k_is)
    (case n_Builder_gates => k_is)
    (case n_Builder_known => k_is)
    (case a1 => k_is)
    (case l1 => k_is)
    (case c1 => k_is)
    (case k1 => k_is)
    (case a2 => k_is)
    (case l2 => k_is)
    (case c2 => k_is)
    (case k2 => k_is)
    (case a3 => k_is)
    (case i3 => k_is)
    (case l3 => k_is)
    (case c3 => k_is)
    (case k3 => k_is)
    (case a4 => k_is)
    (case i4 => k_is)
    (case l4 => k_is)
    (case c4 => k_is)
    (case k4 => k_is)
    (case a5 => k_is)
    (case i5 => k_is)
    (case l5 => k_is)
    (case c5 => k_is)
    (case k5 => k_is)
    (case a6 => k_is)
    (case i6 => k_is)
    (case l6 => k_is)
    (case c6 => k_is)
    (case k6 => k_is)
    (case a7 => k_is)
    (case l7 => k_is)
    (case c7 => k_is)
    (case k7 => k_is)
    (case a8 => k_is)
    (case l8 => k_is)
    (case c8 => k_is)
    (case k8 => k_is)
    (case a9 => k_is)
    (case l9 => k_is)
    (case c9 => k_is)
    (case k9 => k_is)
    (case a10 => k_is)
    (case l10 => k_is)
    (case c10 => k_is)
    (case k10 => k_is)
    (case a11 => k_is)
    (case l11 => k_is)
    (case c11 => k_is)
    (case k11 => k_is)
    (case a12 => k_is)
    (case l12 => k_is)
    (case c12 => k_is)
    (case k12 => k_is)
    (case z_abs => k_is)
    (case z_any => k_is)
    (case z_enumerate => k_is)
    (case z_int => k_is)
    (case z_len => k_is)
    (case z_list => k_is)
    (case z_max => k_is)
    (case z_min => k_is)
    (case z_range => k_is)
    (case z_repr => k_is)
    (case z_set => k_is)
