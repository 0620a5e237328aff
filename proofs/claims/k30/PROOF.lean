import PyProof.Rows.All
import Wide.All
import OpenK.AllK
import Wide.FinOn
import HandS.ForMost
import HandS.Codes
import HandS.IsInst
import HandS.WideBits
import KE.Datum
import PyProof.ReprRoads
import PyProof.ReprLen
import PyProof.Rows.SetFrom
import HandS.Set
import HandS.SetFor
import HandS.Strs
import HandS.Iter
import HandS.More
import HandS.Deep
import HandS.SortInts
import HandS.Small
import HandS.Walk
import HandS.Star
import PySem.Challenge.RW_cellcloth_k30_runs_of_nets
import HandS.RevRange
set_option Elab.async false
set_option linter.all false
set_option maxRecDepth 100000
set_option maxHeartbeats 4000000
/-! data with a Lean type in the abstract heap: what a value holds, kept by growth; the heap but for what is mutable -/
namespace V0
open PySem PySem.Spec PyProof.Rows L2
open PySem.W (Datum)
/-- a def of the text as callers need it -/
structure Def (K : PySem.W.Frag) (mg : Str → Option Value) (x : Str) (f : Addr) (fd : FuncData) (ps : List Str) : Prop where
  m : mg x = some (.ref f)
  k : PySem.W.keepIn K (.ref f) = true
  b : Binds K fd ps []
abbrev vLen (K : PySem.W.Frag) : List V → Hp → VK → Prop := fun xs H Q => ∃ p ys, xs = [.ref p] ∧ (SqL K H p ys ∨ SqT K H p ys) ∧ Q (.int ys.length) H
abbrev vListOf (K : PySem.W.Frag) : List V → Hp → VK → Prop := fun xs H Q => ∃ p ys, xs = [.ref p] ∧ (SqL K H p ys ∨ SqT K H p ys) ∧ ∀ l, H l = none → Q (.ref l) (upd H l (.lst ys))
abbrev vTupleOf (K : PySem.W.Frag) : List V → Hp → VK → Prop := fun xs H Q => ∃ p ys, xs = [.ref p] ∧ ((SqL K H p ys ∧ ∀ l, H l = none → Q (.ref l) (upd H l (.tup ys))) ∨ (SqT K H p ys ∧ Q (.ref p) H))
/-- a statement that is never reached -/
theorem ps_never {X : Cx} {st : Stmt} : PS X st (fun _ _ _ => False) := ⟨fun _ _ _ _ _ _ h => h.elim⟩
def tTru (K : PySem.W.Frag) (ta : TE) : TT := fun σ H Q => ta σ H fun x H' => ∃ k, TruV K x H' k ∧ Q k H'
/-- as pt_truth, K told -/
theorem pt_truthK {X : Cx} {K : PySem.W.Frag} {a : Expr} {ta : TE} (hK : X.K = K) (ha : PE X a ta) (he : ∀ whole, isTrue a X.env whole = (do let v ← whole; standAt a.pos; holding [v] (truthy v))) :
    PT X a (tTru K ta) := by
  subst hK
  exact pt_truth ha he
theorem hu65 {A : Around} {k : Nat} (hr : Room k A) : A.units + 65 < cLine := by
  have := hr.un
  omega
theorem same_new {H : Hp} {p : Addr} {o : HO} (h : H p = none) : Same H (upd H p o) := fun b x e => by
  rw [upd_ne (ne_of_none e h)]
  exact e
theorem same_mut {H H' : Hp} {p : Addr} {o : HO} (e : Same H H') (h : H p = none) : Same H (upd H' p o) := fun a u ha => by
  rw [upd_ne (ne_of_none ha h)]
  exact e a u ha
theorem tup_same {K : PySem.W.Frag} {H H' : Hp} {a : Addr} {xs : List V} (e : Same H H') (h : SqT K H a xs) : SqT K H' a xs := by
  rcases h with (h | ⟨o, h⟩) | h
  · exact .inl (.inl (e _ _ h))
  · exact .inl (.inr ⟨o, e _ _ h⟩)
  · exact .inr h
theorem map_range_succ {α : Type} (f : Nat → α) (i : Nat) : (List.range (i + 1)).map f = (List.range i).map f ++ [f i] := by
  rw [List.range_succ, List.map_append]
  rfl
/-! ### data -/
class Dm (α : Type) [DecidableEq α] extends Datum α where
  lay : ∀ a : α, (Datum.toD a).canLay0 = true
instance : Dm Int where
  lay _ := by simp only [Datum.toD, PyData.canLay0]
instance : Dm Bool where
  lay _ := by simp only [Datum.toD, PyData.canLay0]
instance : Datum Nat where
  toD n := .int (n : Int)
  plain _ := rfl
  eqv a b := by
    simp only [PyData.eqv]
    rw [PySem.W.beq_decide]
    exact decide_eq_decide.mpr ⟨fun e => by omega, fun e => by rw [e]⟩
  depth := 0
  depth_le _ := Nat.le_refl _
instance : Dm Nat where
  lay _ := by simp only [Datum.toD, PyData.canLay0]
section
variable {α β : Type} [DecidableEq α] [Dm α] [DecidableEq β] [Dm β]
theorem lay_all : ∀ xs : List α, PyData.canLayAll0 (xs.map Datum.toD) = true
  | [] => by simp only [List.map_nil, PyData.canLayAll0]
  | x :: xs => by
    rw [List.map_cons, PyData.canLayAll0, Dm.lay x, lay_all xs]
    rfl
instance : Dm (List α) where
  lay xs := by
    simp only [Datum.toD, PyData.canLay0]
    exact lay_all xs
instance : Dm (α × β) where
  lay p := by
    simp only [Datum.toD, PyData.canLay0, PyData.canLayAll0, Bool.and_true, Bool.and_eq_true]
    exact ⟨Dm.lay p.1, Dm.lay p.2⟩
end
mutual
/-- as Dp, of what stands in the abstract heap alone -/
inductive Dh (H : Hp) : V → PyData → Prop
  | non : Dh H .non .none
  | bl (b : Bool) : Dh H (.bl b) (.bool b)
  | int (i : Int) : Dh H (.int i) (.int i)
  | str (x : Str) : Dh H (.str x) (.str x)
  | lst {a : Addr} {xs : List V} {ds : List PyData} : H a = some (.lst xs) → DhAll H xs ds → Dh H (.ref a) (.list ds)
  | tup {a : Addr} {xs : List V} {ds : List PyData} : H a = some (.tup xs) → DhAll H xs ds → Dh H (.ref a) (.tuple ds)
inductive DhAll (H : Hp) : List V → List PyData → Prop
  | nil : DhAll H [] []
  | cons {v : V} {vs : List V} {d : PyData} {ds : List PyData} : Dh H v d → DhAll H vs ds → DhAll H (v :: vs) (d :: ds)
end
mutual
theorem dh_same {H H' : Hp} (s : Same H H') : ∀ (d : PyData) (v : V), Dh H v d → Dh H' v d
  | .none, _, h => by cases h; exact .non
  | .bool b, _, h => by cases h; exact .bl b
  | .int i, _, h => by cases h; exact .int i
  | .str x, _, h => by cases h; exact .str x
  | .list ds, _, h => by
    cases h with
    | lst h1 h2 => exact .lst (s _ _ h1) (dh_sameAll s ds _ h2)
  | .tuple ds, _, h => by
    cases h with
    | tup h1 h2 => exact .tup (s _ _ h1) (dh_sameAll s ds _ h2)
  | .dict _, _, h => by cases h
theorem dh_sameAll {H H' : Hp} (s : Same H H') : ∀ (ds : List PyData) (vs : List V), DhAll H vs ds → DhAll H' vs ds
  | [], _, h => by cases h; exact .nil
  | d :: ds, _, h => by
    cases h with
    | cons h1 h2 => exact .cons (dh_same s d _ h1) (dh_sameAll s ds _ h2)
end
mutual
theorem dh_dp {K : PySem.W.Frag} {H : Hp} : ∀ (d : PyData) (v : V), Dh H v d → Dp K H v d
  | .none, _, h => by cases h; exact .non
  | .bool b, _, h => by cases h; exact .bl b
  | .int i, _, h => by cases h; exact .int i
  | .str x, _, h => by cases h; exact .str x
  | .list ds, _, h => by
    cases h with
    | lst h1 h2 => exact .lst (SqL.of h1) (dh_dpAll ds _ h2)
  | .tuple ds, _, h => by
    cases h with
    | tup h1 h2 => exact .tup (SqT.of h1) (dh_dpAll ds _ h2)
  | .dict _, _, h => by cases h
theorem dh_dpAll {K : PySem.W.Frag} {H : Hp} : ∀ (ds : List PyData) (vs : List V), DhAll H vs ds → DpAll K H vs ds
  | [], _, h => by cases h; exact .nil
  | d :: ds, _, h => by
    cases h with
    | cons h1 h2 => exact .cons (dh_dp d _ h1) (dh_dpAll ds _ h2)
end
section
variable {α β : Type} [DecidableEq α] [Dm α] [DecidableEq β] [Dm β]
/-- v holds x -/
def Dv (H : Hp) (v : V) (x : α) : Prop := Dh H v (Datum.toD x)
def Dvs (H : Hp) (vs : List V) (xs : List α) : Prop := DhAll H vs (xs.map Datum.toD)
theorem Dv.same {H H' : Hp} {v : V} {x : α} (h : Dv H v x) (s : Same H H') : Dv H' v x := dh_same s _ _ h
theorem Dvs.same {H H' : Hp} {vs : List V} {xs : List α} (h : Dvs H vs xs) (s : Same H H') : Dvs H' vs xs := dh_sameAll s _ _ h
theorem Dv.int {H : Hp} (i : Int) : Dv H (.int i) i := Dh.int i
theorem Dv.nat {H : Hp} (n : Nat) : Dv H (.int (n : Int)) n := Dh.int (n : Int)
theorem Dv.bl {H : Hp} (b : Bool) : Dv H (.bl b) b := Dh.bl b
theorem Dv.int_inv {H : Hp} {v : V} {i : Int} (h : Dv H v i) : v = .int i := by
  unfold Dv at h
  cases h
  rfl
theorem Dv.nat_inv {H : Hp} {v : V} {n : Nat} (h : Dv H v n) : v = .int (n : Int) := by
  unfold Dv at h
  cases h
  rfl
theorem Dvs.nil {H : Hp} : Dvs H [] ([] : List α) := DhAll.nil
theorem Dvs.cons {H : Hp} {v : V} {vs : List V} {x : α} {xs : List α} (h : Dv H v x) (hs : Dvs H vs xs) : Dvs H (v :: vs) (x :: xs) := DhAll.cons h hs
theorem Dvs.cons_inv {H : Hp} {vs : List V} {x : α} {xs : List α} (h : Dvs H vs (x :: xs)) : ∃ v us, vs = v :: us ∧ Dv H v x ∧ Dvs H us xs := by
  unfold Dvs at h
  cases h with
  | cons h1 h2 => exact ⟨_, _, rfl, h1, h2⟩
theorem Dvs.nil_inv {H : Hp} {vs : List V} (h : Dvs H vs ([] : List α)) : vs = [] := by
  unfold Dvs at h
  cases h
  rfl
theorem Dvs.app {H : Hp} : ∀ {vs us : List V} {xs ys : List α}, Dvs H vs xs → Dvs H us ys → Dvs H (vs ++ us) (xs ++ ys)
  | _, _, [], _, h, g => by rw [h.nil_inv]; exact g
  | _, _, _ :: _, _, h, g => by
    obtain ⟨v, us, rfl, h1, h2⟩ := h.cons_inv
    exact .cons h1 (h2.app g)
theorem Dvs.len {H : Hp} : ∀ {vs : List V} {xs : List α}, Dvs H vs xs → vs.length = xs.length
  | _, [], h => by rw [h.nil_inv]; rfl
  | _, _ :: _, h => by
    obtain ⟨v, us, rfl, h1, h2⟩ := h.cons_inv
    rw [List.length_cons, List.length_cons, h2.len]
theorem Dvs.get {H : Hp} : ∀ {vs : List V} {xs : List α} {i : Nat} {x : α}, Dvs H vs xs → xs[i]? = some x → ∃ v, vs[i]? = some v ∧ Dv H v x
  | _, [], i, _, h, e => by simp at e
  | _, _ :: _, 0, _, h, e => by
    obtain ⟨v, us, rfl, h1, h2⟩ := h.cons_inv
    cases e
    exact ⟨_, rfl, h1⟩
  | _, _ :: _, i + 1, _, h, e => by
    obtain ⟨v, us, rfl, h1, h2⟩ := h.cons_inv
    exact h2.get (i := i) e
theorem Dvs.at {H : Hp} {vs : List V} {xs : List α} {i : Nat} {v : V} (h : Dvs H vs xs) (e : vs[i]? = some v) : ∃ x, xs[i]? = some x ∧ Dv H v x := by
  have hi : i < xs.length := by
    rw [← h.len]
    exact (List.getElem?_eq_some_iff.mp e).1
  obtain ⟨u, e2, d⟩ := h.get (List.getElem?_eq_getElem hi)
  rw [e] at e2
  cases e2
  exact ⟨_, List.getElem?_eq_getElem hi, d⟩
theorem Dv.list {H : Hp} {a : Addr} {vs : List V} {xs : List α} (h : H a = some (.lst vs)) (hs : Dvs H vs xs) : Dv H (.ref a) xs := Dh.lst h hs
theorem Dv.list_inv {H : Hp} {v : V} {xs : List α} (h : Dv H v xs) : ∃ a vs, v = .ref a ∧ H a = some (.lst vs) ∧ Dvs H vs xs := by
  unfold Dv at h
  cases h with
  | lst h1 h2 => exact ⟨_, _, rfl, h1, h2⟩
theorem Dv.pair {H : Hp} {a : Addr} {u v : V} {x : α} {y : β} (h : H a = some (.tup [u, v])) (h1 : Dv H u x) (h2 : Dv H v y) : Dv H (.ref a) (x, y) := Dh.tup h (.cons h1 (.cons h2 .nil))
theorem Dv.pair_inv {H : Hp} {v : V} {p : α × β} (h : Dv H v p) : ∃ a u w, v = .ref a ∧ H a = some (.tup [u, w]) ∧ Dv H u p.1 ∧ Dv H w p.2 := by
  unfold Dv at h
  cases h with
  | tup h1 h2 =>
    cases h2 with
    | cons h3 h4 =>
      cases h4 with
      | cons h5 h6 =>
        cases h6
        exact ⟨_, _, _, rfl, h1, h3, h5⟩
abbrev vi (xs : List Int) : List V := xs.map V.int
abbrev vn (xs : List Nat) : List V := xs.map (fun (b : Nat) => V.int (b : Int))
theorem vn_len (xs : List Nat) : (vn xs).length = xs.length := List.length_map _
theorem vn_get {xs : List Nat} {i n : Nat} (h : xs[i]? = some n) : (vn xs)[i]? = some (.int (n : Int)) := by
  rw [List.getElem?_map, h]
  rfl
theorem Dvs.ints_inv {H : Hp} : ∀ {vs : List V} {xs : List Int}, Dvs H vs xs → vs = vi xs
  | _, [], h => h.nil_inv
  | _, _ :: _, h => by
    obtain ⟨v, us, rfl, h1, h2⟩ := h.cons_inv
    rw [h1.int_inv, h2.ints_inv]
    rfl
theorem Dvs.nats_inv {H : Hp} : ∀ {vs : List V} {xs : List Nat}, Dvs H vs xs → vs = vn xs
  | _, [], h => h.nil_inv
  | _, _ :: _, h => by
    obtain ⟨v, us, rfl, h1, h2⟩ := h.cons_inv
    rw [h1.nat_inv, h2.nats_inv]
    rfl
theorem Dvs.ints {H : Hp} : ∀ xs : List Int, Dvs H (vi xs) xs
  | [] => .nil
  | x :: r => .cons (.int x) (Dvs.ints r)
theorem Dvs.nats {H : Hp} : ∀ xs : List Nat, Dvs H (vn xs) xs
  | [] => .nil
  | x :: r => .cons (.nat x) (Dvs.nats r)
theorem Dvs.bls {H : Hp} : ∀ xs : List Bool, Dvs H (xs.map V.bl) xs
  | [] => .nil
  | x :: r => .cons (.bl x) (Dvs.bls r)
/-- a list of whole numbers from 0 on -/
theorem Dv.natl {H : Hp} {a : Addr} {xs : List Nat} (h : H a = some (.lst (vn xs))) : Dv H (.ref a) xs := .list h (Dvs.nats xs)
theorem Dv.natl_inv {H : Hp} {v : V} {xs : List Nat} (h : Dv H v xs) : ∃ a, v = .ref a ∧ H a = some (.lst (vn xs)) := by
  obtain ⟨a, vs, rfl, h1, h2⟩ := h.list_inv
  rw [h2.nats_inv] at h1
  exact ⟨a, rfl, h1⟩
theorem Dv.intl {H : Hp} {a : Addr} {xs : List Int} (h : H a = some (.lst (vi xs))) : Dv H (.ref a) xs := .list h (Dvs.ints xs)
theorem Dv.intl_inv {H : Hp} {v : V} {xs : List Int} (h : Dv H v xs) : ∃ a, v = .ref a ∧ H a = some (.lst (vi xs)) := by
  obtain ⟨a, vs, rfl, h1, h2⟩ := h.list_inv
  rw [h2.ints_inv] at h1
  exact ⟨a, rfl, h1⟩
theorem shaped_of (x : α) (hd : Datum.depth α ≤ 64) : SeqAt.shaped (Datum.toD x) = true := by
  unfold SeqAt.shaped
  rw [Dm.lay x, Bool.true_and]
  exact decide_eq_true (Nat.le_trans (Datum.depth_le x) hd)
theorem eqD {K : PySem.W.Frag} {H : Hp} {x y : V} {Q : VK} {a b : α} (hx : Dv H x a) (hy : Dv H y b) (hd : Datum.depth α ≤ 64) (q : Q (.bl (decide (a = b))) H) : rEqD K x y H Q := by
  refine ⟨_, _, dh_dp _ _ hx, dh_dp _ _ hy, shaped_of a hd, shaped_of b hd, ?_⟩
  rw [Datum.eqv]
  exact q
theorem neD {K : PySem.W.Frag} {H : Hp} {x y : V} {Q : VK} {a b : α} (hx : Dv H x a) (hy : Dv H y b) (hd : Datum.depth α ≤ 64) (q : Q (.bl (!decide (a = b))) H) : rNeD K x y H Q := by
  refine ⟨_, _, dh_dp _ _ hx, dh_dp _ _ hy, shaped_of a hd, shaped_of b hd, ?_⟩
  rw [Datum.eqv]
  exact q
end
/-! ### the heap but for two objects that change -/
def res (p c : Addr) (H : Hp) : Hp := fun b => if b = p ∨ b = c then none else H b
theorem res_eq {p c b : Addr} {H : Hp} (h1 : b ≠ p) (h2 : b ≠ c) : res p c H b = H b := if_neg (fun h => h.elim h1 h2)
theorem res_some {p c b : Addr} {H : Hp} {o : HO} (h : res p c H b = some o) : b ≠ p ∧ b ≠ c ∧ H b = some o := by
  unfold res at h
  by_cases e : b = p ∨ b = c
  · rw [if_pos e] at h
    cases h
  · rw [if_neg e] at h
    exact ⟨fun z => e (.inl z), fun z => e (.inr z), h⟩
theorem res_same (p c : Addr) (H : Hp) : Same (res p c H) H := fun _ _ h => (res_some h).2.2
theorem Same.res {H H' : Hp} (s : Same H H') (p c : Addr) : Same (res p c H) (res p c H') := fun b o h => by
  obtain ⟨h1, h2, h3⟩ := res_some h
  rw [res_eq h1 h2]
  exact s _ _ h3
theorem res_of {p c b : Addr} {H : Hp} {o : HO} (h1 : b ≠ p) (h2 : b ≠ c) (h : H b = some o) : res p c H b = some o := by
  rw [res_eq h1 h2]
  exact h
/-- the heap but for one object -/
def hid (q : Addr) (H : Hp) : Hp := fun b => if b = q then none else H b
theorem hid_eq {q b : Addr} {H : Hp} (h : b ≠ q) : hid q H b = H b := if_neg h
theorem hid_some {q b : Addr} {H : Hp} {o : HO} (h : hid q H b = some o) : b ≠ q ∧ H b = some o := by
  unfold hid at h
  by_cases e : b = q
  · rw [if_pos e] at h
    cases h
  · rw [if_neg e] at h
    exact ⟨e, h⟩
theorem hid_of {q b : Addr} {H : Hp} {o : HO} (h : b ≠ q) (e : H b = some o) : hid q H b = some o := by
  rw [hid_eq h]
  exact e
theorem hid_same (q : Addr) (H : Hp) : Same (hid q H) H := fun _ _ h => (hid_some h).2
theorem hid_mono {q : Addr} {H H' : Hp} (s : Same H H') : Same (hid q H) (hid q H') := fun b o h => by
  obtain ⟨h1, h2⟩ := hid_some h
  exact hid_of h1 (s _ _ h2)
theorem hid_mut {q : Addr} {H : Hp} {o : HO} : Same (hid q H) (hid q (upd H q o)) := fun b u h => by
  obtain ⟨h1, h2⟩ := hid_some h
  exact hid_of h1 (by rw [upd_ne h1]; exact h2)
theorem hid_res_mut {p c q : Addr} {H : Hp} {o : HO} : Same (hid q (res p c H)) (hid q (res p c (upd H q o))) := fun b u h => by
  obtain ⟨h1, h2⟩ := hid_some h
  obtain ⟨h3, h4, h5⟩ := res_some h2
  exact hid_of h1 (res_of h3 h4 (by rw [upd_ne h1]; exact h5))
theorem res_upd {p c q : Addr} {H : Hp} {o : HO} (h1 : q ≠ p) (h2 : q ≠ c) : res p c (upd H q o) q = some o := by
  rw [res_eq h1 h2]
  exact upd_same
theorem res_mut {p c D : Addr} {H H' : Hp} {o : HO} (e : Same (res p c H) (res p c H')) (h : H D = none) : Same (res p c H) (res p c (upd H' D o)) := fun b u hb => by
  obtain ⟨h1, h2, h3⟩ := res_some hb
  have h4 : b ≠ D := fun z => by
    rw [z, h] at h3
    cases h3
  rw [res_eq h1 h2, upd_ne h4]
  exact (res_some (e _ _ hb)).2.2
/-- the state of the draws: the script's numbers, from 0 on, and a seed -/
structure Dr (H : Hp) (p c : Addr) : Prop where
  ne : p ≠ c
  st : ∃ (cs : List Nat) (s : Int), H p = some (.lst [.ref c, .int s]) ∧ H c = some (.lst (vn cs)) ∧ cs.length ≤ 63
theorem Dr.same {H H' : Hp} {p c : Addr} (h : Dr H p c) (s : Same H H') : Dr H' p c := by
  obtain ⟨n, cs, z, h1, h2, h3⟩ := h
  exact ⟨n, cs, z, s _ _ h1, s _ _ h2, h3⟩
theorem Dr.off {H : Hp} {p c q : Addr} (h : Dr H p c) (hq : H q = none) : q ≠ p ∧ q ≠ c := by
  obtain ⟨n, cs, z, h1, h2, h3⟩ := h
  exact ⟨fun e => (by rw [e, h1] at hq; cases hq), fun e => (by rw [e, h2] at hq; cases hq)⟩
/-- from H to H' all but the state of the draws stays -/
structure Go (p c : Addr) (H H' : Hp) : Prop where
  a : Dr H p c
  b : Dr H' p c
  s : Same (res p c H) (res p c H')
theorem Go.refl {p c : Addr} {H : Hp} (h : Dr H p c) : Go p c H H := ⟨h, h, Same.refl _⟩
theorem Go.trans {p c : Addr} {H H1 H2 : Hp} (x : Go p c H H1) (y : Go p c H1 H2) : Go p c H H2 := ⟨x.a, y.b, x.s.trans y.s⟩
theorem Go.of {p c : Addr} {H H' : Hp} (h : Dr H p c) (s : Same H H') : Go p c H H' := ⟨h, h.same s, V0.Same.res s p c⟩
theorem Go.more {p c : Addr} {H H1 H2 : Hp} (x : Go p c H H1) (s : Same H1 H2) : Go p c H H2 := x.trans (Go.of x.b s)
theorem Go.mut {p c D : Addr} {H H' : Hp} {o : HO} (x : Go p c H H') (h : H D = none) : Go p c H (upd H' D o) := by
  refine ⟨x.a, ?_, res_mut x.s h⟩
  obtain ⟨h1, h2⟩ := x.a.off h
  obtain ⟨n, cs, z, e1, e2, e3⟩ := x.b
  exact ⟨n, cs, z, (by rw [upd_ne (fun e => h1 e.symm)]; exact e1), (by rw [upd_ne (fun e => h2 e.symm)]; exact e2), e3⟩
theorem Go.get {p c b : Addr} {H H' : Hp} {o : HO} (x : Go p c H H') (h1 : b ≠ p) (h2 : b ≠ c) (h : H b = some o) : H' b = some o := by
  rw [← res_eq (p := p) (c := c) (H := H) h1 h2] at h
  exact (res_some (x.s _ _ h)).2.2
/-- what was new at H and stands at H1 stands at H' -/
theorem Go.get' {p c b : Addr} {H H1 H' : Hp} {o : HO} (x : Go p c H1 H') (d : Dr H p c) (n : H b = none) (h : H1 b = some o) : H' b = some o := x.get (d.off n).1 (d.off n).2 h
theorem Go.up {p c b : Addr} {H H' : Hp} {o : HO} (x : Go p c H H') (h : res p c H b = some o) : H' b = some o := (res_some (x.s _ _ h)).2.2
theorem Go.none {p c b : Addr} {H H' : Hp} (x : Go p c H H') (h : H' b = none) : H b = none := by
  obtain ⟨h1, h2⟩ := x.b.off h
  cases e : H b with
  | none => rfl
  | some o =>
    rw [x.get h1 h2 e] at h
    cases h
theorem Dv.up {α : Type} [DecidableEq α] [Dm α] {p c : Addr} {H : Hp} {v : V} {x : α} (h : Dv (res p c H) v x) : Dv H v x := h.same (res_same p c H)
theorem Dvs.up {α : Type} [DecidableEq α] [Dm α] {p c : Addr} {H : Hp} {vs : List V} {x : List α} (h : Dvs (res p c H) vs x) : Dvs H vs x := h.same (res_same p c H)
theorem emod_range {x m : Int} (h : 0 < m) : 0 ≤ x.fmod m ∧ x.fmod m < m := by
  rw [Int.fmod_eq_emod_of_nonneg x (by omega)]
  exact ⟨Int.emod_nonneg _ (by omega), Int.emod_lt_of_pos _ h⟩
theorem ix_nat {n j : Nat} (h : j < n) : ixN n (j : Int) = some j := by
  unfold ixN
  rw [if_pos (Int.natCast_nonneg _), if_pos (by omega), Int.toNat_natCast]
/-- what is new at H' -/
def fresh (H H' : Hp) : Hp := fun b => match H b with
  | none => H' b
  | some _ => none
theorem fresh_some {H H' : Hp} {b : Addr} {o : HO} (h : fresh H H' b = some o) : H b = none ∧ H' b = some o := by
  unfold fresh at h
  cases e : H b with
  | none =>
    rw [e] at h
    exact ⟨rfl, h⟩
  | some u =>
    rw [e] at h
    cases h
theorem fresh_of {H H' : Hp} {b : Addr} {o : HO} (h : H b = none) (e : H' b = some o) : fresh H H' b = some o := by
  unfold fresh
  rw [h]
  exact e
theorem fresh_same {H H' : Hp} : Same (fresh H H') H' := fun _ _ h => (fresh_some h).2
theorem fresh_pre {H H1 H' : Hp} (s : Same H H1) : Same (fresh H1 H') (fresh H H') := fun b o h => by
  obtain ⟨h1, h2⟩ := fresh_some h
  refine fresh_of ?_ h2
  cases e : H b with
  | none => rfl
  | some u =>
    rw [s _ _ e] at h1
    cases h1
theorem fresh_post {H H' H2 : Hp} (s : Same H' H2) : Same (fresh H H') (fresh H H2) := fun b o h => by
  obtain ⟨h1, h2⟩ := fresh_some h
  exact fresh_of h1 (s _ _ h2)
theorem fresh_hid {H H' : Hp} {q : Addr} {o : HO} (h : H q = some o) : Same (fresh H H') (hid q H') := fun b u e => by
  obtain ⟨h1, h2⟩ := fresh_some e
  refine hid_of (fun z => ?_) h2
  rw [z, h] at h1
  cases h1
/-- new at H', as H goes to H' by growth -/
theorem none_of {H H' : Hp} {b : Addr} (s : Same H H') (h : H' b = none) : H b = none := by
  cases e : H b with
  | none => rfl
  | some u =>
    rw [s _ _ e] at h
    cases h
theorem upd_id {H : Hp} {a : Addr} {o : HO} (h : H a = some o) : upd H a o = H := funext fun b => by
  by_cases e : b = a
  · rw [e, upd_same, h]
  · rw [upd_ne e]
theorem small64k {n : Nat} (h : n ≤ 65536) : n < sizeLine := Nat.lt_of_le_of_lt h (by decide)
theorem fresh_res {p c : Addr} {H H' : Hp} (d : Dr H p c) : Same (fresh H H') (res p c H') := fun b o h => by
  obtain ⟨h1, h2⟩ := fresh_some h
  obtain ⟨h3, h4⟩ := d.off h1
  exact res_of h3 h4 h2
end V0
/-! nets as data, and what the laws make of them -/
namespace V0
open PySem PySem.Spec PyProof.Rows L2
open PySem.W (Datum)
structure Net where
  ins : Nat
  starts : List Nat
  gates : List (Nat × Nat)
  nexts : List Nat
  outs : List Nat
  deriving DecidableEq
theorem eqv_net (a b : Str) : PyData.eqv (.str a) (.str b) = decide (a = b) := by
  simp only [PyData.eqv]
  exact PySem.W.beq_decide a b
instance : Datum Net where
  toD n := .tuple [.str "net", Datum.toD n.ins, Datum.toD n.starts, Datum.toD n.gates, Datum.toD n.nexts, Datum.toD n.outs]
  plain n := by simp only [PyData.plain, PyData.plainAll, Datum.plain, Bool.and_self]
  eqv a b := by
    simp only [PyData.eqv, PyData.eqvAll, Datum.eqv, Bool.and_true]
    rw [PySem.W.beq_decide, ← Bool.decide_and, ← Bool.decide_and, ← Bool.decide_and, ← Bool.decide_and, ← Bool.decide_and]
    refine decide_eq_decide.mpr ⟨fun ⟨_, h1, h2, h3, h4, h5⟩ => ?_, fun e => by rw [e]; exact ⟨rfl, rfl, rfl, rfl, rfl, rfl⟩⟩
    cases a
    cases b
    simp only at h1 h2 h3 h4 h5
    rw [h1, h2, h3, h4, h5]
  depth := 3
  depth_le n := by
    have h1 := Datum.depth_le n.ins
    have h2 := Datum.depth_le n.starts
    have h3 := Datum.depth_le n.gates
    have h4 := Datum.depth_le n.nexts
    have h5 := Datum.depth_le n.outs
    have e1 : Datum.depth Nat = 0 := rfl
    have e2 : Datum.depth (List Nat) = 1 := rfl
    have e3 : Datum.depth (List (Nat × Nat)) = 2 := rfl
    rw [e1] at h1
    rw [e2] at h2 h4 h5
    rw [e3] at h3
    simp only [PyData.depth, PyData.depthAll]
    omega
instance : Dm Net where
  lay n := by
    have h1 := Dm.lay n.ins
    have h2 := Dm.lay n.starts
    have h3 := Dm.lay n.gates
    have h4 := Dm.lay n.nexts
    have h5 := Dm.lay n.outs
    simp only [Datum.toD] at h1 h2 h3 h4 h5 ⊢
    simp only [PyData.canLay0, PyData.canLayAll0, Bool.and_true] at h1 h2 h3 h4 h5 ⊢
    rw [h2, h3, h4, h5]
    decide +kernel
section
theorem Dv.net_inv {H : Hp} {v : V} {n : Net} (h : Dv H v n) : ∃ a s g x o, v = .ref a ∧ H a = some (.tup [.str "net", .int (n.ins : Int), .ref s, .ref g, .ref x, .ref o]) ∧
    Dv H (.ref s) n.starts ∧ Dv H (.ref g) n.gates ∧ Dv H (.ref x) n.nexts ∧ Dv H (.ref o) n.outs := by
  unfold Dv at h
  cases h with
  | tup h1 h2 =>
    cases h2 with
    | cons a1 h2 =>
      cases h2 with
      | cons a2 h2 =>
        cases h2 with
        | cons a3 h2 =>
          cases h2 with
          | cons a4 h2 =>
            cases h2 with
            | cons a5 h2 =>
              cases h2 with
              | cons a6 h2 =>
                cases h2
                cases a1
                have e2 := Dv.nat_inv (n := n.ins) a2
                subst e2
                obtain ⟨s, _, rfl, _⟩ := Dv.list_inv (xs := n.starts) a3
                obtain ⟨g, _, rfl, _⟩ := Dv.list_inv (xs := n.gates) a4
                obtain ⟨x, _, rfl, _⟩ := Dv.list_inv (xs := n.nexts) a5
                obtain ⟨o, _, rfl, _⟩ := Dv.list_inv (xs := n.outs) a6
                exact ⟨_, _, _, _, _, rfl, h1, a3, a4, a5, a6⟩
theorem Dv.net {H : Hp} {a : Addr} {n : Net} {s g x o : V} (h : H a = some (.tup [.str "net", .int (n.ins : Int), s, g, x, o])) (h1 : Dv H s n.starts) (h2 : Dv H g n.gates) (h3 : Dv H x n.nexts) (h4 : Dv H o n.outs) : Dv H (.ref a) n :=
  Dh.tup h (.cons (.str _) (.cons (.int _) (.cons h1 (.cons h2 (.cons h3 (.cons h4 .nil))))))
end
/-- how many nodes there are behind the inputs and flops -/
def Net.base (n : Net) : Nat := 1 + n.ins + n.starts.length
def Net.many (n : Net) : Nat := n.base + n.gates.length
structure Net.Ok (n : Net) (ins flops most : Nat) : Prop where
  ins : n.ins ≤ ins
  fl : n.starts.length ≤ flops
  bits : ∀ b ∈ n.starts, b < 2
  most : n.gates.length ≤ most
  g : ∀ j g, n.gates[j]? = some g → g.1 < 2 * (n.base + j) ∧ g.2 < 2 * (n.base + j)
  nl : n.nexts.length = n.starts.length
  nx : ∀ x ∈ n.nexts, x < 2 * n.many
  ol : n.outs.length ≤ 3
  ox : ∀ x ∈ n.outs, x < 2 * n.many
/-- a literal's bit in a row of values -/
def bitv (row : List Nat) (l : Nat) : Nat := (row[l / 2]?.getD 0) ^^^ (l % 2)
def rowOf (gs : List (Nat × Nat)) (row : List Nat) : List Nat := gs.foldl (fun r g => r ++ [bitv r g.1 * bitv r g.2]) row
def Net.row (n : Net) (held bits : List Nat) : List Nat := rowOf n.gates (0 :: bits ++ held)
theorem rowOf_len (gs : List (Nat × Nat)) (r : List Nat) : (rowOf gs r).length = r.length + gs.length := by
  induction gs generalizing r with
  | nil => rfl
  | cons g gs ih =>
    show (rowOf gs _).length = _
    rw [ih, List.length_append, List.length_cons, List.length_cons, List.length_nil]
    omega
theorem rowOf_snoc (gs : List (Nat × Nat)) (g : Nat × Nat) (r : List Nat) : rowOf (gs ++ [g]) r = rowOf gs r ++ [bitv (rowOf gs r) g.1 * bitv (rowOf gs r) g.2] := by
  unfold rowOf
  rw [List.foldl_append]
  rfl
theorem bitv_lt {row : List Nat} (h : ∀ b ∈ row, b < 2) (l : Nat) : bitv row l < 2 := by
  have h1 : row[l / 2]?.getD 0 < 2 := by
    cases e : row[l / 2]? with
    | none => decide
    | some x => exact h x (List.mem_of_getElem? e)
  exact Nat.xor_lt_two_pow (n := 1) h1 (Nat.mod_lt _ (by decide))
theorem mul_lt2 {a b : Nat} (ha : a < 2) (hb : b < 2) : a * b < 2 := by
  have : a = 0 ∨ a = 1 := by omega
  rcases this with rfl | rfl <;> omega
theorem rowOf_lt {gs : List (Nat × Nat)} {r : List Nat} (h : ∀ b ∈ r, b < 2) : ∀ b ∈ rowOf gs r, b < 2 := by
  induction gs generalizing r with
  | nil => exact h
  | cons g gs ih =>
    refine ih (r := r ++ [_]) fun b hb => ?_
    rcases List.mem_append.mp hb with hb | hb
    · exact h b hb
    · rw [List.mem_singleton.mp hb]
      exact mul_lt2 (bitv_lt h _) (bitv_lt h _)
theorem take_snoc {α : Type} {xs : List α} {i : Nat} {x : α} (h : xs[i]? = some x) : xs.take (i + 1) = xs.take i ++ [x] := by
  rw [List.take_add_one, h]
  rfl
theorem get_snoc {α : Type} {xs : List α} {x y : α} {k : Nat} (h : (xs ++ [x])[k]? = some y) : (k < xs.length ∧ xs[k]? = some y) ∨ (k = xs.length ∧ y = x) := by
  by_cases hk : k < xs.length
  · rw [List.getElem?_append_left hk] at h
    exact .inl ⟨hk, h⟩
  · rw [List.getElem?_append_right (by omega)] at h
    have e : k - xs.length = 0 := by
      cases e : k - xs.length with
      | zero => rfl
      | succ j =>
        rw [e] at h
        simp at h
    rw [e] at h
    cases h
    exact .inr ⟨by omega, rfl⟩
theorem mem_snoc {α : Type} {P : α → Prop} {xs : List α} {x : α} (h : ∀ y ∈ xs, P y) (hx : P x) : ∀ y ∈ xs ++ [x], P y := by
  intro y hy
  rcases List.mem_append.mp hy with hy | hy
  · exact h y hy
  · rw [List.mem_singleton.mp hy]
    exact hx
theorem vn_snoc (xs : List Nat) (x : Nat) : vn xs ++ [V.int (x : Int)] = vn (xs ++ [x]) := by
  unfold vn
  rw [List.map_append]
  rfl
theorem cut_nn (xs : List Nat) {a b : Nat} (h1 : a ≤ b) (h2 : b ≤ xs.length) : cutV (vn xs) (some (a : Int)) (some (b : Int)) = vn ((xs.drop a).take (b - a)) := by
  unfold cutV
  rw [HT.sIx_nat, HT.sIx_nat, vn_len, Nat.min_eq_left h2, Nat.min_eq_left (Nat.le_trans h1 h2)]
  unfold vn
  rw [← List.map_drop, ← List.map_take]
theorem set_vn (xs : List Nat) (i x : Nat) : (vn xs).set i (.int (x : Int)) = vn (xs.set i x) := by
  unfold vn
  rw [List.map_set]
theorem mem_set {α : Type} {P : α → Prop} {xs : List α} {i : Nat} {x : α} (h : ∀ y ∈ xs, P y) (hx : P x) : ∀ y ∈ xs.set i x, P y := by
  intro y hy
  rcases List.mem_or_eq_of_mem_set hy with hy | rfl
  · exact h y hy
  · exact hx
theorem dec_bool (a b : Bool) : decide (V.bl a = V.bl b) = decide (a = b) := by rw [Bool.eq_iff_iff]; simp
theorem dec_int (a b : Int) : decide (V.int a = V.int b) = decide (a = b) := by rw [Bool.eq_iff_iff]; simp
theorem dec_nat (a b : Nat) : decide (V.int (a : Int) = V.int (b : Int)) = decide (a = b) := by
  rw [dec_int]
  exact decide_eq_decide.mpr ⟨fun e => by omega, fun e => by rw [e]⟩
theorem dec_one (a : Nat) : decide (V.int (a : Int) = V.int 1) = decide (a = 1) := dec_nat a 1
theorem flat_vn : ∀ xs : List Nat, (vn xs).all flatV = true
  | [] => rfl
  | y :: r => by
    show (true && (vn r).all flatV) = true
    rw [flat_vn r]
    rfl
theorem inV_vn (c : Nat) : ∀ xs : List Nat, inV (.int (c : Int)) (vn xs) = decide (c ∈ xs)
  | [] => by rfl
  | y :: r => by
    have ih := inV_vn c r
    show (eqV (.int (y : Int)) (.int (c : Int)) || inV (.int (c : Int)) (vn r)) = _
    rw [ih]
    show (((y : Int) == (c : Int)) || decide (c ∈ r)) = _
    by_cases h : c ∈ r
    · rw [decide_eq_true h, Bool.or_true, decide_eq_true (List.mem_cons_of_mem _ h)]
    · by_cases e : y = c
      · subst e
        rw [beq_self_eq_true, Bool.true_or, decide_eq_true List.mem_cons_self]
      · rw [beq_eq_false_iff_ne.mpr (fun z => e (by omega)), decide_eq_false h, Bool.or_false, decide_eq_false (fun m => ?_)]
        rcases List.mem_cons.mp m with m | m
        · exact e m.symm
        · exact h m
theorem bxor (a b : Nat) : Builtin.bitXor (a : Int) (b : Int) = ((a ^^^ b : Nat) : Int) := by
  rw [Bits.bitXor_pp (Int.natCast_nonneg _) (Int.natCast_nonneg _), Int.toNat_natCast, Int.toNat_natCast]
theorem fdiv_nat (a b : Nat) : ((a : Int)).fdiv (b : Int) = ((a / b : Nat) : Int) := by
  rw [Int.fdiv_eq_ediv_of_nonneg _ (by omega)]
  rfl
theorem fmod_nat (a b : Nat) : ((a : Int)).fmod (b : Int) = ((a % b : Nat) : Int) := by
  rw [Int.fmod_eq_emod_of_nonneg _ (by omega)]
  rfl
theorem nfdiv2 (a : Nat) : ((a : Int)).fdiv 2 = ((a / 2 : Nat) : Int) := fdiv_nat a 2
theorem nfmod2 (a : Nat) : ((a : Int)).fmod 2 = ((a % 2 : Nat) : Int) := fmod_nat a 2
end V0
/-! repr of data, where nothing is being shown; the law's call with what stands around it -/
namespace V0
open PySem PySem.Spec PyProof.Rows L2
open PySem.W (Datum)
def rRepr (K : PySem.W.Frag) : List V → Hp → VK → Prop := fun xs H Q => ∃ (a : Addr) (d : PyData), xs = [.ref a] ∧ Dp K H (.ref a) d ∧ (d.showable = true ∧ d.hasDict = false ∧ d.depth ≤ 60 ∧ d.shown.length ≤ sizeLine) ∧ Q (.str d.shown) H
theorem call_reprD {X : Cx} (hg : X.A.guards = some []) (hu : X.A.units + 64 < cLine) : CallR X (.builtin "repr") (rRepr X.K) := by
  intro pins s σ H xs us Q I r h
  obtain ⟨a, d, rfl, hd, ⟨h1, h2, h3, h4⟩, q⟩ := h
  obtain ⟨u, rfl, rx⟩ := vals1 r
  obtain ⟨as, rd⟩ := Dp.reads I d _ _ hd rx
  obtain rfl : u = Value.ref a := rx
  refine repr_of_reads' rd h1 (PyData.noDict_hsm h2) hg (by omega) (fun _ _ e => e) (fun h' t tk hk => ?_) h4
  exact ⟨.str _, H, I.kept hk, ⟨t, rfl⟩, q⟩
/-- data whose text is short -/
structure Sm (d : PyData) (n : Nat) : Prop where
  sh : d.showable = true
  lv : d.leavesShort 13 = true
  wt : d.weight ≤ n
structure SmA (ds : List PyData) (n : Nat) : Prop where
  sh : PyData.showableAll ds = true
  lv : PyData.leavesShortAll 13 ds = true
  wt : PyData.weightAll ds ≤ n
theorem Sm.mono {d : PyData} {n m : Nat} (h : Sm d n) (l : n ≤ m) : Sm d m := ⟨h.sh, h.lv, Nat.le_trans h.wt l⟩
theorem Sm.int {i : Int} (h : i.natAbs < 10 ^ 12) : Sm (.int i) 40 := by
  have hl : i.natAbs.log2 < 40 := by
    by_cases h0 : i.natAbs = 0
    · rw [h0]
      decide
    · exact (Nat.log2_lt h0).mpr (Nat.lt_trans h (by decide))
  refine ⟨?_, ?_, ?_⟩
  · simp only [PyData.showable, decide_eq_true_eq]
    omega
  · simp only [PyData.leavesShort, decide_eq_true_eq]
    exact PyData.shown_int_le h
  · simp only [PyData.weight]
    split <;> omega
theorem Sm.nat {n : Nat} (h : n < 10 ^ 12) : Sm (.int (n : Int)) 40 := Sm.int (by rw [Int.natAbs_natCast]; exact h)
theorem SmA.nil : SmA [] 0 := ⟨by simp only [PyData.showableAll], by simp only [PyData.leavesShortAll], by simp only [PyData.weightAll]; exact Nat.le_refl _⟩
theorem SmA.cons {d : PyData} {ds : List PyData} {n m : Nat} (h : Sm d n) (hs : SmA ds m) : SmA (d :: ds) (n + 1 + m) :=
  ⟨by simp only [PyData.showableAll, h.sh, hs.sh, Bool.and_self], by simp only [PyData.leavesShortAll, h.lv, hs.lv, Bool.and_self], by simp only [PyData.weightAll]; have := h.wt; have := hs.wt; omega⟩
theorem SmA.all {n : Nat} : ∀ {ds : List PyData}, (∀ d ∈ ds, Sm d n) → SmA ds (ds.length * (n + 1))
  | [], _ => by rw [List.length_nil, Nat.zero_mul]; exact SmA.nil
  | d :: ds, h => by
    have a := SmA.cons (h d List.mem_cons_self) (SmA.all (ds := ds) fun e he => h e (List.mem_cons_of_mem _ he))
    have e : (d :: ds).length * (n + 1) = n + 1 + ds.length * (n + 1) := by
      rw [List.length_cons, Nat.add_mul, Nat.one_mul]
      omega
    rw [e]
    exact a
theorem Sm.list {ds : List PyData} {n : Nat} (h : SmA ds n) : Sm (.list ds) n := ⟨by simp only [PyData.showable, h.sh], by simp only [PyData.leavesShort, h.lv], by simp only [PyData.weight]; exact h.wt⟩
theorem Sm.tup {ds : List PyData} {n : Nat} (h : SmA ds n) : Sm (.tuple ds) n := ⟨by simp only [PyData.showable, h.sh], by simp only [PyData.leavesShort, h.lv], by simp only [PyData.weight]; exact h.wt⟩
theorem Sm.bl (b : Bool) : Sm (.bool b) 0 := ⟨by simp only [PyData.showable], by simp only [PyData.leavesShort], by simp only [PyData.weight]; exact Nat.le_refl _⟩
section
variable {α : Type} [DecidableEq α] [Dm α]
theorem Sm.of_list {xs : List α} {n : Nat} (h : ∀ x ∈ xs, Sm (Datum.toD x) n) : Sm (Datum.toD xs) (xs.length * (n + 1)) := by
  have a := SmA.all (ds := xs.map Datum.toD) (n := n) fun d hd => by
    obtain ⟨x, hx, rfl⟩ := List.mem_map.mp hd
    exact h x hx
  rw [List.length_map] at a
  exact Sm.list a
theorem Sm.nats {xs : List Nat} (h : ∀ x ∈ xs, x < 10 ^ 12) : Sm (Datum.toD xs) (xs.length * 41) := Sm.of_list fun x hx => Sm.nat (h x hx)
theorem Sm.ints {xs : List Int} (h : ∀ x ∈ xs, x.natAbs < 10 ^ 12) : Sm (Datum.toD xs) (xs.length * 41) := Sm.of_list fun x hx => Sm.int (h x hx)
/-- what repr tells of x -/
def txt (x : α) : Str := (Datum.toD x).shown
theorem reprD {K : PySem.W.Frag} {H : Hp} {a : Addr} {x : α} {n : Nat} {Q : VK} (hx : Dv H (.ref a) x) (s : Sm (Datum.toD x) n) (hn : n ≤ 2 ^ 20) (hd : Datum.depth α ≤ 60) (q : Q (.str (txt x)) H) : rRepr K [.ref a] H Q :=
  ⟨a, _, rfl, dh_dp _ _ hx, ⟨s.sh, PyData.hasDict_of_canLay _ (Dm.lay x), Nat.le_trans (Datum.depth_le x) hd, PyData.shown_fits (by decide) (by decide) s.lv (Nat.le_trans s.wt hn)⟩, q⟩
theorem four (x : α) {n : Nat} (s : Sm (Datum.toD x) n) (hn : n ≤ 2 ^ 20) (hd : Datum.depth α ≤ 60) : (Datum.toD x).showable = true ∧ (Datum.toD x).hasDict = false ∧ (Datum.toD x).depth ≤ 60 ∧ (Datum.toD x).shown.length ≤ sizeLine :=
  ⟨s.sh, PyData.hasDict_of_canLay _ (Dm.lay x), Nat.le_trans (Datum.depth_le x) hd, PyData.shown_fits (by decide) (by decide) s.lv (Nat.le_trans s.wt hn)⟩
end
/-! ### the law's call -/
/-- the law's def from where a claim calls it -/
def LawOk (P : Program) (w : World) (K : PySem.W.Frag) (mg : Str → Option Value) (base : Heap) (f : Addr) (fd : FuncData) (ps : List Str) (sp : Sp) : Prop :=
  ∀ (s : Shared) (H : Hp) (args : Args) (us : List Value) (vs : List V) (Q : VK) (E : XK), Env0 P w K mg base callerA [] s H → BindsTo s fd args (ps.zip us) → Vals vs us → sp vs H Q E → codeAny (model P w) callerA (.call (.ref f) args) (CR CX0 [] P w H s Q E) s
theorem lawOk {P : Program} {w : World} {K : PySem.W.Frag} {mg : Str → Option Value} {base : Heap} {x qual : Str} {st : Stmt} {f : Addr} {fd : FuncData} {N ps : List Str} {k : Nat} {sp : Sp} (F : Fun K x qual st f fd) (S : FnScope N ps (defScope st)) (room : Room (k + 1) callerA)
    (len : ∀ vs H Q E, sp vs H Q E → vs.length = ps.length)
    (body : ∀ (cdv : Value) (A : Around) (outer : List Env) (s : Shared) (H : Hp) (vs : List V) (Q : VK) (E : XK), Room k (A.deeper (envOfC qual (defScope st) s.heap.objs.size f cdv)) → (A.deeper (envOfC qual (defScope st) s.heap.objs.size f cdv)).guards = some [] → sp vs H Q E →
      ∃ t, PSs (cxOf CX0 P w K mg base N qual (defScope st) f cdv A outer s H E).nox (defBody st) t ∧ t { nx := fun _ H' => Q .non H', rt := Q } (L2.start N vs) H) : LawOk P w K mg base f fd ps sp := by
  obtain ⟨_, _, _, _, _, _, cdv, _, _, rfl, look, cod⟩ := F.ex
  intro s H args us vs Q E env bind rel want
  have inK : K.In s.heap := env.mod.kin.keeps fun b o g => (env.bs b o g).1
  have free : s.heap.NoLimit := env.mod.nolimit.keeps fun b o g => (env.bs b o g).1
  have vis : ∀ y ∈ ps.zip us, (defScope st).names.lookup y.1 = some .local ∨ ((defScope st).names.lookup y.1 = some .cell ∧ ((cellsFrom (s.heap.objs.size + 1) (defScope st).names []).lookup y.1).isSome = true) := by
    rintro ⟨n, v⟩ hy
    exact (S.par n (List.of_mem_zip hy).1).imp id fun c => ⟨c, PySem.W.cellsFrom_some _ _ _ (.inl c)⟩
  refine codeAny_call_function room.depth (inK _ _ look) rfl S.co S.gen rfl (PySem.W.codeRec_of inK cod) (bind _ _ _ _ ?_)
  refine wpAny_newFunctionEnv_cells S.kind vis fun env1 he s1 made => ?_
  subst he
  refine ⟨free.keeps made.toInCall.keep, codeAny_func ?_⟩
  obtain ⟨t, ht, ok⟩ := body cdv callerA [] s H vs Q E (room.deeper _) rfl want
  have I := inv_start (CX := CX0) (E := E) S room.hd env (len _ _ _ _ want) rel made
  refine wpAny_mono ((ht.nox).run [] s1 (L2.start N vs) H _ I ok) (fun fl s' told => ?_) fun e s' told => told
  cases fl with
  | next =>
    obtain ⟨_, H', J, done⟩ := told
    exact ⟨.non, H', J.os, J.bare, J.base, J.hok, rfl, done⟩
  | ret u =>
    obtain ⟨v, _, H', J, rv, done⟩ := told
    exact ⟨v, H', J.os, J.bare, J.base, J.hok, rv, done⟩
  | brk => exact told.elim fun _ h => h.elim fun _ h => h.2.elim
  | cont => exact told.elim fun _ h => h.elim fun _ h => h.2.elim
theorem law_at {P : Program} {w : World} {K : PySem.W.Frag} {mg mb : Str → Option Value} {f a : Addr} {fd : FuncData} {x : Str} {sp : Sp} {s : Shared} {us : List Value} {ns : List Int}
    (kin : K.In s.heap) (glob : s.heap.Ns mainGlobals mg) (blt : s.heap.Ns builtinsNs mb) (same : ∀ y : Str, y ≠ "__name__" → mb y = bootBuiltins y) (free : s.heap.NoLimit) (gens : s.gens = #[])
    (script : s.heap.get? a = some { cls := .type "list", data := .seq us.toArray }) (whole : IntsAre us ns) (few : ns.length ≤ sizeLine)
    (F : ∀ base : Heap, K.In base → base.Ns mainGlobals mg → LawOk P w K mg base f fd [x] sp) (binds : ∀ (t : Shared) (u : Value), BindsTo t fd ⟨[u], []⟩ [(x, u)])
    (want : ∀ H : Hp, Only H → SqL K H a (ns.map V.int) → sp [.ref a] H (fun v _ => v = .bl true) fun _ _ _ => False) :
    codeAny (model P w) callerA (.call (.ref f) ⟨[.ref a], []⟩) (fun r t => r = .ok (.ret (.bool true)) ∧ OldK s.heap t.heap ∧ t.os = s.os ∧ AllBare t.gens) s := by
  have rel := vals_ints whole
  have long := whole.length
  -- what is tracked at the start: the script, if it is not one of the module's own objects
  obtain ⟨H, only, seq, fits, dom, own⟩ : ∃ H : Hp, Only H ∧ SqL K H a (ns.map V.int) ∧ HOk P w H s.heap ∧ (∀ b o, H b = some o → b = a) ∧ (∀ o, H a = some o → K.lookup a = none) := by
    cases kl : K.lookup a with
    | some o =>
      have g := kin a o kl
      rw [script] at g
      cases g
      refine ⟨fun _ => none, fun _ => .inl rfl, .inr ⟨_, us.toArray, _, kl, rfl, rfl, rfl, ?_, ?_⟩, ?_, ?_, ?_⟩
      · rw [List.size_toArray, long]
        exact few
      · rw [List.toList_toArray]
        exact rel
      · intro b u z
        cases z
      · intro b u z
        cases z
      · intro u z
        cases z
    | none =>
      let fz : HO := .frz { cls := .type "list", data := .seq us.toArray } (.lst (ns.map V.int))
      have at_a : (fun b => if b = a then some fz else none : Hp) a = some fz := if_pos rfl
      have off_a : ∀ {b : Addr}, b ≠ a → (fun b => if b = a then some fz else none : Hp) b = none := fun h => if_neg h
      refine ⟨fun b => if b = a then some fz else none, fun b => ?_, .inl (.inr ⟨_, at_a⟩), fun b u z => ?_, fun b u z => ?_, fun _ _ => rfl⟩
      · by_cases e : b = a
        · subst e
          exact .inr ⟨_, _, at_a⟩
        · exact .inl (off_a e)
      · by_cases e : b = a
        · subst e
          rw [at_a] at z
          cases z
          refine ⟨script, ?_, us, _, rel, script⟩
          rw [List.length_map]
          exact few
        · rw [off_a e] at z
          cases z
      · by_cases e : b = a
        · exact e
        · rw [off_a e] at z
          cases z
  have under : ∀ {b : Addr} {o : Obj}, s.heap.get? b = some o → H b = none → (hidT s.heap H).get? b = some o := fun g n => hidT_get g n
  have dicts : ∀ {b : Addr} {m : Str → Option Value}, s.heap.Ns b m → (hidT s.heap H).Ns b m := by
    rintro b m ⟨o, es, ep, g, d, r⟩
    refine ⟨o, es, ep, under g ?_, d, r⟩
    cases hb : H b with
    | none => rfl
    | some u =>
      obtain rfl := dom b u hb
      rw [script] at g
      cases g
      cases d
  have kinB : K.In (hidT s.heap H) := by
    intro b o kl
    refine under (kin b o kl) ?_
    cases hb : H b with
    | none => rfl
    | some u =>
      obtain rfl := dom b u hb
      rw [own u hb] at kl
      cases kl
  have modB : Mod K mg (hidT s.heap H) := by
    refine ⟨kinB, dicts glob, ⟨mb, dicts blt, same⟩, ?_⟩
    obtain ⟨mc, z1, z2⟩ := free
    exact ⟨mc, dicts z1, z2⟩
  have env : Env0 P w K mg (hidT s.heap H) callerA [] s H :=
    ⟨rfl, modB, fun b o g => of_hidT g, Nat.le_of_eq (hidT_size _ _), trivial, fun b hb => (by cases hb), fits, .of_eq gens⟩
  refine codeAny_mono (F _ kinB (dicts glob) s H ⟨[.ref a], []⟩ [.ref a] [.ref a] _ _ env (binds s (.ref a)) (.cons rfl .nil) (want H only seq)) fun r t told => ?_
  match r, told with
  | .error e, told => exact told.elim
  | .ok .next, told => exact told.elim
  | .ok .brk, told => exact told.elim
  | .ok .cont, told => exact told.elim
  | .ok (.ret u), ⟨v, H', os, bare, un, fits', rv, yes⟩ =>
    have yes' : v = .bl true := yes
    subst yes'
    have eu : u = Value.bool true := rv
    subst eu
    refine ⟨rfl, OldK.of_keep fun b o g => ?_, os, bare⟩
    cases hb : H b with
    | none => exact un.keep b o g hb (fun z => (by cases z)) (by simp)
    | some u2 =>
      rcases only b with z | ⟨ob, xs, z⟩
      · rw [z] at hb
        cases hb
      · obtain ⟨e1, _⟩ := fits b _ z
        obtain ⟨e2, _⟩ := fits' b _ (un.frzs b ob _ z)
        rw [g] at e1
        cases e1
        exact e2
/-- the goal that k_head leaves, where the law's promise is LawOk -/
theorem walk_at {l : PySem.W.OpenLaw} {n : Nat} {q : Program} {loose : List Str} {XP : (Str → Option Value) → Heap → Prop} {YP : World → Heap → Prop} {d : DefRec} {K : Params → PySem.W.Frag} {sp : PySem.W.Frag → Sp} {x : Str}
    (hn : l.most = some n) (hs : n ≤ sizeLine) (plain : d.params.defaults = []) (hY : ∀ (w : World) (h : Heap), YP w h → (K w.params).In h)
    (F : ∀ (w : World) (mg : Str → Option Value) (f : Addr) (h : Heap), (K w.params).In h → h.Ns mainGlobals mg → mg d.name = some (.ref f) →
      ∃ fd : FuncData, (∀ (s : Shared) (u : Value), BindsTo s fd ⟨[u], []⟩ [(x, u)]) ∧ ∀ base : Heap, (K w.params).In base → base.Ns mainGlobals mg → LawOk l.prog w (K w.params) mg base f fd [x] (sp (K w.params)))
    (want : ∀ (K : PySem.W.Frag) (H : Hp) (a : Addr) (ns : List Int), ns.length ≤ n → Only H → SqL K H a (ns.map V.int) → sp K [.ref a] H (fun v _ => v = .bl true) fun _ _ _ => False) :
    PySem.W.WalkO q loose XP YP l.row.toRowW d [] (fun f vs => PySem.call f vs) := by
  refine Att.attach_call hn plain fun w _ s1 mg mb f _ _ _ _ a us ns G Y _ _ _ named obj whole few gens => ?_
  have kin := hY w _ Y
  obtain ⟨fd, binds, told⟩ := F w mg f _ kin G.T.g named
  exact law_at kin G.T.g G.T.b G.T.builtins G.T.nolimit gens obj whole (Nat.le_trans few hs) told binds fun H only seq => want _ H a ns few only seq
end V0
/-! set(xs) of a list of whole numbers, and len of such a set -/
namespace V0
open PySem PySem.Spec PyProof.Rows L2
/-- the set that set.__new__ leaves -/
def bare (w : World) : Obj := { cls := .type "set", dict := none, data := .set #[] 0 (.fresh 0 0 (!w.params.followText "set-order")) }
section
variable {P : Program} {w : World} {A : Around} {E : Value → Shared → Prop} {s : Shared}
/-- what set.__init__ does with a list of ints -/
theorem set_filled {l : Addr} {arr : Array Value} {xs : List Int} {R : Value → Shared → Prop} (calm : A.handled = none) (lst : s.heap.IsList l arr) (num : IntsAre arr.toList xs) (few : xs.length + 1 < scanBound)
    (told : ∀ (h' : Heap) (tk c : Nat), SetR w h' s.heap.objs.size (fun j => decide (j ∈ xs)) c → c ≤ xs.length → (∀ b o, s.heap.get? b = some o → h'.get? b = some o) → R .none { s with heap := h', toks := tk }) :
    codeAny (model P w) A (.call (.builtin "set.__init__") ⟨[.ref s.heap.objs.size, .ref l], []⟩) (wants R E) { s with heap := s.heap.push (bare w) } := by
  have own : (s.heap.push (bare w)).get? s.heap.objs.size = some (bare w) := Heap.get?_push_size _ rfl
  have kind : Shared.TypeIs { s with heap := s.heap.push (bare w) } (.ref s.heap.objs.size) "set" := ⟨_, own, rfl⟩
  have many : arr.size = xs.length := by rw [← Array.length_toList, IntsAre.length num]
  refine codeAny_call_builtin F.called_set.init.plain F.entry_set_init (check_set_init_1 kind ?_)
  obtain ⟨⟨cl, od, dat, sl⟩, at_l, is_l, nn, is_d⟩ := lst
  dsimp only at is_l is_d
  subst is_l is_d
  have below := Heap.lt_size at_l
  have at_l1 : (s.heap.push (bare w)).get? l = some ⟨.type "list", od, .seq arr nn, sl⟩ := Heap.get?_push_of_some _ at_l
  have lst1 : (s.heap.push (bare w)).IsList l arr := ⟨_, at_l1, rfl, nn, rfl⟩
  have no1 := F.sub_list_set
  have no2 := F.sub_list_frozenset
  have no3 : (Value.type "list" == Value.type "dict") = false := by decide
  unfold Builtin.«set.__init__» noKeywords Builtin.Frozenset.updateFrom
  generalize walker : pyIter = PI
  wp_walk
  subst walker
  refine wpAny_pyIter_list lst1 (wpAny_bind (wpAny_runValue ?_))
  have size1 : (s.heap.push (bare w)).objs.size = s.heap.objs.size + 1 := Heap.size_push ..
  have ne1 : l ≠ (s.heap.push (bare w)).objs.size := size1 ▸ Nat.ne_of_lt (Nat.lt_succ_of_lt below)
  have calm3 : A.in1.in1.handled = none := by simp [calm]
  have out : s.heap.objs.size ∉ [(s.heap.push (bare w)).objs.size, l] := by
    intro hm
    rcases List.mem_cons.mp hm with e | hm
    · rw [size1] at e
      exact Nat.ne_of_lt (Nat.lt_succ_self _) e
    · exact Nat.ne_of_lt below (List.mem_singleton.mp hm).symm
  have each : ∀ (i : Nat) (v : Value), arr[i]? = some v → ∃ k t, xs[i]? = some k ∧ v = .int k t := by
    intro i v hv
    have hi : i < xs.length := many ▸ (Array.getElem?_eq_some_iff.mp hv).1
    obtain ⟨t, e⟩ := PyProof.Rows.IntsAre.int_at num i v ((Array.getElem?_toList ..).trans hv)
    refine ⟨xs[i], t, List.getElem?_eq_getElem hi, ?_⟩
    rw [e, List.getD_eq_getElem?_getD, List.getElem?_eq_getElem hi]
    rfl
  refine set_update_ints ((Walks.list calm3 _ l ne1 arr).toS) s.heap.objs.size out xs many few each (arr.size - 0) 0 _ (by omega) (Nat.zero_le _) ⟨⟨_, Heap.get?_push_size _ rfl, rfl, rfl⟩, lst1.push _⟩ ⟨0, Nat.le_refl 0, setR_new_at (Heap.get?_push_of_some _ own)⟩ ?_
  rintro ⟨h', g', d', tk', os'⟩ c moved bound full
  obtain rfl : g' = s.gens := moved.gens
  obtain rfl : d' = s.drawn := moved.drawn
  obtain rfl : os' = s.os := moved.os
  show wpAny _ _ _ _ _ _
  refine wpAny_pure ?_
  show wpAny _ _ (ret Value.none) _ _ _
  refine wpAny_pure (told h' tk' c full (many ▸ bound) fun b o e => ?_)
  have low := Heap.lt_size e
  refine moved.heap b o ?_ (Heap.get?_push_of_some _ (Heap.get?_push_of_some _ e))
  intro hm
  rcases List.mem_cons.mp hm with z | hm
  · exact Nat.ne_of_lt low z
  · have z := List.mem_singleton.mp hm
    rw [size1] at z
    exact Nat.ne_of_lt (Nat.lt_succ_of_lt low) z
theorem call_set_ints {l : Addr} {arr : Array Value} {xs : List Int} {Q : Value → Shared → Prop} (calm : A.handled = none) (lst : s.heap.IsList l arr) (num : IntsAre arr.toList xs) (few : xs.length + 1 < scanBound)
    (then_ : ∀ (h' : Heap) (tk c : Nat), SetR w h' s.heap.objs.size (fun j => decide (j ∈ xs)) c → c ≤ xs.length → (∀ b o, s.heap.get? b = some o → h'.get? b = some o) → Q (.ref s.heap.objs.size) { s with heap := h', toks := tk }) :
    wpAny (model P w) A (call (.type "set") [.ref l]) Q E s := by
  obtain ⟨_, _, order⟩ := F.called_set.mro
  have made := F.called_set.made
  have below := F.called_set.sub
  refine wpAny_call (codeAny_of_tree ?_)
  show wpAny _ _ (callAny (.type "set") ⟨[.ref l], []⟩) _ _ s
  refine wpAny_pure ⟨Code.quiet_builtin _ (by decide +kernel), codeAny_builtin F.entry_type_call ?_⟩
  rw [Around.under_plain (weight_type_call_type "set" [.ref l] []) rfl]
  have f1 := F.called_set.notType
  have f2 := F.called_set.canCreate
  have f3 := F.typeCall_set_1 (.ref l)
  repeat (any_goals (first | assumption | wp_step))
  refine codeAny_mono (code_set_led1 (.ref l) (E := E) (Q₁ := fun u t => u = .ref s.heap.objs.size ∧ t = { s with heap := s.heap.push (bare w) }) ⟨rfl, rfl⟩) fun r t first => ?_
  match r, first with
  | .error e, first => exact first
  | .ok .next, first => exact first.elim
  | .ok .brk, first => exact first.elim
  | .ok .cont, first => exact first.elim
  | .ok (.ret u), ⟨eu, et⟩ =>
    subst eu et
    have kind : Shared.TypeIs { s with heap := s.heap.push (bare w) } (.ref s.heap.objs.size) "set" := ⟨_, Heap.get?_push_size _ rfl, rfl⟩
    have f4 := F.called_set.init.lookup
    have f5 := F.called_set.init.bind (.ref s.heap.objs.size)
    repeat (any_goals (first | assumption | wp_step))
    refine codeAny_mono (set_filled (A := _) (E := E) (R := fun v t => v = .none ∧ ∃ h' tk c, t = { s with heap := h', toks := tk } ∧ SetR w h' s.heap.objs.size (fun j => decide (j ∈ xs)) c ∧ c ≤ xs.length ∧ (∀ b o, s.heap.get? b = some o → h'.get? b = some o)) (by simp [calm]) lst num few fun h' tk c a b k => ⟨rfl, h', tk, c, rfl, a, b, k⟩) fun r t second => ?_
    match r, second with
    | .error e, second => exact second
    | .ok .next, second => exact second.elim
    | .ok .brk, second => exact second.elim
    | .ok .cont, second => exact second.elim
    | .ok (.ret v), ⟨ev, h', tk, c, et, a, b, k⟩ =>
      subst ev et
      repeat (any_goals (first | assumption | wp_step))
      exact then_ _ _ _ a b k
end
/-- set(xs) -/
def rSetOf (K : PySem.W.Frag) (w : World) : List V → Hp → VK → Prop := fun vs H Q => ∃ (l : Addr) (xs : List Int), vs = [.ref l] ∧ SqL K H l (xs.map V.int) ∧ xs.length ≤ 4000 ∧ ∀ p c, H p = none → c ≤ xs.length → Q (.ref p) (upd H p (SetO w p (fun j => decide (j ∈ xs)) c))
theorem cr_setOf {X : Cx} (hc : X.calm = true) : CallR X (.type "set") (rSetOf X.K X.w) := by
  intro pins s σ H vs us Q I r h
  obtain ⟨l, xs, rfl, seq, few, q⟩ := h
  obtain rfl := Vals.ref1 r
  obtain ⟨its, rv, pl, _⟩ := I.list seq
  have num : IntsAre its xs := intsAre_of rv
  refine call_set_ints (I.ok.hd hc) pl.isList (by simpa using num) (by unfold scanBound; omega) fun h' tk c full bound k => ?_
  exact ⟨.ref _, _, I.laid (t' := tk) k (Nat.le_refl _) (setO_new full), rfl, q _ c (I.hok.fresh (Nat.le_refl _)) bound⟩
/-- the ascending list of what stands in xs -/
theorem asc_mem {ns : List Int} {xs : List Nat} (h1 : ns.Pairwise (· < ·)) (h2 : ∀ k : Int, k ∈ ns ↔ k ∈ xs.map (fun (x : Nat) => (x : Int))) : ∃ ys : List Nat, ns = ys.map (fun (x : Nat) => (x : Int)) ∧ ys.Pairwise (· < ·) ∧ ∀ y, y ∈ ys ↔ y ∈ xs := by
  refine ⟨ns.map Int.toNat, ?_, ?_, ?_⟩
  · rw [List.map_map]
    refine (List.map_id ns).symm.trans (List.map_congr_left fun k hk => ?_)
    obtain ⟨x, _, rfl⟩ := List.mem_map.mp ((h2 k).mp hk)
    rfl
  · rw [List.pairwise_map]
    refine h1.imp_of_mem fun {a b} ha hb hab => ?_
    obtain ⟨x, _, rfl⟩ := List.mem_map.mp ((h2 a).mp ha)
    obtain ⟨y, _, rfl⟩ := List.mem_map.mp ((h2 b).mp hb)
    show (x : Int).toNat < (y : Int).toNat
    omega
  · intro y
    rw [List.mem_map]
    constructor
    · rintro ⟨k, hk, rfl⟩
      obtain ⟨x, hx, rfl⟩ := List.mem_map.mp ((h2 k).mp hk)
      exact hx
    · intro hy
      exact ⟨(y : Int), (h2 _).mpr (List.mem_map.mpr ⟨y, hy, rfl⟩), rfl⟩
theorem asc_unique : ∀ {xs ys : List Nat}, xs.Pairwise (· < ·) → ys.Pairwise (· < ·) → (∀ y, y ∈ xs ↔ y ∈ ys) → xs = ys
  | [], [], _, _, _ => rfl
  | [], y :: ys, _, _, h => by
    have := (h y).mpr List.mem_cons_self
    cases this
  | x :: xs, [], _, _, h => by
    have := (h x).mp List.mem_cons_self
    cases this
  | x :: xs, y :: ys, h1, h2, h => by
    rw [List.pairwise_cons] at h1 h2
    have e : x = y := by
      have a := (h x).mp List.mem_cons_self
      have b := (h y).mpr List.mem_cons_self
      rcases List.mem_cons.mp a with a | a
      · exact a
      · rcases List.mem_cons.mp b with b | b
        · exact b.symm
        · have c := h1.1 y b
          have d := h2.1 x a
          omega
    subst e
    rw [asc_unique h1.2 h2.2 fun z => ?_]
    have hz := h z
    rw [List.mem_cons, List.mem_cons] at hz
    constructor
    · intro m
      rcases hz.mp (.inr m) with rfl | m2
      · exact absurd (h1.1 z m) (Nat.lt_irrefl _)
      · exact m2
    · intro m
      rcases hz.mpr (.inr m) with rfl | m2
      · exact absurd (h2.1 z m) (Nat.lt_irrefl _)
      · exact m2
abbrev toI (xs : List Nat) : List Int := xs.map (fun (b : Nat) => (b : Int))
theorem vn_int (xs : List Nat) : vn xs = (toI xs).map V.int := by
  unfold toI
  rw [List.map_map]
  rfl
/-- sorted(set(xs)) -/
theorem sorted_set_nat {K : PySem.W.Frag} {w : World} {H : Hp} {l : Addr} {xs : List Nat} {Q : VK} (h : H l = some (.lst (vn xs))) (few : xs.length < 64)
    (q : ∀ p ys H', Same H H' → H p = none → H' p = some (.lst (vn ys)) → ys.Pairwise (· < ·) → (∀ y, y ∈ ys ↔ y ∈ xs) → ys.length ≤ xs.length → Q (.ref p) H') :
    rSetOf K w [.ref l] H (fun z Hz => rSortedSet w [z] Hz Q) := by
  refine ⟨l, toI xs, rfl, SqL.of (by rw [h, vn_int]), by rw [List.length_map]; omega, fun pz c nz hc => ⟨pz, _, c, rfl, upd_same, ?_, fun ns p asc mem len np => ?_⟩⟩
  · rw [List.length_map] at hc
    omega
  · obtain ⟨ys, rfl, h1, h2⟩ := asc_mem (xs := xs) asc fun k => by rw [mem k, decide_eq_true_eq]
    rw [List.length_map] at hc len
    have s1 := same_new (o := SetO w pz (fun j => decide (j ∈ toI xs)) c) nz
    refine q p ys _ (s1.trans (same_new np)) (none_of s1 np) ?_ h1 h2 (by omega)
    rw [upd_same, vn_int]
theorem perm_asc {ns : List Int} {ks : List Nat} (h1 : ns.Perm (toI ks)) (h2 : ns.Pairwise (· ≤ ·)) (nd : ks.Nodup) : ∃ zs : List Nat, ns = toI zs ∧ zs.Pairwise (· < ·) ∧ ∀ y, y ∈ zs ↔ y ∈ ks := by
  have nd1 : (toI ks).Nodup := by
    show List.Pairwise (· ≠ ·) (List.map _ ks)
    rw [List.pairwise_map]
    have nd' : ks.Pairwise (· ≠ ·) := nd
    exact nd'.imp fun {a b} h e => h (by omega)
  have nd2 : ns.Nodup := h1.nodup_iff.mpr nd1
  have h3 : ns.Pairwise (· < ·) := by
    have h4 : ns.Pairwise (· ≠ ·) := nd2
    exact (h2.and h4).imp fun {a b} h => by omega
  exact asc_mem h3 fun k => h1.mem_iff
/-! ### marks in a dict -/
def mkD (ks : List Nat) : List (Key × V) := ks.map fun (x : Nat) => (Sum.inl (x : Int), V.bl true)
theorem mkD_val (ks : List Nat) (y : Nat) : valV (mkD ks) (Sum.inl (y : Int)) = if y ∈ ks then some (V.bl true) else none := by
  induction ks with
  | nil =>
    rw [if_neg List.not_mem_nil]
    rfl
  | cons x r ih =>
    show valV ((Sum.inl (x : Int), V.bl true) :: mkD r) _ = _
    by_cases e : x = y
    · subst e
      rw [valV_pos (p := (Sum.inl (x : Int), V.bl true)) rfl, if_pos List.mem_cons_self]
    · rw [valV_neg (p := (Sum.inl (x : Int), V.bl true)) (fun z => e (by have := Sum.inl.inj z; omega)), ih]
      by_cases h : y ∈ r
      · rw [if_pos h, if_pos (List.mem_cons_of_mem _ h)]
      · rw [if_neg h, if_neg (fun m => (List.mem_cons.mp m).elim (fun z => e z.symm) h)]
def addN (ks : List Nat) (y : Nat) : List Nat := if y ∈ ks then ks else ks ++ [y]
theorem mkD_put (ks : List Nat) (y : Nat) : putK (mkD ks) (Sum.inl (y : Int)) (V.bl true) = mkD (addN ks y) := by
  unfold addN
  have hv := mkD_val ks y
  by_cases h : y ∈ ks
  · rw [if_pos h]
    rw [if_pos h] at hv
    have ha : ((mkD ks).any fun kv => decide (kv.1 = Sum.inl (y : Int))) = true := by rw [valV_any, hv]; rfl
    unfold putK
    rw [if_pos ha]
    unfold mkD
    rw [List.map_map]
    refine List.map_congr_left fun x _ => ?_
    show (if (Sum.inl (x : Int) : Key) = Sum.inl (y : Int) then ((Sum.inl (x : Int) : Key), V.bl true) else (Sum.inl (x : Int), V.bl true)) = _
    split <;> rfl
  · rw [if_neg h] at hv ⊢
    rw [putK_new _ hv]
    unfold mkD
    rw [List.map_append]
    rfl
theorem addN_mem (ks : List Nat) (y z : Nat) : z ∈ addN ks y ↔ z ∈ ks ∨ z = y := by
  unfold addN
  split
  · rename_i h
    constructor
    · exact .inl
    · rintro (m | rfl)
      · exact m
      · exact h
  · rw [List.mem_append, List.mem_singleton]
theorem addN_nodup {ks : List Nat} (h : ks.Nodup) (y : Nat) : (addN ks y).Nodup := by
  unfold addN
  split
  · exact h
  · rename_i hy
    rw [List.nodup_append]
    refine ⟨h, by simp, fun a ha b hb e => ?_⟩
    rw [List.mem_singleton.mp hb] at e
    exact hy (e ▸ ha)
theorem sum_int : ∀ xs : List Nat, (toI xs).sum = ((xs.sum : Nat) : Int)
  | [] => rfl
  | b :: r => by
    show ((b : Int) :: toI r).sum = ((b + r.sum : Nat) : Int)
    rw [List.sum_cons, sum_int r]
    omega
end V0
/-! set(xs) of a long list of whole numbers that are few -/
namespace V0
open PySem PySem.Spec PyProof.Rows L2
theorem nodup_sub_len {xs ds : List Int} (h : xs.Nodup) (s : ∀ x ∈ xs, x ∈ ds) : xs.length ≤ ds.length := by
  induction xs generalizing ds with
  | nil => exact Nat.zero_le _
  | cons x r ih =>
    have h1 := List.nodup_cons.mp h
    have hx := s x List.mem_cons_self
    have := ih (ds := ds.erase x) h1.2 fun y hy => by
      refine (List.mem_erase_of_ne fun e => ?_).mpr (s y (List.mem_cons_of_mem _ hy))
      subst e
      exact h1.1 hy
    rw [List.length_erase_of_mem hx] at this
    have hp := List.length_pos_of_mem hx
    show r.length + 1 ≤ _
    omega
section
variable {P : Program} {w : World} {A : Around} {E : Value → Shared → Prop} {s : Shared}
theorem set_update_few {I : Addr} {fp wr : List Addr} {G : Array GenState → Array GenState → Prop} {n : Nat} {Pv : Nat → Value → Prop} {St : Nat → Shared → Prop} {R : Result → Shared → Prop}
    (W : WalksS P w A.in1 I fp wr G n Pv St) (S : Addr) (hSf : S ∉ fp) (ns ds : List Int) (hn : n = ns.length) (sub : ∀ x ∈ ns, x ∈ ds) (hb : ds.length + 1 < scanBound) (hval : ∀ i v, Pv i v → ∃ k t, ns[i]? = some k ∧ v = .int k t) :
    ∀ (k i : Nat) (s : Shared), n - i = k → i ≤ n → St i s → (∃ L : List Int, L.Nodup ∧ (∀ j, j ∈ L ↔ j ∈ ns.take i) ∧ SetR w s.heap S (fun j => decide (j ∈ ns.take i)) L.length) →
      (∀ s' c, Moved (S :: wr) G s s' → c ≤ ds.length → SetR w s'.heap S (fun j => decide (j ∈ ns)) c → R (.ok (.ret .none)) s') →
      codeAny (model P w) A (.builtin "set.update.loop" ⟨[.ref S, .ref I], []⟩) R s := by
  have hSw : S ∉ wr := fun h => hSf (W.sub _ h)
  have hsub : ∀ b ∈ wr, b ∈ S :: wr := fun b hb => List.mem_cons_of_mem _ hb
  have room : ∀ (L : List Int) (i : Nat), L.Nodup → (∀ j, j ∈ L ↔ j ∈ ns.take i) → L.length ≤ ds.length := fun L i nd h => nodup_sub_len nd fun x hx => sub x (List.mem_of_mem_take ((h x).mp hx))
  intro k
  induction k with
  | zero =>
    intro i s hk' hi hst ⟨L, nd, hL, hS⟩ hR
    have hin : i = n := by omega
    subst hin
    refine codeAny_builtin F.entry_set_update_loop ?_
    rw [Around.under_plainId F.plain_set_update_loop _]
    show wpAny _ A.in1 (pyNext (.ref I) >>= _) _ _ s
    refine wpAny_bind (W.done s _ _ hst fun s' hm => ?_)
    show wpAny _ A.in1 (ret Value.none) _ _ s'
    have lim := room L i nd hL
    have e : ns.take i = ns := List.take_of_length_le (by omega)
    rw [e] at hS
    exact wpAny_pure (hR s' _ (hm.mono hsub) lim (hS.at fun o e => hm.heap S o hSw e))
  | succ k ih =>
    intro i s hk' hi hst ⟨L, nd, hL, hS⟩ hR
    have hlt : i < n := by omega
    have lim := room L i nd hL
    refine codeAny_builtin F.entry_set_update_loop ?_
    rw [Around.under_plainId F.plain_set_update_loop _]
    show wpAny _ A.in1 (pyNext (.ref I) >>= _) _ _ s
    refine wpAny_bind (W.item i s _ _ hlt hst fun v s' hP hst' hm => ?_)
    obtain ⟨z, t, hz, rfl⟩ := hval i v hP
    have hS' : SetR w s'.heap S (fun j => decide (j ∈ ns.take i)) L.length := hS.at fun o e => hm.heap S o hSw e
    show wpAny _ A.in1 (holding [Value.int z t] (setAdd S (.int z t)) >>= _) _ _ s'
    refine wpAny_bind (wpAny_holding ?_)
    unfold setAdd
    refine wpAny_holding ?_
    refine wpAny_bind ((intKind P w).pyHash (k := z) (intKind_is _ _ _ _) ?_)
    refine setR_add_hashed (s := { s' with toks := s'.toks + 1 }) hS' (by omega) fun h' hsb hS2 => ?_
    have hS3 : SetR w h' S (fun j => decide (j ∈ ns.take (i + 1))) (if decide (z ∈ ns.take i) = true then L.length else L.length + 1) := hS2.congr fun j => by
      rw [List.take_add_one, hz]
      simp [List.mem_append]
    have hc3 : ∃ L' : List Int, L'.Nodup ∧ (∀ j, j ∈ L' ↔ j ∈ ns.take (i + 1)) ∧ SetR w h' S (fun j => decide (j ∈ ns.take (i + 1))) L'.length := by
      have em : ∀ j, j ∈ ns.take (i + 1) ↔ j ∈ ns.take i ∨ j = z := fun j => by rw [List.take_add_one, hz]; simp [List.mem_append]
      by_cases hm : z ∈ ns.take i
      · rw [if_pos (decide_eq_true hm)] at hS3
        refine ⟨L, nd, fun j => ?_, hS3⟩
        rw [hL j, em j]
        exact ⟨.inl, fun h => h.elim id fun e => e ▸ hm⟩
      · rw [if_neg (by simp [hm])] at hS3
        refine ⟨z :: L, List.nodup_cons.mpr ⟨fun h => hm ((hL z).mp h), nd⟩, fun j => ?_, hS3⟩
        rw [List.mem_cons, hL j, em j]
        exact Or.comm
    refine wpAny_pure ⟨plainId_quiet F.plain_set_update_loop _, ih (i + 1) _ (by omega) hlt (W.frame _ s' _ _ hst' (Nat.le_succ _) fun b hb o e => ?_) hc3 fun s'' c2 hm'' hc'' hS'' => ?_⟩
    · rw [hsb.2 b (fun h : b = S => hSf (by rw [← h]; exact hb))]; exact e
    · refine hR s'' c2 (Moved.trans W.gtrans ((hm.mono hsub).then_heap (Nat.le_succ _) fun b o hb e => ?_) hm'') hc'' hS''
      rw [hsb.2 b (fun h : b = S => hb (by rw [h]; exact List.mem_cons_self))]; exact e
theorem set_filledD {l : Addr} {arr : Array Value} {xs ds : List Int} {R : Value → Shared → Prop} (calm : A.handled = none) (lst : s.heap.IsList l arr) (num : IntsAre arr.toList xs) (sub : ∀ x ∈ xs, x ∈ ds) (few : ds.length + 1 < scanBound)
    (told : ∀ (h' : Heap) (tk c : Nat), SetR w h' s.heap.objs.size (fun j => decide (j ∈ xs)) c → c ≤ ds.length → (∀ b o, s.heap.get? b = some o → h'.get? b = some o) → R .none { s with heap := h', toks := tk }) :
    codeAny (model P w) A (.call (.builtin "set.__init__") ⟨[.ref s.heap.objs.size, .ref l], []⟩) (wants R E) { s with heap := s.heap.push (bare w) } := by
  have own : (s.heap.push (bare w)).get? s.heap.objs.size = some (bare w) := Heap.get?_push_size _ rfl
  have kind : Shared.TypeIs { s with heap := s.heap.push (bare w) } (.ref s.heap.objs.size) "set" := ⟨_, own, rfl⟩
  have many : arr.size = xs.length := by rw [← Array.length_toList, IntsAre.length num]
  refine codeAny_call_builtin F.called_set.init.plain F.entry_set_init (check_set_init_1 kind ?_)
  obtain ⟨⟨cl, od, dat, sl⟩, at_l, is_l, nn, is_d⟩ := lst
  dsimp only at is_l is_d
  subst is_l is_d
  have below := Heap.lt_size at_l
  have at_l1 : (s.heap.push (bare w)).get? l = some ⟨.type "list", od, .seq arr nn, sl⟩ := Heap.get?_push_of_some _ at_l
  have lst1 : (s.heap.push (bare w)).IsList l arr := ⟨_, at_l1, rfl, nn, rfl⟩
  have no1 := F.sub_list_set
  have no2 := F.sub_list_frozenset
  have no3 : (Value.type "list" == Value.type "dict") = false := by decide
  unfold Builtin.«set.__init__» noKeywords Builtin.Frozenset.updateFrom
  generalize walker : pyIter = PI
  wp_walk
  subst walker
  refine wpAny_pyIter_list lst1 (wpAny_bind (wpAny_runValue ?_))
  have size1 : (s.heap.push (bare w)).objs.size = s.heap.objs.size + 1 := Heap.size_push ..
  have ne1 : l ≠ (s.heap.push (bare w)).objs.size := size1 ▸ Nat.ne_of_lt (Nat.lt_succ_of_lt below)
  have calm3 : A.in1.in1.handled = none := by simp [calm]
  have out : s.heap.objs.size ∉ [(s.heap.push (bare w)).objs.size, l] := by
    intro hm
    rcases List.mem_cons.mp hm with e | hm
    · rw [size1] at e
      exact Nat.ne_of_lt (Nat.lt_succ_self _) e
    · exact Nat.ne_of_lt below (List.mem_singleton.mp hm).symm
  have each : ∀ (i : Nat) (v : Value), arr[i]? = some v → ∃ k t, xs[i]? = some k ∧ v = .int k t := by
    intro i v hv
    have hi : i < xs.length := many ▸ (Array.getElem?_eq_some_iff.mp hv).1
    obtain ⟨t, e⟩ := PyProof.Rows.IntsAre.int_at num i v ((Array.getElem?_toList ..).trans hv)
    refine ⟨xs[i], t, List.getElem?_eq_getElem hi, ?_⟩
    rw [e, List.getD_eq_getElem?_getD, List.getElem?_eq_getElem hi]
    rfl
  refine set_update_few ((Walks.list calm3 _ l ne1 arr).toS) s.heap.objs.size out xs ds many sub few each (arr.size - 0) 0 _ (by omega) (Nat.zero_le _) ⟨⟨_, Heap.get?_push_size _ rfl, rfl, rfl⟩, lst1.push _⟩ ⟨[], List.nodup_nil, fun j => by simp, setR_new_at (Heap.get?_push_of_some _ own)⟩ ?_
  rintro ⟨h', g', d', tk', os'⟩ c moved bound full
  obtain rfl : g' = s.gens := moved.gens
  obtain rfl : d' = s.drawn := moved.drawn
  obtain rfl : os' = s.os := moved.os
  show wpAny _ _ _ _ _ _
  refine wpAny_pure ?_
  show wpAny _ _ (ret Value.none) _ _ _
  refine wpAny_pure (told h' tk' c full bound fun b o e => ?_)
  have low := Heap.lt_size e
  refine moved.heap b o ?_ (Heap.get?_push_of_some _ (Heap.get?_push_of_some _ e))
  intro hm
  rcases List.mem_cons.mp hm with z | hm
  · exact Nat.ne_of_lt low z
  · have z := List.mem_singleton.mp hm
    rw [size1] at z
    exact Nat.ne_of_lt (Nat.lt_succ_of_lt low) z
theorem call_set_few {l : Addr} {arr : Array Value} {xs ds : List Int} {Q : Value → Shared → Prop} (calm : A.handled = none) (lst : s.heap.IsList l arr) (num : IntsAre arr.toList xs) (sub : ∀ x ∈ xs, x ∈ ds) (few : ds.length + 1 < scanBound)
    (then_ : ∀ (h' : Heap) (tk c : Nat), SetR w h' s.heap.objs.size (fun j => decide (j ∈ xs)) c → c ≤ ds.length → (∀ b o, s.heap.get? b = some o → h'.get? b = some o) → Q (.ref s.heap.objs.size) { s with heap := h', toks := tk }) :
    wpAny (model P w) A (call (.type "set") [.ref l]) Q E s := by
  obtain ⟨_, _, order⟩ := F.called_set.mro
  have made := F.called_set.made
  have below := F.called_set.sub
  refine wpAny_call (codeAny_of_tree ?_)
  show wpAny _ _ (callAny (.type "set") ⟨[.ref l], []⟩) _ _ s
  refine wpAny_pure ⟨Code.quiet_builtin _ (by decide +kernel), codeAny_builtin F.entry_type_call ?_⟩
  rw [Around.under_plain (weight_type_call_type "set" [.ref l] []) rfl]
  have f1 := F.called_set.notType
  have f2 := F.called_set.canCreate
  have f3 := F.typeCall_set_1 (.ref l)
  repeat (any_goals (first | assumption | wp_step))
  refine codeAny_mono (code_set_led1 (.ref l) (E := E) (Q₁ := fun u t => u = .ref s.heap.objs.size ∧ t = { s with heap := s.heap.push (bare w) }) ⟨rfl, rfl⟩) fun r t first => ?_
  match r, first with
  | .error e, first => exact first
  | .ok .next, first => exact first.elim
  | .ok .brk, first => exact first.elim
  | .ok .cont, first => exact first.elim
  | .ok (.ret u), ⟨eu, et⟩ =>
    subst eu et
    have kind : Shared.TypeIs { s with heap := s.heap.push (bare w) } (.ref s.heap.objs.size) "set" := ⟨_, Heap.get?_push_size _ rfl, rfl⟩
    have f4 := F.called_set.init.lookup
    have f5 := F.called_set.init.bind (.ref s.heap.objs.size)
    repeat (any_goals (first | assumption | wp_step))
    refine codeAny_mono (set_filledD (A := _) (E := E) (R := fun v t => v = .none ∧ ∃ h' tk c, t = { s with heap := h', toks := tk } ∧ SetR w h' s.heap.objs.size (fun j => decide (j ∈ xs)) c ∧ c ≤ ds.length ∧ (∀ b o, s.heap.get? b = some o → h'.get? b = some o)) (by simp [calm]) lst num sub few fun h' tk c a b k => ⟨rfl, h', tk, c, rfl, a, b, k⟩) fun r t second => ?_
    match r, second with
    | .error e, second => exact second
    | .ok .next, second => exact second.elim
    | .ok .brk, second => exact second.elim
    | .ok .cont, second => exact second.elim
    | .ok (.ret v), ⟨ev, h', tk, c, et, a, b, k⟩ =>
      subst ev et
      repeat (any_goals (first | assumption | wp_step))
      exact then_ _ _ _ a b k
end
/-- set(xs), of few numbers -/
def rSetFew (K : PySem.W.Frag) (w : World) : List V → Hp → VK → Prop := fun vs H Q => ∃ (l : Addr) (xs ds : List Int), vs = [.ref l] ∧ SqL K H l (xs.map V.int) ∧ (∀ x ∈ xs, x ∈ ds) ∧ ds.length ≤ 4000 ∧ ∀ p c, H p = none → c ≤ ds.length → Q (.ref p) (upd H p (SetO w p (fun j => decide (j ∈ xs)) c))
theorem cr_setFew {X : Cx} (hc : X.calm = true) : CallR X (.type "set") (rSetFew X.K X.w) := by
  intro pins s σ H vs us Q I r h
  obtain ⟨l, xs, ds, rfl, seq, sub, few, q⟩ := h
  obtain rfl := Vals.ref1 r
  obtain ⟨its, rv, pl, _⟩ := I.list seq
  have num : IntsAre its xs := intsAre_of rv
  refine call_set_few (I.ok.hd hc) pl.isList (by simpa using num) sub (by unfold scanBound; omega) fun h' tk c full bound k => ?_
  exact ⟨.ref _, _, I.laid (t' := tk) k (Nat.le_refl _) (setO_new full), rfl, q _ c (I.hok.fresh (Nat.le_refl _)) bound⟩
end V0
/-! cuts of nets, bits of tables -/
namespace V0
open PySem PySem.Spec PyProof.Rows L2
open PySem.W (Datum)
/-! ### numbers by their bits -/
def num : List Nat → Nat
  | [] => 0
  | b :: r => b + 2 * num r
theorem num_append (xs ys : List Nat) : num (xs ++ ys) = num xs + 2 ^ xs.length * num ys := by
  induction xs with
  | nil => simp [num]
  | cons b r ih =>
    show b + 2 * num (r ++ ys) = b + 2 * num r + 2 ^ (r.length + 1) * num ys
    rw [ih, Nat.pow_succ, Nat.mul_add, Nat.mul_comm (2 ^ r.length) 2, Nat.mul_assoc, Nat.add_assoc]
theorem num_snoc (xs : List Nat) (b : Nat) : num (xs ++ [b]) = num xs + b * 2 ^ xs.length := by
  rw [num_append]
  show num xs + 2 ^ xs.length * (b + 2 * 0) = _
  rw [Nat.mul_zero, Nat.add_zero, Nat.mul_comm]
theorem num_lt {xs : List Nat} (h : ∀ b ∈ xs, b < 2) : num xs < 2 ^ xs.length := by
  induction xs with
  | nil => decide
  | cons b r ih =>
    have h1 := h b List.mem_cons_self
    have h2 := ih fun c hc => h c (List.mem_cons_of_mem _ hc)
    show b + 2 * num r < 2 ^ (r.length + 1)
    rw [Nat.pow_succ]
    omega
theorem num_testBit {xs : List Nat} (h : ∀ b ∈ xs, b < 2) (i : Nat) : (num xs).testBit i = decide (xs[i]? = some 1) := by
  induction xs generalizing i with
  | nil => simp [num]
  | cons b r ih =>
    have h1 := h b List.mem_cons_self
    have hb : b = 0 ∨ b = 1 := by omega
    have h2 := fun j => ih (fun c hc => h c (List.mem_cons_of_mem _ hc)) j
    cases i with
    | zero =>
      show (b + 2 * num r).testBit 0 = decide (some b = some 1)
      rw [Nat.testBit_zero]
      rcases hb with rfl | rfl
      · have : (0 + 2 * num r) % 2 = 0 := by omega
        rw [this]
        rfl
      · have : (1 + 2 * num r) % 2 = 1 := by omega
        rw [this]
        rfl
    | succ j =>
      show (b + 2 * num r).testBit (j + 1) = decide (r[j]? = some 1)
      rw [Nat.testBit_succ, ← h2 j]
      congr 1
      omega
/-- the columns of bits f 0, f 1, .. -/
def colN (m : Nat) (f : Nat → Nat) : Nat := num ((List.range m).map f)
theorem col_succ (m : Nat) (f : Nat → Nat) : colN (m + 1) f = colN m f + f m * 2 ^ m := by
  unfold colN
  rw [map_range_succ, num_snoc, List.length_map, List.length_range]
theorem col_lt (m : Nat) (f : Nat → Nat) (h : ∀ i, i < m → f i < 2) : colN m f < 2 ^ m := by
  have := num_lt (xs := (List.range m).map f) fun b hb => by
    obtain ⟨i, hi, rfl⟩ := List.mem_map.mp hb
    exact h i (List.mem_range.mp hi)
  rw [List.length_map, List.length_range] at this
  exact this
theorem col_testBit {m : Nat} {f : Nat → Nat} (h : ∀ i, i < m → f i < 2) (i : Nat) : (colN m f).testBit i = (decide (i < m) && decide (f i = 1)) := by
  unfold colN
  rw [num_testBit]
  · by_cases hi : i < m
    · rw [List.getElem?_map, List.getElem?_range hi, decide_eq_true hi, Bool.true_and]
      show decide (some (f i) = some 1) = _
      exact decide_eq_decide.mpr ⟨fun e => Option.some.inj e, fun e => by rw [e]⟩
    · rw [List.getElem?_eq_none (by rw [List.length_map, List.length_range]; omega), decide_eq_false hi]
      rfl
  · intro b hb
    obtain ⟨i, hi, rfl⟩ := List.mem_map.mp hb
    exact h i (List.mem_range.mp hi)
theorem col_and {m : Nat} {f g : Nat → Nat} (hf : ∀ i, i < m → f i < 2) (hg : ∀ i, i < m → g i < 2) : colN m f &&& colN m g = colN m (fun i => f i * g i) := by
  apply Nat.eq_of_testBit_eq
  intro i
  rw [Nat.testBit_and, col_testBit hf, col_testBit hg, col_testBit (fun i hi => mul_lt2 (hf i hi) (hg i hi))]
  by_cases hi : i < m
  · rw [decide_eq_true hi, Bool.true_and, Bool.true_and, Bool.true_and]
    have h1 := hf i hi
    have h2 := hg i hi
    have e1 : f i = 0 ∨ f i = 1 := by omega
    have e2 : g i = 0 ∨ g i = 1 := by omega
    rcases e1 with e1 | e1 <;> rcases e2 with e2 | e2 <;> rw [e1, e2] <;> decide
  · rw [decide_eq_false hi]
    rfl
theorem col_xor {m : Nat} {f : Nat → Nat} (hf : ∀ i, i < m → f i < 2) (l : Nat) : colN m f ^^^ (if l % 2 = 1 then 2 ^ m - 1 else 0) = colN m (fun i => f i ^^^ (l % 2)) := by
  have hx : ∀ i, i < m → f i ^^^ (l % 2) < 2 := fun i hi => Nat.xor_lt_two_pow (n := 1) (hf i hi) (Nat.mod_lt _ (by decide))
  apply Nat.eq_of_testBit_eq
  intro i
  rw [Nat.testBit_xor, col_testBit hf, col_testBit hx]
  rcases Nat.mod_two_eq_zero_or_one l with e | e
  · rw [if_neg (by omega), e, Nat.zero_testBit, Bool.xor_false]
    simp
  · rw [if_pos e, e, Nat.testBit_two_pow_sub_one]
    by_cases hi : i < m
    · rw [decide_eq_true hi, Bool.true_and, Bool.true_and]
      have h1 := hf i hi
      have e1 : f i = 0 ∨ f i = 1 := by omega
      rcases e1 with e1 | e1 <;> rw [e1] <;> decide
    · rw [decide_eq_false hi]
      rfl
/-- the sum of the powers whose bit is set -/
theorem sum_pows (m : Nat) (f : Nat → Nat) (h : ∀ i, i < m → f i < 2) : (((List.range m).filter fun i => decide (f i = 1)).map fun i => 2 ^ i).sum = colN m f := by
  induction m with
  | zero => rfl
  | succ m ih =>
    rw [List.range_succ, List.filter_append, List.map_append, List.sum_append, ih fun i hi => h i (by omega), col_succ]
    have h1 := h m (by omega)
    have e1 : f m = 0 ∨ f m = 1 := by omega
    rcases e1 with e1 | e1
    · simp [e1]
    · simp [e1]
/-! ### cuts -/
inductive Sep (n : Net) (cut : List Nat) : Nat → Prop
  | hit {x : Nat} : x ∈ cut → Sep n cut x
  | gate {x : Nat} {g : Nat × Nat} : n.base ≤ x → n.gates[x - n.base]? = some g → Sep n cut (g.1 / 2) → Sep n cut (g.2 / 2) → Sep n cut x
def kids (n : Net) (x : Nat) : List Nat := if x < n.base then [] else match n.gates[x - n.base]? with
  | some g => [g.1 / 2, g.2 / 2]
  | none => []
theorem Sep.expand {n : Net} {cut other : List Nat} {node : Nat} (hn : kids n node ≠ []) (hk : ∀ y ∈ kids n node, y ∈ other) (ho : ∀ y ∈ cut, y ≠ node → y ∈ other) {x : Nat} (h : Sep n cut x) : Sep n other x := by
  induction h with
  | @hit x hx =>
    by_cases e : x = node
    · subst e
      unfold kids at hn hk
      by_cases hb : x < n.base
      · rw [if_pos hb] at hn
        exact absurd rfl hn
      · rw [if_neg hb] at hn hk
        cases eg : n.gates[x - n.base]? with
        | none =>
          rw [eg] at hn
          exact absurd rfl hn
        | some g =>
          rw [eg] at hk
          exact .gate (by omega) eg (.hit (hk _ (by simp))) (.hit (hk _ (by simp)))
    · exact .hit (ho x hx e)
  | gate hb hg _ _ i1 i2 => exact .gate hb hg i1 i2
theorem Sep.mono {n : Net} {cut other : List Nat} (ho : ∀ y ∈ cut, y ∈ other) {x : Nat} (h : Sep n cut x) : Sep n other x := by
  induction h with
  | hit hx => exact .hit (ho _ hx)
  | gate hb hg _ _ i1 i2 => exact .gate hb hg i1 i2
theorem Sep.some {n : Net} {cut : List Nat} {x : Nat} (h : Sep n cut x) : cut ≠ [] := by
  induction h with
  | hit hx => exact List.ne_nil_of_mem hx
  | gate _ _ _ _ i1 _ => exact i1
/-- a net as the law draws it -/
structure TOk (n : Net) : Prop where
  i1 : 1 ≤ n.ins
  i4 : n.ins ≤ 4
  fl : n.starts.length ≤ 2
  gl : n.gates.length ≤ 9
  g : ∀ j g, n.gates[j]? = some g → (2 ≤ g.1 ∧ g.1 < 2 * (n.base + j)) ∧ (2 ≤ g.2 ∧ g.2 < 2 * (n.base + j)) ∧ g.1 / 2 ≠ g.2 / 2
theorem TOk.kid {n : Net} (t : TOk n) {x y : Nat} (h : y ∈ kids n x) : 1 ≤ y ∧ y < x ∧ n.base ≤ x := by
  unfold kids at h
  by_cases hb : x < n.base
  · rw [if_pos hb] at h
    cases h
  · rw [if_neg hb] at h
    cases eg : n.gates[x - n.base]? with
    | none =>
      rw [eg] at h
      cases h
    | some g =>
      rw [eg] at h
      have := t.g _ _ eg
      simp only [List.mem_cons, List.not_mem_nil, or_false] at h
      rcases h with rfl | rfl <;> omega
structure IsCut (n : Net) (gate : Nat) (cut : List Nat) (k : Nat) : Prop where
  len : cut.length ≤ k
  asc : cut.Pairwise (· < ·)
  bnd : ∀ x ∈ cut, 0 < x ∧ x < gate
  sep : ∀ y ∈ kids n gate, Sep n cut y
theorem kids_gate {n : Net} {x : Nat} (h1 : n.base ≤ x) (h2 : x < n.many) : ∃ g, n.gates[x - n.base]? = some g ∧ kids n x = [g.1 / 2, g.2 / 2] := by
  have hj : x - n.base < n.gates.length := by
    unfold Net.many at h2
    omega
  refine ⟨_, List.getElem?_eq_getElem hj, ?_⟩
  unfold kids
  rw [if_neg (by omega), List.getElem?_eq_getElem hj]
theorem IsCut.some {n : Net} {gate k : Nat} {cut : List Nat} (c : IsCut n gate cut k) (h1 : n.base ≤ gate) (h2 : gate < n.many) : cut ≠ [] := by
  obtain ⟨g, _, e⟩ := kids_gate h1 h2
  exact (c.sep (g.1 / 2) (by rw [e]; simp)).some
theorem Sep.gate_of {n : Net} {cut : List Nat} {x : Nat} (h : Sep n cut x) (hx : x ∉ cut) : n.base ≤ x ∧ x < n.many ∧ ∀ y ∈ kids n x, Sep n cut y := by
  cases h with
  | hit h => exact absurd h hx
  | @gate _ g hb hg h1 h2 =>
    have hj := (List.getElem?_eq_some_iff.mp hg).1
    refine ⟨hb, by unfold Net.many; omega, fun y hy => ?_⟩
    unfold kids at hy
    rw [if_neg (by omega), hg] at hy
    simp only [List.mem_cons, List.not_mem_nil, or_false] at hy
    rcases hy with rfl | rfl
    · exact h1
    · exact h2
theorem kids_len (n : Net) (x : Nat) : (kids n x).length ≤ 2 := by
  unfold kids
  split
  · decide
  · split <;> simp
theorem nodup_bound : ∀ {m : Nat} {xs : List Nat}, xs.Nodup → (∀ x ∈ xs, x < m) → xs.length ≤ m
  | 0, xs, _, b => by
    cases xs with
    | nil => exact Nat.le_refl _
    | cons x r => exact absurd (b x List.mem_cons_self) (Nat.not_lt_zero _)
  | m + 1, xs, h, b => by
    have ih := nodup_bound (m := m) (xs := xs.erase m) (h.erase m) fun x hx => by
      have h1 := (h.mem_erase_iff).mp hx
      have h2 := b x h1.2
      have h3 := h1.1
      omega
    rw [List.length_erase] at ih
    split at ih <;> omega
theorem many16 {n : Net} (ok : TOk n) : n.many ≤ 16 := by
  have := ok.i4
  have := ok.fl
  have := ok.gl
  unfold Net.many Net.base
  omega
/-! ### bits of gates -/
def gbit (n : Net) (kn : Nat → Option Nat) (x : Nat) : Nat := match kn x with
  | some b => b
  | none => match n.gates[x - n.base]? with
    | none => 0
    | some g => if h : g.1 / 2 < x ∧ g.2 / 2 < x then (gbit n kn (g.1 / 2) ^^^ (g.1 % 2)) * (gbit n kn (g.2 / 2) ^^^ (g.2 % 2)) else 0
termination_by x
decreasing_by
  · exact h.1
  · exact h.2
theorem gbit_hit {n : Net} {kn : Nat → Option Nat} {x b : Nat} (h : kn x = some b) : gbit n kn x = b := by
  rw [gbit, h]
theorem gbit_gate {n : Net} {kn : Nat → Option Nat} {x : Nat} {g : Nat × Nat} (h : kn x = none) (hg : n.gates[x - n.base]? = some g) (h1 : g.1 / 2 < x) (h2 : g.2 / 2 < x) :
    gbit n kn x = (gbit n kn (g.1 / 2) ^^^ (g.1 % 2)) * (gbit n kn (g.2 / 2) ^^^ (g.2 % 2)) := by
  rw [gbit, h]
  simp only [hg]
  rw [dif_pos ⟨h1, h2⟩]
theorem gbit_lt {n : Net} {kn : Nat → Option Nat} (hk : ∀ x b, kn x = some b → b < 2) (x : Nat) : gbit n kn x < 2 := by
  induction x using Nat.strongRecOn with
  | ind x ih =>
    rw [gbit]
    cases e : kn x with
    | some b => exact hk x b e
    | none =>
      simp only
      cases eg : n.gates[x - n.base]? with
      | none =>
        show 0 < 2
        decide
      | some g =>
        simp only
        split
        · rename_i h
          exact mul_lt2 (Nat.xor_lt_two_pow (n := 1) (ih _ h.1) (Nat.mod_lt _ (by decide))) (Nat.xor_lt_two_pow (n := 1) (ih _ h.2) (Nat.mod_lt _ (by decide)))
        · decide
/-- what is known of the m-th choice of values of a cut -/
def kn (cut : List Nat) (m x : Nat) : Option Nat := if x ∈ cut then some (m / 2 ^ (cut.idxOf x) % 2) else none
theorem kn_lt (cut : List Nat) (m : Nat) : ∀ x b, kn cut m x = some b → b < 2 := by
  intro x b h
  unfold kn at h
  split at h
  · cases h
    exact Nat.mod_lt _ (by decide)
  · cases h
def colOf (n : Net) (cut : List Nat) (x : Nat) : Nat := colN (2 ^ cut.length) fun m => gbit n (kn cut m) x
theorem colOf_hit {n : Net} {cut : List Nat} {x : Nat} (h : x ∈ cut) : colOf n cut x = colN (2 ^ cut.length) fun m => m / 2 ^ (cut.idxOf x) % 2 := by
  unfold colOf
  congr 1
  funext m
  exact gbit_hit (if_pos h)
theorem colOf_gate {n : Net} {cut : List Nat} {x : Nat} {g : Nat × Nat} (h : x ∉ cut) (hg : n.gates[x - n.base]? = some g) (h1 : g.1 / 2 < x) (h2 : g.2 / 2 < x) :
    colOf n cut x = (colOf n cut (g.1 / 2) ^^^ (if g.1 % 2 = 1 then 2 ^ 2 ^ cut.length - 1 else 0)) &&& (colOf n cut (g.2 / 2) ^^^ (if g.2 % 2 = 1 then 2 ^ 2 ^ cut.length - 1 else 0)) := by
  have hx : ∀ (y l : Nat), ∀ i, i < 2 ^ cut.length → gbit n (kn cut i) y ^^^ (l % 2) < 2 := fun y l i _ => Nat.xor_lt_two_pow (n := 1) (gbit_lt (kn_lt cut i) y) (Nat.mod_lt _ (by decide))
  unfold colOf
  rw [col_xor fun i _ => gbit_lt (kn_lt cut i) _, col_xor fun i _ => gbit_lt (kn_lt cut i) _, col_and (hx _ _) (hx _ _)]
  congr 1
  funext m
  exact gbit_gate (if_neg h) hg h1 h2
/-! ### what stands above a cut -/
structure MK (n : Net) (gate : Nat) (cut ks : List Nat) : Prop where
  nd : ks.Nodup
  g : gate ∈ ks
  b : ∀ x ∈ ks, n.base ≤ x ∧ x ≤ gate ∧ x ∉ cut ∧ ∀ y ∈ kids n x, Sep n cut y
structure Above (n : Net) (gate : Nat) (cut ab : List Nat) : Prop where
  asc : ab.Pairwise (· < ·)
  g : gate ∈ ab
  b : ∀ x ∈ ab, n.base ≤ x ∧ x ≤ gate ∧ x ∉ cut
  k : ∀ x ∈ ab, ∀ y ∈ kids n x, y ∈ cut ∨ y ∈ ab
theorem band (a b : Nat) : Builtin.bitAnd (a : Int) (b : Int) = ((a &&& b : Nat) : Int) := by
  rw [bitAnd_pp (Int.natCast_nonneg _) (Int.natCast_nonneg _), Int.toNat_natCast, Int.toNat_natCast]
theorem band_one (a : Nat) : Builtin.bitAnd (a : Int) 1 = ((a % 2 : Nat) : Int) := by
  have h := PySem.W.kbt_mask ((a : Nat) : Int) 1
  rw [show (2 : Int) ^ 1 - 1 = 1 by decide, show (2 : Int) ^ 1 = 2 by decide] at h
  rw [h]
  rfl
theorem shl_nat (a k : Nat) : (a : Int) * 2 ^ ((k : Int)).toNat = ((a * 2 ^ k : Nat) : Int) := by
  rw [Int.toNat_natCast, Int.natCast_mul, Int.natCast_pow]
  rfl
theorem shl_one (k : Nat) : (1 : Int) * 2 ^ ((k : Int)).toNat = ((2 ^ k : Nat) : Int) := by
  rw [Int.one_mul, Int.toNat_natCast, Int.natCast_pow]
  rfl
theorem shr_nat (a k : Nat) : (a : Int) / 2 ^ ((k : Int)).toNat = ((a / 2 ^ k : Nat) : Int) := by
  rw [Int.toNat_natCast, Int.natCast_ediv, Int.natCast_pow]
  rfl
theorem shr_one (a : Nat) : (a : Int) / 2 ^ ((1 : Int)).toNat = ((a / 2 : Nat) : Int) := rfl
end V0
namespace K30
open PySem PySem.Spec PyProof.Rows L2 V0
def topS (i : Nat) : Stmt := PySem.Challenge.pw_cellcloth_k30_runs_of_nets.main.body.getD i (.Pass ⟨0, 0, 0, 0⟩)
abbrev s__law_state : Stmt := topS 16
abbrev N__law_state : List Str := ["script", "seed", "cell"]
theorem sc_law_state : FnScope ["script", "seed", "cell"] ["script"] (defScope s__law_state) := ⟨rfl, rfl, rfl, by decide +kernel, rfl, by decide +kernel, by decide +kernel⟩
abbrev s__law_draw : Stmt := topS 17
abbrev N__law_draw : List Str := ["state", "many", "cells", "value", "mixed"]
theorem sc_law_draw : FnScope ["state", "many", "cells", "value", "mixed"] ["state", "many"] (defScope s__law_draw) := ⟨rfl, rfl, rfl, by decide +kernel, rfl, by decide +kernel, by decide +kernel⟩
abbrev s__law_pick : Stmt := topS 18
abbrev N__law_pick : List Str := ["state", "row"]
theorem sc_law_pick : FnScope ["state", "row"] ["state", "row"] (defScope s__law_pick) := ⟨rfl, rfl, rfl, by decide +kernel, rfl, by decide +kernel, by decide +kernel⟩
abbrev s__law_net : Stmt := topS 19
abbrev N__law_net : List Str := ["state", "ins", "flops", "most", "k", "starts", "gates", "many", "low", "nexts"]
theorem sc_law_net : FnScope ["state", "ins", "flops", "most", "k", "starts", "gates", "many", "low", "nexts"] ["state", "ins", "flops", "most"] (defScope s__law_net) := ⟨rfl, rfl, rfl, by decide +kernel, rfl, by decide +kernel, by decide +kernel⟩
abbrev s__law_rows : Stmt := topS 23
abbrev N__law_rows : List Str := ["state", "ins", "most", "j", "k"]
theorem sc_law_rows : FnScope ["state", "ins", "most", "j", "k"] ["state", "ins", "most"] (defScope s__law_rows) := ⟨rfl, rfl, rfl, by decide +kernel, rfl, by decide +kernel, by decide +kernel⟩
abbrev s__law_bit : Stmt := topS 20
abbrev N__law_bit : List Str := ["row", "literal"]
theorem sc_law_bit : FnScope ["row", "literal"] ["row", "literal"] (defScope s__law_bit) := ⟨rfl, rfl, rfl, by decide +kernel, rfl, by decide +kernel, by decide +kernel⟩
abbrev s__law_row : Stmt := topS 21
abbrev N__law_row : List Str := ["net", "held", "bits", "row", "a", "b"]
theorem sc_law_row : FnScope ["net", "held", "bits", "row", "a", "b"] ["net", "held", "bits"] (defScope s__law_row) := ⟨rfl, rfl, rfl, by decide +kernel, rfl, by decide +kernel, by decide +kernel⟩
abbrev s_valued : Stmt := topS 9
abbrev N_valued : List Str := ["row", "literal"]
theorem scvalued : FnScope ["row", "literal"] ["row", "literal"] (defScope s_valued) := ⟨rfl, rfl, rfl, by decide +kernel, rfl, by decide +kernel, by decide +kernel⟩
abbrev s_base_of : Stmt := topS 6
abbrev N_base_of : List Str := ["net"]
theorem scbase_of : FnScope ["net"] ["net"] (defScope s_base_of) := ⟨rfl, rfl, rfl, by decide +kernel, rfl, by decide +kernel, by decide +kernel⟩
abbrev s_many_nodes : Stmt := topS 7
abbrev N_many_nodes : List Str := ["net"]
theorem scmany_nodes : FnScope ["net"] ["net"] (defScope s_many_nodes) := ⟨rfl, rfl, rfl, by decide +kernel, rfl, by decide +kernel, by decide +kernel⟩
abbrev s_fault_of : Stmt := topS 5
abbrev N_fault_of : List Str := ["net", "_", "starts", "gates", "nexts", "outs", "base", "k", "start", "gate", "literal", "word", "literals"]
theorem scfault_of : FnScope ["net", "_", "starts", "gates", "nexts", "outs", "base", "k", "start", "gate", "literal", "word", "literals"] ["net"] (defScope s_fault_of) := ⟨rfl, rfl, rfl, by decide +kernel, rfl, by decide +kernel, by decide +kernel⟩
abbrev s_check : Stmt := topS 4
abbrev N_check : List Str := ["net", "fault"]
theorem sccheck : FnScope ["net", "fault"] ["net"] (defScope s_check) := ⟨rfl, rfl, rfl, by decide +kernel, rfl, by decide +kernel, by decide +kernel⟩
abbrev s_values : Stmt := topS 8
abbrev N_values : List Str := ["net", "state", "bits", "row", "first", "second"]
theorem scvalues : FnScope ["net", "state", "bits", "row", "first", "second"] ["net", "state", "bits"] (defScope s_values) := ⟨rfl, rfl, rfl, by decide +kernel, rfl, by decide +kernel, by decide +kernel⟩
abbrev s_step : Stmt := topS 10
abbrev N_step : List Str := ["net", "state", "bits", "row", "literal"]
theorem scstep : FnScope ["net", "state", "bits", "row", "literal"] ["net", "state", "bits"] (defScope s_step) := ⟨rfl, rfl, rfl, by decide +kernel, rfl, by decide +kernel, by decide +kernel⟩
abbrev s_run : Stmt := topS 11
abbrev N_run : List Str := ["net", "rows", "told", "state", "bits", "row"]
theorem scrun : FnScope ["net", "rows", "told", "state", "bits", "row"] ["net", "rows"] (defScope s_run) := ⟨rfl, rfl, rfl, by decide +kernel, rfl, by decide +kernel, by decide +kernel⟩
abbrev s__law_run : Stmt := topS 22
abbrev N__law_run : List Str := ["net", "rows", "held", "told", "bits", "row", "literal"]
theorem sc_law_run : FnScope ["net", "rows", "held", "told", "bits", "row", "literal"] ["net", "rows"] (defScope s__law_run) := ⟨rfl, rfl, rfl, by decide +kernel, rfl, by decide +kernel, by decide +kernel⟩
abbrev s_levels : Stmt := topS 12
abbrev N_levels : List Str := ["net", "found", "first", "second"]
theorem sclevels : FnScope ["net", "found", "first", "second"] ["net"] (defScope s_levels) := ⟨rfl, rfl, rfl, by decide +kernel, rfl, by decide +kernel, by decide +kernel⟩
abbrev s_depth : Stmt := topS 13
abbrev N_depth : List Str := ["net", "found", "literal"]
theorem scdepth : FnScope ["net", "found", "literal"] ["net"] (defScope s_depth) := ⟨rfl, rfl, rfl, by decide +kernel, rfl, by decide +kernel, by decide +kernel⟩
abbrev s__law_below : Stmt := topS 24
abbrev N__law_below : List Str := ["net", "node", "first", "found", "literal"]
theorem sc_law_below : FnScope ["net", "node", "first", "found", "literal"] ["net", "node"] (defScope s__law_below) := ⟨rfl, rfl, rfl, by decide +kernel, rfl, by decide +kernel, by decide +kernel⟩
abbrev s_needed : Stmt := topS 14
abbrev N_needed : List Str := ["net", "literals", "base", "marked", "literal", "k", "node", "is_needed"]
theorem scneeded : FnScope ["net", "literals", "base", "marked", "literal", "k", "node", "is_needed"] ["net", "literals"] (defScope s_needed) := ⟨rfl, rfl, rfl, by decide +kernel, rfl, by decide +kernel, by decide +kernel⟩
abbrev s_law : Stmt := topS 25
abbrev N_law : List Str := ["script", "state", "net", "before", "rows", "held", "bits", "row", "literal", "told", "many", "deep", "a", "b", "one", "ends", "some", "due", "k"]
theorem sclaw : FnScope ["script", "state", "net", "before", "rows", "held", "bits", "row", "literal", "told", "many", "deep", "a", "b", "one", "ends", "some", "due", "k"] ["script"] (defScope s_law) := ⟨rfl, rfl, rfl, by decide +kernel, rfl, by decide +kernel, by decide +kernel⟩
structure Txt (K : PySem.W.Frag) (mg : Str → Option Value) : Prop where
  m_abs : mg "abs" = none
  m_any : mg "any" = none
  m_enumerate : mg "enumerate" = none
  m_int : mg "int" = none
  m_len : mg "len" = none
  m_max : mg "max" = none
  m_range : mg "range" = none
  m_repr : mg "repr" = none
  m_reversed : mg "reversed" = none
  m_set : mg "set" = none
  m_sorted : mg "sorted" = none
end K30
namespace K30
open PySem PySem.Spec PyProof.Rows L2 V0
/-! ### the draws -/
def sp__law_state (K : PySem.W.Frag) : Sp := fun vs H Q _ => ∃ (a : Addr) (ns : List Int), vs = [.ref a] ∧ SqL K H a (vi ns) ∧ ns.length ≤ 63 ∧ ∀ H' p c, Same H H' → Dr H' p c → Q (.ref p) H'
theorem ok__law_state {P : Program} {w : World} {K : PySem.W.Frag} {mg : Str → Option Value} {base : Heap} {f  : Addr} {fd  : FuncData} (F : Fun K "_law_state" "_law_state" s__law_state f fd) (T : Txt K mg) :
    FnOk P w K mg base CX0 1 f fd ["script"] (sp__law_state K) := by
  refine F.ok sc_law_state (fun vs H Q E h => ?_) (fun cdv A outer s H vs Q E hr h => ?_)
  · obtain ⟨a, ns, rfl, _⟩ := h
    rfl
  · obtain ⟨a, ns, rfl, hS, hl, q⟩ := h
    refine ⟨_, (pss_cons (ps_set (i := 1) sc_law_state.nd rfl (.inl rfl) pe_int)
      (pss_cons (ps_for PassesOwn.never rfl (pi_list (pv 0)) (pg_name (i := 2) sc_law_state.nd rfl (Or.inl rfl)) (pss_one (ps_set (i := 1) sc_law_state.nd rfl (.inl rfl) (pe_op op_modN (pe_callTy call_int1 (by rfl) T.m_int (by decide +kernel) (pa_cons (pe_op op_add (pe_op op_mul (pv 1) pe_int) (pv 2)) pa_nil)) pe_int))))
      (pss_one (ps_ret (pe_lst (pa_cons (pe_lc (own := [("cell", 2)]) (g := gName 2) (tt := tYes) rfl sc_law_state.nd (pi_list (pv 0)) (blkOk_by (N := N__law_state) (sc := defScope s__law_state) (by decide +kernel)) (fun _ _ _ _ _ => (pg_name (i := 2) sc_law_state.nd rfl (Or.inl rfl))) (fun _ _ _ _ _ => pts_nil) (fun _ _ _ _ _ => (pe_callB call_abs (by rfl) T.m_abs (by decide +kernel) (pa_cons (pe_callTy call_int1 (by rfl) T.m_int (by decide +kernel) (pa_cons (pv 2) pa_nil)) pa_nil)))) (pa_cons (pe_op op_add (pv 1) pe_int) pa_nil))))))), ?_⟩
    refine ⟨_, rfl, a, rfl, ⟨_, hS⟩, for_list (xs := vi ns) (fun _ σ H' => ∃ (z : Int) (y : Option V), σ = [some (.ref a), some (.int z), y] ∧ H' = H) ⟨7, none, rfl, rfl⟩ (fun i σ H' _ h => ?_) ?_ ?_⟩
    · obtain ⟨z, y, _, rfl⟩ := h
      exact hS
    · rintro i v σ H' hv ⟨z, y, rfl, rfl⟩
      obtain ⟨n, hn, rfl⟩ := List.mem_map.mp (List.mem_of_getElem? hv)
      refine ⟨_, rfl, _, _, rfl, rfl, .inr ⟨by decide, by decide⟩, _, rfl, _, _, rfl, rfl, .inl ⟨_, rfl, _, _, rfl, rfl, (show (1000003 : Int) ≠ 0 by decide), ?_⟩⟩
      exact ⟨_, _, rfl, rfl⟩
    · rintro σ H' ⟨z, y, rfl, rfl⟩
      refine ⟨_, rfl, a, rfl, ⟨_, hS⟩, fun D hD => lc_list (xs := vi ns) (fun i H'' => Same H' H'' ∧ H'' D = some (.lst (vn ((ns.take i).map Int.natAbs)))) ⟨same_new hD, upd_same⟩ (fun i H'' _ h => h.1.seq hS) ?_ ?_⟩
      · rintro i v H'' hv ⟨sm, hD'⟩
        have hi : i < ns.length := by
          have h := (List.getElem?_eq_some_iff.mp hv).1
          rw [List.length_map] at h
          exact h
        rw [List.getElem?_map, List.getElem?_eq_getElem hi] at hv
        cases hv
        refine ⟨rfl, _, rfl, .inl ⟨_, rfl, _, rfl, _, hD', ?_, same_mut sm hD, ?_⟩⟩
        · rw [vn_len, List.length_map, List.length_take]
          exact small1000 (by omega)
        · rw [upd_same, List.take_add_one, List.getElem?_eq_getElem hi]
          have e : (if ns[i] < 0 then -ns[i] else ns[i]) = ((ns[i].natAbs : Nat) : Int) := by
            by_cases h : ns[i] < 0
            · rw [if_pos h]
              omega
            · rw [if_neg h]
              omega
          rw [e]
          unfold vn
          rw [List.map_append, List.map_append]
          rfl
      · rintro H'' ⟨sm, hD'⟩
        refine ⟨_, rfl, _, _, rfl, rfl, by show 2 ≤ sizeLine; decide, fun p hp => ?_⟩
        have hDp : D ≠ p := fun e => by
          rw [e, hp] at hD'
          cases hD'
        refine q _ p D (same_mut sm (by rcases hq : H' p with _ | o; rfl; rw [sm _ _ hq] at hp; cases hp)) ⟨fun e => hDp e.symm, (ns.take (vi ns).length).map Int.natAbs, z + 1, upd_same, ?_, ?_⟩
        · rw [upd_ne hDp]
          exact hD'
        · rw [List.length_map, List.length_take]
          omega
def sp__law_draw (K : PySem.W.Frag) : Sp := fun vs H Q _ => ∃ (p c : Addr) (n : Nat), vs = [.ref p, .int n] ∧ Dr H p c ∧ 0 < n ∧ n < 1073741824 ∧ ∀ H' (d : Nat), Go p c H H' → d < n → Q (.int d) H'
theorem ok__law_draw {P : Program} {w : World} {K : PySem.W.Frag} {mg : Str → Option Value} {base : Heap} {f  : Addr} {fd  : FuncData} (F : Fun K "_law_draw" "_law_draw" s__law_draw f fd) (T : Txt K mg) :
    FnOk P w K mg base CX0 1 f fd ["state", "many"] (sp__law_draw K) := by
  refine F.ok sc_law_draw (fun vs H Q E h => ?_) (fun cdv A outer s H vs Q E hr h => ?_)
  · obtain ⟨p, c, n, rfl, _⟩ := h
    rfl
  · obtain ⟨p, c, n, rfl, d0, h0, h1, q⟩ := h
    have nz : ((n : Nat) : Int) ≠ 0 := by omega
    have fm : ∀ x : Nat, ((x : Int)).fmod (n : Int) = ((x % n : Nat) : Int) := fun x => by rw [Int.fmod_eq_emod_of_nonneg _ (by omega)]; omega
    obtain ⟨nc, cs0, z0, hp0, hc0, hl0⟩ := d0
    refine ⟨_, (pss_cons (ps_set (i := 2) sc_law_draw.nd rfl (.inl rfl) (pe_ix (r := rIxL K) ix_list (pv 0) pe_int (fun _ _ => rfl)))
      (C8.pss_cut (ps_while PassesOwn.never (PW.pt (pw_and (pt_cmpR op_gt (pe_callB call_len_seq (by rfl) T.m_len (by decide +kernel) (pa_cons (pv 2) pa_nil)) pe_int (nomark _)) (pw_and1 (pt_cmpR op_eq (pe_ix (r := rIxL K) ix_list (pv 2) pe_int (fun _ _ => rfl)) pe_int (nomark _))))) (pss_one (ps_expr (pe_bm PySem.F.plainAttrs_list PySem.F.slot_list_pop PySem.F.type_list_pop mt_popAt (pv 2) (pa_cons pe_int pa_nil)))))
      (pss_cons (ps_if (pt_cmpR op_gt (pe_callB call_len_seq (by rfl) T.m_len (by decide +kernel) (pa_cons (pv 2) pa_nil)) pe_int (nomark _)) (pss_cons (ps_set (i := 3) sc_law_draw.nd rfl (.inl rfl) (pe_ix (r := rIxL K) ix_list (pv 2) pe_int (fun _ _ => rfl)))
      (pss_cons (ps_asg (pe_op op_fdivN (pv 3) (pv 1)) (pg_sub (pv 2) pe_int set_list))
      (pss_one (ps_ret (pe_op op_modN (pe_callTy call_int1 (by rfl) T.m_int (by decide +kernel) (pa_cons (pv 3) pa_nil)) (pv 1)))))) pss_nil)
      (pss_cons (ps_set (i := 4) sc_law_draw.nd rfl (.inl rfl) (pe_op op_modN (pe_callTy call_int1 (by rfl) T.m_int (by decide +kernel) (pa_cons (pe_op op_add (pe_op op_mul (pe_ix (r := rIxL K) ix_list (pv 0) pe_int (fun _ _ => rfl)) pe_int) pe_int) pa_nil)) pe_int))
      (pss_cons (ps_asg (pv 4) (pg_sub (pv 0) pe_int set_list))
      (pss_one (ps_ret (pe_op op_modN (pe_callTy call_int1 (by rfl) T.m_int (by decide +kernel) (pa_cons (pe_op op_fdivN (pv 4) pe_int) pa_nil)) (pv 1))))))))), ?_⟩
    refine ⟨_, rfl, p, _, 0, _, rfl, rfl, SqL.of hp0, atI_nat (j := 0) rfl, ?_⟩
    have go : ∀ (cs : List Nat) (z : Int), cs.length ≤ 63 → Go p c H (upd (upd H c (.lst (vn cs))) p (.lst [.ref c, .int z])) := fun cs z hl =>
      ⟨⟨nc, _, _, hp0, hc0, hl0⟩, ⟨nc, cs, z, upd_same, by rw [upd_ne (fun e => nc e.symm)]; exact upd_same, hl⟩, fun b o hb => by
        obtain ⟨b1, b2, b3⟩ := res_some hb
        rw [res_eq b1 b2, upd_ne b1, upd_ne b2]
        exact b3⟩
    have hpc : ∀ cs : List Nat, (upd H c (.lst (vn cs))) p = some (.lst [.ref c, .int z0]) := fun cs => by
      rw [upd_ne nc]
      exact hp0
    refine ⟨fun σ H' => ∃ cs : List Nat, σ = [some (.ref p), some (.int n), some (.ref c), none, none] ∧ H' = upd H c (.lst (vn cs)) ∧ cs.length ≤ 63, ?_, ?_⟩
    · refine while_by (fun σ H' => ∃ cs : List Nat, σ = [some (.ref p), some (.int n), some (.ref c), none, none] ∧ H' = upd H c (.lst (vn cs)) ∧ cs.length ≤ 63) (fun _ H' => match H' c with | some (.lst xs) => xs.length | _ => 0) ⟨cs0, rfl, (upd_id hc0).symm, hl0⟩ ?_ ?_
      · rintro σ H' ⟨cs, rfl, rfl, hl⟩
        refine ⟨_, rfl, c, _, rfl, .inl (SqL.of upd_same), _, _, rfl, rfl, _, rfl, ?_⟩
        cases cs with
        | nil => exact iteF (iteF ⟨[], rfl, rfl, hl⟩)
        | cons x r =>
          have e : decide ((((vn (x :: r)).length : Nat) : Int) > 0) = true := decide_eq_true (by rw [vn_len, List.length_cons]; omega)
          rw [e]
          refine iteT ?_
          refine ⟨_, rfl, c, _, 0, _, rfl, rfl, SqL.of upd_same, atI_nat (j := 0) rfl, rfl, _, rfl, ?_⟩
          refine ite2 (fun _ => ?_) (fun _ => ⟨x :: r, rfl, rfl, hl⟩)
          refine ⟨_, rfl, .inl ⟨rfl, _, SqL.of upd_same⟩, c, _, 0, 0, _, rfl, rfl, upd_same, by decide, by decide, ?_, rfl, ?_, ?_⟩
          · rw [vn_len, List.length_cons]
            unfold seqIndex?
            simp
          · exact ⟨r, rfl, by rw [upd_upd]; rfl, by rw [List.length_cons] at hl; omega⟩
          · show (match (upd _ c _) c with | some (.lst xs) => xs.length | _ => 0) < (match (upd H c (.lst (vn (x :: r)))) c with | some (.lst xs) => xs.length | _ => 0)
            rw [upd_same, upd_same]
            show ((vn (x :: r)).eraseIdx 0).length < (vn (x :: r)).length
            simp
      · intro σ H' Q Q' hq h
        obtain ⟨x, e1, p', ys, e2, e3, i, j, e4, e5, k, e6, h⟩ := h
        refine ⟨x, e1, p', ys, e2, e3, i, j, e4, e5, k, e6, ?_⟩
        cases k with
        | false => exact iteF (hq _ _ (by rw [if_neg Bool.false_ne_true] at h; exact h))
        | true =>
          rw [if_pos rfl] at h
          obtain ⟨y, f1, l, xs, i2, v, f2, f3, f4, f5, f6, k2, f7, h⟩ := h
          exact iteT ⟨y, f1, l, xs, i2, v, f2, f3, f4, f5, f6, k2, f7, hq _ _ h⟩
    · rintro σ H' ⟨cs, rfl, rfl, hl⟩
      refine ⟨_, rfl, c, _, rfl, .inl (SqL.of upd_same), _, _, rfl, rfl, _, rfl, ?_⟩
      cases cs with
      | nil =>
        refine iteF ?_
        refine ⟨_, rfl, p, _, 1, _, rfl, rfl, SqL.of (hpc []), atI_nat (j := 1) rfl, _, _, rfl, rfl, .inr ⟨by decide, by decide⟩, _, _, rfl, rfl, .inl ⟨_, rfl, _, _, rfl, rfl, (show (2147483647 : Int) ≠ 0 by decide), ?_⟩⟩
        refine ⟨_, rfl, _, rfl, p, _, 1, 1, rfl, rfl, hpc [], rfl, ?_⟩
        have r := emod_range (x := z0 * 48271 + 12345) (show (0 : Int) < 2147483647 by decide)
        refine ⟨_, rfl, _, _, rfl, rfl, ⟨by decide, by decide⟩, .inl ⟨_, rfl, _, rfl, _, _, rfl, rfl, nz, ?_⟩⟩
        obtain ⟨y, hy⟩ : ∃ y : Nat, ((z0 * 48271 + 12345).fmod 2147483647).fdiv 64 = (y : Int) := ⟨_, (Int.toNat_of_nonneg (by
          rw [Int.fdiv_eq_ediv_of_nonneg _ (by decide)]
          omega)).symm⟩
        show Q (V.int ((((z0 * 48271 + 12345).fmod 2147483647).fdiv 64).fmod n)) _
        rw [hy, fm]
        exact q _ _ (go [] _ hl) (Nat.mod_lt _ h0)
      | cons x r =>
        have e : decide ((((vn (x :: r)).length : Nat) : Int) > 0) = true := decide_eq_true (by rw [vn_len, List.length_cons]; omega)
        rw [e]
        refine iteT ?_
        refine ⟨_, rfl, c, _, 0, _, rfl, rfl, SqL.of upd_same, atI_nat (j := 0) rfl, ?_⟩
        refine ⟨_, rfl, _, rfl, _, _, rfl, rfl, ⟨nz, by show ((n : Nat) : Int).natAbs < 1073741824; omega⟩, ?_⟩
        refine ⟨_, rfl, c, _, 0, 0, rfl, rfl, upd_same, ix_nat (j := 0) (by rw [vn_len, List.length_cons]; omega), ?_⟩
        refine ⟨_, rfl, .inl ⟨_, rfl, _, rfl, _, _, rfl, rfl, nz, ?_⟩⟩
        show Q (V.int ((x : Int).fmod n)) _
        rw [fm, upd_upd]
        have ed : (x : Int).fdiv n = ((x / n : Nat) : Int) := by
          rw [Int.fdiv_eq_ediv_of_nonneg _ (by omega)]
          rfl
        show Q _ (upd H c (.lst ((V.int ((x : Int).fdiv n)) :: vn r)))
        rw [ed]
        have g := go (x / n :: r) z0 hl
        rw [upd_id (show (upd H c (.lst (vn (x / n :: r)))) p = _ from hpc _)] at g
        exact q _ _ g (Nat.mod_lt _ h0)
def sp__law_pick (K : PySem.W.Frag) : Sp := fun vs H Q _ => ∃ (p c r : Addr) (xs : List Nat), vs = [.ref p, .ref r] ∧ Dr H p c ∧ r ≠ p ∧ r ≠ c ∧ H r = some (.lst (vn xs)) ∧ 0 < xs.length ∧ xs.length ≤ 1000 ∧ ∀ H' (d : Nat), Go p c H H' → d ∈ xs → Q (.int d) H'
theorem ok__law_pick {P : Program} {w : World} {K : PySem.W.Frag} {mg : Str → Option Value} {base : Heap} {f f_law_draw : Addr} {fd fd_law_draw : FuncData} (F : Fun K "_law_pick" "_law_pick" s__law_pick f fd) (T : Txt K mg)
    (G__law_draw : FnOk P w K mg base CX0 1 f_law_draw fd_law_draw ["state", "many"] (sp__law_draw K)) (D__law_draw : Def K mg "_law_draw" f_law_draw fd_law_draw ["state", "many"]) :
    FnOk P w K mg base CX0 2 f fd ["state", "row"] (sp__law_pick K) := by
  refine F.ok sc_law_pick (fun vs H Q E h => ?_) (fun cdv A outer s H vs Q E hr h => ?_)
  · obtain ⟨p, c, r, xs, rfl, _⟩ := h
    rfl
  · obtain ⟨p, c, r, xs, rfl, d0, n1, n2, hS, hl0, hl1, q⟩ := h
    refine ⟨_, (pss_one (ps_ret (pe_ix (r := rIxL K) ix_list (pv 1) (pe_call G__law_draw (hr.mono (by omega)) (by rfl) D__law_draw.m D__law_draw.k D__law_draw.b .nil pass0 (pa_cons (pv 0) (pa_cons (pe_callB call_len_seq (by rfl) T.m_len (by decide +kernel) (pa_cons (pv 1) pa_nil)) pa_nil))) (fun _ _ => rfl)))), ?_⟩
    refine ⟨_, rfl, _, rfl, _, rfl, r, _, rfl, .inl (SqL.of hS), p, c, xs.length, ?_, d0, hl0, by omega, fun H' d g hd => ?_⟩
    · rw [vn_len]
      rfl
    · exact ⟨r, _, _, _, rfl, rfl, SqL.of (g.get n1 n2 hS), atI_nat (vn_get (List.getElem?_eq_getElem hd)), q _ _ g (List.getElem_mem hd)⟩

/-! ### bits and rows of values -/
def sp__law_bit (K : PySem.W.Frag) : Sp := fun vs H Q _ => ∃ (r : Addr) (row : List Nat) (l : Nat), vs = [.ref r, .int l] ∧ H r = some (.lst (vn row)) ∧ l / 2 < row.length ∧ Q (.int (bitv row l : Nat)) H
theorem ok__law_bit {P : Program} {w : World} {K : PySem.W.Frag} {mg : Str → Option Value} {base : Heap} {f  : Addr} {fd  : FuncData} (F : Fun K "_law_bit" "_law_bit" s__law_bit f fd) (T : Txt K mg) :
    FnOk P w K mg base CX0 1 f fd ["row", "literal"] (sp__law_bit K) := by
  refine F.ok sc_law_bit (fun vs H Q E h => ?_) (fun cdv A outer s H vs Q E hr h => ?_)
  · obtain ⟨r, row, l, rfl, _⟩ := h
    rfl
  · obtain ⟨r, row, l, rfl, hr', hl, q⟩ := h
    refine ⟨_, (pss_one (ps_ret (pe_op op_xor (pe_ix (r := rIxL K) ix_list (pv 0) (pe_op op_fdivN (pv 1) pe_int) (fun _ _ => rfl)) (pe_op op_modN (pe_callTy call_int1 (by rfl) T.m_int (by decide +kernel) (pa_cons (pv 1) pa_nil)) pe_int)))), ?_⟩
    refine ⟨_, rfl, _, rfl, _, _, rfl, rfl, ⟨by decide, by decide⟩, r, _, _, _, rfl, rfl, SqL.of hr', (by rw [nfdiv2]; exact atI_nat (vn_get (List.getElem?_eq_getElem hl))), _, rfl, .inl ⟨_, rfl, _, _, rfl, rfl, (show (2 : Int) ≠ 0 by decide), _, _, rfl, rfl, ?_⟩⟩
    show Q (V.int (Builtin.bitXor ((row[l / 2] : Nat) : Int) (((l : Nat) : Int).fmod 2))) H
    rw [nfmod2, bxor]
    unfold bitv at q
    rw [List.getElem?_eq_getElem hl] at q
    exact q
def sp__law_row (K : PySem.W.Frag) : Sp := fun vs H Q _ => ∃ (v : V) (n : Net) (h b : Addr) (held bits : List Nat), vs = [v, .ref h, .ref b] ∧ Dv H v n ∧ H h = some (.lst (vn held)) ∧ H b = some (.lst (vn bits)) ∧
  held.length = n.starts.length ∧ bits.length = n.ins ∧ (∀ x ∈ held, x < 2) ∧ (∀ x ∈ bits, x < 2) ∧ n.many ≤ 60000 ∧ (∀ j g, n.gates[j]? = some g → g.1 < 2 * (n.base + j) ∧ g.2 < 2 * (n.base + j)) ∧
  ∀ H' q, Same H H' → H q = none → H' q = some (.lst (vn (n.row held bits))) → Q (.ref q) H'
theorem ok__law_row {P : Program} {w : World} {K : PySem.W.Frag} {mg : Str → Option Value} {base : Heap} {f f_law_bit : Addr} {fd fd_law_bit : FuncData} (F : Fun K "_law_row" "_law_row" s__law_row f fd) (T : Txt K mg)
    (G__law_bit : FnOk P w K mg base CX0 1 f_law_bit fd_law_bit ["row", "literal"] (sp__law_bit K)) (D__law_bit : Def K mg "_law_bit" f_law_bit fd_law_bit ["row", "literal"]) :
    FnOk P w K mg base CX0 2 f fd ["net", "held", "bits"] (sp__law_row K) := by
  refine F.ok sc_law_row (fun vs H Q E h => ?_) (fun cdv A outer s H vs Q E hr h => ?_)
  · obtain ⟨v, n, h, b, held, bits, rfl, _⟩ := h
    rfl
  · obtain ⟨v, n, h, b, held, bits, rfl, hn, hh, hb, lh, lb, bh, bb, hm, hg, q⟩ := h
    obtain ⟨a, aS, aG, aN, aO, rfl, hA, hS, hG, hN, hO⟩ := hn.net_inv
    obtain ⟨_, us, e, hGl, hus⟩ := hG.list_inv
    cases e
    unfold Net.many Net.base at hm
    refine ⟨_, (pss_cons (ps_set (i := 3) sc_law_row.nd rfl (.inl rfl) (pe_op op_cat (pe_op op_cat (pe_lst (pa_cons pe_int pa_nil)) (pv 2)) (pv 1)))
      (pss_cons (ps_for PassesOwn.never rfl (pi_list (pe_ix (r := rIxT K) ix_tup (pv 0) pe_int (fun _ _ => rfl))) (pg_tup (by rfl) (pgs_cons (pg_name (i := 4) sc_law_row.nd rfl (Or.inl rfl)) (pgs_cons (pg_name (i := 5) sc_law_row.nd rfl (Or.inl rfl)) pgs_nil))) (pss_one (ps_expr (pe_bm PySem.F.plainAttrs_list PySem.F.slot_list_append PySem.F.type_list_append mt_append (pv 3) (pa_cons (pe_op op_mul (pe_call G__law_bit (hr.mono (by omega)) (by rfl) D__law_bit.m D__law_bit.k D__law_bit.b .nil pass0 (pa_cons (pv 3) (pa_cons (pv 4) pa_nil))) (pe_call G__law_bit (hr.mono (by omega)) (by rfl) D__law_bit.m D__law_bit.k D__law_bit.b .nil pass0 (pa_cons (pv 3) (pa_cons (pv 5) pa_nil)))) pa_nil)))))
      (pss_one (ps_ret (pv 3))))), ?_⟩
    refine ⟨by show 1 ≤ sizeLine; decide, fun l1 n1 => ⟨_, rfl, l1, b, _, _, rfl, rfl, upd_same, (same_new n1) _ _ hb, ?_, fun l2 n2 => ⟨_, rfl, l2, h, _, _, rfl, rfl, upd_same, ((same_new n1).trans (same_new n2)) _ _ hh, ?_, fun l3 n3 => ?_⟩⟩⟩
    · show 1 + (vn bits).length ≤ sizeLine
      rw [vn_len]
      exact Nat.le_of_lt (small64k (by omega))
    · show ([V.int 0] ++ vn bits).length + (vn held).length ≤ sizeLine
      rw [List.length_append, vn_len, vn_len]
      exact Nat.le_of_lt (small64k (by show 1 + _ + _ ≤ _; omega))
    have sm : Same H (upd (upd (upd H l1 (.lst [.int 0])) l2 (.lst ([V.int 0] ++ vn bits))) l3 (.lst ([V.int 0] ++ vn bits ++ vn held))) := ((same_new n1).trans (same_new n2)).trans (same_new n3)
    have e3 : (upd (upd (upd H l1 (.lst [.int 0])) l2 (.lst ([V.int 0] ++ vn bits))) l3 (.lst ([V.int 0] ++ vn bits ++ vn held))) l3 = some (.lst (vn (0 :: bits ++ held))) := by
      rw [upd_same]
      unfold vn
      rw [List.map_append]
      rfl
    have n0 : H l3 = none := by
      cases e : H l3 with
      | none => rfl
      | some o =>
        rw [((same_new n1).trans (same_new n2)) _ _ e] at n3
        cases n3
    generalize (upd (upd (upd H l1 (.lst [.int 0])) l2 (.lst ([V.int 0] ++ vn bits))) l3 (.lst ([V.int 0] ++ vn bits ++ vn held))) = H3 at sm e3 ⊢
    clear n1 n2 n3
    have lr : (0 :: bits ++ held).length = n.base := by
      rw [List.length_append, List.length_cons]
      unfold Net.base
      omega
    have br : ∀ x ∈ 0 :: bits ++ held, x < 2 := by
      intro x hx
      rcases List.mem_append.mp hx with hx | hx
      · rcases List.mem_cons.mp hx with rfl | hx
        · decide
        · exact bb x hx
      · exact bh x hx
    refine ⟨_, rfl, a, _, 3, _, rfl, rfl, SqT.of (sm _ _ hA), atI_nat (j := 3) rfl, aG, rfl, ⟨_, SqL.of (sm _ _ hGl)⟩, for_list (xs := us) (fun j σ H' => ∃ y4 y5 : Option V, σ = [some (.ref a), some (.ref h), some (.ref b), some (.ref l3), y4, y5] ∧ Same H H' ∧ H' l3 = some (.lst (vn (rowOf (n.gates.take j) (0 :: bits ++ held))))) ⟨none, none, rfl, sm, e3⟩ (fun j σ H' _ ⟨_, _, _, s', _⟩ => SqL.of (s' _ _ hGl)) ?_ ?_⟩
    · rintro j u σ H' hu ⟨y4, y5, rfl, s', hp⟩
      obtain ⟨⟨x, y⟩, hg1, hd⟩ := hus.at hu
      obtain ⟨t, u1, u2, rfl, ht, hx, hy⟩ := hd.pair_inv
      have hx := hx.nat_inv
      have hy := hy.nat_inv
      subst hx hy
      have hj : j < n.gates.length := (List.getElem?_eq_some_iff.mp hg1).1
      have hb2 := hg j _ hg1
      have lrow : (rowOf (n.gates.take j) (0 :: bits ++ held)).length = n.base + j := by
        rw [rowOf_len, lr, List.length_take]
        omega
      have b2 := rowOf_lt (gs := n.gates.take j) br
      refine ⟨t, _, rfl, SqT.of (s' _ _ ht), rfl, _, _, rfl, _, _, rfl, rfl, ?_⟩
      refine ⟨_, rfl, .inl ⟨rfl, _, SqL.of hp⟩, _, rfl, _, rfl, l3, _, x, rfl, hp, by rw [lrow]; omega, _, rfl, _, rfl, l3, _, y, rfl, hp, by rw [lrow]; omega, _, _, rfl, rfl, .inl ?_, l3, _, _, rfl, rfl, hp, ?_, ?_⟩
      · have := bitv_lt b2 x
        omega
      · rw [vn_len, lrow]
        exact small64k (by unfold Net.base; omega)
      · refine ⟨some (.int x), some (.int y), rfl, same_mut s' n0, ?_⟩
        rw [upd_same, take_snoc hg1, rowOf_snoc, ← vn_snoc]
        rfl
    · rintro σ H' ⟨y4, y5, rfl, s', hp⟩
      refine ⟨_, rfl, q _ _ s' n0 ?_⟩
      rw [hp, hus.len, List.take_length]
      rfl

end K30
namespace K30
open PySem PySem.Spec PyProof.Rows L2 V0
/-! ### drawn nets, their rows -/
def sp__law_net (K : PySem.W.Frag) : Sp := fun vs H Q _ => ∃ (p c : Addr) (i f m : Nat), vs = [.ref p, .int i, .int f, .int m] ∧ Dr H p c ∧ i ≤ 1000 ∧ f ≤ 1000 ∧ m ≤ 1000 ∧ ∀ H' q (n : Net), Go p c H H' → H q = none → Dv (res p c H') (.ref q) n → n.Ok i f m → Q (.ref q) H'
theorem ok__law_net {P : Program} {w : World} {K : PySem.W.Frag} {mg : Str → Option Value} {base : Heap} {f f_law_draw f_law_pick : Addr} {fd fd_law_draw fd_law_pick : FuncData} (F : Fun K "_law_net" "_law_net" s__law_net f fd) (T : Txt K mg)
    (G__law_draw : FnOk P w K mg base CX0 1 f_law_draw fd_law_draw ["state", "many"] (sp__law_draw K)) (D__law_draw : Def K mg "_law_draw" f_law_draw fd_law_draw ["state", "many"])
    (G__law_pick : FnOk P w K mg base CX0 2 f_law_pick fd_law_pick ["state", "row"] (sp__law_pick K)) (D__law_pick : Def K mg "_law_pick" f_law_pick fd_law_pick ["state", "row"]) :
    FnOk P w K mg base CX0 3 f fd ["state", "ins", "flops", "most"] (sp__law_net K) := by
  refine F.ok sc_law_net (fun vs H Q E h => ?_) (fun cdv A outer s H vs Q E hr h => ?_)
  · obtain ⟨p, c, i, f, m, rfl, _⟩ := h
    rfl
  · obtain ⟨p, c, i, f, m, rfl, d0, hi, hf, hm, q⟩ := h
    refine ⟨_, (pss_cons (ps_set (i := 1) sc_law_net.nd rfl (.inl rfl) (pe_call G__law_draw (hr.mono (by omega)) (by rfl) D__law_draw.m D__law_draw.k D__law_draw.b .nil pass0 (pa_cons (pv 0) (pa_cons (pe_op op_add (pv 1) pe_int) pa_nil))))
      (pss_cons (ps_setLc (i := 5) (own := [("k", 4)]) (g := gName 4) (tt := tYes) rfl sc_law_net.nd rfl rfl (sw_true rfl rfl rfl (by decide +kernel)) (pi_range1 rfl T.m_range (pa_cons (pe_call G__law_draw (hr.mono (by omega)) (by rfl) D__law_draw.m D__law_draw.k D__law_draw.b .nil pass0 (pa_cons (pv 0) (pa_cons (pe_op op_add (pv 2) pe_int) pa_nil))) pa_nil)) (blkOk_by (N := N__law_net) (sc := defScope s__law_net) (by decide +kernel)) (fun _ _ _ _ _ => (pg_name (i := 4) sc_law_net.nd rfl (Or.inl rfl))) (fun _ _ _ _ _ => pts_nil) (fun _ _ _ _ _ => (pe_call G__law_draw (hr.mono (by omega)) (by rfl) D__law_draw.m D__law_draw.k D__law_draw.b .nil pass0 (pa_cons (pv 0) (pa_cons pe_int pa_nil)))))
      (pss_cons (ps_set (i := 6) sc_law_net.nd rfl (.inl rfl) (pe_lst pa_nil))
      (pss_cons (ps_set (i := 7) sc_law_net.nd rfl (.inr rfl) (pe_op op_add (pe_op op_add pe_int (pv 1)) (pe_callB call_len_seq (by rfl) T.m_len (by decide +kernel) (pa_cons (pv 5) pa_nil))))
      (pss_cons (ps_for PassesOwn.never rfl (pi_range1 rfl T.m_range (pa_cons (pe_call G__law_draw (hr.mono (by omega)) (by rfl) D__law_draw.m D__law_draw.k D__law_draw.b .nil pass0 (pa_cons (pv 0) (pa_cons (pe_op op_add (pv 3) pe_int) pa_nil))) pa_nil)) (pg_name (i := 4) sc_law_net.nd rfl (Or.inl rfl)) (pss_cons (ps_set (i := 8) sc_law_net.nd rfl (.inl rfl) (pe_call G__law_pick (hr.mono (by omega)) (by rfl) D__law_pick.m D__law_pick.k D__law_pick.b .nil pass0 (pa_cons (pv 0) (pa_cons (pe_lst (pa_cons pe_int (pa_cons pe_int (pa_cons (pe_callB (call_max2 (by rfl)) (by rfl) T.m_max (by decide +kernel) (pa_cons pe_int (pa_cons (pe_op op_sub (pv 7) pe_int) pa_nil))) pa_nil)))) pa_nil))))
      (pss_cons (ps_expr (pe_bm PySem.F.plainAttrs_list PySem.F.slot_list_append PySem.F.type_list_append mt_append (pv 6) (pa_cons (pe_tup (pa_cons (pe_op op_add (pe_op op_mul pe_int (pv 8)) (pe_call G__law_draw (hr.mono (by omega)) (by rfl) D__law_draw.m D__law_draw.k D__law_draw.b .nil pass0 (pa_cons (pv 0) (pa_cons (pe_op op_mul pe_int (pe_op op_sub (pv 7) (pv 8))) pa_nil)))) (pa_cons (pe_call G__law_draw (hr.mono (by omega)) (by rfl) D__law_draw.m D__law_draw.k D__law_draw.b .nil pass0 (pa_cons (pv 0) (pa_cons (pe_op op_mul pe_int (pv 7)) pa_nil))) pa_nil))) pa_nil)))
      (pss_one (ps_set (i := 7) sc_law_net.nd rfl (.inr rfl) (pe_op op_add (pv 7) pe_int))))))
      (pss_cons (ps_setLc (i := 9) (own := [("k", 4)]) (g := gName 4) (tt := tYes) rfl sc_law_net.nd rfl rfl (sw_true rfl rfl rfl (by decide +kernel)) (pi_list (pv 5)) (blkOk_by (N := N__law_net) (sc := defScope s__law_net) (by decide +kernel)) (fun _ _ _ _ _ => (pg_name (i := 4) sc_law_net.nd rfl (Or.inl rfl))) (fun _ _ _ _ _ => pts_nil) (fun _ _ _ _ _ => (pe_call G__law_draw (hr.mono (by omega)) (by rfl) D__law_draw.m D__law_draw.k D__law_draw.b .nil pass0 (pa_cons (pv 0) (pa_cons (pe_op op_mul pe_int (pv 7)) pa_nil)))))
      (pss_one (ps_ret (pe_tup (pa_cons pe_str (pa_cons (pv 1) (pa_cons (pv 5) (pa_cons (pv 6) (pa_cons (pv 9) (pa_cons (pe_lc (own := [("k", 4)]) (g := gName 4) (tt := tYes) rfl sc_law_net.nd (pi_range1 rfl T.m_range (pa_cons (pe_call G__law_draw (hr.mono (by omega)) (by rfl) D__law_draw.m D__law_draw.k D__law_draw.b .nil pass0 (pa_cons (pv 0) (pa_cons pe_int pa_nil))) pa_nil)) (blkOk_by (N := N__law_net) (sc := defScope s__law_net) (by decide +kernel)) (fun _ _ _ _ _ => (pg_name (i := 4) sc_law_net.nd rfl (Or.inl rfl))) (fun _ _ _ _ _ => pts_nil) (fun _ _ _ _ _ => (pe_call G__law_draw (hr.mono (by omega)) (by rfl) D__law_draw.m D__law_draw.k D__law_draw.b .nil pass0 (pa_cons (pv 0) (pa_cons (pe_op op_mul pe_int (pv 7)) pa_nil))))) pa_nil))))))))))))))), ?_⟩
    refine ⟨_, rfl, _, rfl, _, _, rfl, rfl, p, c, i + 1, rfl, d0, by omega, by omega, fun H1 ins g1 h1 => ?_⟩
    -- starts
    refine ⟨_, rfl, _, rfl, _, _, rfl, rfl, p, c, f + 1, rfl, g1.b, by omega, by omega, fun H2 fl g2 h2 => ⟨_, rfl, by omega, by omega, fun pS nS => lc_range (n := fl) (fun j H' => ∃ bs : List Nat, Go p c H2 H' ∧ H' pS = some (.lst (vn bs)) ∧ bs.length = j ∧ ∀ b ∈ bs, b < 2) ⟨[], Go.of g2.b (same_new nS), upd_same, rfl, by simp⟩ ?_ ?_⟩⟩
    · rintro j H' hj ⟨bs, g, hp, hl, hb⟩
      refine ⟨rfl, _, rfl, p, c, 2, rfl, g.b, by decide, by decide, fun H'' d g' hd => ⟨_, g'.get' g2.b nS hp, by rw [vn_len]; exact small64k (by omega), bs ++ [d], (g.trans g').mut nS, ?_, by rw [List.length_append, hl]; rfl, ?_⟩⟩
      · rw [upd_same]
        unfold vn
        rw [List.map_append]
        rfl
      · intro b hb'
        rcases List.mem_append.mp hb' with h | h
        · exact hb b h
        · rw [List.mem_singleton.mp h]
          exact hd
    rintro H3 ⟨bs, g3, hS3, hlS, hbS⟩
    have oS := g2.b.off nS
    -- gates, many
    refine ⟨by show 0 ≤ sizeLine; decide, fun pG nG => ?_⟩
    have oG := g3.b.off nG
    have nSG : pS ≠ pG := ne_of_none hS3 nG
    have g4 : Go p c H (upd H3 pG (.lst [])) := ((g1.trans g2).trans g3).more (same_new nG)
    refine ⟨_, rfl, _, _, rfl, rfl, _, rfl, pS, _, rfl, .inl (SqL.of ((same_new nG) _ _ hS3)), _, _, rfl, rfl, ?_⟩
    have eB : (1 : Int) + (ins : Int) + ((vn bs).length : Int) = ((1 + ins + fl : Nat) : Int) := by
      rw [vn_len, hlS]
      omega
    refine ⟨_, rfl, _, rfl, _, _, rfl, rfl, p, c, m + 1, rfl, g4.b, by omega, by omega, fun H5 mg g5 hmg => ⟨_, rfl, by omega, by omega, for_range (n := mg) (fun j σ H' => ∃ (y4 y8 : Option V) (us : List V) (gs : List (Nat × Nat)), σ = [some (.ref p), some (.int ins), some (.int f), some (.int m), y4, some (.ref pS), some (.ref pG), some (.int ((1 + ins + fl + j : Nat) : Int)), y8, none] ∧ Go p c H H' ∧ H' pS = some (.lst (vn bs)) ∧ H' pG = some (.lst us) ∧ Dvs (hid pG (res p c H')) us gs ∧ gs.length = j ∧ ∀ k g, gs[k]? = some g → g.1 < 2 * (1 + ins + fl + k) ∧ g.2 < 2 * (1 + ins + fl + k)) ⟨none, none, [], [], ?_, g4.trans g5, g5.get oS.1 oS.2 ((same_new nG) _ _ hS3), g5.get oG.1 oG.2 upd_same, .nil, rfl, by simp⟩ ?_ ?_⟩⟩
    · show [some (V.ref p), some (V.int ins), some (V.int f), some (V.int m), none, some (V.ref pS), some (V.ref pG), some (V.int ((1 : Int) + (ins : Int) + ((vn bs).length : Int))), none, none] = _
      rw [eB]
      rfl
    · rintro j σ H' hj ⟨y4, y8, us, gs, rfl, g, hS, hG, hus, hlg, hgs⟩
      -- low
      refine ⟨_, rfl, _, rfl, _, _, rfl, rfl, _, _, rfl, by show 3 ≤ sizeLine; decide, fun l nl => ?_⟩
      obtain ⟨x, ex⟩ : ∃ x : Nat, (if ((1 + ins + fl + j : Nat) : Int) - 3 > 0 then ((1 + ins + fl + j : Nat) : Int) - 3 else 0) = (x : Int) ∧ x < 1 + ins + fl + j := by
        by_cases h : ((1 + ins + fl + j : Nat) : Int) - 3 > 0
        · rw [if_pos h]
          exact ⟨1 + ins + fl + j - 3, by omega, by omega⟩
        · rw [if_neg h]
          exact ⟨0, rfl, by omega⟩
      have ol := g.b.off nl
      refine ⟨p, c, l, [0, 0, x], rfl, g.b.same (same_new nl), ol.1, ol.2, ?_, by show 0 < 3; decide, by show 3 ≤ 1000; decide, fun H6 low g6 hlow => ?_⟩
      · rw [upd_same]
        show some (HO.lst [V.int 0, V.int 0, V.int (if ((1 + ins + fl + j : Nat) : Int) - 3 > 0 then ((1 + ins + fl + j : Nat) : Int) - 3 else 0)]) = _
        rw [ex.1]
        rfl
      have hlow' : low < 1 + ins + fl + j := by
        simp only [List.mem_cons, List.not_mem_nil, or_false] at hlow
        rcases hlow with rfl | rfl | rfl <;> omega
      have g7 : Go p c H' H6 := (Go.of g.b (same_new nl)).trans g6
      -- gates.append((2 * low + draw(2 * (many - low)), draw(2 * many)))
      refine ⟨_, rfl, .inl ⟨rfl, _, SqL.of (g7.get oG.1 oG.2 hG)⟩, ?_⟩
      refine ⟨_, rfl, _, _, rfl, rfl, .inl ⟨by decide, by decide⟩, _, rfl, _, rfl, _, rfl, _, _, rfl, rfl, _, _, rfl, rfl, .inl ⟨by decide, by decide⟩, p, c, 2 * (1 + ins + fl + j - low), ?_, g6.b, by omega, by omega, fun H7 d1 g8 hd1 => ⟨_, _, rfl, rfl, _, rfl, _, rfl, _, _, rfl, rfl, .inl ⟨by decide, by decide⟩, p, c, 2 * (1 + ins + fl + j), ?_, g8.b, by omega, by omega, fun H8 d2 g9 hd2 => ⟨by show 2 ≤ sizeLine; decide, fun t nt => ?_⟩⟩⟩
      · show [V.ref p, V.int (2 * (((1 + ins + fl + j : Nat) : Int) - (low : Int)))] = _
        rw [show (2 * (((1 + ins + fl + j : Nat) : Int) - (low : Int))) = ((2 * (1 + ins + fl + j - low) : Nat) : Int) by omega]
      · rfl
      have g10 : Go p c H' H8 := (g7.trans g8).trans g9
      have ntG : t ≠ pG := ne_of_none (g10.get oG.1 oG.2 hG) nt |>.symm
      have ot := g10.b.off nt
      refine ⟨pG, us, _, rfl, rfl, by rw [upd_ne ntG.symm]; exact g10.get oG.1 oG.2 hG, ?_, ?_⟩
      · rw [hus.len, hlg]
        exact small64k (by omega)
      refine ⟨_, rfl, _, _, rfl, rfl, ?_⟩
      have g11 : Go p c H' (upd H8 t (.tup [.int (2 * (low : Int) + (d1 : Int)), .int d2])) := g10.more (same_new nt)
      refine ⟨some (.int (0 + (j : Int))), some (.int low), us ++ [.ref t], gs ++ [(2 * low + d1, d2)], rfl, ?_, ?_, upd_same, ?_, by rw [List.length_append, hlg]; rfl, ?_⟩
      · exact (g.trans g11).mut (((g1.trans g2).trans g3).none nG)
      · rw [upd_ne nSG]
        exact g11.get oS.1 oS.2 hS
      · refine ((hus.same (hid_mono g11.s)).same hid_res_mut).app (.cons (.pair (hid_of ntG (res_of ot.1 ot.2 (by rw [upd_ne ntG]; exact upd_same))) (Dv.nat (2 * low + d1)) (Dv.nat d2)) .nil)
      · intro k g' hk
        rcases get_snoc hk with ⟨_, h⟩ | ⟨rfl, rfl⟩
        · exact hgs k g' h
        · rw [hlg]
          exact ⟨by show 2 * low + d1 < _; omega, hd2⟩
    · rintro σ H6 ⟨y4, y8, us, gs, rfl, g, hS, hG, hus, hlg, hgs⟩
      -- nexts
      refine ⟨_, rfl, pS, rfl, ⟨_, SqL.of hS⟩, fun pN nN => lc_list (xs := vn bs) (fun j H' => ∃ xs : List Nat, Go p c H6 H' ∧ H' pN = some (.lst (vn xs)) ∧ xs.length = j ∧ ∀ x ∈ xs, x < 2 * (1 + ins + fl + mg)) ⟨[], Go.of g.b (same_new nN), upd_same, rfl, by simp⟩ (fun j H' _ h => ?_) ?_ ?_⟩
      · obtain ⟨xs, g', _⟩ := h
        exact SqL.of (g'.get oS.1 oS.2 hS)
      · rintro j v H' hv ⟨xs, g', hp, hl, hx⟩
        have hj : j < bs.length := by
          have h := (List.getElem?_eq_some_iff.mp hv).1
          rw [vn_len] at h
          exact h
        refine ⟨rfl, _, rfl, _, rfl, _, _, rfl, rfl, .inl ⟨by decide, by decide⟩, p, c, 2 * (1 + ins + fl + mg), rfl, g'.b, by omega, by omega, fun H'' d g'' hd => ⟨_, g''.get' g.b nN hp, by rw [vn_len]; exact small64k (by omega), xs ++ [d], (g'.trans g'').mut nN, ?_, by rw [List.length_append, hl]; rfl, mem_snoc hx hd⟩⟩
        rw [upd_same, vn_snoc]
      · rintro H7 ⟨xs, g7, hN, hlN, hxN⟩
        rw [vn_len] at hlN
        have oN := g.b.off nN
        -- outs and the net
        refine ⟨_, rfl, _, rfl, _, rfl, _, rfl, _, rfl, p, c, 4, rfl, g7.b, by decide, by decide, fun H8 no g8 hno => ⟨_, rfl, by omega, by omega, fun pO nO => lc_range (n := no) (fun j H' => ∃ os : List Nat, Go p c H8 H' ∧ H' pO = some (.lst (vn os)) ∧ os.length = j ∧ ∀ x ∈ os, x < 2 * (1 + ins + fl + mg)) ⟨[], Go.of g8.b (same_new nO), upd_same, rfl, by simp⟩ ?_ ?_⟩⟩
        · rintro j H' hj ⟨os, g', hp, hl, hx⟩
          refine ⟨rfl, _, rfl, _, rfl, _, _, rfl, rfl, .inl ⟨by decide, by decide⟩, p, c, 2 * (1 + ins + fl + mg), rfl, g'.b, by omega, by omega, fun H'' d g'' hd => ⟨_, g''.get' g8.b nO hp, by rw [vn_len]; exact small64k (by omega), os ++ [d], (g'.trans g'').mut nO, ?_, by rw [List.length_append, hl]; rfl, mem_snoc hx hd⟩⟩
          rw [upd_same, vn_snoc]
        · rintro H9 ⟨os, g9, hO, hlO, hxO⟩
          have oO := g8.b.off nO
          refine ⟨by show 6 ≤ sizeLine; decide, fun t nt => ?_⟩
          have ot := g9.b.off nt
          have gE : Go p c H6 (upd H9 t (.tup [.str "net", .int ins, .ref pS, .ref pG, .ref pN, .ref pO])) := ((g7.trans g8).trans g9).more (same_new nt)
          have gT := same_new (o := .tup [.str "net", .int ins, .ref pS, .ref pG, .ref pN, .ref pO]) nt
          refine q _ t ⟨ins, bs, gs, xs, os⟩ (g.trans gE) ((g.trans ((g7.trans g8).trans g9)).none nt) (.net (res_of ot.1 ot.2 upd_same) ?_ ?_ ?_ ?_) ?_
          · exact .natl (res_of oS.1 oS.2 (gE.get oS.1 oS.2 hS))
          · exact .list (res_of oG.1 oG.2 (gE.get oG.1 oG.2 hG)) ((hus.same (hid_same _ _)).same gE.s)
          · exact .natl (res_of oN.1 oN.2 (gT _ _ ((g8.trans g9).get oN.1 oN.2 hN)))
          · exact .natl (res_of oO.1 oO.2 (gT _ _ hO))
          · have eb : Net.base ⟨ins, bs, gs, xs, os⟩ = 1 + ins + fl := by
              show 1 + ins + bs.length = _
              rw [hlS]
            have em : Net.many ⟨ins, bs, gs, xs, os⟩ = 1 + ins + fl + mg := by
              show 1 + ins + bs.length + gs.length = _
              rw [hlS, hlg]
            refine ⟨by show ins ≤ i; omega, by show bs.length ≤ f; omega, hbS, by show gs.length ≤ m; omega, ?_, hlN, ?_, by show os.length ≤ 3; omega, ?_⟩
            · rw [eb]
              exact hgs
            · rw [em]
              exact hxN
            · rw [em]
              exact hxO

end K30
namespace K30
open PySem PySem.Spec PyProof.Rows L2 V0
/-! ### base_of -/
def sp_base_of (K : PySem.W.Frag) : Sp := fun vs H Q _ => ∃ (v : V) (n : Net), vs = [v] ∧ Dv H v n ∧ Q (.int (n.base : Nat)) H
theorem ok_base_of {P : Program} {w : World} {K : PySem.W.Frag} {mg : Str → Option Value} {base : Heap} {f  : Addr} {fd  : FuncData} (F : Fun K "base_of" "base_of" s_base_of f fd) (T : Txt K mg) :
    FnOk P w K mg base CX0 1 f fd ["net"] (sp_base_of K) := by
  refine F.ok scbase_of (fun vs H Q E h => ?_) (fun cdv A outer s H vs Q E hr h => ?_)
  · obtain ⟨l, n, rfl, _⟩ := h
    rfl
  · obtain ⟨v, n, rfl, hn, q⟩ := h
    obtain ⟨a, aS, aG, aN, aO, rfl, hA, hS, hG, hN, hO⟩ := hn.net_inv
    obtain ⟨_, e, hS⟩ := hS.natl_inv
    cases e
    refine ⟨_, (pss_one (ps_ret (pe_op op_add (pe_op op_add pe_int (pe_ix (r := rIxT K) ix_tup (pv 0) pe_int (fun _ _ => rfl))) (pe_callB call_len_seq (by rfl) T.m_len (by decide +kernel) (pa_cons (pe_ix (r := rIxT K) ix_tup (pv 0) pe_int (fun _ _ => rfl)) pa_nil))))), ?_⟩
    refine ⟨_, rfl, a, _, 1, _, rfl, rfl, SqT.of hA, atI_nat (j := 1) rfl, _, _, rfl, rfl, _, rfl, a, _, 2, _, rfl, rfl, SqT.of hA, atI_nat (j := 2) rfl, aS, _, rfl, .inl (SqL.of hS), _, _, rfl, rfl, ?_⟩
    show Q (V.int ((1 : Int) + (n.ins : Int) + ((vn n.starts).length : Int))) H
    rw [vn_len]
    exact q

/-! ### the faults of nets: there is none -/
structure Kind (n : Net) : Prop where
  bits : ∀ b ∈ n.starts, b < 2
  g : ∀ j g, n.gates[j]? = some g → g.1 < 2 * (n.base + j) ∧ g.2 < 2 * (n.base + j)
  nl : n.nexts.length = n.starts.length
  nx : ∀ x ∈ n.nexts, x < 2 * n.many
  ox : ∀ x ∈ n.outs, x < 2 * n.many
theorem kind_of {n : Net} {i f m : Nat} (h : n.Ok i f m) : Kind n := ⟨h.bits, h.g, h.nl, h.nx, h.ox⟩
def sp_many_nodes (K : PySem.W.Frag) : Sp := fun vs H Q _ => ∃ (v : V) (n : Net), vs = [v] ∧ Dv H v n ∧ Q (.int (n.many : Nat)) H
theorem ok_many_nodes {P : Program} {w : World} {K : PySem.W.Frag} {mg : Str → Option Value} {base : Heap} {f fbase_of : Addr} {fd fdbase_of : FuncData} (F : Fun K "many_nodes" "many_nodes" s_many_nodes f fd) (T : Txt K mg)
    (G_base_of : FnOk P w K mg base CX0 1 fbase_of fdbase_of ["net"] (sp_base_of K)) (D_base_of : Def K mg "base_of" fbase_of fdbase_of ["net"]) :
    FnOk P w K mg base CX0 2 f fd ["net"] (sp_many_nodes K) := by
  refine F.ok scmany_nodes (fun vs H Q E h => ?_) (fun cdv A outer s H vs Q E hr h => ?_)
  · obtain ⟨l, n, rfl, _⟩ := h
    rfl
  · obtain ⟨v, n, rfl, hn, q⟩ := h
    have hn0 := hn
    obtain ⟨a, aS, aG, aN, aO, rfl, hA, hS, hG, hN, hO⟩ := hn.net_inv
    obtain ⟨_, us, e, hGl, hus⟩ := hG.list_inv
    cases e
    refine ⟨_, (pss_one (ps_ret (pe_op op_add (pe_call G_base_of (hr.mono (by omega)) (by rfl) D_base_of.m D_base_of.k D_base_of.b .nil pass0 (pa_cons (pv 0) pa_nil)) (pe_callB call_len_seq (by rfl) T.m_len (by decide +kernel) (pa_cons (pe_ix (r := rIxT K) ix_tup (pv 0) pe_int (fun _ _ => rfl)) pa_nil))))), ?_⟩
    refine ⟨_, rfl, .ref a, n, rfl, hn0, _, rfl, a, _, 3, _, rfl, rfl, SqT.of hA, atI_nat (j := 3) rfl, aG, _, rfl, .inl (SqL.of hGl), _, _, rfl, rfl, ?_⟩
    show Q (V.int ((n.base : Int) + (us.length : Int))) H
    rw [hus.len]
    exact q
def sp_fault_of (K : PySem.W.Frag) : Sp := fun vs H Q _ => ∃ (v : V) (n : Net), vs = [v] ∧ Dv H v n ∧ Kind n ∧ ∀ H', Same H H' → Q .non H'
theorem ok_fault_of {P : Program} {w : World} {K : PySem.W.Frag} {mg : Str → Option Value} {base : Heap} {f fbase_of fmany_nodes : Addr} {fd fdbase_of fdmany_nodes : FuncData} (F : Fun K "fault_of" "fault_of" s_fault_of f fd) (T : Txt K mg)
    (G_base_of : FnOk P w K mg base CX0 1 fbase_of fdbase_of ["net"] (sp_base_of K)) (D_base_of : Def K mg "base_of" fbase_of fdbase_of ["net"])
    (G_many_nodes : FnOk P w K mg base CX0 2 fmany_nodes fdmany_nodes ["net"] (sp_many_nodes K)) (D_many_nodes : Def K mg "many_nodes" fmany_nodes fdmany_nodes ["net"]) :
    FnOk P w K mg base CX0 3 f fd ["net"] (sp_fault_of K) := by
  refine F.ok scfault_of (fun vs H Q E h => ?_) (fun cdv A outer s H vs Q E hr h => ?_)
  · obtain ⟨l, n, rfl, _⟩ := h
    rfl
  · obtain ⟨v, n, rfl, hn, kd, q⟩ := h
    have hn0 := hn
    obtain ⟨a, aS, aG, aN, aO, rfl, hA, hS, hG, hN, hO⟩ := hn.net_inv
    obtain ⟨_, us, e, hGl, hus⟩ := hG.list_inv
    cases e
    obtain ⟨_, e, hS⟩ := hS.natl_inv
    cases e
    obtain ⟨_, e, hN⟩ := hN.natl_inv
    cases e
    obtain ⟨_, e, hO⟩ := hO.natl_inv
    cases e
    refine ⟨_, (pss_cons (ps_asg (pv 0) (pg_tup (by rfl) (pgs_cons (pg_name (i := 1) scfault_of.nd rfl (Or.inl rfl)) (pgs_cons (pg_name (i := 1) scfault_of.nd rfl (Or.inl rfl)) (pgs_cons (pg_name (i := 2) scfault_of.nd rfl (Or.inl rfl)) (pgs_cons (pg_name (i := 3) scfault_of.nd rfl (Or.inl rfl)) (pgs_cons (pg_name (i := 4) scfault_of.nd rfl (Or.inl rfl)) (pgs_cons (pg_name (i := 5) scfault_of.nd rfl (Or.inl rfl)) pgs_nil))))))))
      (pss_cons (ps_set (i := 6) scfault_of.nd rfl (.inr rfl) (pe_call G_base_of (hr.mono (by omega)) (by rfl) D_base_of.m D_base_of.k D_base_of.b .nil pass0 (pa_cons (pv 0) pa_nil)))
      (pss_cons (ps_for PassesOwn.never rfl (pi_enum (by rfl) T.m_enumerate (pa_cons (pv 2) pa_nil)) (pg_tup (by rfl) (pgs_cons (pg_name (i := 7) scfault_of.nd rfl (Or.inr rfl)) (pgs_cons (pg_name (i := 8) scfault_of.nd rfl (Or.inl rfl)) pgs_nil))) (pss_one (ps_if (pt_cmpR (r := rIn K true) op_notIn_seq (pv 8) (pe_tup (pa_cons pe_int (pa_cons pe_int pa_nil))) (by rfl)) (pss_one V0.ps_never) pss_nil)))
      (pss_cons (ps_for PassesOwn.never rfl (pi_enum (by rfl) T.m_enumerate (pa_cons (pv 3) pa_nil)) (pg_tup (by rfl) (pgs_cons (pg_name (i := 7) scfault_of.nd rfl (Or.inr rfl)) (pgs_cons (pg_name (i := 9) scfault_of.nd rfl (Or.inl rfl)) pgs_nil))) (pss_one (ps_if (pt_val (pe_callB (cr_any (by rfl)) (by rfl) T.m_any (by decide +kernel) (pa_cons (pe_lc (own := [("literal", 10)]) (g := gName 10) (tt := tYes) rfl scfault_of.nd (pi_tup (pv 9)) (blkOk_by (N := N_fault_of) (sc := defScope s_fault_of) (by decide +kernel)) (fun _ _ _ _ _ => (pg_name (i := 10) scfault_of.nd rfl (Or.inl rfl))) (fun _ _ _ _ _ => pts_nil) (fun _ _ _ _ _ => (pe_or (pe_cmpR op_lt (pv 10) pe_int (nomark _)) (pe_one (pe_cmpR op_ge (pv 10) (pe_op op_mul pe_int (pe_op op_add (pv 6) (pv 7))) (nomark _)))))) pa_nil))) (pss_one V0.ps_never) pss_nil)))
      (pss_cons (ps_if (pt_cmpR op_ne (pe_callB call_len_seq (by rfl) T.m_len (by decide +kernel) (pa_cons (pv 4) pa_nil)) (pe_callB call_len_seq (by rfl) T.m_len (by decide +kernel) (pa_cons (pv 2) pa_nil)) (nomark _)) (pss_one V0.ps_never) pss_nil)
      (pss_cons (ps_for PassesOwn.never rfl (pi_tup (pe_tup (pa_cons (pe_tup (pa_cons pe_str (pa_cons (pv 4) pa_nil))) (pa_cons (pe_tup (pa_cons pe_str (pa_cons (pv 5) pa_nil))) pa_nil)))) (pg_tup (by rfl) (pgs_cons (pg_name (i := 11) scfault_of.nd rfl (Or.inl rfl)) (pgs_cons (pg_name (i := 12) scfault_of.nd rfl (Or.inl rfl)) pgs_nil))) (pss_one (ps_for PassesOwn.never rfl (pi_enum (by rfl) T.m_enumerate (pa_cons (pv 12) pa_nil)) (pg_tup (by rfl) (pgs_cons (pg_name (i := 7) scfault_of.nd rfl (Or.inr rfl)) (pgs_cons (pg_name (i := 10) scfault_of.nd rfl (Or.inl rfl)) pgs_nil))) (pss_one (ps_if (PW.pt (pw_or (pt_cmpR op_lt (pv 10) pe_int (nomark _)) (pw_or1 (pt_cmpR op_ge (pv 10) (pe_op op_mul pe_int (pe_call G_many_nodes (hr.mono (by omega)) (by rfl) D_many_nodes.m D_many_nodes.k D_many_nodes.b .nil pass0 (pa_cons (pv 0) pa_nil))) (nomark _))))) (pss_one V0.ps_never) pss_nil)))))
      (pss_one (ps_ret pe_non)))))))), ?_⟩
    refine ⟨_, rfl, a, _, rfl, SqT.of hA, rfl, _, _, rfl, _, _, rfl, _, _, rfl, _, _, rfl, _, _, rfl, _, _, rfl, rfl, ?_⟩
    refine ⟨_, rfl, .ref a, n, rfl, hn0, ?_⟩
    -- starts
    refine ⟨_, rfl, aS, _, rfl, SqL.of hS, for_it walk_enum (fun i σ Hx => ∃ y7 y8 : Option V, σ = [some (.ref a), some (.int (n.ins : Nat)), some (.ref aS), some (.ref aG), some (.ref aN), some (.ref aO), some (.int (n.base : Nat)), y7, y8, none, none, none, none] ∧ Same H Hx) ⟨none, none, rfl, fun _ _ h => h⟩ (fun i σ Hx _ ⟨_, _, _, s'⟩ => SqL.of (s' _ _ hS)) ?_ ?_⟩
    · rintro i v σ Hx Hx' hi ⟨y7, y8, rfl, sx⟩ ⟨T1, x, y, rfl, nT, rfl, ex, ey⟩
      cases ex
      rw [vn_len] at hi
      have hx := List.getElem?_eq_getElem hi
      have ey : (vn n.starts)[i]? = some y := ey
      rw [vn_get hx] at ey
      cases ey
      have hb := kd.bits _ (List.getElem_mem hi)
      have sT := same_new (o := .tup [.int (i : Nat), .int ((n.starts[i] : Nat) : Int)]) nT
      refine ⟨T1, _, rfl, SqT.of upd_same, rfl, _, _, rfl, _, _, rfl, rfl, ?_⟩
      refine ⟨_, rfl, by show 2 ≤ sizeLine; decide, fun T2 nT2 => ?_⟩
      refine ⟨T2, _, rfl, .inr (SqT.of upd_same), rfl, rfl, _, rfl, ?_⟩
      show if (if true = true then !inV (.int ((n.starts[i] : Nat) : Int)) (vn [0, 1]) else inV (.int ((n.starts[i] : Nat) : Int)) (vn [0, 1])) = true then _ else _
      rw [if_pos rfl, inV_vn, decide_eq_true (show n.starts[i] ∈ [0, 1] by simp; omega)]
      refine iteF ⟨_, _, rfl, sx.trans (sT.trans (same_new nT2))⟩
    rintro σ Hx ⟨y7, y8, rfl, sx⟩
    -- gates
    refine ⟨_, rfl, aG, _, rfl, SqL.of (sx _ _ hGl), for_it walk_enum (fun i σ Hx => ∃ y7 y8 y9 y10 : Option V, σ = [some (.ref a), some (.int (n.ins : Nat)), some (.ref aS), some (.ref aG), some (.ref aN), some (.ref aO), some (.int (n.base : Nat)), y7, y8, y9, y10, none, none] ∧ Same H Hx) ⟨_, _, _, _, rfl, sx⟩ (fun i σ Hx _ ⟨_, _, _, _, _, s'⟩ => SqL.of (s' _ _ hGl)) ?_ ?_⟩
    · rintro i v σ Hx Hx' hi ⟨y7, y8, y9, y10, rfl, sx⟩ ⟨T1, x, y, rfl, nT, rfl, ex, ey⟩
      cases ex
      have ey : us[i]? = some y := ey
      obtain ⟨g, hg, hd⟩ := hus.at ey
      obtain ⟨t, u1, u2, rfl, ht, hx1, hx2⟩ := hd.pair_inv
      have hx1 := hx1.nat_inv
      have hx2 := hx2.nat_inv
      subst hx1 hx2
      have hb := kd.g i g hg
      have sT := same_new (o := .tup [.int (i : Nat), .ref t]) nT
      have sy := sx.trans sT
      refine ⟨T1, _, rfl, SqT.of upd_same, rfl, _, _, rfl, _, _, rfl, rfl, ?_⟩
      refine ⟨_, rfl, t, rfl, ⟨_, SqT.of (sy _ _ ht)⟩, fun D nD => lc_tup (xs := [.int (g.1 : Int), .int (g.2 : Int)]) (fun j Hz => Same (upd Hx T1 (.tup [.int (i : Nat), .ref t])) Hz ∧ Hz D = some (.lst ((List.replicate j false).map V.bl))) ⟨same_new nD, upd_same⟩ (fun j Hz _ h => SqT.of (h.1 _ _ (sy _ _ ht))) ?_ ?_⟩
      · rintro j v Hz hv ⟨sz, hp⟩
        obtain ⟨l, rfl, hl, hj2⟩ : ∃ l : Nat, v = V.int (l : Int) ∧ l < 2 * (n.base + i) ∧ j < 2 := by
          have hj : j = 0 ∨ j = 1 := by
            have h : j < 2 := (List.getElem?_eq_some_iff.mp hv).1
            omega
          rcases hj with rfl | rfl
          · cases hv
            exact ⟨g.1, rfl, hb.1, by decide⟩
          · cases hv
            exact ⟨g.2, rfl, hb.2, by decide⟩
        refine ⟨rfl, _, rfl, _, _, rfl, rfl, _, rfl, ?_⟩
        rw [decide_eq_false (show ¬ (l : Int) < 0 by omega)]
        refine iteF ?_
        refine ⟨_, rfl, _, rfl, _, rfl, _, _, rfl, rfl, _, _, rfl, rfl, .inl ⟨by decide, by decide⟩, _, _, rfl, rfl, ?_⟩
        refine ⟨_, hp, by rw [List.length_map, List.length_replicate]; exact small1000 (by omega), same_mut sz nD, ?_⟩
        rw [upd_same]
        show some (HO.lst (_ ++ [V.bl (decide ((l : Int) ≥ 2 * ((n.base : Int) + (i : Int))))])) = _
        rw [decide_eq_false (show ¬ (l : Int) ≥ 2 * ((n.base : Int) + (i : Int)) by omega), List.replicate_succ', List.map_append]
        rfl
      · rintro Hz ⟨sz, hp⟩
        refine ⟨D, _, rfl, SqL.of hp, _, rfl, ?_⟩
        rw [show (List.replicate [V.int (g.1 : Int), V.int (g.2 : Int)].length false).any id = false from rfl]
        exact iteF ⟨_, _, _, _, rfl, sy.trans sz⟩
    rintro σ Hx ⟨y7, y8, y9, y10, rfl, sx⟩
    refine ⟨_, rfl, aN, _, rfl, .inl (SqL.of (sx _ _ hN)), _, rfl, aS, _, rfl, .inl (SqL.of (sx _ _ hS)), rfl, _, rfl, ?_⟩
    rw [show (!decide (V.int ((vn n.nexts).length : Nat) = V.int ((vn n.starts).length : Nat))) = false by rw [vn_len, vn_len, kd.nl, decide_eq_true rfl]; rfl]
    refine iteF ?_
    -- nexts, outs
    refine ⟨_, rfl, by show 2 ≤ sizeLine; decide, fun t1 nt1 => ?_⟩
    have s1 := sx.trans (same_new (o := .tup [.str "next", .ref aN]) nt1)
    have e1 : (upd Hx t1 (.tup [.str "next", .ref aN])) t1 = some (.tup [.str "next", .ref aN]) := upd_same
    generalize (upd Hx t1 (.tup [.str "next", .ref aN])) = H1 at s1 e1 ⊢
    refine ⟨_, rfl, by show 2 ≤ sizeLine; decide, fun t2 nt2 => ?_⟩
    have s2 := same_new (o := .tup [.str "out", .ref aO]) nt2
    have e2 : (upd H1 t2 (.tup [.str "out", .ref aO])) t2 = some (.tup [.str "out", .ref aO]) := upd_same
    have e1 := s2 _ _ e1
    have s2 := s1.trans s2
    generalize (upd H1 t2 (.tup [.str "out", .ref aO])) = H2 at s2 e2 e1 ⊢
    refine ⟨by show 2 ≤ sizeLine; decide, fun t3 nt3 => ?_⟩
    have s3 := same_new (o := .tup [.ref t1, .ref t2]) nt3
    have e3 : (upd H2 t3 (.tup [.ref t1, .ref t2])) t3 = some (.tup [.ref t1, .ref t2]) := upd_same
    have e1 := s3 _ _ e1
    have e2 := s3 _ _ e2
    have s3 := s2.trans s3
    generalize (upd H2 t3 (.tup [.ref t1, .ref t2])) = H3 at s3 e3 e1 e2 ⊢
    refine ⟨t3, rfl, ⟨_, SqT.of e3⟩, for_tup (xs := [.ref t1, .ref t2]) (fun j σ Hy => ∃ y7 y8 y9 y10 y11 y12 : Option V, σ = [some (.ref a), some (.int (n.ins : Nat)), some (.ref aS), some (.ref aG), some (.ref aN), some (.ref aO), some (.int (n.base : Nat)), y7, y8, y9, y10, y11, y12] ∧ Same H3 Hy) ⟨_, _, _, _, _, _, rfl, fun _ _ h => h⟩ (fun j σ Hy _ ⟨_, _, _, _, _, _, _, s'⟩ => SqT.of (s' _ _ e3)) ?_ ?_⟩
    · rintro j v σ Hy hv ⟨y7, y8, y9, y10, y11, y12, rfl, sy⟩
      obtain ⟨wd, tt, ls, hls, rfl, et, el, bl⟩ : ∃ (wd : Str) (tt ls : Addr) (xs : List Nat), v = V.ref tt ∧ H3 tt = some (.tup [.str wd, .ref ls]) ∧ H3 ls = some (.lst (vn xs)) ∧ ∀ x ∈ xs, x < 2 * n.many := by
        have hj : j = 0 ∨ j = 1 := by
          have h : j < 2 := (List.getElem?_eq_some_iff.mp hv).1
          omega
        rcases hj with rfl | rfl
        · cases hv
          exact ⟨"next", t1, aN, n.nexts, rfl, e1, s3 _ _ hN, kd.nx⟩
        · cases hv
          exact ⟨"out", t2, aO, n.outs, rfl, e2, s3 _ _ hO, kd.ox⟩
      refine ⟨tt, _, rfl, SqT.of (sy _ _ et), rfl, _, _, rfl, _, _, rfl, rfl, ?_⟩
      refine ⟨_, rfl, ls, _, rfl, SqL.of (sy _ _ el), for_it walk_enum (fun i σ Hz => ∃ y7 y10 : Option V, σ = [some (.ref a), some (.int (n.ins : Nat)), some (.ref aS), some (.ref aG), some (.ref aN), some (.ref aO), some (.int (n.base : Nat)), y7, y8, y9, y10, some (.str wd), some (.ref ls)] ∧ Same H3 Hz) ⟨_, _, rfl, sy⟩ (fun i σ Hz _ ⟨_, _, _, s'⟩ => SqL.of (s' _ _ el)) ?_ ?_⟩
      · rintro i v σ Hz Hz' hi ⟨y7, y10, rfl, sz⟩ ⟨T1, x, y, rfl, nT, rfl, ex, ey⟩
        cases ex
        rw [vn_len] at hi
        have hx := List.getElem?_eq_getElem hi
        have ey : (vn hls)[i]? = some y := ey
        rw [vn_get hx] at ey
        cases ey
        have hb := bl _ (List.getElem_mem hi)
        have sT := same_new (o := .tup [.int (i : Nat), .int ((hls[i] : Nat) : Int)]) nT
        have s4 := sz.trans sT
        refine ⟨T1, _, rfl, SqT.of upd_same, rfl, _, _, rfl, _, _, rfl, rfl, ?_⟩
        refine ⟨_, rfl, _, _, rfl, rfl, _, rfl, ?_⟩
        rw [decide_eq_false (show ¬ ((hls[i] : Nat) : Int) < 0 by omega)]
        refine iteF ?_
        refine ⟨_, rfl, _, rfl, .ref a, n, rfl, (hn0.same s3).same s4, _, _, rfl, rfl, .inl ⟨by decide, by decide⟩, _, _, rfl, rfl, _, rfl, ?_⟩
        rw [decide_eq_false (show ¬ ((hls[i] : Nat) : Int) ≥ 2 * (n.many : Int) by omega)]
        exact iteF ⟨_, _, rfl, s4⟩
      · rintro σ Hz ⟨y7, y10, rfl, sz⟩
        exact ⟨_, _, _, _, _, _, rfl, sz⟩
    rintro σ Hy ⟨y7, y8, y9, y10, y11, y12, rfl, sy⟩
    exact q Hy (s3.trans sy)
def sp_check (K : PySem.W.Frag) : Sp := fun vs H Q _ => ∃ (v : V) (n : Net), vs = [v] ∧ Dv H v n ∧ Kind n ∧ ∀ H', Same H H' → Q .non H'
theorem ok_check {P : Program} {w : World} {K : PySem.W.Frag} {mg : Str → Option Value} {base : Heap} {f ffault_of : Addr} {fd fdfault_of : FuncData} (F : Fun K "check" "check" s_check f fd) (T : Txt K mg)
    (G_fault_of : FnOk P w K mg base CX0 3 ffault_of fdfault_of ["net"] (sp_fault_of K)) (D_fault_of : Def K mg "fault_of" ffault_of fdfault_of ["net"]) :
    FnOk P w K mg base CX0 4 f fd ["net"] (sp_check K) := by
  refine F.ok sccheck (fun vs H Q E h => ?_) (fun cdv A outer s H vs Q E hr h => ?_)
  · obtain ⟨l, n, rfl, _⟩ := h
    rfl
  · obtain ⟨v, n, rfl, hn, kd, q⟩ := h
    refine ⟨_, (pss_cons (ps_set (i := 1) sccheck.nd rfl (.inl rfl) (pe_call G_fault_of (hr.mono (by omega)) (by rfl) D_fault_of.m D_fault_of.k D_fault_of.b .nil pass0 (pa_cons (pv 0) pa_nil)))
      (pss_one (ps_if (pt_cmpR op_notN (pv 1) pe_non (nomark _)) (pss_one V0.ps_never) pss_nil))), ?_⟩
    refine ⟨_, rfl, v, n, rfl, hn, kd, fun H1 s1 => ?_⟩
    exact ⟨_, rfl, rfl, _, rfl, iteF (q H1 s1)⟩

end K30
namespace K30
open PySem PySem.Spec PyProof.Rows L2 V0
/-! ### runs of nets -/
theorem and_mul {a b : Nat} (ha : a < 2) (hb : b < 2) : a &&& b = a * b := by
  have e1 : a = 0 ∨ a = 1 := by omega
  have e2 : b = 0 ∨ b = 1 := by omega
  rcases e1 with rfl | rfl <;> rcases e2 with rfl | rfl <;> decide
def sp_valued (K : PySem.W.Frag) : Sp := fun vs H Q _ => ∃ (r : Addr) (row : List Nat) (l : Nat), vs = [.ref r, .int l] ∧ H r = some (.lst (vn row)) ∧ l / 2 < row.length ∧ Q (.int (bitv row l : Nat)) H
theorem ok_valued {P : Program} {w : World} {K : PySem.W.Frag} {mg : Str → Option Value} {base : Heap} {f  : Addr} {fd  : FuncData} (F : Fun K "valued" "valued" s_valued f fd) (T : Txt K mg) :
    FnOk P w K mg base CX0 1 f fd ["row", "literal"] (sp_valued K) := by
  refine F.ok scvalued (fun vs H Q E h => ?_) (fun cdv A outer s H vs Q E hr h => ?_)
  · obtain ⟨r, row, l, rfl, _⟩ := h
    rfl
  · obtain ⟨r, row, l, rfl, hr', hl, q⟩ := h
    refine ⟨_, (pss_one (ps_ret (pe_op op_xor (pe_ix (r := rIxL K) ix_list (pv 0) (pe_op op_shr (pv 1) pe_int) (fun _ _ => rfl)) (pe_op op_and (pv 1) pe_int)))), ?_⟩
    refine ⟨_, rfl, _, rfl, _, _, rfl, rfl, (show (0 : Int) ≤ 1 by decide), r, _, _, _, rfl, rfl, SqL.of hr', atI_nat (vn_get (List.getElem?_eq_getElem hl)), _, rfl, _, _, rfl, rfl, ?_⟩
    refine ⟨_, _, rfl, rfl, ?_⟩
    show Q (V.int (Builtin.bitXor ((row[l / 2] : Nat) : Int) (Builtin.bitAnd ((l : Nat) : Int) 1))) H
    rw [band_one, bxor]
    unfold bitv at q
    rw [List.getElem?_eq_getElem hl] at q
    exact q
def Fits (n : Net) : Prop := n.many ≤ 60000 ∧ ∀ j g, n.gates[j]? = some g → g.1 < 2 * (n.base + j) ∧ g.2 < 2 * (n.base + j)
def sp_values (K : PySem.W.Frag) : Sp := fun vs H Q _ => ∃ (v : V) (n : Net) (h b : Addr) (held bits : List Nat), vs = [v, .ref h, .ref b] ∧ Dv H v n ∧ H h = some (.lst (vn held)) ∧ H b = some (.lst (vn bits)) ∧
  held.length = n.starts.length ∧ bits.length = n.ins ∧ (∀ x ∈ held, x < 2) ∧ (∀ x ∈ bits, x < 2) ∧ Fits n ∧
  ∀ H' q, Same H H' → H q = none → H' q = some (.lst (vn (n.row held bits))) → Q (.ref q) H'
theorem ok_values {P : Program} {w : World} {K : PySem.W.Frag} {mg : Str → Option Value} {base : Heap} {f fvalued : Addr} {fd fdvalued : FuncData} (F : Fun K "values" "values" s_values f fd) (T : Txt K mg)
    (G_valued : FnOk P w K mg base CX0 1 fvalued fdvalued ["row", "literal"] (sp_valued K)) (D_valued : Def K mg "valued" fvalued fdvalued ["row", "literal"]) :
    FnOk P w K mg base CX0 2 f fd ["net", "state", "bits"] (sp_values K) := by
  refine F.ok scvalues (fun vs H Q E h => ?_) (fun cdv A outer s H vs Q E hr h => ?_)
  · obtain ⟨v, n, h, b, held, bits, rfl, _⟩ := h
    rfl
  · obtain ⟨v, n, h, b, held, bits, rfl, hn, hh, hb, lh, lb, bh, bb, ⟨hm, hg⟩, q⟩ := h
    obtain ⟨a, aS, aG, aN, aO, rfl, hA, hS, hG, hN, hO⟩ := hn.net_inv
    obtain ⟨_, us, e, hGl, hus⟩ := hG.list_inv
    cases e
    unfold Net.many Net.base at hm
    refine ⟨_, (pss_cons (ps_set (i := 3) scvalues.nd rfl (.inl rfl) (pe_lst (pa_cons pe_int (StX.pa_star (pv 2) (StX.pa_star (pv 1) pa_nil)))))
      (pss_cons (ps_for PassesOwn.never rfl (pi_list (pe_ix (r := rIxT K) ix_tup (pv 0) pe_int (fun _ _ => rfl))) (pg_tup (by rfl) (pgs_cons (pg_name (i := 4) scvalues.nd rfl (Or.inl rfl)) (pgs_cons (pg_name (i := 5) scvalues.nd rfl (Or.inl rfl)) pgs_nil))) (pss_one (ps_expr (pe_bm PySem.F.plainAttrs_list PySem.F.slot_list_append PySem.F.type_list_append mt_append (pv 3) (pa_cons (pe_op op_and (pe_call G_valued (hr.mono (by omega)) (by rfl) D_valued.m D_valued.k D_valued.b .nil pass0 (pa_cons (pv 3) (pa_cons (pv 4) pa_nil))) (pe_call G_valued (hr.mono (by omega)) (by rfl) D_valued.m D_valued.k D_valued.b .nil pass0 (pa_cons (pv 3) (pa_cons (pv 5) pa_nil)))) pa_nil)))))
      (pss_one (ps_ret (pv 3))))), ?_⟩
    refine ⟨_, rfl, b, _, rfl, .inr (SqL.of hb), _, rfl, h, _, rfl, .inr (SqL.of hh), ?_, fun l3 n3 => ?_⟩
    · show ([V.int 0] ++ (vn bits ++ (vn held ++ []))).length ≤ sizeLine
      rw [List.length_append, List.length_append, List.append_nil, vn_len, vn_len]
      exact Nat.le_of_lt (small64k (by show 1 + _ ≤ _; omega))
    have e3 : (upd H l3 (.lst (V.int 0 :: (vn bits ++ (vn held ++ []))))) l3 = some (.lst (vn (0 :: bits ++ held))) := by
      rw [upd_same]
      unfold vn
      rw [List.map_append, List.append_nil]
      rfl
    have sm : Same H (upd H l3 (.lst (V.int 0 :: (vn bits ++ (vn held ++ []))))) := same_new n3
    generalize (upd H l3 (.lst (V.int 0 :: (vn bits ++ (vn held ++ []))))) = H3 at sm e3 ⊢
    have lr : (0 :: bits ++ held).length = n.base := by
      rw [List.length_append, List.length_cons]
      unfold Net.base
      omega
    have br : ∀ x ∈ 0 :: bits ++ held, x < 2 := by
      intro x hx
      rcases List.mem_append.mp hx with hx | hx
      · rcases List.mem_cons.mp hx with rfl | hx
        · decide
        · exact bb x hx
      · exact bh x hx
    refine ⟨_, rfl, a, _, 3, _, rfl, rfl, SqT.of (sm _ _ hA), atI_nat (j := 3) rfl, aG, rfl, ⟨_, SqL.of (sm _ _ hGl)⟩, for_list (xs := us) (fun j σ H' => ∃ y4 y5 : Option V, σ = [some (.ref a), some (.ref h), some (.ref b), some (.ref l3), y4, y5] ∧ Same H H' ∧ H' l3 = some (.lst (vn (rowOf (n.gates.take j) (0 :: bits ++ held))))) ⟨none, none, rfl, sm, e3⟩ (fun j σ H' _ ⟨_, _, _, s', _⟩ => SqL.of (s' _ _ hGl)) ?_ ?_⟩
    · rintro j u σ H' hu ⟨y4, y5, rfl, s', hp⟩
      obtain ⟨⟨x, y⟩, hg1, hd⟩ := hus.at hu
      obtain ⟨t, u1, u2, rfl, ht, hx, hy⟩ := hd.pair_inv
      have hx := hx.nat_inv
      have hy := hy.nat_inv
      subst hx hy
      have hj : j < n.gates.length := (List.getElem?_eq_some_iff.mp hg1).1
      have hb2 := hg j _ hg1
      have lrow : (rowOf (n.gates.take j) (0 :: bits ++ held)).length = n.base + j := by
        rw [rowOf_len, lr, List.length_take]
        omega
      have b2 := rowOf_lt (gs := n.gates.take j) br
      refine ⟨t, _, rfl, SqT.of (s' _ _ ht), rfl, _, _, rfl, _, _, rfl, rfl, ?_⟩
      refine ⟨_, rfl, .inl ⟨rfl, _, SqL.of hp⟩, _, rfl, _, rfl, l3, _, x, rfl, hp, by rw [lrow]; omega, _, rfl, _, rfl, l3, _, y, rfl, hp, by rw [lrow]; omega, _, _, rfl, rfl, l3, _, _, rfl, rfl, hp, ?_, ?_⟩
      · rw [vn_len, lrow]
        exact small64k (by unfold Net.base; omega)
      · refine ⟨some (.int x), some (.int y), rfl, same_mut s' n3, ?_⟩
        rw [upd_same, take_snoc hg1, rowOf_snoc, ← vn_snoc]
        simp only [band, and_mul (bitv_lt b2 x) (bitv_lt b2 y)]
    · rintro σ H' ⟨y4, y5, rfl, s', hp⟩
      refine ⟨_, rfl, q _ _ s' n3 ?_⟩
      rw [hp, hus.len, List.take_length]
      rfl
theorem row_len {n : Net} {held bits : List Nat} (lh : held.length = n.starts.length) (lb : bits.length = n.ins) : (n.row held bits).length = n.many := by
  unfold Net.row
  rw [rowOf_len, List.length_append, List.length_cons]
  unfold Net.many Net.base
  omega
def sp_step (K : PySem.W.Frag) : Sp := fun vs H Q _ => ∃ (v : V) (n : Net) (h b : Addr) (held bits : List Nat), vs = [v, .ref h, .ref b] ∧ Dv H v n ∧ H h = some (.lst (vn held)) ∧ H b = some (.lst (vn bits)) ∧
  held.length = n.starts.length ∧ bits.length = n.ins ∧ (∀ x ∈ held, x < 2) ∧ (∀ x ∈ bits, x < 2) ∧ Fits n ∧ (∀ x ∈ n.nexts, x < 2 * n.many) ∧ (∀ x ∈ n.outs, x < 2 * n.many) ∧ n.nexts.length ≤ 1000 ∧ n.outs.length ≤ 1000 ∧
  ∀ H' t o x, Same H H' → H t = none → H' t = some (.tup [.ref o, .ref x]) → H o = none → H' o = some (.lst (vn (n.outs.map (bitv (n.row held bits))))) → H x = none → H' x = some (.lst (vn (n.nexts.map (bitv (n.row held bits))))) → Q (.ref t) H'
theorem ok_step {P : Program} {w : World} {K : PySem.W.Frag} {mg : Str → Option Value} {base : Heap} {f fvalues fvalued : Addr} {fd fdvalues fdvalued : FuncData} (F : Fun K "step" "step" s_step f fd) (T : Txt K mg)
    (G_values : FnOk P w K mg base CX0 2 fvalues fdvalues ["net", "state", "bits"] (sp_values K)) (D_values : Def K mg "values" fvalues fdvalues ["net", "state", "bits"])
    (G_valued : FnOk P w K mg base CX0 1 fvalued fdvalued ["row", "literal"] (sp_valued K)) (D_valued : Def K mg "valued" fvalued fdvalued ["row", "literal"]) :
    FnOk P w K mg base CX0 3 f fd ["net", "state", "bits"] (sp_step K) := by
  refine F.ok scstep (fun vs H Q E h => ?_) (fun cdv A outer s H vs Q E hr h => ?_)
  · obtain ⟨v, n, h, b, held, bits, rfl, _⟩ := h
    rfl
  · obtain ⟨v, n, h, b, held, bits, rfl, hn, hh, hb, lh, lb, bh, bb, fit, bx, bo, lx, lo, q⟩ := h
    have hn0 := hn
    obtain ⟨a, aS, aG, aN, aO, rfl, hA, hS, hG, hN, hO⟩ := hn.net_inv
    obtain ⟨_, e, hN⟩ := hN.natl_inv
    cases e
    obtain ⟨_, e, hO⟩ := hO.natl_inv
    cases e
    have lr := row_len lh lb
    refine ⟨_, (pss_cons (ps_set (i := 3) scstep.nd rfl (.inr rfl) (pe_call G_values (hr.mono (by omega)) (by rfl) D_values.m D_values.k D_values.b .nil pass0 (pa_cons (pv 0) (pa_cons (pv 1) (pa_cons (pv 2) pa_nil)))))
      (pss_one (ps_ret (pe_tup (pa_cons (pe_lc (own := [("literal", 4)]) (g := gName 4) (tt := tYes) rfl scstep.nd (pi_list (pe_ix (r := rIxT K) ix_tup (pv 0) pe_int (fun _ _ => rfl))) (blkOk_by (N := N_step) (sc := defScope s_step) (by decide +kernel)) (fun _ _ _ _ _ => (pg_name (i := 4) scstep.nd rfl (Or.inl rfl))) (fun _ _ _ _ _ => pts_nil) (fun _ _ _ _ _ => (pe_call G_valued (hr.mono (by omega)) (by rfl) D_valued.m D_valued.k D_valued.b .nil pass0 (pa_cons (pv 3) (pa_cons (pv 4) pa_nil))))) (pa_cons (pe_lc (own := [("literal", 4)]) (g := gName 4) (tt := tYes) rfl scstep.nd (pi_list (pe_ix (r := rIxT K) ix_tup (pv 0) pe_int (fun _ _ => rfl))) (blkOk_by (N := N_step) (sc := defScope s_step) (by decide +kernel)) (fun _ _ _ _ _ => (pg_name (i := 4) scstep.nd rfl (Or.inl rfl))) (fun _ _ _ _ _ => pts_nil) (fun _ _ _ _ _ => (pe_call G_valued (hr.mono (by omega)) (by rfl) D_valued.m D_valued.k D_valued.b .nil pass0 (pa_cons (pv 3) (pa_cons (pv 4) pa_nil))))) pa_nil)))))), ?_⟩
    refine ⟨_, rfl, _, rfl, _, rfl, .ref a, n, h, b, held, bits, rfl, hn0, hh, hb, lh, lb, bh, bb, fit, fun H1 r s1 nr er => ?_⟩
    generalize n.row held bits = row at er lr q
    refine ⟨_, rfl, a, _, 5, _, rfl, rfl, SqT.of (s1 _ _ hA), atI_nat (j := 5) rfl, aO, rfl, ⟨_, SqL.of (s1 _ _ hO)⟩, fun D nD => lc_list (xs := vn n.outs) (fun i Hz => Same H1 Hz ∧ Hz D = some (.lst (vn ((n.outs.take i).map (bitv row))))) ⟨same_new nD, upd_same⟩ (fun i Hz _ h => SqL.of (h.1 _ _ (s1 _ _ hO))) ?_ ?_⟩
    · rintro i v Hz hv ⟨sz, hp⟩
      have hi : i < n.outs.length := by
        have h := (List.getElem?_eq_some_iff.mp hv).1
        rw [vn_len] at h
        exact h
      have hx := List.getElem?_eq_getElem hi
      rw [vn_get hx] at hv
      cases hv
      have hb := bo _ (List.getElem_mem hi)
      refine ⟨rfl, _, rfl, _, rfl, r, row, _, rfl, sz _ _ er, by omega, _, hp, ?_, same_mut sz nD, ?_⟩
      · rw [vn_len, List.length_map, List.length_take]
        exact small1000 (by omega)
      · rw [upd_same, vn_snoc, take_snoc hx, List.map_append]
        rfl
    rintro H2 ⟨s2, e2⟩
    rw [vn_len, List.take_length] at e2
    have s12 := s1.trans s2
    refine ⟨_, rfl, a, _, 4, _, rfl, rfl, SqT.of (s12 _ _ hA), atI_nat (j := 4) rfl, aN, rfl, ⟨_, SqL.of (s12 _ _ hN)⟩, fun D2 nD2 => lc_list (xs := vn n.nexts) (fun i Hz => Same H2 Hz ∧ Hz D2 = some (.lst (vn ((n.nexts.take i).map (bitv row))))) ⟨same_new nD2, upd_same⟩ (fun i Hz _ h => SqL.of (h.1 _ _ (s12 _ _ hN))) ?_ ?_⟩
    · rintro i v Hz hv ⟨sz, hp⟩
      have hi : i < n.nexts.length := by
        have h := (List.getElem?_eq_some_iff.mp hv).1
        rw [vn_len] at h
        exact h
      have hx := List.getElem?_eq_getElem hi
      rw [vn_get hx] at hv
      cases hv
      have hb := bx _ (List.getElem_mem hi)
      refine ⟨rfl, _, rfl, _, rfl, r, row, _, rfl, sz _ _ (s2 _ _ er), by omega, _, hp, ?_, same_mut sz nD2, ?_⟩
      · rw [vn_len, List.length_map, List.length_take]
        exact small1000 (by omega)
      · rw [upd_same, vn_snoc, take_snoc hx, List.map_append]
        rfl
    rintro H3 ⟨s3, e3⟩
    rw [vn_len, List.take_length] at e3
    have s13 := s12.trans s3
    refine ⟨by show 2 ≤ sizeLine; decide, fun t nt => ?_⟩
    have st := same_new (o := .tup [.ref D, .ref D2]) nt
    exact q _ t D D2 (s13.trans st) (none_of s13 nt) upd_same (none_of s1 nD) (st _ _ (s3 _ _ e2)) (none_of s12 nD2) (st _ _ e3)
end K30
namespace K30
open PySem PySem.Spec PyProof.Rows L2 V0
/-! ### a net run over rows of bits -/
def Net.ran (n : Net) (rows : List (List Nat)) : List Nat × List (List Nat) := rows.foldl (fun s b => (n.nexts.map (bitv (n.row s.1 b)), s.2 ++ [n.outs.map (bitv (n.row s.1 b))])) (n.starts, [])
theorem ran_snoc (n : Net) (rows : List (List Nat)) (b : List Nat) : Net.ran n (rows ++ [b]) = (n.nexts.map (bitv (n.row (Net.ran n rows).1 b)), (Net.ran n rows).2 ++ [n.outs.map (bitv (n.row (Net.ran n rows).1 b))]) := by
  unfold Net.ran
  rw [List.foldl_append]
  rfl
theorem row_lt {n : Net} {held bits : List Nat} (h1 : ∀ x ∈ held, x < 2) (h2 : ∀ x ∈ bits, x < 2) : ∀ x ∈ n.row held bits, x < 2 := by
  refine rowOf_lt fun x hx => ?_
  rcases List.mem_append.mp hx with hx | hx
  · rcases List.mem_cons.mp hx with rfl | hx
    · decide
    · exact h2 x hx
  · exact h1 x hx
theorem map_lt {row xs : List Nat} (h : ∀ x ∈ row, x < 2) : ∀ x ∈ xs.map (bitv row), x < 2 := fun x hx => by
  obtain ⟨l, _, rfl⟩ := List.mem_map.mp hx
  exact bitv_lt h l
structure RunOk (n : Net) (rows : List (List Nat)) : Prop where
  kd : Kind n
  fit : Fits n
  lx : n.nexts.length ≤ 1000
  lo : n.outs.length ≤ 1000
  lr : rows.length ≤ 1000
  r : ∀ b ∈ rows, b.length = n.ins ∧ ∀ x ∈ b, x < 2
theorem ran_ok {n : Net} {rows : List (List Nat)} (ok : RunOk n rows) (i : Nat) : (Net.ran n (rows.take i)).1.length = n.starts.length ∧ ∀ x ∈ (Net.ran n (rows.take i)).1, x < 2 := by
  induction i with
  | zero => exact ⟨rfl, ok.kd.bits⟩
  | succ i ih =>
    cases e : rows[i]? with
    | none =>
      have : rows.take (i + 1) = rows.take i := by rw [List.take_add_one, e]; simp
      rw [this]
      exact ih
    | some b =>
      rw [take_snoc e, ran_snoc]
      refine ⟨?_, map_lt (row_lt ih.2 (ok.r b (List.mem_of_getElem? e)).2)⟩
      show (n.nexts.map _).length = _
      rw [List.length_map, ok.kd.nl]
def sp_run (K : PySem.W.Frag) : Sp := fun vs H Q _ => ∃ (v u : V) (n : Net) (rows : List (List Nat)), vs = [v, u] ∧ Dv H v n ∧ Dv H u rows ∧ RunOk n rows ∧ ∀ H' q, Same H H' → H q = none → Dv H' (.ref q) (Net.ran n rows).2 → Q (.ref q) H'
theorem ok_run {P : Program} {w : World} {K : PySem.W.Frag} {mg : Str → Option Value} {base : Heap} {f fstep : Addr} {fd fdstep : FuncData} (F : Fun K "run" "run" s_run f fd) (T : Txt K mg)
    (G_step : FnOk P w K mg base CX0 3 fstep fdstep ["net", "state", "bits"] (sp_step K)) (D_step : Def K mg "step" fstep fdstep ["net", "state", "bits"]) :
    FnOk P w K mg base CX0 4 f fd ["net", "rows"] (sp_run K) := by
  refine F.ok scrun (fun vs H Q E h => ?_) (fun cdv A outer s H vs Q E hr h => ?_)
  · obtain ⟨v, u, n, rows, rfl, _⟩ := h
    rfl
  · obtain ⟨v, u, n, rows, rfl, hn, hrw, ok, q⟩ := h
    have hn0 := hn
    obtain ⟨a, aS, aG, aN, aO, rfl, hA, hS, hG, hN, hO⟩ := hn.net_inv
    obtain ⟨_, e, hS⟩ := hS.natl_inv
    cases e
    obtain ⟨r, ws, rfl, hR, hws⟩ := hrw.list_inv
    have hwl := hws.len
    refine ⟨_, (pss_cons (ps_set (i := 2) scrun.nd rfl (.inl rfl) (pe_lst pa_nil))
      (pss_cons (ps_set (i := 3) scrun.nd rfl (.inl rfl) (pe_ix (r := rIxT K) ix_tup (pv 0) pe_int (fun _ _ => rfl)))
      (pss_cons (ps_for PassesOwn.never rfl (pi_list (pv 1)) (pg_name (i := 4) scrun.nd rfl (Or.inl rfl)) (pss_cons (ps_asg (pe_call G_step (hr.mono (by omega)) (by rfl) D_step.m D_step.k D_step.b .nil pass0 (pa_cons (pv 0) (pa_cons (pv 3) (pa_cons (pv 4) pa_nil)))) (pg_tup (by rfl) (pgs_cons (pg_name (i := 5) scrun.nd rfl (Or.inl rfl)) (pgs_cons (pg_name (i := 3) scrun.nd rfl (Or.inl rfl)) pgs_nil))))
      (pss_one (ps_expr (pe_bm PySem.F.plainAttrs_list PySem.F.slot_list_append PySem.F.type_list_append mt_append (pv 2) (pa_cons (pv 5) pa_nil))))))
      (pss_one (ps_ret (pv 2)))))), ?_⟩
    refine ⟨by show 0 ≤ sizeLine; decide, fun p np => ?_⟩
    have s0 := same_new (o := .lst []) np
    refine ⟨_, rfl, a, _, 2, _, rfl, rfl, SqT.of (s0 _ _ hA), atI_nat (j := 2) rfl, ?_⟩
    refine ⟨_, rfl, r, rfl, ⟨_, SqL.of (s0 _ _ hR)⟩, ?_⟩
    have e0 : (upd H p (.lst [])) p = some (.lst []) := upd_same
    generalize (upd H p (.lst [])) = H0 at s0 e0 ⊢
    refine for_list (xs := ws) (fun i σ Hx => ∃ (y4 y5 : Option V) (st : Addr) (us : List V), σ = [some (.ref a), some (.ref r), some (.ref p), some (.ref st), y4, y5] ∧ Same H Hx ∧ Hx p = some (.lst us) ∧ st ≠ p ∧ Hx st = some (.lst (vn (Net.ran n (rows.take i)).1)) ∧ Dvs (hid p Hx) us (Net.ran n (rows.take i)).2 ∧ us.length = i) ⟨none, none, aS, [], rfl, s0, e0, ne_of_none hS np, s0 _ _ hS, .nil, rfl⟩ (fun i σ Hx _ ⟨_, _, _, _, _, s', _⟩ => SqL.of (s' _ _ hR)) ?_ ?_
    · rintro i v σ Hx hv ⟨y4, y5, st, us, rfl, sx, hp, nst, hst, hus, hl⟩
      obtain ⟨bits, hb, db⟩ := hws.at hv
      obtain ⟨b, rfl, hbl⟩ := db.natl_inv
      have rk := ok.r bits (List.mem_of_getElem? hb)
      have ro := ran_ok ok i
      have hi : i < rows.length := (List.getElem?_eq_some_iff.mp hb).1
      have hlr := ok.lr
      refine ⟨_, rfl, _, rfl, _, rfl, .ref a, n, st, b, _, bits, rfl, hn0.same sx, hst, sx _ _ hbl, ro.1, rk.1, ro.2, rk.2, ok.fit, ok.kd.nx, ok.kd.ox, ok.lx, ok.lo, fun H1 t o x s1 nt et no eo nx ex => ?_⟩
      have nop : o ≠ p := fun z => by rw [z, hp] at no; cases no
      have nxp : x ≠ p := fun z => by rw [z, hp] at nx; cases nx
      have hp1 := s1 _ _ hp
      refine ⟨t, _, rfl, SqT.of et, rfl, _, _, rfl, _, _, rfl, rfl, ?_⟩
      refine ⟨_, rfl, .inl ⟨rfl, _, SqL.of hp1⟩, _, rfl, p, _, _, rfl, rfl, hp1, by rw [hl]; exact small1000 (by omega), ?_⟩
      refine ⟨_, _, x, us ++ [.ref o], rfl, same_mut (sx.trans s1) np, upd_same, nxp, ?_, ?_, by rw [List.length_append, hl]; rfl⟩
      · rw [upd_ne nxp, ex, take_snoc hb, ran_snoc]
      · rw [take_snoc hb, ran_snoc]
        refine ((hus.same (hid_mono s1)).same hid_mut).app (.cons (.natl (hid_of nop ?_)) .nil)
        rw [upd_ne nop]
        exact eo
    · rintro σ Hx ⟨y4, y5, st, us, rfl, sx, hp, nst, hst, hus, hl⟩
      rw [hwl, List.take_length] at hus
      exact ⟨_, rfl, q Hx p sx np (.list hp (hus.same (hid_same _ _)))⟩
end K30
namespace K30
open PySem PySem.Spec PyProof.Rows L2 V0
/-! ### the law's rows and its own run -/
def sp__law_rows (K : PySem.W.Frag) : Sp := fun vs H Q _ => ∃ (p c : Addr) (ins most : Nat), vs = [.ref p, .int ins, .int most] ∧ Dr H p c ∧ ins ≤ 1000 ∧ most ≤ 1000 ∧
  ∀ H' q (rows : List (List Nat)), Go p c H H' → H q = none → Dv (res p c H') (.ref q) rows → rows.length ≤ most → (∀ b ∈ rows, b.length = ins ∧ ∀ x ∈ b, x < 2) → Q (.ref q) H'
theorem ok__law_rows {P : Program} {w : World} {K : PySem.W.Frag} {mg : Str → Option Value} {base : Heap} {f f_law_draw : Addr} {fd fd_law_draw : FuncData} (F : Fun K "_law_rows" "_law_rows" s__law_rows f fd) (T : Txt K mg)
    (G__law_draw : FnOk P w K mg base CX0 1 f_law_draw fd_law_draw ["state", "many"] (sp__law_draw K)) (D__law_draw : Def K mg "_law_draw" f_law_draw fd_law_draw ["state", "many"]) :
    FnOk P w K mg base CX0 2 f fd ["state", "ins", "most"] (sp__law_rows K) := by
  refine F.ok sc_law_rows (fun vs H Q E h => ?_) (fun cdv A outer s H vs Q E hr h => ?_)
  · obtain ⟨p, c, ins, most, rfl, _⟩ := h
    rfl
  · obtain ⟨p, c, ins, most, rfl, d0, hi, hm, q⟩ := h
    refine ⟨_, (pss_one (ps_ret (pe_lc (own := [("j", 3)]) (g := gName 3) (tt := tYes) rfl sc_law_rows.nd (pi_range1 rfl T.m_range (pa_cons (pe_call G__law_draw (hr.mono (by omega)) (by rfl) D__law_draw.m D__law_draw.k D__law_draw.b .nil pass0 (pa_cons (pv 0) (pa_cons (pe_op op_add (pv 2) pe_int) pa_nil))) pa_nil)) (blkOk_by (N := N__law_rows) (sc := defScope s__law_rows) (by decide +kernel)) (fun _ _ _ _ _ => (pg_name (i := 3) sc_law_rows.nd rfl (Or.inl rfl))) (fun _ _ _ _ _ => pts_nil) (fun _ _ _ _ _ => (pe_lc (own := [("k", 4)]) (g := gName 4) (tt := tYes) rfl sc_law_rows.nd (pi_range1 rfl T.m_range (pa_cons (pv 1) pa_nil)) (blkOk_by (N := N__law_rows) (sc := relS _ (defScope s__law_rows)) (by decide +kernel)) (fun _ _ _ _ _ => (pg_name (i := 4) sc_law_rows.nd rfl (Or.inl rfl))) (fun _ _ _ _ _ => pts_nil) (fun _ _ _ _ _ => (pe_call G__law_draw (hr.mono (by omega)) (by rfl) D__law_draw.m D__law_draw.k D__law_draw.b .nil pass0 (pa_cons (pv 0) (pa_cons pe_int pa_nil))))))))), ?_⟩
    refine ⟨_, rfl, _, rfl, _, _, rfl, rfl, p, c, most + 1, rfl, d0, by omega, by omega, fun H1 d g1 hd => ⟨_, rfl, by omega, by omega, fun D nD => lc_range (n := d) (fun j Hx => ∃ (us : List V) (rows : List (List Nat)), Go p c H1 Hx ∧ Hx D = some (.lst us) ∧ Dvs (hid D (res p c Hx)) us rows ∧ us.length = j ∧ ∀ b ∈ rows, b.length = ins ∧ ∀ x ∈ b, x < 2) ⟨[], [], Go.of g1.b (same_new nD), upd_same, .nil, rfl, by simp⟩ ?_ ?_⟩⟩
    · rintro j Hx hj ⟨us, rows, gx, hD, hus, hl, bs⟩
      have oD := g1.b.off nD
      refine ⟨rfl, _, rfl, _, rfl, by omega, by omega, fun D2 nD2 => lc_range (n := ins) (fun k Hy => ∃ xs : List Nat, Go p c Hx Hy ∧ Hy D2 = some (.lst (vn xs)) ∧ xs.length = k ∧ ∀ x ∈ xs, x < 2) ⟨[], Go.of gx.b (same_new nD2), upd_same, rfl, by simp⟩ ?_ ?_⟩
      · rintro k Hy hk ⟨xs, gy, h2, hl2, hx2⟩
        refine ⟨rfl, _, rfl, p, c, 2, rfl, gy.b, by decide, by decide, fun Hz x g hx => ⟨_, g.get' gx.b nD2 h2, by rw [vn_len]; exact small64k (by omega), xs ++ [x], (gy.trans g).mut nD2, ?_, by rw [List.length_append, hl2]; rfl, mem_snoc hx2 hx⟩⟩
        rw [upd_same, vn_snoc]
      rintro Hy ⟨xs, gy, h2, hl2, hx2⟩
      have o2 := gx.b.off nD2
      have n2D : D2 ≠ D := fun z => by rw [z, hD] at nD2; cases nD2
      refine ⟨us, gy.get oD.1 oD.2 hD, by rw [hl]; exact small1000 (by omega), us ++ [.ref D2], rows ++ [xs], (gx.trans gy).mut nD, upd_same, ?_, by rw [List.length_append, hl]; rfl, mem_snoc bs ⟨hl2, hx2⟩⟩
      refine ((hus.same (hid_mono gy.s)).same hid_res_mut).app (.cons (.natl (hid_of n2D (res_of o2.1 o2.2 ?_))) .nil)
      rw [upd_ne n2D]
      exact h2
    · rintro Hx ⟨us, rows, gx, hD, hus, hl, bs⟩
      have oD := g1.b.off nD
      refine q Hx D rows (g1.trans gx) (g1.none nD) (.list (res_of oD.1 oD.2 hD) (hus.same (hid_same _ _))) ?_ bs
      rw [← hus.len]
      omega
def sp__law_run (K : PySem.W.Frag) : Sp := fun vs H Q _ => ∃ (v u : V) (n : Net) (rows : List (List Nat)), vs = [v, u] ∧ Dv H v n ∧ Dv H u rows ∧ RunOk n rows ∧ ∀ H' q, Same H H' → H q = none → Dv H' (.ref q) (Net.ran n rows).2 → Q (.ref q) H'
theorem ok__law_run {P : Program} {w : World} {K : PySem.W.Frag} {mg : Str → Option Value} {base : Heap} {f f_law_row f_law_bit : Addr} {fd fd_law_row fd_law_bit : FuncData} (F : Fun K "_law_run" "_law_run" s__law_run f fd) (T : Txt K mg)
    (G__law_row : FnOk P w K mg base CX0 2 f_law_row fd_law_row ["net", "held", "bits"] (sp__law_row K)) (D__law_row : Def K mg "_law_row" f_law_row fd_law_row ["net", "held", "bits"])
    (G__law_bit : FnOk P w K mg base CX0 1 f_law_bit fd_law_bit ["row", "literal"] (sp__law_bit K)) (D__law_bit : Def K mg "_law_bit" f_law_bit fd_law_bit ["row", "literal"]) :
    FnOk P w K mg base CX0 3 f fd ["net", "rows"] (sp__law_run K) := by
  refine F.ok sc_law_run (fun vs H Q E h => ?_) (fun cdv A outer s H vs Q E hr h => ?_)
  · obtain ⟨v, u, n, rows, rfl, _⟩ := h
    rfl
  · obtain ⟨v, u, n, rows, rfl, hn, hrw, ok, q⟩ := h
    have hn0 := hn
    obtain ⟨a, aS, aG, aN, aO, rfl, hA, hS, hG, hN, hO⟩ := hn.net_inv
    obtain ⟨_, e, hS⟩ := hS.natl_inv
    cases e
    obtain ⟨_, e, hN⟩ := hN.natl_inv
    cases e
    obtain ⟨_, e, hO⟩ := hO.natl_inv
    cases e
    obtain ⟨r, ws, rfl, hR, hws⟩ := hrw.list_inv
    have hwl := hws.len
    have bx := ok.kd.nx
    have bo := ok.kd.ox
    have lx := ok.lx
    have lo := ok.lo
    refine ⟨_, (pss_cons (ps_set (i := 2) sc_law_run.nd rfl (.inl rfl) (pe_ix (r := rIxT K) ix_tup (pv 0) pe_int (fun _ _ => rfl)))
      (pss_cons (ps_set (i := 3) sc_law_run.nd rfl (.inl rfl) (pe_lst pa_nil))
      (pss_cons (ps_for PassesOwn.never rfl (pi_list (pv 1)) (pg_name (i := 4) sc_law_run.nd rfl (Or.inl rfl)) (pss_cons (ps_set (i := 5) sc_law_run.nd rfl (.inr rfl) (pe_call G__law_row (hr.mono (by omega)) (by rfl) D__law_row.m D__law_row.k D__law_row.b .nil pass0 (pa_cons (pv 0) (pa_cons (pv 2) (pa_cons (pv 4) pa_nil)))))
      (pss_cons (ps_expr (pe_bm PySem.F.plainAttrs_list PySem.F.slot_list_append PySem.F.type_list_append mt_append (pv 3) (pa_cons (pe_lc (own := [("literal", 6)]) (g := gName 6) (tt := tYes) rfl sc_law_run.nd (pi_list (pe_ix (r := rIxT K) ix_tup (pv 0) pe_int (fun _ _ => rfl))) (blkOk_by (N := N__law_run) (sc := defScope s__law_run) (by decide +kernel)) (fun _ _ _ _ _ => (pg_name (i := 6) sc_law_run.nd rfl (Or.inl rfl))) (fun _ _ _ _ _ => pts_nil) (fun _ _ _ _ _ => (pe_call G__law_bit (hr.mono (by omega)) (by rfl) D__law_bit.m D__law_bit.k D__law_bit.b .nil pass0 (pa_cons (pv 5) (pa_cons (pv 6) pa_nil))))) pa_nil)))
      (pss_one (ps_setLc (i := 2) (own := [("literal", 6)]) (g := gName 6) (tt := tYes) rfl sc_law_run.nd rfl rfl (sw_true rfl rfl rfl (by decide +kernel)) (pi_list (pe_ix (r := rIxT K) ix_tup (pv 0) pe_int (fun _ _ => rfl))) (blkOk_by (N := N__law_run) (sc := defScope s__law_run) (by decide +kernel)) (fun _ _ _ _ _ => (pg_name (i := 6) sc_law_run.nd rfl (Or.inl rfl))) (fun _ _ _ _ _ => pts_nil) (fun _ _ _ _ _ => (pe_call G__law_bit (hr.mono (by omega)) (by rfl) D__law_bit.m D__law_bit.k D__law_bit.b .nil pass0 (pa_cons (pv 5) (pa_cons (pv 6) pa_nil)))))))))
      (pss_one (ps_ret (pv 3)))))), ?_⟩
    refine ⟨_, rfl, a, _, 2, _, rfl, rfl, SqT.of hA, atI_nat (j := 2) rfl, ?_⟩
    refine ⟨by show 0 ≤ sizeLine; decide, fun p np => ?_⟩
    have s0 := same_new (o := .lst []) np
    refine ⟨_, rfl, r, rfl, ⟨_, SqL.of (s0 _ _ hR)⟩, ?_⟩
    have e0 : (upd H p (.lst [])) p = some (.lst []) := upd_same
    generalize (upd H p (.lst [])) = H0 at s0 e0 ⊢
    refine for_list (xs := ws) (fun i σ Hx => ∃ (y4 y5 y6 : Option V) (st : Addr) (us : List V), σ = [some (.ref a), some (.ref r), some (.ref st), some (.ref p), y4, y5, y6] ∧ Same H Hx ∧ Hx p = some (.lst us) ∧ st ≠ p ∧ Hx st = some (.lst (vn (Net.ran n (rows.take i)).1)) ∧ Dvs (hid p Hx) us (Net.ran n (rows.take i)).2 ∧ us.length = i) ⟨none, none, none, aS, [], rfl, s0, e0, ne_of_none hS np, s0 _ _ hS, .nil, rfl⟩ (fun i σ Hx _ ⟨_, _, _, _, _, _, s', _⟩ => SqL.of (s' _ _ hR)) ?_ ?_
    · rintro i v σ Hx hv ⟨y4, y5, y6, st, us, rfl, sx, hp, nst, hst, hus, hl⟩
      obtain ⟨bits, hb, db⟩ := hws.at hv
      obtain ⟨b, rfl, hbl⟩ := db.natl_inv
      have rk := ok.r bits (List.mem_of_getElem? hb)
      have ro := ran_ok ok i
      have hi : i < rows.length := (List.getElem?_eq_some_iff.mp hb).1
      have hlr := ok.lr
      have lrow := row_len ro.1 rk.1
      rw [take_snoc hb, ran_snoc]
      refine ⟨_, rfl, _, rfl, _, rfl, .ref a, n, st, b, _, bits, rfl, hn0.same sx, hst, sx _ _ hbl, ro.1, rk.1, ro.2, rk.2, ok.fit.1, ok.fit.2, fun H1 rw_ s1 nr er => ?_⟩
      generalize n.row (Net.ran n (rows.take i)).1 bits = row at er lrow ⊢
      have nrp : rw_ ≠ p := fun z => by rw [z, hp] at nr; cases nr
      have hp1 := s1 _ _ hp
      have s1H := sx.trans s1
      refine ⟨_, rfl, .inl ⟨rfl, _, SqL.of hp1⟩, ?_⟩
      refine ⟨_, rfl, a, _, 5, _, rfl, rfl, SqT.of (s1H _ _ hA), atI_nat (j := 5) rfl, aO, rfl, ⟨_, SqL.of (s1H _ _ hO)⟩, fun D nD => lc_list (xs := vn n.outs) (fun i Hz => Same H1 Hz ∧ Hz D = some (.lst (vn ((n.outs.take i).map (bitv row))))) ⟨same_new nD, upd_same⟩ (fun i Hz _ h => SqL.of (h.1 _ _ (s1H _ _ hO))) ?_ ?_⟩
      · rintro i v Hz hv ⟨sz, hpz⟩
        have hi : i < n.outs.length := by
          have h := (List.getElem?_eq_some_iff.mp hv).1
          rw [vn_len] at h
          exact h
        have hx := List.getElem?_eq_getElem hi
        rw [vn_get hx] at hv
        cases hv
        have hb := bo _ (List.getElem_mem hi)
        refine ⟨rfl, _, rfl, _, rfl, rw_, row, _, rfl, sz _ _ er, by omega, _, hpz, ?_, same_mut sz nD, ?_⟩
        · rw [vn_len, List.length_map, List.length_take]
          exact small1000 (by omega)
        · rw [upd_same, vn_snoc, take_snoc hx, List.map_append]
          rfl
      rintro H2 ⟨s2, e2⟩
      rw [vn_len, List.take_length] at e2
      have s12 := s1H.trans s2
      have hp2 := s2 _ _ hp1
      have nDp : D ≠ p := fun z => by rw [z, hp1] at nD; cases nD
      refine ⟨p, _, _, rfl, rfl, hp2, by rw [hl]; exact small1000 (by omega), ?_⟩
      have sm := same_mut (o := .lst (us ++ [V.ref D])) s12 np
      have hus2 : Dvs (hid p (upd H2 p (.lst (us ++ [V.ref D])))) (us ++ [V.ref D]) ((Net.ran n (rows.take i)).2 ++ [n.outs.map (bitv row)]) := by
        refine ((hus.same (hid_mono (s1.trans s2))).same hid_mut).app (.cons (.natl (hid_of nDp ?_)) .nil)
        rw [upd_ne nDp]
        exact e2
      have er2 : (upd H2 p (.lst (us ++ [V.ref D]))) rw_ = some (.lst (vn row)) := by
        rw [upd_ne nrp]
        exact s2 _ _ er
      have ep2 : (upd H2 p (.lst (us ++ [V.ref D]))) p = some (.lst (us ++ [V.ref D])) := upd_same
      generalize (upd H2 p (.lst (us ++ [V.ref D]))) = H3 at sm hus2 er2 ep2 ⊢
      refine ⟨_, rfl, a, _, 4, _, rfl, rfl, SqT.of (sm _ _ hA), atI_nat (j := 4) rfl, aN, rfl, ⟨_, SqL.of (sm _ _ hN)⟩, fun D2 nD2 => lc_list (xs := vn n.nexts) (fun i Hz => Same H3 Hz ∧ Hz D2 = some (.lst (vn ((n.nexts.take i).map (bitv row))))) ⟨same_new nD2, upd_same⟩ (fun i Hz _ h => SqL.of (h.1 _ _ (sm _ _ hN))) ?_ ?_⟩
      · rintro i v Hz hv ⟨sz, hpz⟩
        have hi : i < n.nexts.length := by
          have h := (List.getElem?_eq_some_iff.mp hv).1
          rw [vn_len] at h
          exact h
        have hx := List.getElem?_eq_getElem hi
        rw [vn_get hx] at hv
        cases hv
        have hb := bx _ (List.getElem_mem hi)
        refine ⟨rfl, _, rfl, _, rfl, rw_, row, _, rfl, sz _ _ er2, by omega, _, hpz, ?_, same_mut sz nD2, ?_⟩
        · rw [vn_len, List.length_map, List.length_take]
          exact small1000 (by omega)
        · rw [upd_same, vn_snoc, take_snoc hx, List.map_append]
          rfl
      rintro H4 ⟨s4, e4⟩
      rw [vn_len, List.take_length] at e4
      have n2p : D2 ≠ p := fun z => by rw [z, ep2] at nD2; cases nD2
      exact ⟨_, _, _, D2, us ++ [.ref D], rfl, sm.trans s4, s4 _ _ ep2, n2p, e4, hus2.same (hid_mono s4), by rw [List.length_append, hl]; rfl⟩
    · rintro σ Hx ⟨y4, y5, y6, st, us, rfl, sx, hp, nst, hst, hus, hl⟩
      rw [hwl, List.take_length] at hus
      exact ⟨_, rfl, q Hx p sx np (.list hp (hus.same (hid_same _ _)))⟩
end K30
namespace K30
open PySem PySem.Spec PyProof.Rows L2 V0
/-! ### levels of nodes, the depth of a net -/
theorem rep_flat (k : Nat) (v : V) : (List.replicate k [v]).flatten = List.replicate k v := by
  induction k with
  | zero => rfl
  | succ k ih =>
    rw [List.replicate_succ, List.flatten_cons, ih, List.replicate_succ]
    rfl
def levTo (n : Net) (gs : List (Nat × Nat)) : List Nat := gs.foldl (fun f g => f ++ [1 + max (f[g.1 / 2]?.getD 0) (f[g.2 / 2]?.getD 0)]) (List.replicate n.base 0)
theorem lev_snoc (n : Net) (gs : List (Nat × Nat)) (g : Nat × Nat) : levTo n (gs ++ [g]) = levTo n gs ++ [1 + max ((levTo n gs)[g.1 / 2]?.getD 0) ((levTo n gs)[g.2 / 2]?.getD 0)] := by
  unfold levTo
  rw [List.foldl_append]
  rfl
theorem lev_len (n : Net) (gs : List (Nat × Nat)) : (levTo n gs).length = n.base + gs.length := by
  have h : ∀ (gs : List (Nat × Nat)) (f : List Nat), (gs.foldl (fun f g => f ++ [1 + max (f[g.1 / 2]?.getD 0) (f[g.2 / 2]?.getD 0)]) f).length = f.length + gs.length := by
    intro gs
    induction gs with
    | nil => exact fun f => rfl
    | cons g gs ih =>
      intro f
      rw [List.foldl_cons, ih, List.length_append, List.length_cons, List.length_cons, List.length_nil]
      omega
  unfold levTo
  rw [h, List.length_replicate]
theorem vmax (a b : Nat) : V.int (1 + if (b : Int) > (a : Int) then (b : Int) else (a : Int)) = V.int ((1 + max a b : Nat) : Int) := by
  congr 1
  split
  · rw [Nat.max_eq_right (by omega)]
    omega
  · rw [Nat.max_eq_left (by omega)]
    omega
def levs (n : Net) (xs : List Nat) : List Nat := xs.map fun l => (levTo n n.gates)[l / 2]?.getD 0
def sp_levels (K : PySem.W.Frag) : Sp := fun vs H Q _ => ∃ (v : V) (n : Net), vs = [v] ∧ Dv H v n ∧ Fits n ∧ ∀ H' q, Same H H' → H q = none → H' q = some (.lst (vn (levTo n n.gates))) → Q (.ref q) H'
theorem ok_levels {P : Program} {w : World} {K : PySem.W.Frag} {mg : Str → Option Value} {base : Heap} {f fbase_of : Addr} {fd fdbase_of : FuncData} (F : Fun K "levels" "levels" s_levels f fd) (T : Txt K mg)
    (G_base_of : FnOk P w K mg base CX0 1 fbase_of fdbase_of ["net"] (sp_base_of K)) (D_base_of : Def K mg "base_of" fbase_of fdbase_of ["net"]) :
    FnOk P w K mg base CX0 2 f fd ["net"] (sp_levels K) := by
  refine F.ok sclevels (fun vs H Q E h => ?_) (fun cdv A outer s H vs Q E hr h => ?_)
  · obtain ⟨v, n, rfl, _⟩ := h
    rfl
  · obtain ⟨v, n, rfl, hn, ⟨hm, hg⟩, q⟩ := h
    have hn0 := hn
    obtain ⟨a, aS, aG, aN, aO, rfl, hA, hS, hG, hN, hO⟩ := hn.net_inv
    obtain ⟨_, us, e, hGl, hus⟩ := hG.list_inv
    cases e
    unfold Net.many at hm
    refine ⟨_, (pss_cons (ps_set (i := 1) sclevels.nd rfl (.inl rfl) (pe_op op_rep (pe_lst (pa_cons pe_int pa_nil)) (pe_call G_base_of (hr.mono (by omega)) (by rfl) D_base_of.m D_base_of.k D_base_of.b .nil pass0 (pa_cons (pv 0) pa_nil))))
      (pss_cons (ps_for PassesOwn.never rfl (pi_list (pe_ix (r := rIxT K) ix_tup (pv 0) pe_int (fun _ _ => rfl))) (pg_tup (by rfl) (pgs_cons (pg_name (i := 2) sclevels.nd rfl (Or.inl rfl)) (pgs_cons (pg_name (i := 3) sclevels.nd rfl (Or.inl rfl)) pgs_nil))) (pss_one (ps_expr (pe_bm PySem.F.plainAttrs_list PySem.F.slot_list_append PySem.F.type_list_append mt_append (pv 1) (pa_cons (pe_op op_add pe_int (pe_callB (call_max2 (by rfl)) (by rfl) T.m_max (by decide +kernel) (pa_cons (pe_ix (r := rIxL K) ix_list (pv 1) (pe_op op_shr (pv 2) pe_int) (fun _ _ => rfl)) (pa_cons (pe_ix (r := rIxL K) ix_list (pv 1) (pe_op op_shr (pv 3) pe_int) (fun _ _ => rfl)) pa_nil)))) pa_nil)))))
      (pss_one (ps_ret (pv 1))))), ?_⟩
    refine ⟨by show 1 ≤ sizeLine; decide, fun l nl => ⟨_, rfl, .ref a, n, rfl, hn0.same (same_new nl), l, _, _, rfl, rfl, upd_same, by omega, by omega, ?_, fun p np => ?_⟩⟩
    · show 1 * ((n.base : Int)).toNat ≤ sizeLine
      rw [Int.toNat_natCast, Nat.one_mul]
      exact Nat.le_of_lt (small64k (by omega))
    have s0 := (same_new (o := .lst [.int 0]) nl).trans (same_new (o := .lst (List.replicate ((n.base : Int)).toNat [V.int 0]).flatten) np)
    have nHp : H p = none := none_of (same_new nl) np
    have e0 : (upd (upd H l (.lst [.int 0])) p (.lst (List.replicate ((n.base : Int)).toNat [V.int 0]).flatten)) p = some (.lst (vn (levTo n []))) := by
      rw [upd_same, rep_flat, Int.toNat_natCast]
      show _ = some (HO.lst (vn (List.replicate n.base 0)))
      unfold vn
      rw [List.map_replicate]
      rfl
    generalize (upd (upd H l (.lst [.int 0])) p (.lst (List.replicate ((n.base : Int)).toNat [V.int 0]).flatten)) = H0 at s0 e0 ⊢
    refine ⟨_, rfl, a, _, 3, _, rfl, rfl, SqT.of (s0 _ _ hA), atI_nat (j := 3) rfl, aG, rfl, ⟨_, SqL.of (s0 _ _ hGl)⟩, for_list (xs := us) (fun j σ H' => ∃ y2 y3 : Option V, σ = [some (.ref a), some (.ref p), y2, y3] ∧ Same H H' ∧ H' p = some (.lst (vn (levTo n (n.gates.take j))))) ⟨none, none, rfl, s0, e0⟩ (fun j σ H' _ ⟨_, _, _, s', _⟩ => SqL.of (s' _ _ hGl)) ?_ ?_⟩
    · rintro j u σ H' hu ⟨y2, y3, rfl, s', hp⟩
      obtain ⟨⟨x, y⟩, hg1, hd⟩ := hus.at hu
      obtain ⟨t, u1, u2, rfl, ht, hx, hy⟩ := hd.pair_inv
      have hx := hx.nat_inv
      have hy := hy.nat_inv
      subst hx hy
      have hj : j < n.gates.length := (List.getElem?_eq_some_iff.mp hg1).1
      have hb2 := hg j _ hg1
      have lrow : (levTo n (n.gates.take j)).length = n.base + j := by
        rw [lev_len, List.length_take]
        omega
      have hb1 : x < 2 * (n.base + j) := hb2.1
      have hb3 : y < 2 * (n.base + j) := hb2.2
      rw [take_snoc hg1, lev_snoc]
      generalize levTo n (n.gates.take j) = f at hp lrow ⊢
      have hx2 : x / 2 < f.length := by omega
      have hy2 : y / 2 < f.length := by omega
      refine ⟨t, _, rfl, SqT.of (s' _ _ ht), rfl, _, _, rfl, _, _, rfl, rfl, ?_⟩
      refine ⟨_, rfl, .inl ⟨rfl, _, SqL.of hp⟩, _, rfl, _, rfl, _, _, rfl, rfl, (show (0 : Int) ≤ 1 by decide), p, _, _, _, rfl, rfl, SqL.of hp, atI_nat (vn_get (List.getElem?_eq_getElem hx2)), _, rfl, _, rfl, _, _, rfl, rfl, (show (0 : Int) ≤ 1 by decide), p, _, _, _, rfl, rfl, SqL.of hp, atI_nat (vn_get (List.getElem?_eq_getElem hy2)), _, _, rfl, _, _, rfl, rfl, p, _, _, rfl, rfl, hp, by rw [vn_len, lrow]; exact small64k (by omega), ?_⟩
      refine ⟨_, _, rfl, same_mut s' nHp, ?_⟩
      rw [upd_same, ← vn_snoc]
      show some (HO.lst (vn f ++ [V.int (1 + if ((f[y / 2] : Nat) : Int) > ((f[x / 2] : Nat) : Int) then ((f[y / 2] : Nat) : Int) else ((f[x / 2] : Nat) : Int))])) = _
      rw [vmax, List.getElem?_eq_getElem hx2, List.getElem?_eq_getElem hy2]
      rfl
    · rintro σ H' ⟨y2, y3, rfl, s', hp⟩
      refine ⟨_, rfl, q _ _ s' nHp ?_⟩
      rw [hp, hus.len, List.take_length]
def sp_depth (K : PySem.W.Frag) : Sp := fun vs H Q _ => ∃ (v : V) (n : Net), vs = [v] ∧ Dv H v n ∧ Fits n ∧ (∀ x ∈ n.nexts, x < 2 * n.many) ∧ (∀ x ∈ n.outs, x < 2 * n.many) ∧ n.nexts.length ≤ 1000 ∧ n.outs.length ≤ 1000 ∧
  ∀ H' (d : Nat), Same H H' → d ∈ 0 :: levs n (n.nexts ++ n.outs) → (∀ y ∈ 0 :: levs n (n.nexts ++ n.outs), y ≤ d) → Q (.int d) H'
theorem ok_depth {P : Program} {w : World} {K : PySem.W.Frag} {mg : Str → Option Value} {base : Heap} {f flevels : Addr} {fd fdlevels : FuncData} (F : Fun K "depth" "depth" s_depth f fd) (T : Txt K mg)
    (G_levels : FnOk P w K mg base CX0 2 flevels fdlevels ["net"] (sp_levels K)) (D_levels : Def K mg "levels" flevels fdlevels ["net"]) :
    FnOk P w K mg base CX0 3 f fd ["net"] (sp_depth K) := by
  refine F.ok scdepth (fun vs H Q E h => ?_) (fun cdv A outer s H vs Q E hr h => ?_)
  · obtain ⟨v, n, rfl, _⟩ := h
    rfl
  · obtain ⟨v, n, rfl, hn, fit, bx, bo, lx, lo, q⟩ := h
    have hn0 := hn
    obtain ⟨a, aS, aG, aN, aO, rfl, hA, hS, hG, hN, hO⟩ := hn.net_inv
    obtain ⟨_, e, hN⟩ := hN.natl_inv
    cases e
    obtain ⟨_, e, hO⟩ := hO.natl_inv
    cases e
    have bxo : ∀ x ∈ n.nexts ++ n.outs, x < 2 * n.many := fun x hx => (List.mem_append.mp hx).elim (bx x) (bo x)
    have lxo : (n.nexts ++ n.outs).length ≤ 2000 := by rw [List.length_append]; omega
    refine ⟨_, (pss_cons (ps_set (i := 1) scdepth.nd rfl (.inr rfl) (pe_call G_levels (hr.mono (by omega)) (by rfl) D_levels.m D_levels.k D_levels.b .nil pass0 (pa_cons (pv 0) pa_nil)))
      (pss_one (ps_ret (pe_callB (cr_max rfl) (by rfl) T.m_max (by decide +kernel) (pa_cons (pe_op op_cat (pe_lst (pa_cons pe_int pa_nil)) (pe_lc (own := [("literal", 2)]) (g := gName 2) (tt := tYes) rfl scdepth.nd (pi_list (pe_op op_cat (pe_ix (r := rIxT K) ix_tup (pv 0) pe_int (fun _ _ => rfl)) (pe_ix (r := rIxT K) ix_tup (pv 0) pe_int (fun _ _ => rfl)))) (blkOk_by (N := N_depth) (sc := defScope s_depth) (by decide +kernel)) (fun _ _ _ _ _ => (pg_name (i := 2) scdepth.nd rfl (Or.inl rfl))) (fun _ _ _ _ _ => pts_nil) (fun _ _ _ _ _ => (pe_ix (r := rIxL K) ix_list (pv 1) (pe_op op_shr (pv 2) pe_int) (fun _ _ => rfl))))) pa_nil))))), ?_⟩
    refine ⟨_, rfl, .ref a, n, rfl, hn0, fit, fun H1 p s1 np ep => ?_⟩
    have ll : (levTo n n.gates).length = n.many := lev_len n _
    refine ⟨by show 1 ≤ sizeLine; decide, fun l1 n1 => ?_⟩
    have s2 := s1.trans (same_new (o := .lst [.int 0]) n1)
    have e2 : (upd H1 l1 (.lst [.int 0])) l1 = some (.lst [.int 0]) := upd_same
    have ep2 := same_new (o := .lst [.int 0]) n1 _ _ ep
    generalize (upd H1 l1 (.lst [.int 0])) = H2 at s2 e2 ep2 ⊢
    refine ⟨_, rfl, a, _, 4, _, rfl, rfl, SqT.of (s2 _ _ hA), atI_nat (j := 4) rfl, _, rfl, a, _, 5, _, rfl, rfl, SqT.of (s2 _ _ hA), atI_nat (j := 5) rfl, aN, aO, _, _, rfl, rfl, s2 _ _ hN, s2 _ _ hO, ?_, fun l2 n2 => ?_⟩
    · rw [vn_len, vn_len]
      exact Nat.le_of_lt (small64k (by rw [List.length_append] at lxo; omega))
    have ev : vn n.nexts ++ vn n.outs = vn (n.nexts ++ n.outs) := by
      unfold vn
      rw [List.map_append]
    rw [ev]
    have s3 := same_new (o := .lst (vn (n.nexts ++ n.outs))) n2
    have e3 : (upd H2 l2 (.lst (vn (n.nexts ++ n.outs)))) l2 = some (.lst (vn (n.nexts ++ n.outs))) := upd_same
    have e2 := s3 _ _ e2
    have ep3 := s3 _ _ ep2
    have s3 := s2.trans s3
    generalize (upd H2 l2 (.lst (vn (n.nexts ++ n.outs)))) = H3 at s3 e3 e2 ep3 ⊢
    refine ⟨l2, rfl, ⟨_, SqL.of e3⟩, fun D nD => lc_list (xs := vn (n.nexts ++ n.outs)) (fun i Hz => Same H3 Hz ∧ Hz D = some (.lst (vn (levs n ((n.nexts ++ n.outs).take i))))) ⟨same_new nD, upd_same⟩ (fun i Hz _ h => SqL.of (h.1 _ _ e3)) ?_ ?_⟩
    · rintro i v Hz hv ⟨sz, hp⟩
      have hi : i < (n.nexts ++ n.outs).length := by
        have h := (List.getElem?_eq_some_iff.mp hv).1
        rw [vn_len] at h
        exact h
      have hx := List.getElem?_eq_getElem hi
      rw [vn_get hx] at hv
      cases hv
      have hb := bxo _ (List.getElem_mem hi)
      have hlt : (n.nexts ++ n.outs)[i] / 2 < (levTo n n.gates).length := by omega
      refine ⟨rfl, _, rfl, _, rfl, _, _, rfl, rfl, (show (0 : Int) ≤ 1 by decide), p, _, _, _, rfl, rfl, SqL.of (sz _ _ ep3), atI_nat (vn_get (List.getElem?_eq_getElem hlt)), _, hp, ?_, same_mut sz nD, ?_⟩
      · unfold levs
        rw [vn_len, List.length_map, List.length_take]
        exact small64k (by omega)
      · rw [upd_same, vn_snoc, take_snoc hx]
        unfold levs
        rw [List.map_append]
        show _ = some (HO.lst (vn (_ ++ [(levTo n n.gates)[(n.nexts ++ n.outs)[i] / 2]?.getD 0])))
        rw [List.getElem?_eq_getElem hlt]
        rfl
    rintro H4 ⟨s4, e4⟩
    rw [vn_len, List.take_length] at e4
    have le : (levs n (n.nexts ++ n.outs)).length ≤ 2000 := by
      unfold levs
      rw [List.length_map]
      exact lxo
    refine ⟨l1, D, _, _, rfl, rfl, s4 _ _ e2, e4, ?_, fun l5 n5 => ?_⟩
    · rw [vn_len]
      exact Nat.le_of_lt (small64k (by show 1 + _ ≤ _; omega))
    refine ⟨l5, toI (0 :: levs n (n.nexts ++ n.outs)), rfl, SqL.of (by rw [upd_same, ← vn_int]; rfl), by show 0 < _ + 1; omega, fun m hm1 hm2 => ?_⟩
    obtain ⟨d, hd, rfl⟩ := List.mem_map.mp hm1
    exact q _ d ((s3.trans s4).trans (same_new n5)) hd fun y hy => by have := hm2 _ (List.mem_map_of_mem hy); omega
end K30
namespace K30
open PySem PySem.Spec PyProof.Rows L2 V0
/-! ### what stands below a node -/
inductive Below (n : Net) (x : Nat) : Nat → Prop
  | refl : Below n x x
  | kid {y z : Nat} : Below n x y → z ∈ kids n y → Below n x z
theorem below_head {n : Net} {x y z : Nat} (h : y ∈ kids n x) (b : Below n y z) : Below n x z := by
  induction b with
  | refl => exact .kid .refl h
  | kid _ hz ih => exact .kid ih hz
theorem below_cases {n : Net} {x z : Nat} (b : Below n x z) : z = x ∨ ∃ y ∈ kids n x, Below n y z := by
  induction b with
  | refl => exact .inl rfl
  | @kid y z _ hz ih =>
    rcases ih with rfl | ⟨w, hw, hb⟩
    · exact .inr ⟨z, hz, .refl⟩
    · exact .inr ⟨w, hw, .kid hb hz⟩
theorem kids_lt {n : Net} (f : Fits n) {x y : Nat} (h : y ∈ kids n x) : y < x := by
  unfold kids at h
  by_cases hb : x < n.base
  · rw [if_pos hb] at h
    cases h
  · rw [if_neg hb] at h
    cases eg : n.gates[x - n.base]? with
    | none =>
      rw [eg] at h
      cases h
    | some g =>
      rw [eg] at h
      have := f.2 _ _ eg
      simp only [List.mem_cons, List.not_mem_nil, or_false] at h
      rcases h with rfl | rfl <;> omega
theorem below_le {n : Net} (f : Fits n) {x z : Nat} (b : Below n x z) : z ≤ x := by
  induction b with
  | refl => exact Nat.le_refl _
  | kid _ hz ih => exact Nat.le_trans (Nat.le_of_lt (kids_lt f hz)) ih
theorem kids_base {n : Net} {x : Nat} (h : x < n.base) : kids n x = [] := by
  unfold kids
  rw [if_pos h]
theorem mark_iff {ms : List Bool} {j x : Nat} (hj : j < ms.length) : (ms.set j true)[x]? = some true ↔ x = j ∨ ms[x]? = some true := by
  rw [List.getElem?_set]
  by_cases e : j = x
  · subst e
    rw [if_pos rfl, if_pos hj]
    simp
  · rw [if_neg e]
    constructor
    · exact .inr
    · rintro (h | h)
      · exact absurd h.symm e
      · exact h
theorem set_bl (ms : List Bool) (j : Nat) (b : Bool) : (ms.map V.bl).set j (.bl b) = (ms.set j b).map V.bl := by
  rw [List.map_set]
def sp_needed (K : PySem.W.Frag) : Sp := fun vs H Q _ => ∃ (v : V) (n : Net) (r : Addr) (lits : List Nat), vs = [v, .ref r] ∧ Dv H v n ∧ H r = some (.lst (vn lits)) ∧ Fits n ∧ (∀ l ∈ lits, l < 2 * n.many) ∧
  ∀ H' q ys, Same H H' → H q = none → H' q = some (.lst (vn ys)) → ys.Pairwise (· < ·) → (∀ y, y ∈ ys ↔ ∃ l ∈ lits, Below n (l / 2) y) → Q (.ref q) H'
theorem ok_needed {P : Program} {w : World} {K : PySem.W.Frag} {mg : Str → Option Value} {base : Heap} {f fbase_of fmany_nodes : Addr} {fd fdbase_of fdmany_nodes : FuncData} (F : Fun K "needed" "needed" s_needed f fd) (T : Txt K mg)
    (G_base_of : FnOk P w K mg base CX0 1 fbase_of fdbase_of ["net"] (sp_base_of K)) (D_base_of : Def K mg "base_of" fbase_of fdbase_of ["net"])
    (G_many_nodes : FnOk P w K mg base CX0 2 fmany_nodes fdmany_nodes ["net"] (sp_many_nodes K)) (D_many_nodes : Def K mg "many_nodes" fmany_nodes fdmany_nodes ["net"]) :
    FnOk P w K mg base CX0 3 f fd ["net", "literals"] (sp_needed K) := by
  refine F.ok scneeded (fun vs H Q E h => ?_) (fun cdv A outer s H vs Q E hr h => ?_)
  · obtain ⟨v, n, r, lits, rfl, _⟩ := h
    rfl
  · obtain ⟨v, n, r, lits, rfl, hn, hlit, fit, bl, q⟩ := h
    have hn0 := hn
    obtain ⟨a, aS, aG, aN, aO, rfl, hA, hS, hG, hN, hO⟩ := hn.net_inv
    obtain ⟨_, us, e, hGl, hus⟩ := hG.list_inv
    cases e
    have hgl := hus.len
    have hm := fit.1
    refine ⟨_, (pss_cons (ps_set (i := 2) scneeded.nd rfl (.inl rfl) (pe_call G_base_of (hr.mono (by omega)) (by rfl) D_base_of.m D_base_of.k D_base_of.b .nil pass0 (pa_cons (pv 0) pa_nil)))
      (pss_cons (ps_set (i := 3) scneeded.nd rfl (.inl rfl) (pe_op op_rep (pe_lst (pa_cons pe_bl pa_nil)) (pe_call G_many_nodes (hr.mono (by omega)) (by rfl) D_many_nodes.m D_many_nodes.k D_many_nodes.b .nil pass0 (pa_cons (pv 0) pa_nil))))
      (pss_cons (ps_for PassesOwn.never rfl (pi_list (pv 1)) (pg_name (i := 4) scneeded.nd rfl (Or.inl rfl)) (pss_one (ps_asg pe_bl (pg_sub (pv 3) (pe_op op_shr (pv 4) pe_int) set_list))))
      (pss_cons (ps_for PassesOwn.never rfl (pi_revR (by rfl) T.m_reversed (prg_1 (by rfl) T.m_range (pe_callB call_len_seq (by rfl) T.m_len (by decide +kernel) (pa_cons (pe_ix (r := rIxT K) ix_tup (pv 0) pe_int (fun _ _ => rfl)) pa_nil)))) (pg_name (i := 5) scneeded.nd rfl (Or.inl rfl)) (pss_one (ps_if (pt_val (pe_ix (r := rIxL K) ix_list (pv 3) (pe_op op_add (pv 2) (pv 5)) (fun _ _ => rfl))) (pss_one (ps_for PassesOwn.never rfl (pi_tup (pe_ix (r := rIxL K) ix_list (pe_ix (r := rIxT K) ix_tup (pv 0) pe_int (fun _ _ => rfl)) (pv 5) (fun _ _ => rfl))) (pg_name (i := 4) scneeded.nd rfl (Or.inl rfl)) (pss_one (ps_asg pe_bl (pg_sub (pv 3) (pe_op op_shr (pv 4) pe_int) set_list))))) pss_nil)))
      (pss_one (ps_ret (pe_lc (own := [("node", 6), ("is_needed", 7)]) (g := gTup K 2 (gCons (gName 6) (gCons (gName 7) (gNil)))) rfl scneeded.nd (pi_enum (by rfl) T.m_enumerate (pa_cons (pv 3) pa_nil)) (blkOk_by (N := N_needed) (sc := defScope s_needed) (by decide +kernel)) (fun _ _ _ _ _ => (pg_tup (by rfl) (pgs_cons (pg_name (i := 6) scneeded.nd rfl (Or.inl rfl)) (pgs_cons (pg_name (i := 7) scneeded.nd rfl (Or.inl rfl)) pgs_nil)))) (fun _ _ _ _ _ => (pts_one (pt_val (pv 7)))) (fun _ _ _ _ _ => (pv 6))))))))), ?_⟩
    refine ⟨_, rfl, .ref a, n, rfl, hn0, ?_⟩
    refine ⟨by show 1 ≤ sizeLine; decide, fun l nl => ⟨_, rfl, .ref a, n, rfl, hn0.same (same_new nl), l, _, _, rfl, rfl, upd_same, by omega, by omega, ?_, fun p np => ?_⟩⟩
    · show 1 * ((n.many : Int)).toNat ≤ sizeLine
      rw [Int.toNat_natCast, Nat.one_mul]
      exact Nat.le_of_lt (small64k (by omega))
    have s0 := (same_new (o := .lst [.bl false]) nl).trans (same_new (o := .lst (List.replicate ((n.many : Int)).toNat [V.bl false]).flatten) np)
    have nHp : H p = none := none_of (same_new nl) np
    have e0 : (upd (upd H l (.lst [.bl false])) p (.lst (List.replicate ((n.many : Int)).toNat [V.bl false]).flatten)) p = some (.lst ((List.replicate n.many false).map V.bl)) := by
      rw [upd_same, rep_flat, Int.toNat_natCast, List.map_replicate]
    generalize (upd (upd H l (.lst [.bl false])) p (.lst (List.replicate ((n.many : Int)).toNat [V.bl false]).flatten)) = H0 at s0 e0 ⊢
    -- the literals' nodes
    refine ⟨_, rfl, r, rfl, ⟨_, SqL.of (s0 _ _ hlit)⟩, for_list (xs := vn lits) (fun i σ Hx => ∃ (y4 : Option V) (ms : List Bool), σ = [some (.ref a), some (.ref r), some (.int (n.base : Nat)), some (.ref p), y4, none, none, none] ∧ Same H Hx ∧ Hx p = some (.lst (ms.map V.bl)) ∧ ms.length = n.many ∧ ∀ x, ms[x]? = some true ↔ ∃ l ∈ lits.take i, l / 2 = x) ⟨none, _, rfl, s0, e0, List.length_replicate, fun x => ?_⟩ (fun i σ Hx _ ⟨_, _, _, s', _⟩ => SqL.of (s' _ _ hlit)) ?_ ?_⟩
    · constructor
      · intro h
        have := List.mem_replicate.mp (List.mem_of_getElem? h)
        exact absurd this.2 (by decide)
      · rintro ⟨l, hl, _⟩
        simp at hl
    · rintro i v σ Hx hv ⟨y4, ms, rfl, sx, hp, lm, mk⟩
      have hi : i < lits.length := by
        have h := (List.getElem?_eq_some_iff.mp hv).1
        rw [vn_len] at h
        exact h
      have hx := List.getElem?_eq_getElem hi
      rw [vn_get hx] at hv
      cases hv
      have hb := bl _ (List.getElem_mem hi)
      have hj : lits[i] / 2 < ms.length := by omega
      refine ⟨_, rfl, _, rfl, _, _, rfl, rfl, (show (0 : Int) ≤ 1 by decide), p, _, _, lits[i] / 2, rfl, rfl, hp, ix_nat (by rw [List.length_map]; exact hj), ?_⟩
      refine ⟨_, ms.set (lits[i] / 2) true, rfl, same_mut sx nHp, by rw [upd_same, set_bl], by rw [List.length_set, lm], fun x => ?_⟩
      rw [mark_iff hj, mk x, take_snoc hx]
      constructor
      · rintro (rfl | ⟨l, hl, rfl⟩)
        · exact ⟨_, List.mem_append_right _ (List.mem_singleton.mpr rfl), rfl⟩
        · exact ⟨l, List.mem_append_left _ hl, rfl⟩
      · rintro ⟨l, hl, rfl⟩
        rcases List.mem_append.mp hl with hl | hl
        · exact .inr ⟨l, hl, rfl⟩
        · exact .inl (by rw [List.mem_singleton.mp hl])
    rintro σ Hx ⟨y4, ms, rfl, sx, hp, lm, mk⟩
    rw [vn_len, List.take_length] at mk
    -- down the gates
    have eG : ((0 : Int) + ((((us.length : Nat) : Int) - 0).toNat : Nat) - 1) = ((us.length : Nat) : Int) - 1 := by omega
    have eN : (((us.length : Nat) : Int) - 0).toNat = us.length := by omega
    refine ⟨_, rfl, a, _, 3, _, rfl, rfl, SqT.of (sx _ _ hA), atI_nat (j := 3) rfl, aG, _, rfl, .inl (SqL.of (sx _ _ hGl)), _, rfl, by omega, by omega, by omega, by have := hm; unfold Net.many at this; omega, ?_⟩
    rw [eG, eN]
    refine for_rangeC (fun i σ Hy => ∃ (y4 y5 : Option V) (ms : List Bool), σ = [some (.ref a), some (.ref r), some (.int (n.base : Nat)), some (.ref p), y4, y5, none, none] ∧ Same H Hy ∧ Hy p = some (.lst (ms.map V.bl)) ∧ ms.length = n.many ∧ (∀ x, ms[x]? = some true → ∃ l ∈ lits, Below n (l / 2) x) ∧ (∀ l ∈ lits, ms[l / 2]? = some true) ∧ ∀ x, ms[x]? = some true → n.many ≤ x + i → ∀ z ∈ kids n x, ms[z]? = some true) ⟨_, none, ms, rfl, sx, hp, lm, fun x hx => ?_, fun l hl => (mk _).mpr ⟨l, hl, rfl⟩, fun x hx hle => ?_⟩ ?_ ?_
    · obtain ⟨l, hl, e⟩ := (mk x).mp hx
      exact ⟨l, hl, e ▸ .refl⟩
    · have := (List.getElem?_eq_some_iff.mp hx).1
      omega
    · rintro i σ Hy hi ⟨y4, y5, ms, rfl, sy, hp, lm, snd, all, clo⟩
      have ek : V.int (((us.length : Nat) : Int) - 1 + (i : Nat) * (-1)) = V.int ((us.length - 1 - i : Nat) : Int) := by rw [show ((us.length : Nat) : Int) - 1 + (i : Nat) * (-1) = ((us.length - 1 - i : Nat) : Int) by omega]
      rw [ek]
      have hmm : n.many = n.base + us.length := by unfold Net.many; omega
      have hxm : n.base + (us.length - 1 - i) < ms.length := by omega
      refine ⟨_, rfl, _, rfl, _, rfl, _, _, rfl, rfl, p, _, _, _, rfl, rfl, SqL.of hp, (by rw [← Int.natCast_add]; exact atI_nat (by rw [List.getElem?_map, List.getElem?_eq_getElem hxm]; rfl)), _, rfl, ?_⟩
      have hx0 : n.base + (us.length - 1 - i) < n.many := by omega
      obtain ⟨x0, ex0⟩ : ∃ x0, x0 = n.base + (us.length - 1 - i) := ⟨_, rfl⟩
      have hm0 : ms[n.base + (us.length - 1 - i)]? = some ms[n.base + (us.length - 1 - i)] := List.getElem?_eq_getElem hxm
      by_cases hb : ms[n.base + (us.length - 1 - i)] = true
      · rw [hb] at hm0 ⊢
        refine iteT ?_
        obtain ⟨g, hg, hkd⟩ := kids_gate (n := n) (x := n.base + (us.length - 1 - i)) (by omega) hx0
        rw [show n.base + (us.length - 1 - i) - n.base = us.length - 1 - i by omega] at hg
        have hgb := fit.2 _ _ hg
        obtain ⟨u, hu, du⟩ := hus.get hg
        obtain ⟨t, u1, u2, rfl, ht, hx1, hx2⟩ := du.pair_inv
        have hx1 := hx1.nat_inv
        have hx2 := hx2.nat_inv
        subst hx1 hx2
        rw [← ex0] at hkd hm0
        refine ⟨_, rfl, a, _, 3, _, rfl, rfl, SqT.of (sy _ _ hA), atI_nat (j := 3) rfl, _, rfl, aG, _, _, _, rfl, rfl, SqL.of (sy _ _ hGl), atI_nat hu, t, rfl, ⟨_, SqT.of (sy _ _ ht)⟩, for_tup (xs := [.int (g.1 : Int), .int (g.2 : Int)]) (fun j σ Hz => ∃ (y4 : Option V) (ms2 : List Bool), σ = [some (.ref a), some (.ref r), some (.int (n.base : Nat)), some (.ref p), y4, some (.int ((us.length - 1 - i : Nat) : Int)), none, none] ∧ Same H Hz ∧ Hz p = some (.lst (ms2.map V.bl)) ∧ ms2.length = n.many ∧ ∀ x, ms2[x]? = some true ↔ ms[x]? = some true ∨ x ∈ (kids n x0).take j) ⟨_, ms, rfl, sy, hp, lm, fun x => by simp⟩ (fun j σ Hz _ ⟨_, _, _, s', _⟩ => SqT.of (s' _ _ ht)) ?_ ?_⟩
        · rintro j v σ Hz hv ⟨y4, ms2, rfl, sz, hpz, lz, mz⟩
          obtain ⟨l, rfl, hl, hlb⟩ : ∃ l : Nat, v = V.int (l : Int) ∧ (kids n x0)[j]? = some (l / 2) ∧ l / 2 < n.many := by
            have hj : j = 0 ∨ j = 1 := by
              have h : j < 2 := (List.getElem?_eq_some_iff.mp hv).1
              omega
            rcases hj with rfl | rfl
            · cases hv
              exact ⟨g.1, rfl, by rw [hkd]; rfl, by omega⟩
            · cases hv
              exact ⟨g.2, rfl, by rw [hkd]; rfl, by omega⟩
          have hj2 : l / 2 < ms2.length := by omega
          refine ⟨_, rfl, _, rfl, _, _, rfl, rfl, (show (0 : Int) ≤ 1 by decide), p, _, _, l / 2, rfl, rfl, hpz, ix_nat (by rw [List.length_map]; exact hj2), ?_⟩
          refine ⟨_, ms2.set (l / 2) true, rfl, same_mut sz nHp, by rw [upd_same, set_bl], by rw [List.length_set, lz], fun x => ?_⟩
          rw [mark_iff hj2, mz x, take_snoc hl, List.mem_append, List.mem_singleton]
          constructor
          · rintro (h | h | h)
            · exact .inr (.inr h)
            · exact .inl h
            · exact .inr (.inl h)
          · rintro (h | h | h)
            · exact .inr (.inl h)
            · exact .inr (.inr h)
            · exact .inl h
        · rintro σ Hz ⟨y4, ms2, rfl, sz, hpz, lz, mz⟩
          have mz : ∀ x, ms2[x]? = some true ↔ ms[x]? = some true ∨ x ∈ kids n x0 := fun x => by
            rw [mz x, List.take_of_length_le (by rw [hkd]; exact Nat.le_refl 2)]
          refine ⟨_, _, ms2, rfl, sz, hpz, lz, fun x hx => ?_, fun l hl => (mz _).mpr (.inl (all l hl)), fun x hx hle z hz => ?_⟩
          · rcases (mz x).mp hx with h | h
            · exact snd x h
            · obtain ⟨l, hl, b⟩ := snd x0 hm0
              exact ⟨l, hl, .kid b h⟩
          · refine (mz z).mpr ?_
            rcases (mz x).mp hx with h | h
            · by_cases e : x = x0
              · subst e
                exact .inr hz
              · exact .inl (clo x h (by omega) z hz)
            · have := kids_lt fit h
              omega
      · rw [show ms[n.base + (us.length - 1 - i)] = false by simpa using hb]
        refine iteF ⟨_, _, ms, rfl, sy, hp, lm, snd, all, fun x hx hle z hz => clo x hx ?_ z hz⟩
        have e : x ≠ n.base + (us.length - 1 - i) := fun e => by
          rw [e, hm0] at hx
          exact hb (Option.some.inj hx)
        omega
    rintro σ Hy ⟨y4, y5, ms, rfl, sy, hp, lm, snd, all, clo⟩
    have hmm : n.many = n.base + us.length := by unfold Net.many; omega
    have closed : ∀ x z, Below n x z → ms[x]? = some true → ms[z]? = some true := by
      intro x z b hx
      induction b with
      | refl => exact hx
      | @kid y z b hz ih =>
        by_cases hy : y < n.base
        · rw [kids_base hy] at hz
          cases hz
        · exact clo y ih (by omega) z hz
    refine ⟨_, rfl, p, _, rfl, SqL.of hp, fun D nD => lc_it walk_enum (fun i Hz => Same Hy Hz ∧ Hz D = some (.lst (vn ((List.range i).filter fun x => decide (ms[x]? = some true))))) ⟨same_new nD, upd_same⟩ (fun i Hz _ h => SqL.of (h.1 _ _ hp)) ?_ ?_⟩
    · rintro i v Hz Hz' hi ⟨sz, hpz⟩ ⟨T1, x, y, rfl, nT, rfl, ex, ey⟩
      cases ex
      rw [List.length_map] at hi
      have hx := List.getElem?_eq_getElem hi
      have ey : (ms.map V.bl)[i]? = some y := ey
      rw [List.getElem?_map, hx] at ey
      cases ey
      have sT := same_new (o := .tup [.int (i : Nat), .bl ms[i]]) nT
      refine ⟨T1, _, rfl, SqT.of upd_same, rfl, _, _, rfl, _, _, rfl, rfl, rfl, _, rfl, _, rfl, ?_⟩
      have hpT := sT _ _ hpz
      by_cases hb : ms[i] = true
      · rw [hb]
        refine iteT ⟨_, rfl, _, by rw [← hb]; exact hpT, ?_, by rw [← hb]; exact same_mut (sz.trans sT) nD, ?_⟩
        · rw [vn_len]
          exact small64k (Nat.le_trans (List.length_filter_le _ _) (by rw [List.length_range]; omega))
        · rw [upd_same, vn_snoc, List.range_succ, List.filter_append]
          rw [show [i].filter (fun x => decide (ms[x]? = some true)) = [i] by simp [hx, hb]]
      · rw [show ms[i] = false by simpa using hb]
        refine iteF ⟨by rw [← show ms[i] = false by simpa using hb]; exact sz.trans sT, ?_⟩
        rw [List.range_succ, List.filter_append, show [i].filter (fun x => decide (ms[x]? = some true)) = [] by simp [hx, hb], List.append_nil]
        rw [← show ms[i] = false by simpa using hb]
        exact hpT
    rintro Hz ⟨sz, hpz⟩
    rw [List.length_map] at hpz
    refine q Hz D _ (sy.trans sz) (none_of sy nD) hpz ?_ fun y => ?_
    · exact List.Pairwise.filter _ List.pairwise_lt_range
    · rw [List.mem_filter, List.mem_range, decide_eq_true_eq]
      constructor
      · rintro ⟨_, h⟩
        exact snd y h
      · rintro ⟨l, hl, b⟩
        have h := closed _ _ b (all l hl)
        exact ⟨(List.getElem?_eq_some_iff.mp h).1, h⟩
end K30
namespace K30
open PySem PySem.Spec PyProof.Rows L2 V0
/-! ### the law's own way down -/
def BW (M : Nat) : Sp := fun vs H Q _ => ∃ (v : V) (n : Net) (x : Nat), vs = [v, .int x] ∧ Dv H v n ∧ Fits n ∧ n.many ≤ 21 ∧ x < n.many ∧ x < M ∧
  ∀ H' q xs, Same H H' → H q = none → H' q = some (.lst (vn xs)) → (∀ y, y ∈ xs ↔ Below n x y) → xs.length + 1 ≤ 2 ^ (x + 1 - n.base + 1) → Q (.ref q) H'
def sp__law_below (K : PySem.W.Frag) : Sp := BW 21
theorem below_ind {P : Program} {w : World} {K : PySem.W.Frag} {mg : Str → Option Value} {base : Heap} {f : Addr} {fd : FuncData} (F : Fun K "_law_below" "_law_below" s__law_below f fd) (T : Txt K mg)
    (D__law_below : Def K mg "_law_below" f fd ["net", "node"]) :
    ∀ M, FnOk P w K mg base CX0 (M + 2) f fd ["net", "node"] (BW M)
  | 0 => by
    refine ⟨fun vs H Q E h => ?_, fun A outer s H args us vs Q E hr he hb hv h => ?_⟩
    · obtain ⟨v, n, x, rfl, _⟩ := h
      rfl
    · obtain ⟨v, n, x, _, _, _, _, _, lt, _⟩ := h
      exact absurd lt (Nat.not_lt_zero _)
  | M + 1 => by
    have G__law_below : FnOk P w K mg base CX0 (M + 2) f fd ["net", "node"] (BW M) := below_ind F T D__law_below M
    refine F.ok sc_law_below (fun vs H Q E h => ?_) (fun cdv A outer s H vs Q E hr h => ?_)
    · obtain ⟨v, n, x, rfl, _⟩ := h
      rfl
    · obtain ⟨v, n, x, rfl, hn, fit, m21, xm, lt, q⟩ := h
      have hn0 := hn
      obtain ⟨a, aS, aG, aN, aO, rfl, hA, hS, hG, hN, hO⟩ := hn.net_inv
      obtain ⟨_, e, hS⟩ := hS.natl_inv
      cases e
      obtain ⟨_, us, e, hGl, hus⟩ := hG.list_inv
      cases e
      have eB : V.int ((1 : Int) + (n.ins : Int) + ((vn n.starts).length : Int)) = V.int ((n.base : Nat) : Int) := by
        rw [vn_len]
        rfl
      refine ⟨_, (pss_cons (ps_set (i := 2) sc_law_below.nd rfl (.inl rfl) (pe_op op_add (pe_op op_add pe_int (pe_ix (r := rIxT K) ix_tup (pv 0) pe_int (fun _ _ => rfl))) (pe_callB call_len_seq (by rfl) T.m_len (by decide +kernel) (pa_cons (pe_ix (r := rIxT K) ix_tup (pv 0) pe_int (fun _ _ => rfl)) pa_nil))))
      (pss_cons (ps_set (i := 3) sc_law_below.nd rfl (.inl rfl) (pe_lst (pa_cons (pv 1) pa_nil)))
      (C8.pss_cut (ps_if (pt_cmpR op_ge (pv 1) (pv 2) (nomark _)) (pss_one (ps_for PassesOwn.never rfl (pi_tup (pe_ix (r := rIxL K) ix_list (pe_ix (r := rIxT K) ix_tup (pv 0) pe_int (fun _ _ => rfl)) (pe_op op_sub (pv 1) (pv 2)) (fun _ _ => rfl))) (pg_name (i := 4) sc_law_below.nd rfl (Or.inl rfl)) (pss_one (ps_expr (pe_bm PySem.F.plainAttrs_list PySem.F.slot_list_extend PySem.F.type_list_extend mt_extend (pv 3) (pa_cons (pe_call G__law_below (hr.mono (by omega)) (by rfl) D__law_below.m D__law_below.k D__law_below.b .nil pass0 (pa_cons (pv 0) (pa_cons (pe_op op_fdivN (pv 4) pe_int) pa_nil))) pa_nil)))))) pss_nil)
      (pss_one (ps_ret (pv 3)))))), ?_⟩
      refine ⟨_, rfl, a, _, 1, _, rfl, rfl, SqT.of hA, atI_nat (j := 1) rfl, _, _, rfl, rfl, _, rfl, a, _, 2, _, rfl, rfl, SqT.of hA, atI_nat (j := 2) rfl, aS, _, rfl, .inl (SqL.of hS), _, _, rfl, rfl, ?_⟩
      simp only [eB]
      refine ⟨_, rfl, by show 1 ≤ sizeLine; decide, fun p np => ?_⟩
      have s0 := same_new (o := .lst [.int (x : Int)]) np
      have e0 : (upd H p (.lst [.int (x : Int)])) p = some (.lst (vn [x])) := upd_same
      generalize (upd H p (.lst [.int (x : Int)])) = H0 at s0 e0 ⊢
      refine ⟨fun σ Hx => ∃ (y4 : Option V) (xs : List Nat), σ = [some (.ref a), some (.int (x : Int)), some (.int (n.base : Nat)), some (.ref p), y4] ∧ Same H Hx ∧ Hx p = some (.lst (vn xs)) ∧ (∀ y, y ∈ xs ↔ Below n x y) ∧ xs.length + 1 ≤ 2 ^ (x + 1 - n.base + 1), ?_, ?_⟩
      · refine ⟨_, rfl, _, rfl, _, _, rfl, rfl, _, rfl, ?_⟩
        by_cases hx : n.base ≤ x
        · rw [decide_eq_true (show ((x : Nat) : Int) ≥ (n.base : Int) by omega)]
          refine iteT ?_
          obtain ⟨g, hg, hkd⟩ := kids_gate hx xm
          obtain ⟨u, hu, du⟩ := hus.get hg
          obtain ⟨t, u1, u2, rfl, ht, hx1, hx2⟩ := du.pair_inv
          have hx1 := hx1.nat_inv
          have hx2 := hx2.nat_inv
          subst hx1 hx2
          obtain ⟨PP, ePP⟩ : ∃ PP, PP = 2 ^ (x - n.base + 1) := ⟨_, rfl⟩
          have hPP : PP ≤ 2 ^ 21 := by rw [ePP]; exact Nat.pow_le_pow_right (by decide) (by omega)
          have hP2 : 2 ^ (x + 1 - n.base + 1) = 2 * PP := by
            rw [ePP, show x + 1 - n.base + 1 = (x - n.base + 1) + 1 by omega, Nat.pow_succ]
            omega
          rw [hP2]
          refine ⟨_, rfl, a, _, 3, _, rfl, rfl, SqT.of (s0 _ _ hA), atI_nat (j := 3) rfl, _, rfl, _, rfl, _, _, rfl, rfl, aG, _, _, _, rfl, rfl, SqL.of (s0 _ _ hGl), (by rw [show (x : Int) - (n.base : Int) = ((x - n.base : Nat) : Int) by omega]; exact atI_nat hu), t, rfl, ⟨_, SqT.of (s0 _ _ ht)⟩, for_tup (xs := [.int (g.1 : Int), .int (g.2 : Int)]) (fun j σ Hy => ∃ (y4 : Option V) (xs : List Nat), σ = [some (.ref a), some (.int (x : Int)), some (.int (n.base : Nat)), some (.ref p), y4] ∧ Same H Hy ∧ Hy p = some (.lst (vn xs)) ∧ (∀ y, y ∈ xs ↔ y = x ∨ ∃ k ∈ (kids n x).take j, Below n k y) ∧ xs.length + j ≤ 1 + j * PP) ⟨none, [x], rfl, s0, e0, fun y => by simp, by show 1 + 0 ≤ 1 + 0 * PP; omega⟩ (fun j σ Hy _ ⟨_, _, _, s', _⟩ => SqT.of (s' _ _ ht)) ?_ ?_⟩
          · rintro j v σ Hy hv ⟨y4, xs, rfl, sy, hp, mem, len⟩
            obtain ⟨l, rfl, hl, hj2⟩ : ∃ l : Nat, v = V.int (l : Int) ∧ (kids n x)[j]? = some (l / 2) ∧ j < 2 := by
              have hj : j = 0 ∨ j = 1 := by
                have h : j < 2 := (List.getElem?_eq_some_iff.mp hv).1
                omega
              rcases hj with rfl | rfl
              · cases hv
                exact ⟨g.1, rfl, by rw [hkd]; rfl, by decide⟩
              · cases hv
                exact ⟨g.2, rfl, by rw [hkd]; rfl, by decide⟩
            have hlt := kids_lt fit (List.mem_of_getElem? hl)
            have hjP : j * PP ≤ PP := by
              have : j ≤ 1 := by omega
              calc j * PP ≤ 1 * PP := Nat.mul_le_mul_right _ this
                _ = PP := Nat.one_mul _
            refine ⟨_, rfl, .inl ⟨rfl, _, SqL.of hp⟩, _, rfl, _, rfl, _, _, rfl, rfl, ⟨by decide, by decide⟩, .ref a, n, l / 2, (show [V.ref a, V.int ((l : Int).fdiv 2)] = _ by rw [nfdiv2]), hn0.same sy, fit, m21, by omega, by omega, fun H2 r zs s2 nr er mem2 len2 => ?_⟩
            have hk : 2 ^ (l / 2 + 1 - n.base + 1) ≤ PP := by rw [ePP]; exact Nat.pow_le_pow_right (by decide) (by omega)
            refine ⟨p, r, _, _, rfl, rfl, s2 _ _ hp, er, ?_, ?_⟩
            · rw [vn_len, vn_len]
              refine Nat.le_of_lt (Nat.lt_of_le_of_lt (show _ ≤ 2 ^ 23 by omega) (by decide))
            refine ⟨_, xs ++ zs, rfl, same_mut (sy.trans s2) np, ?_, fun y => ?_, ?_⟩
            · rw [upd_same]
              unfold vn
              rw [List.map_append]
            · rw [List.mem_append, mem, mem2, take_snoc hl]
              constructor
              · rintro ((h | ⟨k, hk, b⟩) | b)
                · exact .inl h
                · exact .inr ⟨k, List.mem_append_left _ hk, b⟩
                · exact .inr ⟨_, List.mem_append_right _ (List.mem_singleton.mpr rfl), b⟩
              · rintro (h | ⟨k, hk, b⟩)
                · exact .inl (.inl h)
                · rcases List.mem_append.mp hk with hk | hk
                  · exact .inl (.inr ⟨k, hk, b⟩)
                  · exact .inr (by rw [← List.mem_singleton.mp hk]; exact b)
            · rw [List.length_append, Nat.add_mul, Nat.one_mul]
              omega
          · rintro σ Hy ⟨y4, xs, rfl, sy, hp, mem, len⟩
            refine ⟨_, xs, rfl, sy, hp, fun y => ?_, ?_⟩
            · rw [mem y, List.take_of_length_le (by rw [hkd]; exact Nat.le_refl 2)]
              constructor
              · rintro (rfl | ⟨k, hk, b⟩)
                · exact .refl
                · exact below_head hk b
              · intro b
                rcases below_cases b with h | ⟨k, hk, b⟩
                · exact .inl h
                · exact .inr ⟨k, hk, b⟩
            · have len : xs.length + 2 ≤ 1 + 2 * PP := len
              omega
        · rw [decide_eq_false (show ¬ ((x : Nat) : Int) ≥ (n.base : Int) by omega)]
          refine iteF ⟨_, [x], rfl, s0, e0, fun y => ?_, ?_⟩
          · rw [List.mem_singleton]
            constructor
            · rintro rfl
              exact .refl
            · intro b
              rcases below_cases b with h | ⟨k, hk, b⟩
              · exact h
              · rw [kids_base (by omega)] at hk
                cases hk
          · rw [show x + 1 - n.base + 1 = 1 by omega]
            exact Nat.le_refl 2
      · rintro σ Hx ⟨y4, xs, rfl, sx, hp, mem, len⟩
        exact ⟨_, rfl, q Hx p xs sx np hp mem len⟩
theorem ok__law_below {P : Program} {w : World} {K : PySem.W.Frag} {mg : Str → Option Value} {base : Heap} {f  : Addr} {fd  : FuncData} (F : Fun K "_law_below" "_law_below" s__law_below f fd) (T : Txt K mg)
    (D__law_below : Def K mg "_law_below" f fd ["net", "node"]) :
    FnOk P w K mg base CX0 40 f fd ["net", "node"] (sp__law_below K) := by
  exact (below_ind F T D__law_below 21).mono (by decide)
end K30
namespace K30
open PySem PySem.Spec PyProof.Rows L2 V0
/-! ### the law -/
theorem ok_many {n : Net} (ok : n.Ok 3 3 14) : n.many ≤ 21 := by
  have := ok.ins
  have := ok.fl
  have := ok.most
  unfold Net.many Net.base
  omega
theorem ok_fits {n : Net} (ok : n.Ok 3 3 14) : Fits n := ⟨by have := ok_many ok; omega, ok.g⟩
theorem ok_small {n : Net} (ok : n.Ok 3 3 14) : ∃ m, m ≤ 2 ^ 20 ∧ Sm (PySem.W.Datum.toD n) m := by
  have hm := ok_many ok
  have hg : ∀ g ∈ n.gates, Sm (PySem.W.Datum.toD g) 82 := fun g hg => by
    obtain ⟨j, hj, e⟩ := List.getElem_of_mem hg
    have h := ok.g j g (by rw [List.getElem?_eq_getElem hj, e])
    have hb : n.base + j < 21 := by unfold Net.many at hm; omega
    exact Sm.tup ((SmA.cons (Sm.nat (n := g.1) (by omega)) (SmA.cons (Sm.nat (n := g.2) (by omega)) SmA.nil)))
  have s0 : Sm (.str "net") 40 := ⟨by decide +kernel, by decide +kernel, by decide +kernel⟩
  have i4 := ok.ins
  have h1 := Sm.nat (n := n.ins) (by omega)
  have h2 := Sm.nats (xs := n.starts) fun x hx => by have := ok.bits x hx; omega
  have h3 := Sm.of_list hg
  have h4 := Sm.nats (xs := n.nexts) fun x hx => by have := ok.nx x hx; omega
  have h5 := Sm.nats (xs := n.outs) fun x hx => by have := ok.ox x hx; omega
  refine ⟨_, ?_, Sm.tup (SmA.cons s0 (SmA.cons h1 (SmA.cons h2 (SmA.cons h3 (SmA.cons h4 (SmA.cons h5 SmA.nil))))))⟩
  have := ok.fl
  have := ok.most
  have := ok.nl
  have := ok.ol
  omega
def sp_law (K : PySem.W.Frag) : Sp := fun vs H Q _ => ∃ (a : Addr) (ns : List Int), vs = [.ref a] ∧ SqL K H a (ns.map V.int) ∧ ns.length ≤ 63 ∧ ∀ H', Q (.bl true) H'
theorem ok_law {P : Program} {w : World} {K : PySem.W.Frag} {mg : Str → Option Value} {base : Heap} {f f_law_state f_law_net f_law_rows f_law_row f_law_draw fvalued f_law_bit fcheck frun f_law_run fvalues fstep flevels fdepth f_law_below fneeded : Addr} {fd fd_law_state fd_law_net fd_law_rows fd_law_row fd_law_draw fdvalued fd_law_bit fdcheck fdrun fd_law_run fdvalues fdstep fdlevels fddepth fd_law_below fdneeded : FuncData} (F : Fun K "law" "law" s_law f fd) (T : Txt K mg)
    (G__law_state : FnOk P w K mg base CX0 1 f_law_state fd_law_state ["script"] (sp__law_state K)) (D__law_state : Def K mg "_law_state" f_law_state fd_law_state ["script"])
    (G__law_net : FnOk P w K mg base CX0 3 f_law_net fd_law_net ["state", "ins", "flops", "most"] (sp__law_net K)) (D__law_net : Def K mg "_law_net" f_law_net fd_law_net ["state", "ins", "flops", "most"])
    (G__law_rows : FnOk P w K mg base CX0 2 f_law_rows fd_law_rows ["state", "ins", "most"] (sp__law_rows K)) (D__law_rows : Def K mg "_law_rows" f_law_rows fd_law_rows ["state", "ins", "most"])
    (G__law_row : FnOk P w K mg base CX0 2 f_law_row fd_law_row ["net", "held", "bits"] (sp__law_row K)) (D__law_row : Def K mg "_law_row" f_law_row fd_law_row ["net", "held", "bits"])
    (G__law_draw : FnOk P w K mg base CX0 1 f_law_draw fd_law_draw ["state", "many"] (sp__law_draw K)) (D__law_draw : Def K mg "_law_draw" f_law_draw fd_law_draw ["state", "many"])
    (G_valued : FnOk P w K mg base CX0 1 fvalued fdvalued ["row", "literal"] (sp_valued K)) (D_valued : Def K mg "valued" fvalued fdvalued ["row", "literal"])
    (G__law_bit : FnOk P w K mg base CX0 1 f_law_bit fd_law_bit ["row", "literal"] (sp__law_bit K)) (D__law_bit : Def K mg "_law_bit" f_law_bit fd_law_bit ["row", "literal"])
    (G_check : FnOk P w K mg base CX0 4 fcheck fdcheck ["net"] (sp_check K)) (D_check : Def K mg "check" fcheck fdcheck ["net"])
    (G_run : FnOk P w K mg base CX0 4 frun fdrun ["net", "rows"] (sp_run K)) (D_run : Def K mg "run" frun fdrun ["net", "rows"])
    (G__law_run : FnOk P w K mg base CX0 3 f_law_run fd_law_run ["net", "rows"] (sp__law_run K)) (D__law_run : Def K mg "_law_run" f_law_run fd_law_run ["net", "rows"])
    (G_values : FnOk P w K mg base CX0 2 fvalues fdvalues ["net", "state", "bits"] (sp_values K)) (D_values : Def K mg "values" fvalues fdvalues ["net", "state", "bits"])
    (G_step : FnOk P w K mg base CX0 3 fstep fdstep ["net", "state", "bits"] (sp_step K)) (D_step : Def K mg "step" fstep fdstep ["net", "state", "bits"])
    (G_levels : FnOk P w K mg base CX0 2 flevels fdlevels ["net"] (sp_levels K)) (D_levels : Def K mg "levels" flevels fdlevels ["net"])
    (G_depth : FnOk P w K mg base CX0 3 fdepth fddepth ["net"] (sp_depth K)) (D_depth : Def K mg "depth" fdepth fddepth ["net"])
    (G__law_below : FnOk P w K mg base CX0 40 f_law_below fd_law_below ["net", "node"] (sp__law_below K)) (D__law_below : Def K mg "_law_below" f_law_below fd_law_below ["net", "node"])
    (G_needed : FnOk P w K mg base CX0 3 fneeded fdneeded ["net", "literals"] (sp_needed K)) (D_needed : Def K mg "needed" fneeded fdneeded ["net", "literals"]) :
    LawOk P w K mg base f fd ["script"] (sp_law K) := by
  refine lawOk F sclaw (k := 40) ⟨rfl, by decide, by decide⟩ (fun vs H Q E h => ?_) (fun cdv A outer s H vs Q E hr hgd h => ?_)
  · obtain ⟨a, ns, rfl, _⟩ := h
    rfl
  · obtain ⟨a, ns, rfl, hS, hl, q⟩ := h
    refine ⟨_, (pss_cons (ps_set (i := 1) sclaw.nd rfl (.inr rfl) (pe_call G__law_state (hr.mono (by omega)) (by rfl) D__law_state.m D__law_state.k D__law_state.b .nil pass0 (pa_cons (pv 0) pa_nil)))
      (pss_cons (ps_set (i := 2) sclaw.nd rfl (.inl rfl) (pe_call G__law_net (hr.mono (by omega)) (by rfl) D__law_net.m D__law_net.k D__law_net.b .nil pass0 (pa_cons (pv 1) (pa_cons pe_int (pa_cons pe_int (pa_cons pe_int pa_nil))))))
      (pss_cons (ps_set (i := 3) sclaw.nd rfl (.inl rfl) (pe_callB (r := rRepr K) (call_reprD hgd hr.units) (by rfl) T.m_repr (by decide +kernel) (pa_cons (pv 2) pa_nil)))
      (pss_cons (ps_set (i := 4) sclaw.nd rfl (.inl rfl) (pe_call G__law_rows (hr.mono (by omega)) (by rfl) D__law_rows.m D__law_rows.k D__law_rows.b .nil pass0 (pa_cons (pv 1) (pa_cons (pe_ix (r := rIxT K) ix_tup (pv 2) pe_int (fun _ _ => rfl)) (pa_cons pe_int pa_nil)))))
      (pss_cons (ps_if (PW.pt (pw_or (pt_cmpR op_notN (pe_call G_check (hr.mono (by omega)) (by rfl) D_check.m D_check.k D_check.b .nil pass0 (pa_cons (pv 2) pa_nil)) pe_non (nomark _)) (pw_or1 (pt_cmpR (op_neD hr.units) (pe_call G_run (hr.mono (by omega)) (by rfl) D_run.m D_run.k D_run.b .nil pass0 (pa_cons (pv 2) (pa_cons (pv 4) pa_nil))) (pe_call G__law_run (hr.mono (by omega)) (by rfl) D__law_run.m D__law_run.k D__law_run.b .nil pass0 (pa_cons (pv 2) (pa_cons (pv 4) pa_nil))) (nomark _))))) (pss_one (ps_ret pe_bl)) pss_nil)
      (pss_cons (ps_setLc (i := 5) (own := [("k", 18)]) (g := gName 18) (tt := tYes) rfl sclaw.nd rfl rfl (sw_true rfl rfl rfl (by decide +kernel)) (pi_list (pe_ix (r := rIxT K) ix_tup (pv 2) pe_int (fun _ _ => rfl))) (blkOk_by (N := N_law) (sc := defScope s_law) (by decide +kernel)) (fun _ _ _ _ _ => (pg_name (i := 18) sclaw.nd rfl (Or.inl rfl))) (fun _ _ _ _ _ => pts_nil) (fun _ _ _ _ _ => (pe_call G__law_draw (hr.mono (by omega)) (by rfl) D__law_draw.m D__law_draw.k D__law_draw.b .nil pass0 (pa_cons (pv 1) (pa_cons pe_int pa_nil)))))
      (pss_cons (ps_setLc (i := 6) (own := [("k", 18)]) (g := gName 18) (tt := tYes) rfl sclaw.nd rfl rfl (sw_true rfl rfl rfl (by decide +kernel)) (pi_range1 rfl T.m_range (pa_cons (pe_ix (r := rIxT K) ix_tup (pv 2) pe_int (fun _ _ => rfl)) pa_nil)) (blkOk_by (N := N_law) (sc := defScope s_law) (by decide +kernel)) (fun _ _ _ _ _ => (pg_name (i := 18) sclaw.nd rfl (Or.inl rfl))) (fun _ _ _ _ _ => pts_nil) (fun _ _ _ _ _ => (pe_call G__law_draw (hr.mono (by omega)) (by rfl) D__law_draw.m D__law_draw.k D__law_draw.b .nil pass0 (pa_cons (pv 1) (pa_cons pe_int pa_nil)))))
      (pss_cons (ps_set (i := 7) sclaw.nd rfl (.inr rfl) (pe_call G__law_row (hr.mono (by omega)) (by rfl) D__law_row.m D__law_row.k D__law_row.b .nil pass0 (pa_cons (pv 2) (pa_cons (pv 5) (pa_cons (pv 6) pa_nil)))))
      (pss_cons (ps_set (i := 9) sclaw.nd rfl (.inl rfl) (pe_tup (pa_cons (pe_lc (own := [("literal", 8)]) (g := gName 8) (tt := tYes) rfl sclaw.nd (pi_list (pe_ix (r := rIxT K) ix_tup (pv 2) pe_int (fun _ _ => rfl))) (blkOk_by (N := N_law) (sc := defScope s_law) (by decide +kernel)) (fun _ _ _ _ _ => (pg_name (i := 8) sclaw.nd rfl (Or.inl rfl))) (fun _ _ _ _ _ => pts_nil) (fun _ _ _ _ _ => (pe_call G__law_bit (hr.mono (by omega)) (by rfl) D__law_bit.m D__law_bit.k D__law_bit.b .nil pass0 (pa_cons (pv 7) (pa_cons (pv 8) pa_nil))))) (pa_cons (pe_lc (own := [("literal", 8)]) (g := gName 8) (tt := tYes) rfl sclaw.nd (pi_list (pe_ix (r := rIxT K) ix_tup (pv 2) pe_int (fun _ _ => rfl))) (blkOk_by (N := N_law) (sc := defScope s_law) (by decide +kernel)) (fun _ _ _ _ _ => (pg_name (i := 8) sclaw.nd rfl (Or.inl rfl))) (fun _ _ _ _ _ => pts_nil) (fun _ _ _ _ _ => (pe_call G__law_bit (hr.mono (by omega)) (by rfl) D__law_bit.m D__law_bit.k D__law_bit.b .nil pass0 (pa_cons (pv 7) (pa_cons (pv 8) pa_nil))))) pa_nil))))
      (pss_cons (ps_if (PW.pt (pw_or (pt_cmpR (op_neD hr.units) (pe_call G_values (hr.mono (by omega)) (by rfl) D_values.m D_values.k D_values.b .nil pass0 (pa_cons (pv 2) (pa_cons (pv 5) (pa_cons (pv 6) pa_nil)))) (pv 7) (nomark _)) (pw_or1 (pt_cmpR (op_neD hr.units) (pe_call G_step (hr.mono (by omega)) (by rfl) D_step.m D_step.k D_step.b .nil pass0 (pa_cons (pv 2) (pa_cons (pv 5) (pa_cons (pv 6) pa_nil)))) (pv 9) (nomark _))))) (pss_one (ps_ret pe_bl)) pss_nil)
      (pss_cons (ps_set (i := 10) sclaw.nd rfl (.inr rfl) (pe_callB call_len_seq (by rfl) T.m_len (by decide +kernel) (pa_cons (pv 7) pa_nil)))
      (pss_cons (ps_set (i := 8) sclaw.nd rfl (.inl rfl) (pe_call G__law_draw (hr.mono (by omega)) (by rfl) D__law_draw.m D__law_draw.k D__law_draw.b .nil pass0 (pa_cons (pv 1) (pa_cons (pe_op op_mul pe_int (pv 10)) pa_nil))))
      (pss_cons (ps_if (pt_cmpR op_ne (pe_call G_valued (hr.mono (by omega)) (by rfl) D_valued.m D_valued.k D_valued.b .nil pass0 (pa_cons (pv 7) (pa_cons (pv 8) pa_nil))) (pe_call G__law_bit (hr.mono (by omega)) (by rfl) D__law_bit.m D__law_bit.k D__law_bit.b .nil pass0 (pa_cons (pv 7) (pa_cons (pv 8) pa_nil))) (nomark _)) (pss_one (ps_ret pe_bl)) pss_nil)
      (pss_cons (ps_set (i := 11) sclaw.nd rfl (.inr rfl) (pe_op op_rep (pe_lst (pa_cons pe_int pa_nil)) (pe_op op_add (pe_op op_add pe_int (pe_ix (r := rIxT K) ix_tup (pv 2) pe_int (fun _ _ => rfl))) (pe_callB call_len_seq (by rfl) T.m_len (by decide +kernel) (pa_cons (pe_ix (r := rIxT K) ix_tup (pv 2) pe_int (fun _ _ => rfl)) pa_nil)))))
      (pss_cons (ps_for PassesOwn.never rfl (pi_list (pe_ix (r := rIxT K) ix_tup (pv 2) pe_int (fun _ _ => rfl))) (pg_tup (by rfl) (pgs_cons (pg_name (i := 12) sclaw.nd rfl (Or.inl rfl)) (pgs_cons (pg_name (i := 13) sclaw.nd rfl (Or.inl rfl)) pgs_nil))) (pss_one (ps_expr (pe_bm PySem.F.plainAttrs_list PySem.F.slot_list_append PySem.F.type_list_append mt_append (pv 11) (pa_cons (pe_op op_add pe_int (pe_callB (call_max2 (by rfl)) (by rfl) T.m_max (by decide +kernel) (pa_cons (pe_ix (r := rIxL K) ix_list (pv 11) (pe_op op_fdivN (pv 12) pe_int) (fun _ _ => rfl)) (pa_cons (pe_ix (r := rIxL K) ix_list (pv 11) (pe_op op_fdivN (pv 13) pe_int) (fun _ _ => rfl)) pa_nil)))) pa_nil)))))
      (pss_cons (ps_setLc (i := 15) (own := [("one", 14)]) (g := gName 14) (tt := tYes) rfl sclaw.nd rfl rfl (sw_true rfl rfl rfl (by decide +kernel)) (pi_list (pe_op op_cat (pe_ix (r := rIxT K) ix_tup (pv 2) pe_int (fun _ _ => rfl)) (pe_ix (r := rIxT K) ix_tup (pv 2) pe_int (fun _ _ => rfl)))) (blkOk_by (N := N_law) (sc := defScope s_law) (by decide +kernel)) (fun _ _ _ _ _ => (pg_name (i := 14) sclaw.nd rfl (Or.inl rfl))) (fun _ _ _ _ _ => pts_nil) (fun _ _ _ _ _ => (pe_ix (r := rIxL K) ix_list (pv 11) (pe_op op_fdivN (pv 14) pe_int) (fun _ _ => rfl))))
      (pss_cons (ps_if (PW.pt (pw_or (pt_cmpR (op_neD hr.units) (pe_call G_levels (hr.mono (by omega)) (by rfl) D_levels.m D_levels.k D_levels.b .nil pass0 (pa_cons (pv 2) pa_nil)) (pv 11) (nomark _)) (pw_or1 (pt_cmpR op_ne (pe_call G_depth (hr.mono (by omega)) (by rfl) D_depth.m D_depth.k D_depth.b .nil pass0 (pa_cons (pv 2) pa_nil)) (pe_callB (cr_max rfl) (by rfl) T.m_max (by decide +kernel) (pa_cons (pe_op op_cat (pv 15) (pe_lst (pa_cons pe_int pa_nil))) pa_nil)) (nomark _))))) (pss_one (ps_ret pe_bl)) pss_nil)
      (pss_cons (ps_setLc (i := 16) (own := [("k", 18)]) (g := gName 18) (tt := tYes) rfl sclaw.nd rfl rfl (sw_true rfl rfl rfl (by decide +kernel)) (pi_range1 rfl T.m_range (pa_cons (pe_call G__law_draw (hr.mono (by omega)) (by rfl) D__law_draw.m D__law_draw.k D__law_draw.b .nil pass0 (pa_cons (pv 1) (pa_cons pe_int pa_nil))) pa_nil)) (blkOk_by (N := N_law) (sc := defScope s_law) (by decide +kernel)) (fun _ _ _ _ _ => (pg_name (i := 18) sclaw.nd rfl (Or.inl rfl))) (fun _ _ _ _ _ => pts_nil) (fun _ _ _ _ _ => (pe_call G__law_draw (hr.mono (by omega)) (by rfl) D__law_draw.m D__law_draw.k D__law_draw.b .nil pass0 (pa_cons (pv 1) (pa_cons (pe_op op_mul pe_int (pv 10)) pa_nil)))))
      (pss_cons (ps_set (i := 17) sclaw.nd rfl (.inl rfl) (pe_lst pa_nil))
      (pss_cons (ps_for PassesOwn.never rfl (pi_list (pv 16)) (pg_name (i := 14) sclaw.nd rfl (Or.inl rfl)) (pss_one (ps_expr (pe_bm PySem.F.plainAttrs_list PySem.F.slot_list_extend PySem.F.type_list_extend mt_extend (pv 17) (pa_cons (pe_call G__law_below (hr.mono (by omega)) (by rfl) D__law_below.m D__law_below.k D__law_below.b .nil pass0 (pa_cons (pv 2) (pa_cons (pe_op op_fdivN (pv 14) pe_int) pa_nil))) pa_nil)))))
      (pss_one (ps_ret (pe_and (pe_cmpR (op_eqD hr.units) (pe_call G_needed (hr.mono (by omega)) (by rfl) D_needed.m D_needed.k D_needed.b .nil pass0 (pa_cons (pv 2) (pa_cons (pv 16) pa_nil))) (pe_callB (r := rSortedSet w) (cr_sortedSet (by rfl)) (by rfl) T.m_sorted (by decide +kernel) (pa_cons (pe_callTy (r := rSetFew K w) (cr_setFew (by rfl)) (by rfl) T.m_set (by decide +kernel) (pa_cons (pv 17) pa_nil)) pa_nil)) (nomark _)) (pe_one (pe_cmpR op_eq (pe_callB (r := rRepr K) (call_reprD hgd hr.units) (by rfl) T.m_repr (by decide +kernel) (pa_cons (pv 2) pa_nil)) (pv 3) (nomark _)))))))))))))))))))))))))), ?_⟩
    refine ⟨_, rfl, a, ns, rfl, hS, hl, fun H1 p c s1 d1 => ?_⟩
    refine ⟨_, rfl, p, c, 3, 3, 14, rfl, d1, by decide, by decide, by decide, fun H2 qn n g2 nq dn ok => ?_⟩
    obtain ⟨z, aS, aG, aN, aO, e, hA, hSt, hG, hN, hO⟩ := dn.net_inv
    cases e
    obtain ⟨_, us, e, hGl, hus⟩ := hG.list_inv
    cases e
    obtain ⟨_, e, hSt⟩ := hSt.natl_inv
    cases e
    obtain ⟨_, e, hN⟩ := hN.natl_inv
    cases e
    obtain ⟨_, e, hO⟩ := hO.natl_inv
    cases e
    have hlen := hus.len
    obtain ⟨m, hm, small⟩ := ok_small ok
    have m21 := ok_many ok
    have fit := ok_fits ok
    have hins := ok.ins
    have hfl := ok.fl
    have hnl := ok.nl
    have hol := ok.ol
    refine ⟨_, rfl, qn, _, rfl, dh_dp _ _ dn.up, four n small hm (by decide), ?_⟩
    refine ⟨_, rfl, _, rfl, qn, _, 1, _, rfl, rfl, SqT.of (res_same p c H2 _ _ hA), atI_nat (j := 1) rfl, p, c, n.ins, 6, rfl, g2.b, by omega, by decide, fun H3 r rows g3 nr dr lr br => ?_⟩
    have d3 := (dn.same g3.s).up
    have rok : RunOk n rows := ⟨kind_of ok, fit, by omega, by omega, by omega, br⟩
    refine ⟨_, rfl, .ref qn, n, rfl, d3, kind_of ok, fun H4 s4 => ⟨rfl, _, rfl, iteF ?_⟩⟩
    have d4 := d3.same s4
    have dr4 := dr.up.same s4
    refine ⟨_, rfl, _, rfl, .ref qn, .ref r, n, rows, rfl, d4, dr4, rok, fun H5 o1 s5 n5 e5 => ?_⟩
    refine ⟨_, rfl, _, rfl, .ref qn, .ref r, n, rows, rfl, d4.same s5, dr4.same s5, rok, fun H6 o2 s6 n6 e6 => ?_⟩
    refine neD (a := (Net.ran n rows).2) (b := (Net.ran n rows).2) (e5.same s6) e6 (by decide) ?_
    rw [decide_eq_true rfl]
    refine ⟨_, rfl, iteF ?_⟩
    have g6 := g3.more ((s4.trans s5).trans s6)
    clear dr4 d4 d3 e6 e5 n5 n6
    -- held
    have oD : ∀ {Hx : Hp} {b : Addr}, Dr Hx p c → Hx b = none → b ≠ p ∧ b ≠ c := fun d h => d.off h
    refine ⟨_, rfl, qn, _, 2, _, rfl, rfl, SqT.of (g6.up hA), atI_nat (j := 2) rfl, aS, rfl, ⟨_, SqL.of (g6.up hSt)⟩, fun Dh nDh => lc_list (xs := vn n.starts) (fun i Hx => ∃ xs : List Nat, Go p c H6 Hx ∧ Hx Dh = some (.lst (vn xs)) ∧ xs.length = i ∧ ∀ x ∈ xs, x < 2) ⟨[], Go.of g6.b (same_new nDh), upd_same, rfl, by simp⟩ (fun i Hx _ ⟨_, g, _⟩ => SqL.of ((g6.trans g).up hSt)) ?_ ?_⟩
    · rintro i v Hx hv ⟨xs, g, hD, hlx, hx2⟩
      have hi : i < n.starts.length := by
        have h := (List.getElem?_eq_some_iff.mp hv).1
        rw [vn_len] at h
        exact h
      have hx := List.getElem?_eq_getElem hi
      rw [vn_get hx] at hv
      cases hv
      refine ⟨rfl, _, rfl, p, c, 2, rfl, g.b, by decide, by decide, fun Hz x gz hx => ⟨_, gz.get' g6.b nDh hD, by rw [vn_len]; exact small64k (by omega), xs ++ [x], (g.trans gz).mut nDh, ?_, by rw [List.length_append, hlx]; rfl, mem_snoc hx2 hx⟩⟩
      rw [upd_same, vn_snoc]
    rintro H7 ⟨held, g7, eh, hlh, bh⟩
    rw [vn_len] at hlh
    have g67 := g6.trans g7
    -- bits
    refine ⟨_, rfl, qn, _, 1, _, rfl, rfl, SqT.of (g67.up hA), atI_nat (j := 1) rfl, _, rfl, by omega, by omega, fun Db nDb => lc_range (n := n.ins) (fun i Hx => ∃ xs : List Nat, Go p c H7 Hx ∧ Hx Db = some (.lst (vn xs)) ∧ xs.length = i ∧ ∀ x ∈ xs, x < 2) ⟨[], Go.of g7.b (same_new nDb), upd_same, rfl, by simp⟩ ?_ ?_⟩
    · rintro i Hx hi ⟨xs, g, hD, hlx, hx2⟩
      refine ⟨rfl, _, rfl, p, c, 2, rfl, g.b, by decide, by decide, fun Hz x gz hx => ⟨_, gz.get' g7.b nDb hD, by rw [vn_len]; exact small64k (by omega), xs ++ [x], (g.trans gz).mut nDb, ?_, by rw [List.length_append, hlx]; rfl, mem_snoc hx2 hx⟩⟩
      rw [upd_same, vn_snoc]
    rintro H8 ⟨bits, g8, eb, hlb, bb⟩
    have eh8 := g8.get (g6.b.off nDh).1 (g6.b.off nDh).2 eh
    have g68 := g67.trans g8
    have d8 := (dn.same g68.s).up
    -- row
    refine ⟨_, rfl, _, rfl, _, rfl, .ref qn, n, Dh, Db, held, bits, rfl, d8, eh8, eb, hlh, hlb, bh, bb, fit.1, fit.2, fun H9 rw_ s9 n9 e9 => ?_⟩
    have lrow := row_len hlh hlb
    have brow := row_lt (n := n) bh bb
    have g9 := g68.more s9
    have eh9 := s9 _ _ eh8
    have eb9 := s9 _ _ eb
    clear eh8 eb eh
    obtain ⟨row, erow⟩ : ∃ row, row = n.row held bits := ⟨_, rfl⟩
    rw [← erow] at e9 lrow brow
    -- told
    refine ⟨_, rfl, qn, _, 5, _, rfl, rfl, SqT.of (g9.up hA), atI_nat (j := 5) rfl, aO, rfl, ⟨_, SqL.of (g9.up hO)⟩, fun D nD => lc_list (xs := vn n.outs) (fun i Hz => Same H9 Hz ∧ Hz D = some (.lst (vn ((n.outs.take i).map (bitv row))))) ⟨same_new nD, upd_same⟩ (fun i Hz _ h => SqL.of (h.1 _ _ (g9.up hO))) ?_ ?_⟩
    · rintro i v Hz hv ⟨sz, hp⟩
      have hi : i < n.outs.length := by
        have h := (List.getElem?_eq_some_iff.mp hv).1
        rw [vn_len] at h
        exact h
      have hx := List.getElem?_eq_getElem hi
      rw [vn_get hx] at hv
      cases hv
      have hb := ok.ox _ (List.getElem_mem hi)
      refine ⟨rfl, _, rfl, _, rfl, rw_, row, _, rfl, sz _ _ e9, by omega, _, hp, ?_, same_mut sz nD, ?_⟩
      · rw [vn_len, List.length_map, List.length_take]
        exact small1000 (by omega)
      · rw [upd_same, vn_snoc, take_snoc hx, List.map_append]
        rfl
    rintro H10 ⟨s10, eD⟩
    rw [vn_len, List.take_length] at eD
    have g10 := g9.more s10
    refine ⟨_, rfl, qn, _, 4, _, rfl, rfl, SqT.of (g10.up hA), atI_nat (j := 4) rfl, aN, rfl, ⟨_, SqL.of (g10.up hN)⟩, fun D2 nD2 => lc_list (xs := vn n.nexts) (fun i Hz => Same H10 Hz ∧ Hz D2 = some (.lst (vn ((n.nexts.take i).map (bitv row))))) ⟨same_new nD2, upd_same⟩ (fun i Hz _ h => SqL.of (h.1 _ _ (g10.up hN))) ?_ ?_⟩
    · rintro i v Hz hv ⟨sz, hp⟩
      have hi : i < n.nexts.length := by
        have h := (List.getElem?_eq_some_iff.mp hv).1
        rw [vn_len] at h
        exact h
      have hx := List.getElem?_eq_getElem hi
      rw [vn_get hx] at hv
      cases hv
      have hb := ok.nx _ (List.getElem_mem hi)
      refine ⟨rfl, _, rfl, _, rfl, rw_, row, _, rfl, sz _ _ (s10 _ _ e9), by omega, _, hp, ?_, same_mut sz nD2, ?_⟩
      · rw [vn_len, List.length_map, List.length_take]
        exact small1000 (by omega)
      · rw [upd_same, vn_snoc, take_snoc hx, List.map_append]
        rfl
    rintro H11 ⟨s11, eD2⟩
    rw [vn_len, List.take_length] at eD2
    refine ⟨by show 2 ≤ sizeLine; decide, fun tt ntt => ?_⟩
    have s12 := same_new (o := .tup [.ref D, .ref D2]) ntt
    have dtold : Dv (upd H11 tt (.tup [.ref D, .ref D2])) (.ref tt) (n.outs.map (bitv row), n.nexts.map (bitv row)) := .pair upd_same (.natl (s12 _ _ (s11 _ _ eD))) (.natl (s12 _ _ eD2))
    have s912 := (s10.trans s11).trans s12
    generalize (upd H11 tt (.tup [.ref D, .ref D2])) = H12 at s912 dtold ⊢
    clear s12 s11 s10 g10 eD eD2 ntt nD nD2
    have g12 := g9.more s912
    have d12 := (dn.same g12.s).up
    have e12 := s912 _ _ e9
    have eh12 := s912 _ _ eh9
    have eb12 := s912 _ _ eb9
    -- values, step
    refine ⟨_, rfl, _, rfl, _, rfl, .ref qn, n, Dh, Db, held, bits, rfl, d12, eh12, eb12, hlh, hlb, bh, bb, fit, fun H13 o1 s13 n13 e13 => ?_⟩
    rw [← erow] at e13
    refine ⟨_, rfl, neD (a := row) (b := row) (.natl e13) (.natl (s13 _ _ e12)) (by decide) ?_⟩
    rw [decide_eq_true rfl]
    refine ⟨_, rfl, iteF ?_⟩
    refine ⟨_, rfl, _, rfl, _, rfl, .ref qn, n, Dh, Db, held, bits, rfl, d12.same s13, s13 _ _ eh12, s13 _ _ eb12, hlh, hlb, bh, bb, fit, ok.nx, ok.ox, by omega, by omega, fun H14 o2 oo ox s14 n14 e14 _ eo _ ex => ?_⟩
    rw [← erow] at eo ex
    refine ⟨_, rfl, neD (a := (n.outs.map (bitv row), n.nexts.map (bitv row))) (b := (n.outs.map (bitv row), n.nexts.map (bitv row))) (.pair e14 (.natl eo) (.natl ex)) ((dtold.same s13).same s14) (by decide) ?_⟩
    rw [decide_eq_true rfl]
    refine ⟨_, rfl, iteF ?_⟩
    have g14 := g12.more (s13.trans s14)
    have e14r := s14 _ _ (s13 _ _ e12)
    clear e14 eo ex e13 dtold eh12 eb12 d12 eh9 eb9 s912 e12
    -- many, literal
    refine ⟨_, rfl, rw_, _, rfl, .inl (SqL.of e14r), ?_⟩
    have eM : V.int ((vn row).length : Nat) = V.int ((n.many : Nat) : Int) := by rw [vn_len, lrow]
    simp only [eM]
    have hmp : 0 < n.many := by unfold Net.many Net.base; omega
    refine ⟨_, rfl, _, rfl, _, _, rfl, rfl, .inl ⟨by decide, by decide⟩, p, c, 2 * n.many, (show [V.ref p, V.int ((2 : Int) * (n.many : Int))] = [V.ref p, V.int ((2 * n.many : Nat) : Int)] by rw [Int.natCast_mul]; rfl), g14.b, by omega, by omega, fun H15 lit g15 hlit => ?_⟩
    have or_ := (g68.b.off n9)
    have e15r := g15.get or_.1 or_.2 e14r
    refine ⟨_, rfl, _, rfl, rw_, row, lit, rfl, e15r, by omega, _, rfl, _, rfl, rw_, row, lit, rfl, e15r, by omega, rfl, _, rfl, ?_⟩
    rw [show (!decide (V.int ((bitv row lit : Nat) : Int) = V.int ((bitv row lit : Nat) : Int))) = false by rw [decide_eq_true rfl]; rfl]
    refine iteF ?_
    clear e14r
    have g15' := g14.trans g15
    -- deep
    have eBi : (1 : Int) + (n.ins : Int) + ((vn n.starts).length : Int) = (n.base : Int) := by
      rw [vn_len]
      rfl
    have hbm : n.base ≤ 21 := by unfold Net.many at m21; omega
    refine ⟨by show 1 ≤ sizeLine; decide, fun l nl => ?_⟩
    have g16 := g15'.more (same_new (o := .lst [.int 0]) nl)
    have el : (upd H15 l (.lst [.int 0])) l = some (.lst [.int 0]) := upd_same
    have e16r := same_new (o := .lst [.int 0]) nl _ _ e15r
    generalize (upd H15 l (.lst [.int 0])) = H16 at g16 el e16r ⊢
    refine ⟨_, rfl, qn, _, 1, _, rfl, rfl, SqT.of (g16.up hA), atI_nat (j := 1) rfl, _, _, rfl, rfl, _, rfl, qn, _, 2, _, rfl, rfl, SqT.of (g16.up hA), atI_nat (j := 2) rfl, aS, _, rfl, .inl (SqL.of (g16.up hSt)), _, _, rfl, rfl, l, _, _, rfl, rfl, el, by rw [eBi]; omega, by rw [eBi]; omega, ?_, fun pd npd => ?_⟩
    · rw [eBi, Int.toNat_natCast]
      exact Nat.le_of_lt (small64k (by show 1 * n.base ≤ _; omega))
    rw [eBi]
    have ed : (upd H16 pd (.lst (List.replicate ((n.base : Int)).toNat [V.int 0]).flatten)) pd = some (.lst (vn (levTo n []))) := by
      rw [upd_same, rep_flat, Int.toNat_natCast]
      show _ = some (HO.lst (vn (List.replicate n.base 0)))
      unfold vn
      rw [List.map_replicate]
      rfl
    have g17 := g16.more (same_new (o := .lst (List.replicate ((n.base : Int)).toNat [V.int 0]).flatten) npd)
    have e17r := same_new (o := .lst (List.replicate ((n.base : Int)).toNat [V.int 0]).flatten) npd _ _ e16r
    have npd9 : H2 pd = none := g16.none npd
    generalize (upd H16 pd (.lst (List.replicate ((n.base : Int)).toNat [V.int 0]).flatten)) = H17 at ed g17 e17r ⊢
    have nrd : rw_ ≠ pd := fun z => by rw [z, npd] at e16r; cases e16r
    refine ⟨_, rfl, qn, _, 3, _, rfl, rfl, SqT.of (g17.up hA), atI_nat (j := 3) rfl, aG, rfl, ⟨_, SqL.of (g17.up hGl)⟩, for_list (xs := us) (fun j σ H' => ∃ y12 y13 : Option V, σ = [some (.ref a), some (.ref p), some (.ref qn), some (.str (PySem.W.Datum.toD n).shown), some (.ref r), some (.ref Dh), some (.ref Db), some (.ref rw_), some (.int (lit : Nat)), some (.ref tt), some (.int (n.many : Nat)), some (.ref pd), y12, y13, none, none, none, none, none] ∧ Go p c H2 H' ∧ H' rw_ = some (.lst (vn row)) ∧ H' pd = some (.lst (vn (levTo n (n.gates.take j))))) ⟨none, none, rfl, g17, e17r, ed⟩ (fun j σ H' _ ⟨_, _, _, g, _⟩ => SqL.of (g.up hGl)) ?_ ?_⟩
    · rintro j u σ H' hu ⟨y12, y13, rfl, gx, hr7, hp⟩
      obtain ⟨⟨x, y⟩, hg1, hd⟩ := (hus.same gx.s).at hu
      obtain ⟨t, u1, u2, rfl, ht, hx, hy⟩ := hd.pair_inv
      have ht := res_same p c _ _ _ ht
      have hx := hx.nat_inv
      have hy := hy.nat_inv
      subst hx hy
      have hj : j < n.gates.length := (List.getElem?_eq_some_iff.mp hg1).1
      have hb2 := ok.g j _ hg1
      have lrow : (levTo n (n.gates.take j)).length = n.base + j := by
        rw [lev_len, List.length_take]
        omega
      have hb1 : x < 2 * (n.base + j) := hb2.1
      have hb3 : y < 2 * (n.base + j) := hb2.2
      have hmj : n.base + j < 21 := by unfold Net.many at m21; omega
      rw [take_snoc hg1, lev_snoc]
      generalize levTo n (n.gates.take j) = f at hp lrow ⊢
      have hx2 : x / 2 < f.length := by omega
      have hy2 : y / 2 < f.length := by omega
      refine ⟨t, _, rfl, SqT.of ht, rfl, _, _, rfl, _, _, rfl, rfl, ?_⟩
      refine ⟨_, rfl, .inl ⟨rfl, _, SqL.of hp⟩, _, rfl, _, rfl, _, _, rfl, rfl, ⟨by decide, by decide⟩, pd, _, _, _, rfl, rfl, SqL.of hp, (by rw [nfdiv2]; exact atI_nat (vn_get (List.getElem?_eq_getElem hx2))), _, rfl, _, rfl, _, _, rfl, rfl, ⟨by decide, by decide⟩, pd, _, _, _, rfl, rfl, SqL.of hp, (by rw [nfdiv2]; exact atI_nat (vn_get (List.getElem?_eq_getElem hy2))), _, _, rfl, _, _, rfl, rfl, pd, _, _, rfl, rfl, hp, by rw [vn_len, lrow]; exact small64k (by omega), ?_⟩
      refine ⟨_, _, rfl, gx.mut npd9, by rw [upd_ne nrd]; exact hr7, ?_⟩
      rw [upd_same, ← vn_snoc]
      show some (HO.lst (vn f ++ [V.int (1 + if ((f[y / 2] : Nat) : Int) > ((f[x / 2] : Nat) : Int) then ((f[y / 2] : Nat) : Int) else ((f[x / 2] : Nat) : Int))])) = _
      rw [vmax, List.getElem?_eq_getElem hx2, List.getElem?_eq_getElem hy2]
      rfl
    rintro σ H18 ⟨y12, y13, rfl, g18, e18r, ed⟩
    rw [hlen, List.take_length] at ed
    have ll : (levTo n n.gates).length = n.many := lev_len n _
    have bxo : ∀ x ∈ n.nexts ++ n.outs, x < 2 * n.many := fun x hx => (List.mem_append.mp hx).elim (ok.nx x) (ok.ox x)
    have lxo : (n.nexts ++ n.outs).length ≤ 6 := by rw [List.length_append]; omega
    -- ends
    refine ⟨_, rfl, qn, _, 4, _, rfl, rfl, SqT.of (g18.up hA), atI_nat (j := 4) rfl, _, rfl, qn, _, 5, _, rfl, rfl, SqT.of (g18.up hA), atI_nat (j := 5) rfl, aN, aO, _, _, rfl, rfl, g18.up hN, g18.up hO, ?_, fun l2 n2 => ?_⟩
    · rw [vn_len, vn_len]
      exact Nat.le_of_lt (small64k (by rw [List.length_append] at lxo; omega))
    have ev : vn n.nexts ++ vn n.outs = vn (n.nexts ++ n.outs) := by
      unfold vn
      rw [List.map_append]
    rw [ev]
    have s19 := same_new (o := .lst (vn (n.nexts ++ n.outs))) n2
    have e19 : (upd H18 l2 (.lst (vn (n.nexts ++ n.outs)))) l2 = some (.lst (vn (n.nexts ++ n.outs))) := upd_same
    generalize (upd H18 l2 (.lst (vn (n.nexts ++ n.outs)))) = H19 at s19 e19 ⊢
    have ed19 := s19 _ _ ed
    refine ⟨l2, rfl, ⟨_, SqL.of e19⟩, fun De nDe => lc_list (xs := vn (n.nexts ++ n.outs)) (fun i Hz => Same H19 Hz ∧ Hz De = some (.lst (vn (levs n ((n.nexts ++ n.outs).take i))))) ⟨same_new nDe, upd_same⟩ (fun i Hz _ h => SqL.of (h.1 _ _ e19)) ?_ ?_⟩
    · rintro i v Hz hv ⟨sz, hp⟩
      have hi : i < (n.nexts ++ n.outs).length := by
        have h := (List.getElem?_eq_some_iff.mp hv).1
        rw [vn_len] at h
        exact h
      have hx := List.getElem?_eq_getElem hi
      rw [vn_get hx] at hv
      cases hv
      have hb := bxo _ (List.getElem_mem hi)
      have hlt : (n.nexts ++ n.outs)[i] / 2 < (levTo n n.gates).length := by omega
      refine ⟨rfl, _, rfl, _, rfl, _, _, rfl, rfl, ⟨by decide, by decide⟩, pd, _, _, _, rfl, rfl, SqL.of (sz _ _ ed19), (by rw [nfdiv2]; exact atI_nat (vn_get (List.getElem?_eq_getElem hlt))), _, hp, ?_, same_mut sz nDe, ?_⟩
      · unfold levs
        rw [vn_len, List.length_map, List.length_take]
        exact small64k (by omega)
      · rw [upd_same, vn_snoc, take_snoc hx]
        unfold levs
        rw [List.map_append]
        show _ = some (HO.lst (vn (_ ++ [(levTo n n.gates)[(n.nexts ++ n.outs)[i] / 2]?.getD 0])))
        rw [List.getElem?_eq_getElem hlt]
        rfl
    rintro H20 ⟨s20, e20⟩
    rw [vn_len, List.take_length] at e20
    have le : (levs n (n.nexts ++ n.outs)).length ≤ 6 := by
      unfold levs
      rw [List.length_map]
      exact lxo
    have s1820 := s19.trans s20
    have g20 := g18.more s1820
    have ed20 := s1820 _ _ ed
    have e20r := s1820 _ _ e18r
    clear s19 s20 e19 ed19 ed e18r
    have d20 := (dn.same g20.s).up
    refine ⟨_, rfl, .ref qn, n, rfl, d20, fit, fun H21 o3 s21 n21 e21 => ?_⟩
    refine ⟨_, rfl, neD (a := levTo n n.gates) (b := levTo n n.gates) (.natl e21) (.natl (s21 _ _ ed20)) (by decide) ?_⟩
    rw [decide_eq_true rfl]
    refine ⟨_, rfl, iteF ?_⟩
    refine ⟨_, rfl, .ref qn, n, rfl, d20.same s21, fit, ok.nx, ok.ox, by omega, by omega, fun H22 dd s22 hd1 hd2 => ?_⟩
    refine ⟨_, rfl, by show 1 ≤ sizeLine; decide, fun l3 n3 => ?_⟩
    have s23 := same_new (o := .lst [.int 0]) n3
    refine ⟨De, l3, _, _, rfl, rfl, s23 _ _ (s22 _ _ (s21 _ _ e20)), upd_same, ?_, fun l4 n4 => ?_⟩
    · rw [vn_len]
      exact Nat.le_of_lt (small64k (by show _ + 1 ≤ _; omega))
    have e4 : vn (levs n (n.nexts ++ n.outs)) ++ [V.int 0] = (toI (levs n (n.nexts ++ n.outs) ++ [0])).map V.int := by
      rw [← vn_int]
      unfold vn
      rw [List.map_append]
      rfl
    rw [e4]
    refine ⟨l4, toI (levs n (n.nexts ++ n.outs) ++ [0]), rfl, SqL.of upd_same, by rw [List.length_map, List.length_append]; show 0 < _ + 1; omega, fun mx hm1 hm2 => ?_⟩
    obtain ⟨md, hmd, rfl⟩ := List.mem_map.mp hm1
    have hmd' : md ∈ 0 :: levs n (n.nexts ++ n.outs) := by
      rcases List.mem_append.mp hmd with h | h
      · exact List.mem_cons_of_mem _ h
      · rw [List.mem_singleton.mp h]
        exact List.mem_cons_self
    have hdd' : dd ∈ levs n (n.nexts ++ n.outs) ++ [0] := by
      rcases List.mem_cons.mp hd1 with h | h
      · rw [h]
        exact List.mem_append_right _ (List.mem_singleton.mpr rfl)
      · exact List.mem_append_left _ h
    have emd : md = dd := by
      have h1 := hd2 md hmd'
      have h2 := hm2 _ (List.mem_map_of_mem hdd')
      omega
    subst emd
    refine ⟨rfl, _, rfl, ?_⟩
    rw [show (!decide (V.int ((md : Nat) : Int) = V.int ((md : Nat) : Int))) = false by rw [decide_eq_true rfl]; rfl]
    refine iteF ?_
    have s24 := s23.trans (same_new (o := .lst ((toI (levs n (n.nexts ++ n.outs) ++ [0])).map V.int)) n4)
    have g24 := g20.more ((s21.trans s22).trans s24)
    generalize (upd (upd H22 l3 (.lst [.int 0])) l4 (.lst ((toI (levs n (n.nexts ++ n.outs) ++ [0])).map V.int))) = H24 at g24 ⊢
    clear s24 n4 e4 hm1 hm2 s23 s22 s21 n3 e21 n21
    -- some
    refine ⟨_, rfl, p, c, 4, rfl, g24.b, by decide, by decide, fun H25 dk g25 hdk => ⟨_, rfl, by omega, by omega, fun Ds nDs => lc_range (n := dk) (fun i Hx => ∃ xs : List Nat, Go p c H25 Hx ∧ Hx Ds = some (.lst (vn xs)) ∧ xs.length = i ∧ ∀ x ∈ xs, x < 2 * n.many) ⟨[], Go.of g25.b (same_new nDs), upd_same, rfl, by simp⟩ ?_ ?_⟩⟩
    · rintro i Hx hi ⟨xs, g, hD, hlx, hx2⟩
      refine ⟨rfl, _, rfl, _, rfl, _, _, rfl, rfl, .inl ⟨by decide, by decide⟩, p, c, 2 * n.many, (show [V.ref p, V.int ((2 : Int) * (n.many : Int))] = [V.ref p, V.int ((2 * n.many : Nat) : Int)] by rw [Int.natCast_mul]; rfl), g.b, by omega, by omega, fun Hz x gz hx => ⟨_, gz.get' g25.b nDs hD, by rw [vn_len]; exact small64k (by omega), xs ++ [x], (g.trans gz).mut nDs, ?_, by rw [List.length_append, hlx]; rfl, mem_snoc hx2 hx⟩⟩
      rw [upd_same, vn_snoc]
    rintro H26 ⟨lits, g26, els, hll, bls⟩
    have g26' := (g24.trans g25).trans g26
    -- due
    refine ⟨by show 0 ≤ sizeLine; decide, fun pu nu => ?_⟩
    have su := same_new (o := .lst []) nu
    have eu : (upd H26 pu (.lst [])) pu = some (.lst (vn [])) := upd_same
    generalize (upd H26 pu (.lst [])) = H27 at su eu ⊢
    refine ⟨_, rfl, Ds, rfl, ⟨_, SqL.of (su _ _ els)⟩, for_list (xs := vn lits) (fun i σ Hx => ∃ (y12 y13 y14 : Option V) (xs : List Nat), σ = [some (.ref a), some (.ref p), some (.ref qn), some (.str (PySem.W.Datum.toD n).shown), some (.ref r), some (.ref Dh), some (.ref Db), some (.ref rw_), some (.int (lit : Nat)), some (.ref tt), some (.int (n.many : Nat)), some (.ref pd), y12, y13, y14, some (.ref De), some (.ref Ds), some (.ref pu), none] ∧ Same H26 Hx ∧ Hx pu = some (.lst (vn xs)) ∧ (∀ y, y ∈ xs ↔ ∃ l ∈ lits.take i, Below n (l / 2) y) ∧ xs.length ≤ i * 2 ^ 21) ⟨_, _, _, [], rfl, su, eu, fun y => by simp, Nat.zero_le _⟩ (fun i σ Hx _ ⟨_, _, _, _, _, s', _⟩ => SqL.of (s' _ _ els)) ?_ ?_⟩
    · rintro i v σ Hx hv ⟨y12, y13, y14, xs, rfl, sx, hp, mem, len⟩
      have hi : i < lits.length := by
        have h := (List.getElem?_eq_some_iff.mp hv).1
        rw [vn_len] at h
        exact h
      have hx := List.getElem?_eq_getElem hi
      rw [vn_get hx] at hv
      cases hv
      have hb := bls _ (List.getElem_mem hi)
      have dX := ((dn.same g26'.s).up).same sx
      have hb1 : 1 ≤ n.base := by unfold Net.base; omega
      refine ⟨_, rfl, .inl ⟨rfl, _, SqL.of hp⟩, _, rfl, _, rfl, _, _, rfl, rfl, ⟨by decide, by decide⟩, .ref qn, n, lits[i] / 2, (show [V.ref qn, V.int (((lits[i] : Nat) : Int).fdiv 2)] = _ by rw [nfdiv2]), dX, fit, m21, by omega, by omega, fun H2 r zs s2 nr er mem2 len2 => ?_⟩
      have hk : 2 ^ (lits[i] / 2 + 1 - n.base + 1) ≤ 2 ^ 21 := Nat.pow_le_pow_right (by decide) (by omega)
      have hi3 : i * 2 ^ 21 ≤ 3 * 2 ^ 21 := Nat.mul_le_mul_right _ (by omega)
      refine ⟨pu, r, _, _, rfl, rfl, s2 _ _ hp, er, ?_, ?_⟩
      · rw [vn_len, vn_len]
        refine Nat.le_of_lt (Nat.lt_of_le_of_lt (show _ ≤ 2 ^ 23 by omega) (by decide))
      refine ⟨_, _, _, xs ++ zs, rfl, same_mut (sx.trans s2) nu, ?_, fun y => ?_, ?_⟩
      · rw [upd_same]
        unfold vn
        rw [List.map_append]
      · rw [List.mem_append, mem, mem2, take_snoc hx]
        constructor
        · rintro (⟨k, hk, b⟩ | b)
          · exact ⟨k, List.mem_append_left _ hk, b⟩
          · exact ⟨_, List.mem_append_right _ (List.mem_singleton.mpr rfl), b⟩
        · rintro ⟨k, hk, b⟩
          rcases List.mem_append.mp hk with hk | hk
          · exact .inl ⟨k, hk, b⟩
          · exact .inr (by rw [← List.mem_singleton.mp hk]; exact b)
      · rw [List.length_append, Nat.add_mul, Nat.one_mul]
        omega
    rintro σ H28 ⟨y12, y13, y14, xs, rfl, s28, hp, mem, len⟩
    rw [vn_len, List.take_length] at mem
    have g28 := g26'.more s28
    have d28 := (dn.same g28.s).up
    -- needed
    refine ⟨_, rfl, _, rfl, .ref qn, n, Ds, lits, rfl, d28, s28 _ _ els, fit, bls, fun H29 o4 ys s29 n29 e29 asc memy => ?_⟩
    refine ⟨_, rfl, pu, toI xs, toI (List.range n.many), rfl, SqL.of (by rw [s29 _ _ hp, vn_int]), fun x hx => ?_, by rw [List.length_map, List.length_range]; omega, fun pz cz nz hcz => ?_⟩
    · obtain ⟨y, hy, rfl⟩ := List.mem_map.mp hx
      obtain ⟨l, hl, b⟩ := (mem y).mp hy
      have := below_le fit b
      have := bls l hl
      exact List.mem_map_of_mem (List.mem_range.mpr (by omega))
    rw [List.length_map, List.length_range] at hcz
    refine ⟨pz, _, cz, rfl, upd_same, by omega, fun ns2 r2 asc2 mem2 len2 nr2 => ?_⟩
    obtain ⟨zs, rfl, h1, h2⟩ := asc_mem (xs := xs) asc2 fun k => by rw [mem2 k, decide_eq_true_eq]
    have s30 := (same_new (o := SetO w pz (fun j => decide (j ∈ toI xs)) cz) nz).trans (same_new (o := .lst ((toI zs).map V.int)) nr2)
    refine eqD (a := ys) (b := zs) (.natl (s30 _ _ e29)) (.natl (by rw [upd_same, vn_int])) (by decide) ?_
    rw [decide_eq_true (asc_unique asc h1 fun y => by rw [memy y, h2 y, mem y])]
    refine ⟨_, rfl, iteT ?_⟩
    refine ⟨_, rfl, qn, _, rfl, dh_dp _ _ (d28.same (s29.trans s30)), four n small hm (by decide), ?_⟩
    refine ⟨_, rfl, rfl, ?_⟩
    show Q (.bl (decide (V.str (PySem.W.Datum.toD n).shown = V.str (PySem.W.Datum.toD n).shown))) _
    rw [decide_eq_true rfl]
    exact q _
end K30
namespace K30
open PySem PySem.Spec PyProof.Rows L2 V0
theorem all_mk {l : PySem.W.OpenLaw} {w : World} {K : PySem.W.Frag} {h : Heap} {mg : Str → Option Value} {fa f1 f2 f3 f4 f5 f6 f7 f8 f9 f10 f11 f12 f13 f14 f15 f16 f17 f18 f19 f20 f21 : Addr} (X : K.In h) (G : h.Ns mainGlobals mg) (hfa : mg "law" = some (.ref fa))
    {od1 an1 od2 an2 od3 an3 od4 an4 od5 an5 od6 an6 od7 an7 od8 an8 od9 an9 od10 an10 od11 an11 od12 an12 od13 an13 od14 an14 od15 an15 od16 an16 od17 an17 od18 an18 od19 an19 od20 an20 od21 an21 : Option Addr} {sl1 sl2 sl3 sl4 sl5 sl6 sl7 sl8 sl9 sl10 sl11 sl12 sl13 sl14 sl15 sl16 sl17 sl18 sl19 sl20 sl21 : Array (Option Value)} {oc1 kV1 dc1 pm1 cd1 ct1 oc2 kV2 dc2 pm2 cd2 ct2 oc3 kV3 dc3 pm3 cd3 ct3 oc4 kV4 dc4 pm4 cd4 ct4 oc5 kV5 dc5 pm5 cd5 ct5 oc6 kV6 dc6 pm6 cd6 ct6 oc7 kV7 dc7 pm7 cd7 ct7 oc8 kV8 dc8 pm8 cd8 ct8 oc9 kV9 dc9 pm9 cd9 ct9 oc10 kV10 dc10 pm10 cd10 ct10 oc11 kV11 dc11 pm11 cd11 ct11 oc12 kV12 dc12 pm12 cd12 ct12 oc13 kV13 dc13 pm13 cd13 ct13 oc14 kV14 dc14 pm14 cd14 ct14 oc15 kV15 dc15 pm15 cd15 ct15 oc16 kV16 dc16 pm16 cd16 ct16 oc17 kV17 dc17 pm17 cd17 ct17 oc18 kV18 dc18 pm18 cd18 ct18 oc19 kV19 dc19 pm19 cd19 ct19 oc20 kV20 dc20 pm20 cd20 ct20 oc21 kV21 dc21 pm21 cd21 ct21 : Value}
    (a1 : PySem.W.nsIn K mainGlobals "_law_state" = some (some (.ref f1))) (l1 : K.lookup f1 = some ⟨oc1, od1, .func (PySem.W.fnOf "_law_state" "_law_state" (defArgs s__law_state) (defBody s__law_state) (defScope s__law_state) .none kV1 dc1 pm1 an1 cd1 ct1), sl1⟩) (c1 : PySem.W.codeIn K cd1 "_law_state" = true) (k1 : PySem.W.keepIn K (.ref f1) = true)
    (a2 : PySem.W.nsIn K mainGlobals "_law_draw" = some (some (.ref f2))) (l2 : K.lookup f2 = some ⟨oc2, od2, .func (PySem.W.fnOf "_law_draw" "_law_draw" (defArgs s__law_draw) (defBody s__law_draw) (defScope s__law_draw) .none kV2 dc2 pm2 an2 cd2 ct2), sl2⟩) (c2 : PySem.W.codeIn K cd2 "_law_draw" = true) (k2 : PySem.W.keepIn K (.ref f2) = true)
    (a3 : PySem.W.nsIn K mainGlobals "_law_pick" = some (some (.ref f3))) (l3 : K.lookup f3 = some ⟨oc3, od3, .func (PySem.W.fnOf "_law_pick" "_law_pick" (defArgs s__law_pick) (defBody s__law_pick) (defScope s__law_pick) .none kV3 dc3 pm3 an3 cd3 ct3), sl3⟩) (c3 : PySem.W.codeIn K cd3 "_law_pick" = true) (k3 : PySem.W.keepIn K (.ref f3) = true)
    (a4 : PySem.W.nsIn K mainGlobals "_law_net" = some (some (.ref f4))) (l4 : K.lookup f4 = some ⟨oc4, od4, .func (PySem.W.fnOf "_law_net" "_law_net" (defArgs s__law_net) (defBody s__law_net) (defScope s__law_net) .none kV4 dc4 pm4 an4 cd4 ct4), sl4⟩) (c4 : PySem.W.codeIn K cd4 "_law_net" = true) (k4 : PySem.W.keepIn K (.ref f4) = true)
    (a5 : PySem.W.nsIn K mainGlobals "_law_rows" = some (some (.ref f5))) (l5 : K.lookup f5 = some ⟨oc5, od5, .func (PySem.W.fnOf "_law_rows" "_law_rows" (defArgs s__law_rows) (defBody s__law_rows) (defScope s__law_rows) .none kV5 dc5 pm5 an5 cd5 ct5), sl5⟩) (c5 : PySem.W.codeIn K cd5 "_law_rows" = true) (k5 : PySem.W.keepIn K (.ref f5) = true)
    (a6 : PySem.W.nsIn K mainGlobals "_law_bit" = some (some (.ref f6))) (l6 : K.lookup f6 = some ⟨oc6, od6, .func (PySem.W.fnOf "_law_bit" "_law_bit" (defArgs s__law_bit) (defBody s__law_bit) (defScope s__law_bit) .none kV6 dc6 pm6 an6 cd6 ct6), sl6⟩) (c6 : PySem.W.codeIn K cd6 "_law_bit" = true) (k6 : PySem.W.keepIn K (.ref f6) = true)
    (a7 : PySem.W.nsIn K mainGlobals "_law_row" = some (some (.ref f7))) (l7 : K.lookup f7 = some ⟨oc7, od7, .func (PySem.W.fnOf "_law_row" "_law_row" (defArgs s__law_row) (defBody s__law_row) (defScope s__law_row) .none kV7 dc7 pm7 an7 cd7 ct7), sl7⟩) (c7 : PySem.W.codeIn K cd7 "_law_row" = true) (k7 : PySem.W.keepIn K (.ref f7) = true)
    (a8 : PySem.W.nsIn K mainGlobals "valued" = some (some (.ref f8))) (l8 : K.lookup f8 = some ⟨oc8, od8, .func (PySem.W.fnOf "valued" "valued" (defArgs s_valued) (defBody s_valued) (defScope s_valued) .none kV8 dc8 pm8 an8 cd8 ct8), sl8⟩) (c8 : PySem.W.codeIn K cd8 "valued" = true) (k8 : PySem.W.keepIn K (.ref f8) = true)
    (a9 : PySem.W.nsIn K mainGlobals "base_of" = some (some (.ref f9))) (l9 : K.lookup f9 = some ⟨oc9, od9, .func (PySem.W.fnOf "base_of" "base_of" (defArgs s_base_of) (defBody s_base_of) (defScope s_base_of) .none kV9 dc9 pm9 an9 cd9 ct9), sl9⟩) (c9 : PySem.W.codeIn K cd9 "base_of" = true) (k9 : PySem.W.keepIn K (.ref f9) = true)
    (a10 : PySem.W.nsIn K mainGlobals "many_nodes" = some (some (.ref f10))) (l10 : K.lookup f10 = some ⟨oc10, od10, .func (PySem.W.fnOf "many_nodes" "many_nodes" (defArgs s_many_nodes) (defBody s_many_nodes) (defScope s_many_nodes) .none kV10 dc10 pm10 an10 cd10 ct10), sl10⟩) (c10 : PySem.W.codeIn K cd10 "many_nodes" = true) (k10 : PySem.W.keepIn K (.ref f10) = true)
    (a11 : PySem.W.nsIn K mainGlobals "fault_of" = some (some (.ref f11))) (l11 : K.lookup f11 = some ⟨oc11, od11, .func (PySem.W.fnOf "fault_of" "fault_of" (defArgs s_fault_of) (defBody s_fault_of) (defScope s_fault_of) .none kV11 dc11 pm11 an11 cd11 ct11), sl11⟩) (c11 : PySem.W.codeIn K cd11 "fault_of" = true) (k11 : PySem.W.keepIn K (.ref f11) = true)
    (a12 : PySem.W.nsIn K mainGlobals "check" = some (some (.ref f12))) (l12 : K.lookup f12 = some ⟨oc12, od12, .func (PySem.W.fnOf "check" "check" (defArgs s_check) (defBody s_check) (defScope s_check) .none kV12 dc12 pm12 an12 cd12 ct12), sl12⟩) (c12 : PySem.W.codeIn K cd12 "check" = true) (k12 : PySem.W.keepIn K (.ref f12) = true)
    (a13 : PySem.W.nsIn K mainGlobals "values" = some (some (.ref f13))) (l13 : K.lookup f13 = some ⟨oc13, od13, .func (PySem.W.fnOf "values" "values" (defArgs s_values) (defBody s_values) (defScope s_values) .none kV13 dc13 pm13 an13 cd13 ct13), sl13⟩) (c13 : PySem.W.codeIn K cd13 "values" = true) (k13 : PySem.W.keepIn K (.ref f13) = true)
    (a14 : PySem.W.nsIn K mainGlobals "step" = some (some (.ref f14))) (l14 : K.lookup f14 = some ⟨oc14, od14, .func (PySem.W.fnOf "step" "step" (defArgs s_step) (defBody s_step) (defScope s_step) .none kV14 dc14 pm14 an14 cd14 ct14), sl14⟩) (c14 : PySem.W.codeIn K cd14 "step" = true) (k14 : PySem.W.keepIn K (.ref f14) = true)
    (a15 : PySem.W.nsIn K mainGlobals "run" = some (some (.ref f15))) (l15 : K.lookup f15 = some ⟨oc15, od15, .func (PySem.W.fnOf "run" "run" (defArgs s_run) (defBody s_run) (defScope s_run) .none kV15 dc15 pm15 an15 cd15 ct15), sl15⟩) (c15 : PySem.W.codeIn K cd15 "run" = true) (k15 : PySem.W.keepIn K (.ref f15) = true)
    (a16 : PySem.W.nsIn K mainGlobals "_law_run" = some (some (.ref f16))) (l16 : K.lookup f16 = some ⟨oc16, od16, .func (PySem.W.fnOf "_law_run" "_law_run" (defArgs s__law_run) (defBody s__law_run) (defScope s__law_run) .none kV16 dc16 pm16 an16 cd16 ct16), sl16⟩) (c16 : PySem.W.codeIn K cd16 "_law_run" = true) (k16 : PySem.W.keepIn K (.ref f16) = true)
    (a17 : PySem.W.nsIn K mainGlobals "levels" = some (some (.ref f17))) (l17 : K.lookup f17 = some ⟨oc17, od17, .func (PySem.W.fnOf "levels" "levels" (defArgs s_levels) (defBody s_levels) (defScope s_levels) .none kV17 dc17 pm17 an17 cd17 ct17), sl17⟩) (c17 : PySem.W.codeIn K cd17 "levels" = true) (k17 : PySem.W.keepIn K (.ref f17) = true)
    (a18 : PySem.W.nsIn K mainGlobals "depth" = some (some (.ref f18))) (l18 : K.lookup f18 = some ⟨oc18, od18, .func (PySem.W.fnOf "depth" "depth" (defArgs s_depth) (defBody s_depth) (defScope s_depth) .none kV18 dc18 pm18 an18 cd18 ct18), sl18⟩) (c18 : PySem.W.codeIn K cd18 "depth" = true) (k18 : PySem.W.keepIn K (.ref f18) = true)
    (a19 : PySem.W.nsIn K mainGlobals "_law_below" = some (some (.ref f19))) (l19 : K.lookup f19 = some ⟨oc19, od19, .func (PySem.W.fnOf "_law_below" "_law_below" (defArgs s__law_below) (defBody s__law_below) (defScope s__law_below) .none kV19 dc19 pm19 an19 cd19 ct19), sl19⟩) (c19 : PySem.W.codeIn K cd19 "_law_below" = true) (k19 : PySem.W.keepIn K (.ref f19) = true)
    (a20 : PySem.W.nsIn K mainGlobals "needed" = some (some (.ref f20))) (l20 : K.lookup f20 = some ⟨oc20, od20, .func (PySem.W.fnOf "needed" "needed" (defArgs s_needed) (defBody s_needed) (defScope s_needed) .none kV20 dc20 pm20 an20 cd20 ct20), sl20⟩) (c20 : PySem.W.codeIn K cd20 "needed" = true) (k20 : PySem.W.keepIn K (.ref f20) = true)
    (a21 : PySem.W.nsIn K mainGlobals "law" = some (some (.ref f21))) (l21 : K.lookup f21 = some ⟨oc21, od21, .func (PySem.W.fnOf "law" "law" (defArgs s_law) (defBody s_law) (defScope s_law) .none kV21 dc21 pm21 an21 cd21 ct21), sl21⟩) (c21 : PySem.W.codeIn K cd21 "law" = true) (k21 : PySem.W.keepIn K (.ref f21) = true)
    (z_abs : PySem.W.nsIn K mainGlobals "abs" = some none)
    (z_any : PySem.W.nsIn K mainGlobals "any" = some none)
    (z_enumerate : PySem.W.nsIn K mainGlobals "enumerate" = some none)
    (z_int : PySem.W.nsIn K mainGlobals "int" = some none)
    (z_len : PySem.W.nsIn K mainGlobals "len" = some none)
    (z_max : PySem.W.nsIn K mainGlobals "max" = some none)
    (z_range : PySem.W.nsIn K mainGlobals "range" = some none)
    (z_repr : PySem.W.nsIn K mainGlobals "repr" = some none)
    (z_reversed : PySem.W.nsIn K mainGlobals "reversed" = some none)
    (z_set : PySem.W.nsIn K mainGlobals "set" = some none)
    (z_sorted : PySem.W.nsIn K mainGlobals "sorted" = some none) :
    ∃ fd : FuncData, (∀ (s : Shared) (v : Value), BindsTo s fd ⟨[v], []⟩ [("script", v)]) ∧ ∀ base : Heap, K.In base → base.Ns mainGlobals mg → LawOk l.prog w K mg base fa fd ["script"] (sp_law K) := by
  have e := hfa.symm.trans (PySem.W.mg_of X G a21)
  cases e
  have T : Txt K mg := ⟨PySem.W.mg_none_of X G z_abs, PySem.W.mg_none_of X G z_any, PySem.W.mg_none_of X G z_enumerate, PySem.W.mg_none_of X G z_int, PySem.W.mg_none_of X G z_len, PySem.W.mg_none_of X G z_max, PySem.W.mg_none_of X G z_range, PySem.W.mg_none_of X G z_repr, PySem.W.mg_none_of X G z_reversed, PySem.W.mg_none_of X G z_set, PySem.W.mg_none_of X G z_sorted⟩
  have F1 := fun_mk (st := s__law_state) l1 c1 k1
  have D1 : Def K mg "_law_state" f1 _ ["script"] := ⟨PySem.W.mg_of X G a1, F1.kp, F1.binds (ps := ["script"]) fun _ _ _ _ _ _ us hl => match us, hl with | [_], _ => rfl⟩
  have F2 := fun_mk (st := s__law_draw) l2 c2 k2
  have D2 : Def K mg "_law_draw" f2 _ ["state", "many"] := ⟨PySem.W.mg_of X G a2, F2.kp, F2.binds (ps := ["state", "many"]) fun _ _ _ _ _ _ us hl => match us, hl with | [_, _], _ => rfl⟩
  have F3 := fun_mk (st := s__law_pick) l3 c3 k3
  have D3 : Def K mg "_law_pick" f3 _ ["state", "row"] := ⟨PySem.W.mg_of X G a3, F3.kp, F3.binds (ps := ["state", "row"]) fun _ _ _ _ _ _ us hl => match us, hl with | [_, _], _ => rfl⟩
  have F4 := fun_mk (st := s__law_net) l4 c4 k4
  have D4 : Def K mg "_law_net" f4 _ ["state", "ins", "flops", "most"] := ⟨PySem.W.mg_of X G a4, F4.kp, F4.binds (ps := ["state", "ins", "flops", "most"]) fun _ _ _ _ _ _ us hl => match us, hl with | [_, _, _, _], _ => rfl⟩
  have F5 := fun_mk (st := s__law_rows) l5 c5 k5
  have D5 : Def K mg "_law_rows" f5 _ ["state", "ins", "most"] := ⟨PySem.W.mg_of X G a5, F5.kp, F5.binds (ps := ["state", "ins", "most"]) fun _ _ _ _ _ _ us hl => match us, hl with | [_, _, _], _ => rfl⟩
  have F6 := fun_mk (st := s__law_bit) l6 c6 k6
  have D6 : Def K mg "_law_bit" f6 _ ["row", "literal"] := ⟨PySem.W.mg_of X G a6, F6.kp, F6.binds (ps := ["row", "literal"]) fun _ _ _ _ _ _ us hl => match us, hl with | [_, _], _ => rfl⟩
  have F7 := fun_mk (st := s__law_row) l7 c7 k7
  have D7 : Def K mg "_law_row" f7 _ ["net", "held", "bits"] := ⟨PySem.W.mg_of X G a7, F7.kp, F7.binds (ps := ["net", "held", "bits"]) fun _ _ _ _ _ _ us hl => match us, hl with | [_, _, _], _ => rfl⟩
  have F8 := fun_mk (st := s_valued) l8 c8 k8
  have D8 : Def K mg "valued" f8 _ ["row", "literal"] := ⟨PySem.W.mg_of X G a8, F8.kp, F8.binds (ps := ["row", "literal"]) fun _ _ _ _ _ _ us hl => match us, hl with | [_, _], _ => rfl⟩
  have F9 := fun_mk (st := s_base_of) l9 c9 k9
  have D9 : Def K mg "base_of" f9 _ ["net"] := ⟨PySem.W.mg_of X G a9, F9.kp, F9.binds (ps := ["net"]) fun _ _ _ _ _ _ us hl => match us, hl with | [_], _ => rfl⟩
  have F10 := fun_mk (st := s_many_nodes) l10 c10 k10
  have D10 : Def K mg "many_nodes" f10 _ ["net"] := ⟨PySem.W.mg_of X G a10, F10.kp, F10.binds (ps := ["net"]) fun _ _ _ _ _ _ us hl => match us, hl with | [_], _ => rfl⟩
  have F11 := fun_mk (st := s_fault_of) l11 c11 k11
  have D11 : Def K mg "fault_of" f11 _ ["net"] := ⟨PySem.W.mg_of X G a11, F11.kp, F11.binds (ps := ["net"]) fun _ _ _ _ _ _ us hl => match us, hl with | [_], _ => rfl⟩
  have F12 := fun_mk (st := s_check) l12 c12 k12
  have D12 : Def K mg "check" f12 _ ["net"] := ⟨PySem.W.mg_of X G a12, F12.kp, F12.binds (ps := ["net"]) fun _ _ _ _ _ _ us hl => match us, hl with | [_], _ => rfl⟩
  have F13 := fun_mk (st := s_values) l13 c13 k13
  have D13 : Def K mg "values" f13 _ ["net", "state", "bits"] := ⟨PySem.W.mg_of X G a13, F13.kp, F13.binds (ps := ["net", "state", "bits"]) fun _ _ _ _ _ _ us hl => match us, hl with | [_, _, _], _ => rfl⟩
  have F14 := fun_mk (st := s_step) l14 c14 k14
  have D14 : Def K mg "step" f14 _ ["net", "state", "bits"] := ⟨PySem.W.mg_of X G a14, F14.kp, F14.binds (ps := ["net", "state", "bits"]) fun _ _ _ _ _ _ us hl => match us, hl with | [_, _, _], _ => rfl⟩
  have F15 := fun_mk (st := s_run) l15 c15 k15
  have D15 : Def K mg "run" f15 _ ["net", "rows"] := ⟨PySem.W.mg_of X G a15, F15.kp, F15.binds (ps := ["net", "rows"]) fun _ _ _ _ _ _ us hl => match us, hl with | [_, _], _ => rfl⟩
  have F16 := fun_mk (st := s__law_run) l16 c16 k16
  have D16 : Def K mg "_law_run" f16 _ ["net", "rows"] := ⟨PySem.W.mg_of X G a16, F16.kp, F16.binds (ps := ["net", "rows"]) fun _ _ _ _ _ _ us hl => match us, hl with | [_, _], _ => rfl⟩
  have F17 := fun_mk (st := s_levels) l17 c17 k17
  have D17 : Def K mg "levels" f17 _ ["net"] := ⟨PySem.W.mg_of X G a17, F17.kp, F17.binds (ps := ["net"]) fun _ _ _ _ _ _ us hl => match us, hl with | [_], _ => rfl⟩
  have F18 := fun_mk (st := s_depth) l18 c18 k18
  have D18 : Def K mg "depth" f18 _ ["net"] := ⟨PySem.W.mg_of X G a18, F18.kp, F18.binds (ps := ["net"]) fun _ _ _ _ _ _ us hl => match us, hl with | [_], _ => rfl⟩
  have F19 := fun_mk (st := s__law_below) l19 c19 k19
  have D19 : Def K mg "_law_below" f19 _ ["net", "node"] := ⟨PySem.W.mg_of X G a19, F19.kp, F19.binds (ps := ["net", "node"]) fun _ _ _ _ _ _ us hl => match us, hl with | [_, _], _ => rfl⟩
  have F20 := fun_mk (st := s_needed) l20 c20 k20
  have D20 : Def K mg "needed" f20 _ ["net", "literals"] := ⟨PySem.W.mg_of X G a20, F20.kp, F20.binds (ps := ["net", "literals"]) fun _ _ _ _ _ _ us hl => match us, hl with | [_, _], _ => rfl⟩
  have F21 := fun_mk (st := s_law) l21 c21 k21
  refine ⟨PySem.W.fnOf "law" "law" (defArgs s_law) (defBody s_law) (defScope s_law) .none kV21 dc21 pm21 an21 cd21 ct21, fun s v => .of_eq rfl, fun base _ _ => ?_⟩
  have G1 : FnOk l.prog w K mg base CX0 1 f1 _ ["script"] (sp__law_state K) := ok__law_state F1 T 
  have G2 : FnOk l.prog w K mg base CX0 1 f2 _ ["state", "many"] (sp__law_draw K) := ok__law_draw F2 T 
  have G3 : FnOk l.prog w K mg base CX0 2 f3 _ ["state", "row"] (sp__law_pick K) := ok__law_pick F3 T G2 D2
  have G4 : FnOk l.prog w K mg base CX0 3 f4 _ ["state", "ins", "flops", "most"] (sp__law_net K) := ok__law_net F4 T G2 D2 G3 D3
  have G5 : FnOk l.prog w K mg base CX0 2 f5 _ ["state", "ins", "most"] (sp__law_rows K) := ok__law_rows F5 T G2 D2
  have G6 : FnOk l.prog w K mg base CX0 1 f6 _ ["row", "literal"] (sp__law_bit K) := ok__law_bit F6 T 
  have G7 : FnOk l.prog w K mg base CX0 2 f7 _ ["net", "held", "bits"] (sp__law_row K) := ok__law_row F7 T G6 D6
  have G8 : FnOk l.prog w K mg base CX0 1 f8 _ ["row", "literal"] (sp_valued K) := ok_valued F8 T 
  have G9 : FnOk l.prog w K mg base CX0 1 f9 _ ["net"] (sp_base_of K) := ok_base_of F9 T 
  have G10 : FnOk l.prog w K mg base CX0 2 f10 _ ["net"] (sp_many_nodes K) := ok_many_nodes F10 T G9 D9
  have G11 : FnOk l.prog w K mg base CX0 3 f11 _ ["net"] (sp_fault_of K) := ok_fault_of F11 T G9 D9 G10 D10
  have G12 : FnOk l.prog w K mg base CX0 4 f12 _ ["net"] (sp_check K) := ok_check F12 T G11 D11
  have G13 : FnOk l.prog w K mg base CX0 2 f13 _ ["net", "state", "bits"] (sp_values K) := ok_values F13 T G8 D8
  have G14 : FnOk l.prog w K mg base CX0 3 f14 _ ["net", "state", "bits"] (sp_step K) := ok_step F14 T G13 D13 G8 D8
  have G15 : FnOk l.prog w K mg base CX0 4 f15 _ ["net", "rows"] (sp_run K) := ok_run F15 T G14 D14
  have G16 : FnOk l.prog w K mg base CX0 3 f16 _ ["net", "rows"] (sp__law_run K) := ok__law_run F16 T G7 D7 G6 D6
  have G17 : FnOk l.prog w K mg base CX0 2 f17 _ ["net"] (sp_levels K) := ok_levels F17 T G9 D9
  have G18 : FnOk l.prog w K mg base CX0 3 f18 _ ["net"] (sp_depth K) := ok_depth F18 T G17 D17
  have G19 : FnOk l.prog w K mg base CX0 40 f19 _ ["net", "node"] (sp__law_below K) := ok__law_below F19 T  D19
  have G20 : FnOk l.prog w K mg base CX0 3 f20 _ ["net", "literals"] (sp_needed K) := ok_needed F20 T G9 D9 G10 D10
  exact ok_law F21 T G1 D1 G4 D4 G5 D5 G7 D7 G2 D2 G8 D8 G6 D6 G12 D12 G15 D15 G16 D16 G13 D13 G14 D14 G17 D17 G18 D18 G19 D19 G20 D20
end K30
open PySem PySem.W PyProof.Rows
set_option maxHeartbeats 0 in
theorem PySem.Challenge.cw_cellcloth_k30_runs_of_nets_holds : PySem.Challenge.rw_cellcloth_k30_runs_of_nets.Holds := by
  w_on; o_law; k_head; (case hw => w_witness2)
  k_fill
  refine V0.walk_at (l := PySem.Challenge.rw_cellcloth_k30_runs_of_nets) (n := 63) (x := "script") (sp := K30.sp_law) rfl (by decide) rfl (fun w h Y => PySem.W.kIn_of Y) ?F (fun _ _ a ns hl _ hS => ⟨a, ns, rfl, hS, hl, fun _ => rfl⟩)
  case F =>
    intro w mg fa h KX G hmg
    refine' K30.all_mk KX G hmg ?a1 ?l1 ?c1 ?k1 ?a2 ?l2 ?c2 ?k2 ?a3 ?l3 ?c3 ?k3 ?a4 ?l4 ?c4 ?k4 ?a5 ?l5 ?c5 ?k5 ?a6 ?l6 ?c6 ?k6 ?a7 ?l7 ?c7 ?k7 ?a8 ?l8 ?c8 ?k8 ?a9 ?l9 ?c9 ?k9 ?a10 ?l10 ?c10 ?k10 ?a11 ?l11 ?c11 ?k11 ?a12 ?l12 ?c12 ?k12 ?a13 ?l13 ?c13 ?k13 ?a14 ?l14 ?c14 ?k14 ?a15 ?l15 ?c15 ?k15 ?a16 ?l16 ?c16 ?k16 ?a17 ?l17 ?c17 ?k17 ?a18 ?l18 ?c18 ?k18 ?a19 ?l19 ?c19 ?k19 ?a20 ?l20 ?c20 ?k20 ?a21 ?l21 ?c21 ?k21 ?z_abs ?z_any ?z_enumerate ?z_int ?z_len ?z_max ?z_range ?z_repr ?z_reversed ?z_set ?z_sorted
    (case a1 => k_is)
    (case l1 => k_is)
    (case c1 => k_is)
    (case k1 => k_is)
    (case a2 => k_is)
    (case l2 => k_is)
    (case c2 => k_is)
    (case k2 => k_is)
    (case a3 => k_is)
    (case l3 => k_is)
    (case c3 => k_is)
    (case k3 => k_is)
    (case a4 => k_is)
    (case l4 => k_is)
    (case c4 => k_is)
    (case k4 => k_is)
    (case a5 => k_is)
    (case l5 => k_is)
    (case c5 => k_is)
    (case k5 => k_is)
    (case a6 => k_is)
    (case l6 => k_is)
    (case c6 => k_is)
    (case k6 => k_is)
    (case a7 => k_is)
    (case l7 => k_is)
    (case c7 => k_is)
    (case k7 => k_is)
    (case a8 => k_is)
    (case l8 => k_is)
    (case c8 => k_is)
    (case k8 => k_is)
    (case a9 => k_is)
    (case l9 => k_is)
    (case c9 => k_is)
    (case k9 => k_is)
    (case a10 => k_is)
    (case l10 => k_is)
    (case c10 => k_is)
    (case k10 => k_is)
    (case a11 => k_is)
    (case l11 => k_is)
    (case c11 => k_is)
    (case k11 => k_is)
    (case a12 => k_is)
    (case l12 => k_is)
    (case c12 => k_is)
    (case k12 => k_is)
    (case a13 => k_is)
    (case l13 => k_is)
    (case c13 => k_is)
    (case k13 => k_is)
    (case a14 => k_is)
    (case l14 => k_is)
    (case c14 => k_is)
    (case k14 => k_is)
    (case a15 => k_is)
    (case l15 => k_is)
    (case c15 => k_is)
    (case k15 => k_is)
    (case a16 => k_is)
    (case l16 => k_is)
    (case c16 => k_is)
    (case k16 => k_is)
    (case a17 => k_is)
    (case l17 => k_is)
    (case c17 => k_is)
    (case k17 => k_is)
    (case a18 => k_is)
    (case l18 => k_is)
    (case c18 => k_is)
    (case k18 => k_is)
    (case a19 => k_is)
    (case l19 => k_is)
    (case c19 => k_is)
    (case k19 => k_is)
    (case a20 => k_is)
    (case l20 => k_is)
    (case c20 => k_is)
    (case k20 => k_is)
    (case a21 => k_is)
    (case l21 => k_is)
    (case c21 => k_is)
    (case k21 => k_is)
    (case z_abs => k_is)
    (case z_any => k_is)
    (case z_enumerate => k_is)
    (case z_int => k_is)
    (case z_len => k_is)
    (case z_max => k_is)
    (case z_range => k_is)
    (case z_repr => k_is)
    (case z_reversed => k_is)
    (case z_set => k_is)
    (case z_sorted => k_is)
