import PyProof.Rows.All
import Wide.All
import OpenK.AllK
import Wide.FinOn
import HandS.ForMost
import HandS.Codes
import HandS.IsInst
import HandS.WideBits
import KE.Datum
import PyProof.ReprRoads
import PyProof.ReprLen
import PyProof.Rows.SetFrom
import HandS.Set
import HandS.SetFor
import HandS.Strs
import HandS.Iter
import HandS.More
import HandS.Deep
import HandS.SortInts
import HandS.Small
import HandS.Walk
import PySem.Challenge.RW_cellcloth_k45_tables_of_cuts
set_option Elab.async false
set_option linter.all false
set_option maxRecDepth 100000
set_option maxHeartbeats 4000000
/-! data with a Lean type in the abstract heap: what a value holds, kept by growth; the heap but for what is mutable -/
namespace V0
open PySem PySem.Spec PyProof.Rows L2
open PySem.W (Datum)
/-- a def of the text as callers need it -/
structure Def (K : PySem.W.Frag) (mg : Str → Option Value) (x : Str) (f : Addr) (fd : FuncData) (ps : List Str) : Prop where
  m : mg x = some (.ref f)
  k : PySem.W.keepIn K (.ref f) = true
  b : Binds K fd ps []
abbrev vLen (K : PySem.W.Frag) : List V → Hp → VK → Prop := fun xs H Q => ∃ p ys, xs = [.ref p] ∧ (SqL K H p ys ∨ SqT K H p ys) ∧ Q (.int ys.length) H
abbrev vListOf (K : PySem.W.Frag) : List V → Hp → VK → Prop := fun xs H Q => ∃ p ys, xs = [.ref p] ∧ (SqL K H p ys ∨ SqT K H p ys) ∧ ∀ l, H l = none → Q (.ref l) (upd H l (.lst ys))
abbrev vTupleOf (K : PySem.W.Frag) : List V → Hp → VK → Prop := fun xs H Q => ∃ p ys, xs = [.ref p] ∧ ((SqL K H p ys ∧ ∀ l, H l = none → Q (.ref l) (upd H l (.tup ys))) ∨ (SqT K H p ys ∧ Q (.ref p) H))
/-- a statement that is never reached -/
theorem ps_never {X : Cx} {st : Stmt} : PS X st (fun _ _ _ => False) := ⟨fun _ _ _ _ _ _ h => h.elim⟩
def tTru (K : PySem.W.Frag) (ta : TE) : TT := fun σ H Q => ta σ H fun x H' => ∃ k, TruV K x H' k ∧ Q k H'
/-- as pt_truth, K told -/
theorem pt_truthK {X : Cx} {K : PySem.W.Frag} {a : Expr} {ta : TE} (hK : X.K = K) (ha : PE X a ta) (he : ∀ whole, isTrue a X.env whole = (do let v ← whole; standAt a.pos; holding [v] (truthy v))) :
    PT X a (tTru K ta) := by
  subst hK
  exact pt_truth ha he
theorem hu65 {A : Around} {k : Nat} (hr : Room k A) : A.units + 65 < cLine := by
  have := hr.un
  omega
theorem same_new {H : Hp} {p : Addr} {o : HO} (h : H p = none) : Same H (upd H p o) := fun b x e => by
  rw [upd_ne (ne_of_none e h)]
  exact e
theorem same_mut {H H' : Hp} {p : Addr} {o : HO} (e : Same H H') (h : H p = none) : Same H (upd H' p o) := fun a u ha => by
  rw [upd_ne (ne_of_none ha h)]
  exact e a u ha
theorem tup_same {K : PySem.W.Frag} {H H' : Hp} {a : Addr} {xs : List V} (e : Same H H') (h : SqT K H a xs) : SqT K H' a xs := by
  rcases h with (h | ⟨o, h⟩) | h
  · exact .inl (.inl (e _ _ h))
  · exact .inl (.inr ⟨o, e _ _ h⟩)
  · exact .inr h
theorem map_range_succ {α : Type} (f : Nat → α) (i : Nat) : (List.range (i + 1)).map f = (List.range i).map f ++ [f i] := by
  rw [List.range_succ, List.map_append]
  rfl
/-! ### data -/
class Dm (α : Type) [DecidableEq α] extends Datum α where
  lay : ∀ a : α, (Datum.toD a).canLay0 = true
instance : Dm Int where
  lay _ := by simp only [Datum.toD, PyData.canLay0]
instance : Dm Bool where
  lay _ := by simp only [Datum.toD, PyData.canLay0]
instance : Datum Nat where
  toD n := .int (n : Int)
  plain _ := rfl
  eqv a b := by
    simp only [PyData.eqv]
    rw [PySem.W.beq_decide]
    exact decide_eq_decide.mpr ⟨fun e => by omega, fun e => by rw [e]⟩
  depth := 0
  depth_le _ := Nat.le_refl _
instance : Dm Nat where
  lay _ := by simp only [Datum.toD, PyData.canLay0]
section
variable {α β : Type} [DecidableEq α] [Dm α] [DecidableEq β] [Dm β]
theorem lay_all : ∀ xs : List α, PyData.canLayAll0 (xs.map Datum.toD) = true
  | [] => by simp only [List.map_nil, PyData.canLayAll0]
  | x :: xs => by
    rw [List.map_cons, PyData.canLayAll0, Dm.lay x, lay_all xs]
    rfl
instance : Dm (List α) where
  lay xs := by
    simp only [Datum.toD, PyData.canLay0]
    exact lay_all xs
instance : Dm (α × β) where
  lay p := by
    simp only [Datum.toD, PyData.canLay0, PyData.canLayAll0, Bool.and_true, Bool.and_eq_true]
    exact ⟨Dm.lay p.1, Dm.lay p.2⟩
end
mutual
/-- as Dp, of what stands in the abstract heap alone -/
inductive Dh (H : Hp) : V → PyData → Prop
  | non : Dh H .non .none
  | bl (b : Bool) : Dh H (.bl b) (.bool b)
  | int (i : Int) : Dh H (.int i) (.int i)
  | str (x : Str) : Dh H (.str x) (.str x)
  | lst {a : Addr} {xs : List V} {ds : List PyData} : H a = some (.lst xs) → DhAll H xs ds → Dh H (.ref a) (.list ds)
  | tup {a : Addr} {xs : List V} {ds : List PyData} : H a = some (.tup xs) → DhAll H xs ds → Dh H (.ref a) (.tuple ds)
inductive DhAll (H : Hp) : List V → List PyData → Prop
  | nil : DhAll H [] []
  | cons {v : V} {vs : List V} {d : PyData} {ds : List PyData} : Dh H v d → DhAll H vs ds → DhAll H (v :: vs) (d :: ds)
end
mutual
theorem dh_same {H H' : Hp} (s : Same H H') : ∀ (d : PyData) (v : V), Dh H v d → Dh H' v d
  | .none, _, h => by cases h; exact .non
  | .bool b, _, h => by cases h; exact .bl b
  | .int i, _, h => by cases h; exact .int i
  | .str x, _, h => by cases h; exact .str x
  | .list ds, _, h => by
    cases h with
    | lst h1 h2 => exact .lst (s _ _ h1) (dh_sameAll s ds _ h2)
  | .tuple ds, _, h => by
    cases h with
    | tup h1 h2 => exact .tup (s _ _ h1) (dh_sameAll s ds _ h2)
  | .dict _, _, h => by cases h
theorem dh_sameAll {H H' : Hp} (s : Same H H') : ∀ (ds : List PyData) (vs : List V), DhAll H vs ds → DhAll H' vs ds
  | [], _, h => by cases h; exact .nil
  | d :: ds, _, h => by
    cases h with
    | cons h1 h2 => exact .cons (dh_same s d _ h1) (dh_sameAll s ds _ h2)
end
mutual
theorem dh_dp {K : PySem.W.Frag} {H : Hp} : ∀ (d : PyData) (v : V), Dh H v d → Dp K H v d
  | .none, _, h => by cases h; exact .non
  | .bool b, _, h => by cases h; exact .bl b
  | .int i, _, h => by cases h; exact .int i
  | .str x, _, h => by cases h; exact .str x
  | .list ds, _, h => by
    cases h with
    | lst h1 h2 => exact .lst (SqL.of h1) (dh_dpAll ds _ h2)
  | .tuple ds, _, h => by
    cases h with
    | tup h1 h2 => exact .tup (SqT.of h1) (dh_dpAll ds _ h2)
  | .dict _, _, h => by cases h
theorem dh_dpAll {K : PySem.W.Frag} {H : Hp} : ∀ (ds : List PyData) (vs : List V), DhAll H vs ds → DpAll K H vs ds
  | [], _, h => by cases h; exact .nil
  | d :: ds, _, h => by
    cases h with
    | cons h1 h2 => exact .cons (dh_dp d _ h1) (dh_dpAll ds _ h2)
end
section
variable {α β : Type} [DecidableEq α] [Dm α] [DecidableEq β] [Dm β]
/-- v holds x -/
def Dv (H : Hp) (v : V) (x : α) : Prop := Dh H v (Datum.toD x)
def Dvs (H : Hp) (vs : List V) (xs : List α) : Prop := DhAll H vs (xs.map Datum.toD)
theorem Dv.same {H H' : Hp} {v : V} {x : α} (h : Dv H v x) (s : Same H H') : Dv H' v x := dh_same s _ _ h
theorem Dvs.same {H H' : Hp} {vs : List V} {xs : List α} (h : Dvs H vs xs) (s : Same H H') : Dvs H' vs xs := dh_sameAll s _ _ h
theorem Dv.int {H : Hp} (i : Int) : Dv H (.int i) i := Dh.int i
theorem Dv.nat {H : Hp} (n : Nat) : Dv H (.int (n : Int)) n := Dh.int (n : Int)
theorem Dv.bl {H : Hp} (b : Bool) : Dv H (.bl b) b := Dh.bl b
theorem Dv.int_inv {H : Hp} {v : V} {i : Int} (h : Dv H v i) : v = .int i := by
  unfold Dv at h
  cases h
  rfl
theorem Dv.nat_inv {H : Hp} {v : V} {n : Nat} (h : Dv H v n) : v = .int (n : Int) := by
  unfold Dv at h
  cases h
  rfl
theorem Dvs.nil {H : Hp} : Dvs H [] ([] : List α) := DhAll.nil
theorem Dvs.cons {H : Hp} {v : V} {vs : List V} {x : α} {xs : List α} (h : Dv H v x) (hs : Dvs H vs xs) : Dvs H (v :: vs) (x :: xs) := DhAll.cons h hs
theorem Dvs.cons_inv {H : Hp} {vs : List V} {x : α} {xs : List α} (h : Dvs H vs (x :: xs)) : ∃ v us, vs = v :: us ∧ Dv H v x ∧ Dvs H us xs := by
  unfold Dvs at h
  cases h with
  | cons h1 h2 => exact ⟨_, _, rfl, h1, h2⟩
theorem Dvs.nil_inv {H : Hp} {vs : List V} (h : Dvs H vs ([] : List α)) : vs = [] := by
  unfold Dvs at h
  cases h
  rfl
theorem Dvs.app {H : Hp} : ∀ {vs us : List V} {xs ys : List α}, Dvs H vs xs → Dvs H us ys → Dvs H (vs ++ us) (xs ++ ys)
  | _, _, [], _, h, g => by rw [h.nil_inv]; exact g
  | _, _, _ :: _, _, h, g => by
    obtain ⟨v, us, rfl, h1, h2⟩ := h.cons_inv
    exact .cons h1 (h2.app g)
theorem Dvs.len {H : Hp} : ∀ {vs : List V} {xs : List α}, Dvs H vs xs → vs.length = xs.length
  | _, [], h => by rw [h.nil_inv]; rfl
  | _, _ :: _, h => by
    obtain ⟨v, us, rfl, h1, h2⟩ := h.cons_inv
    rw [List.length_cons, List.length_cons, h2.len]
theorem Dvs.get {H : Hp} : ∀ {vs : List V} {xs : List α} {i : Nat} {x : α}, Dvs H vs xs → xs[i]? = some x → ∃ v, vs[i]? = some v ∧ Dv H v x
  | _, [], i, _, h, e => by simp at e
  | _, _ :: _, 0, _, h, e => by
    obtain ⟨v, us, rfl, h1, h2⟩ := h.cons_inv
    cases e
    exact ⟨_, rfl, h1⟩
  | _, _ :: _, i + 1, _, h, e => by
    obtain ⟨v, us, rfl, h1, h2⟩ := h.cons_inv
    exact h2.get (i := i) e
theorem Dvs.at {H : Hp} {vs : List V} {xs : List α} {i : Nat} {v : V} (h : Dvs H vs xs) (e : vs[i]? = some v) : ∃ x, xs[i]? = some x ∧ Dv H v x := by
  have hi : i < xs.length := by
    rw [← h.len]
    exact (List.getElem?_eq_some_iff.mp e).1
  obtain ⟨u, e2, d⟩ := h.get (List.getElem?_eq_getElem hi)
  rw [e] at e2
  cases e2
  exact ⟨_, List.getElem?_eq_getElem hi, d⟩
theorem Dv.list {H : Hp} {a : Addr} {vs : List V} {xs : List α} (h : H a = some (.lst vs)) (hs : Dvs H vs xs) : Dv H (.ref a) xs := Dh.lst h hs
theorem Dv.list_inv {H : Hp} {v : V} {xs : List α} (h : Dv H v xs) : ∃ a vs, v = .ref a ∧ H a = some (.lst vs) ∧ Dvs H vs xs := by
  unfold Dv at h
  cases h with
  | lst h1 h2 => exact ⟨_, _, rfl, h1, h2⟩
theorem Dv.pair {H : Hp} {a : Addr} {u v : V} {x : α} {y : β} (h : H a = some (.tup [u, v])) (h1 : Dv H u x) (h2 : Dv H v y) : Dv H (.ref a) (x, y) := Dh.tup h (.cons h1 (.cons h2 .nil))
theorem Dv.pair_inv {H : Hp} {v : V} {p : α × β} (h : Dv H v p) : ∃ a u w, v = .ref a ∧ H a = some (.tup [u, w]) ∧ Dv H u p.1 ∧ Dv H w p.2 := by
  unfold Dv at h
  cases h with
  | tup h1 h2 =>
    cases h2 with
    | cons h3 h4 =>
      cases h4 with
      | cons h5 h6 =>
        cases h6
        exact ⟨_, _, _, rfl, h1, h3, h5⟩
abbrev vi (xs : List Int) : List V := xs.map V.int
abbrev vn (xs : List Nat) : List V := xs.map (fun (b : Nat) => V.int (b : Int))
theorem vn_len (xs : List Nat) : (vn xs).length = xs.length := List.length_map _
theorem vn_get {xs : List Nat} {i n : Nat} (h : xs[i]? = some n) : (vn xs)[i]? = some (.int (n : Int)) := by
  rw [List.getElem?_map, h]
  rfl
theorem Dvs.ints_inv {H : Hp} : ∀ {vs : List V} {xs : List Int}, Dvs H vs xs → vs = vi xs
  | _, [], h => h.nil_inv
  | _, _ :: _, h => by
    obtain ⟨v, us, rfl, h1, h2⟩ := h.cons_inv
    rw [h1.int_inv, h2.ints_inv]
    rfl
theorem Dvs.nats_inv {H : Hp} : ∀ {vs : List V} {xs : List Nat}, Dvs H vs xs → vs = vn xs
  | _, [], h => h.nil_inv
  | _, _ :: _, h => by
    obtain ⟨v, us, rfl, h1, h2⟩ := h.cons_inv
    rw [h1.nat_inv, h2.nats_inv]
    rfl
theorem Dvs.ints {H : Hp} : ∀ xs : List Int, Dvs H (vi xs) xs
  | [] => .nil
  | x :: r => .cons (.int x) (Dvs.ints r)
theorem Dvs.nats {H : Hp} : ∀ xs : List Nat, Dvs H (vn xs) xs
  | [] => .nil
  | x :: r => .cons (.nat x) (Dvs.nats r)
theorem Dvs.bls {H : Hp} : ∀ xs : List Bool, Dvs H (xs.map V.bl) xs
  | [] => .nil
  | x :: r => .cons (.bl x) (Dvs.bls r)
/-- a list of whole numbers from 0 on -/
theorem Dv.natl {H : Hp} {a : Addr} {xs : List Nat} (h : H a = some (.lst (vn xs))) : Dv H (.ref a) xs := .list h (Dvs.nats xs)
theorem Dv.natl_inv {H : Hp} {v : V} {xs : List Nat} (h : Dv H v xs) : ∃ a, v = .ref a ∧ H a = some (.lst (vn xs)) := by
  obtain ⟨a, vs, rfl, h1, h2⟩ := h.list_inv
  rw [h2.nats_inv] at h1
  exact ⟨a, rfl, h1⟩
theorem Dv.intl {H : Hp} {a : Addr} {xs : List Int} (h : H a = some (.lst (vi xs))) : Dv H (.ref a) xs := .list h (Dvs.ints xs)
theorem Dv.intl_inv {H : Hp} {v : V} {xs : List Int} (h : Dv H v xs) : ∃ a, v = .ref a ∧ H a = some (.lst (vi xs)) := by
  obtain ⟨a, vs, rfl, h1, h2⟩ := h.list_inv
  rw [h2.ints_inv] at h1
  exact ⟨a, rfl, h1⟩
theorem shaped_of (x : α) (hd : Datum.depth α ≤ 64) : SeqAt.shaped (Datum.toD x) = true := by
  unfold SeqAt.shaped
  rw [Dm.lay x, Bool.true_and]
  exact decide_eq_true (Nat.le_trans (Datum.depth_le x) hd)
theorem eqD {K : PySem.W.Frag} {H : Hp} {x y : V} {Q : VK} {a b : α} (hx : Dv H x a) (hy : Dv H y b) (hd : Datum.depth α ≤ 64) (q : Q (.bl (decide (a = b))) H) : rEqD K x y H Q := by
  refine ⟨_, _, dh_dp _ _ hx, dh_dp _ _ hy, shaped_of a hd, shaped_of b hd, ?_⟩
  rw [Datum.eqv]
  exact q
theorem neD {K : PySem.W.Frag} {H : Hp} {x y : V} {Q : VK} {a b : α} (hx : Dv H x a) (hy : Dv H y b) (hd : Datum.depth α ≤ 64) (q : Q (.bl (!decide (a = b))) H) : rNeD K x y H Q := by
  refine ⟨_, _, dh_dp _ _ hx, dh_dp _ _ hy, shaped_of a hd, shaped_of b hd, ?_⟩
  rw [Datum.eqv]
  exact q
end
/-! ### the heap but for two objects that change -/
def res (p c : Addr) (H : Hp) : Hp := fun b => if b = p ∨ b = c then none else H b
theorem res_eq {p c b : Addr} {H : Hp} (h1 : b ≠ p) (h2 : b ≠ c) : res p c H b = H b := if_neg (fun h => h.elim h1 h2)
theorem res_some {p c b : Addr} {H : Hp} {o : HO} (h : res p c H b = some o) : b ≠ p ∧ b ≠ c ∧ H b = some o := by
  unfold res at h
  by_cases e : b = p ∨ b = c
  · rw [if_pos e] at h
    cases h
  · rw [if_neg e] at h
    exact ⟨fun z => e (.inl z), fun z => e (.inr z), h⟩
theorem res_same (p c : Addr) (H : Hp) : Same (res p c H) H := fun _ _ h => (res_some h).2.2
theorem Same.res {H H' : Hp} (s : Same H H') (p c : Addr) : Same (res p c H) (res p c H') := fun b o h => by
  obtain ⟨h1, h2, h3⟩ := res_some h
  rw [res_eq h1 h2]
  exact s _ _ h3
theorem res_of {p c b : Addr} {H : Hp} {o : HO} (h1 : b ≠ p) (h2 : b ≠ c) (h : H b = some o) : res p c H b = some o := by
  rw [res_eq h1 h2]
  exact h
/-- the heap but for one object -/
def hid (q : Addr) (H : Hp) : Hp := fun b => if b = q then none else H b
theorem hid_eq {q b : Addr} {H : Hp} (h : b ≠ q) : hid q H b = H b := if_neg h
theorem hid_some {q b : Addr} {H : Hp} {o : HO} (h : hid q H b = some o) : b ≠ q ∧ H b = some o := by
  unfold hid at h
  by_cases e : b = q
  · rw [if_pos e] at h
    cases h
  · rw [if_neg e] at h
    exact ⟨e, h⟩
theorem hid_of {q b : Addr} {H : Hp} {o : HO} (h : b ≠ q) (e : H b = some o) : hid q H b = some o := by
  rw [hid_eq h]
  exact e
theorem hid_same (q : Addr) (H : Hp) : Same (hid q H) H := fun _ _ h => (hid_some h).2
theorem hid_mono {q : Addr} {H H' : Hp} (s : Same H H') : Same (hid q H) (hid q H') := fun b o h => by
  obtain ⟨h1, h2⟩ := hid_some h
  exact hid_of h1 (s _ _ h2)
theorem hid_mut {q : Addr} {H : Hp} {o : HO} : Same (hid q H) (hid q (upd H q o)) := fun b u h => by
  obtain ⟨h1, h2⟩ := hid_some h
  exact hid_of h1 (by rw [upd_ne h1]; exact h2)
theorem hid_res_mut {p c q : Addr} {H : Hp} {o : HO} : Same (hid q (res p c H)) (hid q (res p c (upd H q o))) := fun b u h => by
  obtain ⟨h1, h2⟩ := hid_some h
  obtain ⟨h3, h4, h5⟩ := res_some h2
  exact hid_of h1 (res_of h3 h4 (by rw [upd_ne h1]; exact h5))
theorem res_upd {p c q : Addr} {H : Hp} {o : HO} (h1 : q ≠ p) (h2 : q ≠ c) : res p c (upd H q o) q = some o := by
  rw [res_eq h1 h2]
  exact upd_same
theorem res_mut {p c D : Addr} {H H' : Hp} {o : HO} (e : Same (res p c H) (res p c H')) (h : H D = none) : Same (res p c H) (res p c (upd H' D o)) := fun b u hb => by
  obtain ⟨h1, h2, h3⟩ := res_some hb
  have h4 : b ≠ D := fun z => by
    rw [z, h] at h3
    cases h3
  rw [res_eq h1 h2, upd_ne h4]
  exact (res_some (e _ _ hb)).2.2
/-- the state of the draws: the script's numbers, from 0 on, and a seed -/
structure Dr (H : Hp) (p c : Addr) : Prop where
  ne : p ≠ c
  st : ∃ (cs : List Nat) (s : Int), H p = some (.lst [.ref c, .int s]) ∧ H c = some (.lst (vn cs)) ∧ cs.length ≤ 63
theorem Dr.same {H H' : Hp} {p c : Addr} (h : Dr H p c) (s : Same H H') : Dr H' p c := by
  obtain ⟨n, cs, z, h1, h2, h3⟩ := h
  exact ⟨n, cs, z, s _ _ h1, s _ _ h2, h3⟩
theorem Dr.off {H : Hp} {p c q : Addr} (h : Dr H p c) (hq : H q = none) : q ≠ p ∧ q ≠ c := by
  obtain ⟨n, cs, z, h1, h2, h3⟩ := h
  exact ⟨fun e => (by rw [e, h1] at hq; cases hq), fun e => (by rw [e, h2] at hq; cases hq)⟩
/-- from H to H' all but the state of the draws stays -/
structure Go (p c : Addr) (H H' : Hp) : Prop where
  a : Dr H p c
  b : Dr H' p c
  s : Same (res p c H) (res p c H')
theorem Go.refl {p c : Addr} {H : Hp} (h : Dr H p c) : Go p c H H := ⟨h, h, Same.refl _⟩
theorem Go.trans {p c : Addr} {H H1 H2 : Hp} (x : Go p c H H1) (y : Go p c H1 H2) : Go p c H H2 := ⟨x.a, y.b, x.s.trans y.s⟩
theorem Go.of {p c : Addr} {H H' : Hp} (h : Dr H p c) (s : Same H H') : Go p c H H' := ⟨h, h.same s, V0.Same.res s p c⟩
theorem Go.more {p c : Addr} {H H1 H2 : Hp} (x : Go p c H H1) (s : Same H1 H2) : Go p c H H2 := x.trans (Go.of x.b s)
theorem Go.mut {p c D : Addr} {H H' : Hp} {o : HO} (x : Go p c H H') (h : H D = none) : Go p c H (upd H' D o) := by
  refine ⟨x.a, ?_, res_mut x.s h⟩
  obtain ⟨h1, h2⟩ := x.a.off h
  obtain ⟨n, cs, z, e1, e2, e3⟩ := x.b
  exact ⟨n, cs, z, (by rw [upd_ne (fun e => h1 e.symm)]; exact e1), (by rw [upd_ne (fun e => h2 e.symm)]; exact e2), e3⟩
theorem Go.get {p c b : Addr} {H H' : Hp} {o : HO} (x : Go p c H H') (h1 : b ≠ p) (h2 : b ≠ c) (h : H b = some o) : H' b = some o := by
  rw [← res_eq (p := p) (c := c) (H := H) h1 h2] at h
  exact (res_some (x.s _ _ h)).2.2
/-- what was new at H and stands at H1 stands at H' -/
theorem Go.get' {p c b : Addr} {H H1 H' : Hp} {o : HO} (x : Go p c H1 H') (d : Dr H p c) (n : H b = none) (h : H1 b = some o) : H' b = some o := x.get (d.off n).1 (d.off n).2 h
theorem Go.up {p c b : Addr} {H H' : Hp} {o : HO} (x : Go p c H H') (h : res p c H b = some o) : H' b = some o := (res_some (x.s _ _ h)).2.2
theorem Go.none {p c b : Addr} {H H' : Hp} (x : Go p c H H') (h : H' b = none) : H b = none := by
  obtain ⟨h1, h2⟩ := x.b.off h
  cases e : H b with
  | none => rfl
  | some o =>
    rw [x.get h1 h2 e] at h
    cases h
theorem Dv.up {α : Type} [DecidableEq α] [Dm α] {p c : Addr} {H : Hp} {v : V} {x : α} (h : Dv (res p c H) v x) : Dv H v x := h.same (res_same p c H)
theorem Dvs.up {α : Type} [DecidableEq α] [Dm α] {p c : Addr} {H : Hp} {vs : List V} {x : List α} (h : Dvs (res p c H) vs x) : Dvs H vs x := h.same (res_same p c H)
theorem emod_range {x m : Int} (h : 0 < m) : 0 ≤ x.fmod m ∧ x.fmod m < m := by
  rw [Int.fmod_eq_emod_of_nonneg x (by omega)]
  exact ⟨Int.emod_nonneg _ (by omega), Int.emod_lt_of_pos _ h⟩
theorem ix_nat {n j : Nat} (h : j < n) : ixN n (j : Int) = some j := by
  unfold ixN
  rw [if_pos (Int.natCast_nonneg _), if_pos (by omega), Int.toNat_natCast]
/-- what is new at H' -/
def fresh (H H' : Hp) : Hp := fun b => match H b with
  | none => H' b
  | some _ => none
theorem fresh_some {H H' : Hp} {b : Addr} {o : HO} (h : fresh H H' b = some o) : H b = none ∧ H' b = some o := by
  unfold fresh at h
  cases e : H b with
  | none =>
    rw [e] at h
    exact ⟨rfl, h⟩
  | some u =>
    rw [e] at h
    cases h
theorem fresh_of {H H' : Hp} {b : Addr} {o : HO} (h : H b = none) (e : H' b = some o) : fresh H H' b = some o := by
  unfold fresh
  rw [h]
  exact e
theorem fresh_same {H H' : Hp} : Same (fresh H H') H' := fun _ _ h => (fresh_some h).2
theorem fresh_pre {H H1 H' : Hp} (s : Same H H1) : Same (fresh H1 H') (fresh H H') := fun b o h => by
  obtain ⟨h1, h2⟩ := fresh_some h
  refine fresh_of ?_ h2
  cases e : H b with
  | none => rfl
  | some u =>
    rw [s _ _ e] at h1
    cases h1
theorem fresh_post {H H' H2 : Hp} (s : Same H' H2) : Same (fresh H H') (fresh H H2) := fun b o h => by
  obtain ⟨h1, h2⟩ := fresh_some h
  exact fresh_of h1 (s _ _ h2)
theorem fresh_hid {H H' : Hp} {q : Addr} {o : HO} (h : H q = some o) : Same (fresh H H') (hid q H') := fun b u e => by
  obtain ⟨h1, h2⟩ := fresh_some e
  refine hid_of (fun z => ?_) h2
  rw [z, h] at h1
  cases h1
/-- new at H', as H goes to H' by growth -/
theorem none_of {H H' : Hp} {b : Addr} (s : Same H H') (h : H' b = none) : H b = none := by
  cases e : H b with
  | none => rfl
  | some u =>
    rw [s _ _ e] at h
    cases h
theorem upd_id {H : Hp} {a : Addr} {o : HO} (h : H a = some o) : upd H a o = H := funext fun b => by
  by_cases e : b = a
  · rw [e, upd_same, h]
  · rw [upd_ne e]
theorem small64k {n : Nat} (h : n ≤ 65536) : n < sizeLine := Nat.lt_of_le_of_lt h (by decide)
theorem fresh_res {p c : Addr} {H H' : Hp} (d : Dr H p c) : Same (fresh H H') (res p c H') := fun b o h => by
  obtain ⟨h1, h2⟩ := fresh_some h
  obtain ⟨h3, h4⟩ := d.off h1
  exact res_of h3 h4 h2
end V0
/-! nets as data, and what the laws make of them -/
namespace V0
open PySem PySem.Spec PyProof.Rows L2
open PySem.W (Datum)
structure Net where
  ins : Nat
  starts : List Nat
  gates : List (Nat × Nat)
  nexts : List Nat
  outs : List Nat
  deriving DecidableEq
theorem eqv_net (a b : Str) : PyData.eqv (.str a) (.str b) = decide (a = b) := by
  simp only [PyData.eqv]
  exact PySem.W.beq_decide a b
instance : Datum Net where
  toD n := .tuple [.str "net", Datum.toD n.ins, Datum.toD n.starts, Datum.toD n.gates, Datum.toD n.nexts, Datum.toD n.outs]
  plain n := by simp only [PyData.plain, PyData.plainAll, Datum.plain, Bool.and_self]
  eqv a b := by
    simp only [PyData.eqv, PyData.eqvAll, Datum.eqv, Bool.and_true]
    rw [PySem.W.beq_decide, ← Bool.decide_and, ← Bool.decide_and, ← Bool.decide_and, ← Bool.decide_and, ← Bool.decide_and]
    refine decide_eq_decide.mpr ⟨fun ⟨_, h1, h2, h3, h4, h5⟩ => ?_, fun e => by rw [e]; exact ⟨rfl, rfl, rfl, rfl, rfl, rfl⟩⟩
    cases a
    cases b
    simp only at h1 h2 h3 h4 h5
    rw [h1, h2, h3, h4, h5]
  depth := 3
  depth_le n := by
    have h1 := Datum.depth_le n.ins
    have h2 := Datum.depth_le n.starts
    have h3 := Datum.depth_le n.gates
    have h4 := Datum.depth_le n.nexts
    have h5 := Datum.depth_le n.outs
    have e1 : Datum.depth Nat = 0 := rfl
    have e2 : Datum.depth (List Nat) = 1 := rfl
    have e3 : Datum.depth (List (Nat × Nat)) = 2 := rfl
    rw [e1] at h1
    rw [e2] at h2 h4 h5
    rw [e3] at h3
    simp only [PyData.depth, PyData.depthAll]
    omega
instance : Dm Net where
  lay n := by
    have h1 := Dm.lay n.ins
    have h2 := Dm.lay n.starts
    have h3 := Dm.lay n.gates
    have h4 := Dm.lay n.nexts
    have h5 := Dm.lay n.outs
    simp only [Datum.toD] at h1 h2 h3 h4 h5 ⊢
    simp only [PyData.canLay0, PyData.canLayAll0, Bool.and_true] at h1 h2 h3 h4 h5 ⊢
    rw [h2, h3, h4, h5]
    decide +kernel
section
theorem Dv.net_inv {H : Hp} {v : V} {n : Net} (h : Dv H v n) : ∃ a s g x o, v = .ref a ∧ H a = some (.tup [.str "net", .int (n.ins : Int), .ref s, .ref g, .ref x, .ref o]) ∧
    Dv H (.ref s) n.starts ∧ Dv H (.ref g) n.gates ∧ Dv H (.ref x) n.nexts ∧ Dv H (.ref o) n.outs := by
  unfold Dv at h
  cases h with
  | tup h1 h2 =>
    cases h2 with
    | cons a1 h2 =>
      cases h2 with
      | cons a2 h2 =>
        cases h2 with
        | cons a3 h2 =>
          cases h2 with
          | cons a4 h2 =>
            cases h2 with
            | cons a5 h2 =>
              cases h2 with
              | cons a6 h2 =>
                cases h2
                cases a1
                have e2 := Dv.nat_inv (n := n.ins) a2
                subst e2
                obtain ⟨s, _, rfl, _⟩ := Dv.list_inv (xs := n.starts) a3
                obtain ⟨g, _, rfl, _⟩ := Dv.list_inv (xs := n.gates) a4
                obtain ⟨x, _, rfl, _⟩ := Dv.list_inv (xs := n.nexts) a5
                obtain ⟨o, _, rfl, _⟩ := Dv.list_inv (xs := n.outs) a6
                exact ⟨_, _, _, _, _, rfl, h1, a3, a4, a5, a6⟩
theorem Dv.net {H : Hp} {a : Addr} {n : Net} {s g x o : V} (h : H a = some (.tup [.str "net", .int (n.ins : Int), s, g, x, o])) (h1 : Dv H s n.starts) (h2 : Dv H g n.gates) (h3 : Dv H x n.nexts) (h4 : Dv H o n.outs) : Dv H (.ref a) n :=
  Dh.tup h (.cons (.str _) (.cons (.int _) (.cons h1 (.cons h2 (.cons h3 (.cons h4 .nil))))))
end
/-- how many nodes there are behind the inputs and flops -/
def Net.base (n : Net) : Nat := 1 + n.ins + n.starts.length
def Net.many (n : Net) : Nat := n.base + n.gates.length
structure Net.Ok (n : Net) (ins flops most : Nat) : Prop where
  ins : n.ins ≤ ins
  fl : n.starts.length ≤ flops
  bits : ∀ b ∈ n.starts, b < 2
  most : n.gates.length ≤ most
  g : ∀ j g, n.gates[j]? = some g → g.1 < 2 * (n.base + j) ∧ g.2 < 2 * (n.base + j)
  nl : n.nexts.length = n.starts.length
  nx : ∀ x ∈ n.nexts, x < 2 * n.many
  ol : n.outs.length ≤ 3
  ox : ∀ x ∈ n.outs, x < 2 * n.many
/-- a literal's bit in a row of values -/
def bitv (row : List Nat) (l : Nat) : Nat := (row[l / 2]?.getD 0) ^^^ (l % 2)
def rowOf (gs : List (Nat × Nat)) (row : List Nat) : List Nat := gs.foldl (fun r g => r ++ [bitv r g.1 * bitv r g.2]) row
def Net.row (n : Net) (held bits : List Nat) : List Nat := rowOf n.gates (0 :: bits ++ held)
theorem rowOf_len (gs : List (Nat × Nat)) (r : List Nat) : (rowOf gs r).length = r.length + gs.length := by
  induction gs generalizing r with
  | nil => rfl
  | cons g gs ih =>
    show (rowOf gs _).length = _
    rw [ih, List.length_append, List.length_cons, List.length_cons, List.length_nil]
    omega
theorem rowOf_snoc (gs : List (Nat × Nat)) (g : Nat × Nat) (r : List Nat) : rowOf (gs ++ [g]) r = rowOf gs r ++ [bitv (rowOf gs r) g.1 * bitv (rowOf gs r) g.2] := by
  unfold rowOf
  rw [List.foldl_append]
  rfl
theorem bitv_lt {row : List Nat} (h : ∀ b ∈ row, b < 2) (l : Nat) : bitv row l < 2 := by
  have h1 : row[l / 2]?.getD 0 < 2 := by
    cases e : row[l / 2]? with
    | none => decide
    | some x => exact h x (List.mem_of_getElem? e)
  exact Nat.xor_lt_two_pow (n := 1) h1 (Nat.mod_lt _ (by decide))
theorem mul_lt2 {a b : Nat} (ha : a < 2) (hb : b < 2) : a * b < 2 := by
  have : a = 0 ∨ a = 1 := by omega
  rcases this with rfl | rfl <;> omega
theorem rowOf_lt {gs : List (Nat × Nat)} {r : List Nat} (h : ∀ b ∈ r, b < 2) : ∀ b ∈ rowOf gs r, b < 2 := by
  induction gs generalizing r with
  | nil => exact h
  | cons g gs ih =>
    refine ih (r := r ++ [_]) fun b hb => ?_
    rcases List.mem_append.mp hb with hb | hb
    · exact h b hb
    · rw [List.mem_singleton.mp hb]
      exact mul_lt2 (bitv_lt h _) (bitv_lt h _)
theorem take_snoc {α : Type} {xs : List α} {i : Nat} {x : α} (h : xs[i]? = some x) : xs.take (i + 1) = xs.take i ++ [x] := by
  rw [List.take_add_one, h]
  rfl
theorem get_snoc {α : Type} {xs : List α} {x y : α} {k : Nat} (h : (xs ++ [x])[k]? = some y) : (k < xs.length ∧ xs[k]? = some y) ∨ (k = xs.length ∧ y = x) := by
  by_cases hk : k < xs.length
  · rw [List.getElem?_append_left hk] at h
    exact .inl ⟨hk, h⟩
  · rw [List.getElem?_append_right (by omega)] at h
    have e : k - xs.length = 0 := by
      cases e : k - xs.length with
      | zero => rfl
      | succ j =>
        rw [e] at h
        simp at h
    rw [e] at h
    cases h
    exact .inr ⟨by omega, rfl⟩
theorem mem_snoc {α : Type} {P : α → Prop} {xs : List α} {x : α} (h : ∀ y ∈ xs, P y) (hx : P x) : ∀ y ∈ xs ++ [x], P y := by
  intro y hy
  rcases List.mem_append.mp hy with hy | hy
  · exact h y hy
  · rw [List.mem_singleton.mp hy]
    exact hx
theorem vn_snoc (xs : List Nat) (x : Nat) : vn xs ++ [V.int (x : Int)] = vn (xs ++ [x]) := by
  unfold vn
  rw [List.map_append]
  rfl
theorem cut_nn (xs : List Nat) {a b : Nat} (h1 : a ≤ b) (h2 : b ≤ xs.length) : cutV (vn xs) (some (a : Int)) (some (b : Int)) = vn ((xs.drop a).take (b - a)) := by
  unfold cutV
  rw [HT.sIx_nat, HT.sIx_nat, vn_len, Nat.min_eq_left h2, Nat.min_eq_left (Nat.le_trans h1 h2)]
  unfold vn
  rw [← List.map_drop, ← List.map_take]
theorem set_vn (xs : List Nat) (i x : Nat) : (vn xs).set i (.int (x : Int)) = vn (xs.set i x) := by
  unfold vn
  rw [List.map_set]
theorem mem_set {α : Type} {P : α → Prop} {xs : List α} {i : Nat} {x : α} (h : ∀ y ∈ xs, P y) (hx : P x) : ∀ y ∈ xs.set i x, P y := by
  intro y hy
  rcases List.mem_or_eq_of_mem_set hy with hy | rfl
  · exact h y hy
  · exact hx
theorem dec_bool (a b : Bool) : decide (V.bl a = V.bl b) = decide (a = b) := by rw [Bool.eq_iff_iff]; simp
theorem dec_int (a b : Int) : decide (V.int a = V.int b) = decide (a = b) := by rw [Bool.eq_iff_iff]; simp
theorem dec_nat (a b : Nat) : decide (V.int (a : Int) = V.int (b : Int)) = decide (a = b) := by
  rw [dec_int]
  exact decide_eq_decide.mpr ⟨fun e => by omega, fun e => by rw [e]⟩
theorem dec_one (a : Nat) : decide (V.int (a : Int) = V.int 1) = decide (a = 1) := dec_nat a 1
theorem flat_vn : ∀ xs : List Nat, (vn xs).all flatV = true
  | [] => rfl
  | y :: r => by
    show (true && (vn r).all flatV) = true
    rw [flat_vn r]
    rfl
theorem inV_vn (c : Nat) : ∀ xs : List Nat, inV (.int (c : Int)) (vn xs) = decide (c ∈ xs)
  | [] => by rfl
  | y :: r => by
    have ih := inV_vn c r
    show (eqV (.int (y : Int)) (.int (c : Int)) || inV (.int (c : Int)) (vn r)) = _
    rw [ih]
    show (((y : Int) == (c : Int)) || decide (c ∈ r)) = _
    by_cases h : c ∈ r
    · rw [decide_eq_true h, Bool.or_true, decide_eq_true (List.mem_cons_of_mem _ h)]
    · by_cases e : y = c
      · subst e
        rw [beq_self_eq_true, Bool.true_or, decide_eq_true List.mem_cons_self]
      · rw [beq_eq_false_iff_ne.mpr (fun z => e (by omega)), decide_eq_false h, Bool.or_false, decide_eq_false (fun m => ?_)]
        rcases List.mem_cons.mp m with m | m
        · exact e m.symm
        · exact h m
theorem bxor (a b : Nat) : Builtin.bitXor (a : Int) (b : Int) = ((a ^^^ b : Nat) : Int) := by
  rw [Bits.bitXor_pp (Int.natCast_nonneg _) (Int.natCast_nonneg _), Int.toNat_natCast, Int.toNat_natCast]
theorem fdiv_nat (a b : Nat) : ((a : Int)).fdiv (b : Int) = ((a / b : Nat) : Int) := by
  rw [Int.fdiv_eq_ediv_of_nonneg _ (by omega)]
  rfl
theorem fmod_nat (a b : Nat) : ((a : Int)).fmod (b : Int) = ((a % b : Nat) : Int) := by
  rw [Int.fmod_eq_emod_of_nonneg _ (by omega)]
  rfl
theorem nfdiv2 (a : Nat) : ((a : Int)).fdiv 2 = ((a / 2 : Nat) : Int) := fdiv_nat a 2
theorem nfmod2 (a : Nat) : ((a : Int)).fmod 2 = ((a % 2 : Nat) : Int) := fmod_nat a 2
end V0
/-! repr of data, where nothing is being shown; the law's call with what stands around it -/
namespace V0
open PySem PySem.Spec PyProof.Rows L2
open PySem.W (Datum)
def rRepr (K : PySem.W.Frag) : List V → Hp → VK → Prop := fun xs H Q => ∃ (a : Addr) (d : PyData), xs = [.ref a] ∧ Dp K H (.ref a) d ∧ (d.showable = true ∧ d.hasDict = false ∧ d.depth ≤ 60 ∧ d.shown.length ≤ sizeLine) ∧ Q (.str d.shown) H
theorem call_reprD {X : Cx} (hg : X.A.guards = some []) (hu : X.A.units + 64 < cLine) : CallR X (.builtin "repr") (rRepr X.K) := by
  intro pins s σ H xs us Q I r h
  obtain ⟨a, d, rfl, hd, ⟨h1, h2, h3, h4⟩, q⟩ := h
  obtain ⟨u, rfl, rx⟩ := vals1 r
  obtain ⟨as, rd⟩ := Dp.reads I d _ _ hd rx
  obtain rfl : u = Value.ref a := rx
  refine repr_of_reads' rd h1 (PyData.noDict_hsm h2) hg (by omega) (fun _ _ e => e) (fun h' t tk hk => ?_) h4
  exact ⟨.str _, H, I.kept hk, ⟨t, rfl⟩, q⟩
/-- data whose text is short -/
structure Sm (d : PyData) (n : Nat) : Prop where
  sh : d.showable = true
  lv : d.leavesShort 13 = true
  wt : d.weight ≤ n
structure SmA (ds : List PyData) (n : Nat) : Prop where
  sh : PyData.showableAll ds = true
  lv : PyData.leavesShortAll 13 ds = true
  wt : PyData.weightAll ds ≤ n
theorem Sm.mono {d : PyData} {n m : Nat} (h : Sm d n) (l : n ≤ m) : Sm d m := ⟨h.sh, h.lv, Nat.le_trans h.wt l⟩
theorem Sm.int {i : Int} (h : i.natAbs < 10 ^ 12) : Sm (.int i) 40 := by
  have hl : i.natAbs.log2 < 40 := by
    by_cases h0 : i.natAbs = 0
    · rw [h0]
      decide
    · exact (Nat.log2_lt h0).mpr (Nat.lt_trans h (by decide))
  refine ⟨?_, ?_, ?_⟩
  · simp only [PyData.showable, decide_eq_true_eq]
    omega
  · simp only [PyData.leavesShort, decide_eq_true_eq]
    exact PyData.shown_int_le h
  · simp only [PyData.weight]
    split <;> omega
theorem Sm.nat {n : Nat} (h : n < 10 ^ 12) : Sm (.int (n : Int)) 40 := Sm.int (by rw [Int.natAbs_natCast]; exact h)
theorem SmA.nil : SmA [] 0 := ⟨by simp only [PyData.showableAll], by simp only [PyData.leavesShortAll], by simp only [PyData.weightAll]; exact Nat.le_refl _⟩
theorem SmA.cons {d : PyData} {ds : List PyData} {n m : Nat} (h : Sm d n) (hs : SmA ds m) : SmA (d :: ds) (n + 1 + m) :=
  ⟨by simp only [PyData.showableAll, h.sh, hs.sh, Bool.and_self], by simp only [PyData.leavesShortAll, h.lv, hs.lv, Bool.and_self], by simp only [PyData.weightAll]; have := h.wt; have := hs.wt; omega⟩
theorem SmA.all {n : Nat} : ∀ {ds : List PyData}, (∀ d ∈ ds, Sm d n) → SmA ds (ds.length * (n + 1))
  | [], _ => by rw [List.length_nil, Nat.zero_mul]; exact SmA.nil
  | d :: ds, h => by
    have a := SmA.cons (h d List.mem_cons_self) (SmA.all (ds := ds) fun e he => h e (List.mem_cons_of_mem _ he))
    have e : (d :: ds).length * (n + 1) = n + 1 + ds.length * (n + 1) := by
      rw [List.length_cons, Nat.add_mul, Nat.one_mul]
      omega
    rw [e]
    exact a
theorem Sm.list {ds : List PyData} {n : Nat} (h : SmA ds n) : Sm (.list ds) n := ⟨by simp only [PyData.showable, h.sh], by simp only [PyData.leavesShort, h.lv], by simp only [PyData.weight]; exact h.wt⟩
theorem Sm.tup {ds : List PyData} {n : Nat} (h : SmA ds n) : Sm (.tuple ds) n := ⟨by simp only [PyData.showable, h.sh], by simp only [PyData.leavesShort, h.lv], by simp only [PyData.weight]; exact h.wt⟩
theorem Sm.bl (b : Bool) : Sm (.bool b) 0 := ⟨by simp only [PyData.showable], by simp only [PyData.leavesShort], by simp only [PyData.weight]; exact Nat.le_refl _⟩
section
variable {α : Type} [DecidableEq α] [Dm α]
theorem Sm.of_list {xs : List α} {n : Nat} (h : ∀ x ∈ xs, Sm (Datum.toD x) n) : Sm (Datum.toD xs) (xs.length * (n + 1)) := by
  have a := SmA.all (ds := xs.map Datum.toD) (n := n) fun d hd => by
    obtain ⟨x, hx, rfl⟩ := List.mem_map.mp hd
    exact h x hx
  rw [List.length_map] at a
  exact Sm.list a
theorem Sm.nats {xs : List Nat} (h : ∀ x ∈ xs, x < 10 ^ 12) : Sm (Datum.toD xs) (xs.length * 41) := Sm.of_list fun x hx => Sm.nat (h x hx)
theorem Sm.ints {xs : List Int} (h : ∀ x ∈ xs, x.natAbs < 10 ^ 12) : Sm (Datum.toD xs) (xs.length * 41) := Sm.of_list fun x hx => Sm.int (h x hx)
/-- what repr tells of x -/
def txt (x : α) : Str := (Datum.toD x).shown
theorem reprD {K : PySem.W.Frag} {H : Hp} {a : Addr} {x : α} {n : Nat} {Q : VK} (hx : Dv H (.ref a) x) (s : Sm (Datum.toD x) n) (hn : n ≤ 2 ^ 20) (hd : Datum.depth α ≤ 60) (q : Q (.str (txt x)) H) : rRepr K [.ref a] H Q :=
  ⟨a, _, rfl, dh_dp _ _ hx, ⟨s.sh, PyData.hasDict_of_canLay _ (Dm.lay x), Nat.le_trans (Datum.depth_le x) hd, PyData.shown_fits (by decide) (by decide) s.lv (Nat.le_trans s.wt hn)⟩, q⟩
theorem four (x : α) {n : Nat} (s : Sm (Datum.toD x) n) (hn : n ≤ 2 ^ 20) (hd : Datum.depth α ≤ 60) : (Datum.toD x).showable = true ∧ (Datum.toD x).hasDict = false ∧ (Datum.toD x).depth ≤ 60 ∧ (Datum.toD x).shown.length ≤ sizeLine :=
  ⟨s.sh, PyData.hasDict_of_canLay _ (Dm.lay x), Nat.le_trans (Datum.depth_le x) hd, PyData.shown_fits (by decide) (by decide) s.lv (Nat.le_trans s.wt hn)⟩
end
/-! ### the law's call -/
/-- the law's def from where a claim calls it -/
def LawOk (P : Program) (w : World) (K : PySem.W.Frag) (mg : Str → Option Value) (base : Heap) (f : Addr) (fd : FuncData) (ps : List Str) (sp : Sp) : Prop :=
  ∀ (s : Shared) (H : Hp) (args : Args) (us : List Value) (vs : List V) (Q : VK) (E : XK), Env0 P w K mg base callerA [] s H → BindsTo s fd args (ps.zip us) → Vals vs us → sp vs H Q E → codeAny (model P w) callerA (.call (.ref f) args) (CR CX0 [] P w H s Q E) s
theorem lawOk {P : Program} {w : World} {K : PySem.W.Frag} {mg : Str → Option Value} {base : Heap} {x qual : Str} {st : Stmt} {f : Addr} {fd : FuncData} {N ps : List Str} {k : Nat} {sp : Sp} (F : Fun K x qual st f fd) (S : FnScope N ps (defScope st)) (room : Room (k + 1) callerA)
    (len : ∀ vs H Q E, sp vs H Q E → vs.length = ps.length)
    (body : ∀ (cdv : Value) (A : Around) (outer : List Env) (s : Shared) (H : Hp) (vs : List V) (Q : VK) (E : XK), Room k (A.deeper (envOfC qual (defScope st) s.heap.objs.size f cdv)) → (A.deeper (envOfC qual (defScope st) s.heap.objs.size f cdv)).guards = some [] → sp vs H Q E →
      ∃ t, PSs (cxOf CX0 P w K mg base N qual (defScope st) f cdv A outer s H E).nox (defBody st) t ∧ t { nx := fun _ H' => Q .non H', rt := Q } (L2.start N vs) H) : LawOk P w K mg base f fd ps sp := by
  obtain ⟨_, _, _, _, _, _, cdv, _, _, rfl, look, cod⟩ := F.ex
  intro s H args us vs Q E env bind rel want
  have inK : K.In s.heap := env.mod.kin.keeps fun b o g => (env.bs b o g).1
  have free : s.heap.NoLimit := env.mod.nolimit.keeps fun b o g => (env.bs b o g).1
  have vis : ∀ y ∈ ps.zip us, (defScope st).names.lookup y.1 = some .local ∨ ((defScope st).names.lookup y.1 = some .cell ∧ ((cellsFrom (s.heap.objs.size + 1) (defScope st).names []).lookup y.1).isSome = true) := by
    rintro ⟨n, v⟩ hy
    exact (S.par n (List.of_mem_zip hy).1).imp id fun c => ⟨c, PySem.W.cellsFrom_some _ _ _ (.inl c)⟩
  refine codeAny_call_function room.depth (inK _ _ look) rfl S.co S.gen rfl (PySem.W.codeRec_of inK cod) (bind _ _ _ _ ?_)
  refine wpAny_newFunctionEnv_cells S.kind vis fun env1 he s1 made => ?_
  subst he
  refine ⟨free.keeps made.toInCall.keep, codeAny_func ?_⟩
  obtain ⟨t, ht, ok⟩ := body cdv callerA [] s H vs Q E (room.deeper _) rfl want
  have I := inv_start (CX := CX0) (E := E) S room.hd env (len _ _ _ _ want) rel made
  refine wpAny_mono ((ht.nox).run [] s1 (L2.start N vs) H _ I ok) (fun fl s' told => ?_) fun e s' told => told
  cases fl with
  | next =>
    obtain ⟨_, H', J, done⟩ := told
    exact ⟨.non, H', J.os, J.bare, J.base, J.hok, rfl, done⟩
  | ret u =>
    obtain ⟨v, _, H', J, rv, done⟩ := told
    exact ⟨v, H', J.os, J.bare, J.base, J.hok, rv, done⟩
  | brk => exact told.elim fun _ h => h.elim fun _ h => h.2.elim
  | cont => exact told.elim fun _ h => h.elim fun _ h => h.2.elim
theorem law_at {P : Program} {w : World} {K : PySem.W.Frag} {mg mb : Str → Option Value} {f a : Addr} {fd : FuncData} {x : Str} {sp : Sp} {s : Shared} {us : List Value} {ns : List Int}
    (kin : K.In s.heap) (glob : s.heap.Ns mainGlobals mg) (blt : s.heap.Ns builtinsNs mb) (same : ∀ y : Str, y ≠ "__name__" → mb y = bootBuiltins y) (free : s.heap.NoLimit) (gens : s.gens = #[])
    (script : s.heap.get? a = some { cls := .type "list", data := .seq us.toArray }) (whole : IntsAre us ns) (few : ns.length ≤ sizeLine)
    (F : ∀ base : Heap, K.In base → base.Ns mainGlobals mg → LawOk P w K mg base f fd [x] sp) (binds : ∀ (t : Shared) (u : Value), BindsTo t fd ⟨[u], []⟩ [(x, u)])
    (want : ∀ H : Hp, Only H → SqL K H a (ns.map V.int) → sp [.ref a] H (fun v _ => v = .bl true) fun _ _ _ => False) :
    codeAny (model P w) callerA (.call (.ref f) ⟨[.ref a], []⟩) (fun r t => r = .ok (.ret (.bool true)) ∧ OldK s.heap t.heap ∧ t.os = s.os ∧ AllBare t.gens) s := by
  have rel := vals_ints whole
  have long := whole.length
  -- what is tracked at the start: the script, if it is not one of the module's own objects
  obtain ⟨H, only, seq, fits, dom, own⟩ : ∃ H : Hp, Only H ∧ SqL K H a (ns.map V.int) ∧ HOk P w H s.heap ∧ (∀ b o, H b = some o → b = a) ∧ (∀ o, H a = some o → K.lookup a = none) := by
    cases kl : K.lookup a with
    | some o =>
      have g := kin a o kl
      rw [script] at g
      cases g
      refine ⟨fun _ => none, fun _ => .inl rfl, .inr ⟨_, us.toArray, _, kl, rfl, rfl, rfl, ?_, ?_⟩, ?_, ?_, ?_⟩
      · rw [List.size_toArray, long]
        exact few
      · rw [List.toList_toArray]
        exact rel
      · intro b u z
        cases z
      · intro b u z
        cases z
      · intro u z
        cases z
    | none =>
      let fz : HO := .frz { cls := .type "list", data := .seq us.toArray } (.lst (ns.map V.int))
      have at_a : (fun b => if b = a then some fz else none : Hp) a = some fz := if_pos rfl
      have off_a : ∀ {b : Addr}, b ≠ a → (fun b => if b = a then some fz else none : Hp) b = none := fun h => if_neg h
      refine ⟨fun b => if b = a then some fz else none, fun b => ?_, .inl (.inr ⟨_, at_a⟩), fun b u z => ?_, fun b u z => ?_, fun _ _ => rfl⟩
      · by_cases e : b = a
        · subst e
          exact .inr ⟨_, _, at_a⟩
        · exact .inl (off_a e)
      · by_cases e : b = a
        · subst e
          rw [at_a] at z
          cases z
          refine ⟨script, ?_, us, _, rel, script⟩
          rw [List.length_map]
          exact few
        · rw [off_a e] at z
          cases z
      · by_cases e : b = a
        · exact e
        · rw [off_a e] at z
          cases z
  have under : ∀ {b : Addr} {o : Obj}, s.heap.get? b = some o → H b = none → (hidT s.heap H).get? b = some o := fun g n => hidT_get g n
  have dicts : ∀ {b : Addr} {m : Str → Option Value}, s.heap.Ns b m → (hidT s.heap H).Ns b m := by
    rintro b m ⟨o, es, ep, g, d, r⟩
    refine ⟨o, es, ep, under g ?_, d, r⟩
    cases hb : H b with
    | none => rfl
    | some u =>
      obtain rfl := dom b u hb
      rw [script] at g
      cases g
      cases d
  have kinB : K.In (hidT s.heap H) := by
    intro b o kl
    refine under (kin b o kl) ?_
    cases hb : H b with
    | none => rfl
    | some u =>
      obtain rfl := dom b u hb
      rw [own u hb] at kl
      cases kl
  have modB : Mod K mg (hidT s.heap H) := by
    refine ⟨kinB, dicts glob, ⟨mb, dicts blt, same⟩, ?_⟩
    obtain ⟨mc, z1, z2⟩ := free
    exact ⟨mc, dicts z1, z2⟩
  have env : Env0 P w K mg (hidT s.heap H) callerA [] s H :=
    ⟨rfl, modB, fun b o g => of_hidT g, Nat.le_of_eq (hidT_size _ _), trivial, fun b hb => (by cases hb), fits, .of_eq gens⟩
  refine codeAny_mono (F _ kinB (dicts glob) s H ⟨[.ref a], []⟩ [.ref a] [.ref a] _ _ env (binds s (.ref a)) (.cons rfl .nil) (want H only seq)) fun r t told => ?_
  match r, told with
  | .error e, told => exact told.elim
  | .ok .next, told => exact told.elim
  | .ok .brk, told => exact told.elim
  | .ok .cont, told => exact told.elim
  | .ok (.ret u), ⟨v, H', os, bare, un, fits', rv, yes⟩ =>
    have yes' : v = .bl true := yes
    subst yes'
    have eu : u = Value.bool true := rv
    subst eu
    refine ⟨rfl, OldK.of_keep fun b o g => ?_, os, bare⟩
    cases hb : H b with
    | none => exact un.keep b o g hb (fun z => (by cases z)) (by simp)
    | some u2 =>
      rcases only b with z | ⟨ob, xs, z⟩
      · rw [z] at hb
        cases hb
      · obtain ⟨e1, _⟩ := fits b _ z
        obtain ⟨e2, _⟩ := fits' b _ (un.frzs b ob _ z)
        rw [g] at e1
        cases e1
        exact e2
/-- the goal that k_head leaves, where the law's promise is LawOk -/
theorem walk_at {l : PySem.W.OpenLaw} {n : Nat} {q : Program} {loose : List Str} {XP : (Str → Option Value) → Heap → Prop} {YP : World → Heap → Prop} {d : DefRec} {K : Params → PySem.W.Frag} {sp : PySem.W.Frag → Sp} {x : Str}
    (hn : l.most = some n) (hs : n ≤ sizeLine) (plain : d.params.defaults = []) (hY : ∀ (w : World) (h : Heap), YP w h → (K w.params).In h)
    (F : ∀ (w : World) (mg : Str → Option Value) (f : Addr) (h : Heap), (K w.params).In h → h.Ns mainGlobals mg → mg d.name = some (.ref f) →
      ∃ fd : FuncData, (∀ (s : Shared) (u : Value), BindsTo s fd ⟨[u], []⟩ [(x, u)]) ∧ ∀ base : Heap, (K w.params).In base → base.Ns mainGlobals mg → LawOk l.prog w (K w.params) mg base f fd [x] (sp (K w.params)))
    (want : ∀ (K : PySem.W.Frag) (H : Hp) (a : Addr) (ns : List Int), ns.length ≤ n → Only H → SqL K H a (ns.map V.int) → sp K [.ref a] H (fun v _ => v = .bl true) fun _ _ _ => False) :
    PySem.W.WalkO q loose XP YP l.row.toRowW d [] (fun f vs => PySem.call f vs) := by
  refine Att.attach_call hn plain fun w _ s1 mg mb f _ _ _ _ a us ns G Y _ _ _ named obj whole few gens => ?_
  have kin := hY w _ Y
  obtain ⟨fd, binds, told⟩ := F w mg f _ kin G.T.g named
  exact law_at kin G.T.g G.T.b G.T.builtins G.T.nolimit gens obj whole (Nat.le_trans few hs) told binds fun H only seq => want _ H a ns few only seq
end V0
/-! set(xs) of a list of whole numbers, and len of such a set -/
namespace V0
open PySem PySem.Spec PyProof.Rows L2
/-- the set that set.__new__ leaves -/
def bare (w : World) : Obj := { cls := .type "set", dict := none, data := .set #[] 0 (.fresh 0 0 (!w.params.followText "set-order")) }
section
variable {P : Program} {w : World} {A : Around} {E : Value → Shared → Prop} {s : Shared}
/-- what set.__init__ does with a list of ints -/
theorem set_filled {l : Addr} {arr : Array Value} {xs : List Int} {R : Value → Shared → Prop} (calm : A.handled = none) (lst : s.heap.IsList l arr) (num : IntsAre arr.toList xs) (few : xs.length + 1 < scanBound)
    (told : ∀ (h' : Heap) (tk c : Nat), SetR w h' s.heap.objs.size (fun j => decide (j ∈ xs)) c → c ≤ xs.length → (∀ b o, s.heap.get? b = some o → h'.get? b = some o) → R .none { s with heap := h', toks := tk }) :
    codeAny (model P w) A (.call (.builtin "set.__init__") ⟨[.ref s.heap.objs.size, .ref l], []⟩) (wants R E) { s with heap := s.heap.push (bare w) } := by
  have own : (s.heap.push (bare w)).get? s.heap.objs.size = some (bare w) := Heap.get?_push_size _ rfl
  have kind : Shared.TypeIs { s with heap := s.heap.push (bare w) } (.ref s.heap.objs.size) "set" := ⟨_, own, rfl⟩
  have many : arr.size = xs.length := by rw [← Array.length_toList, IntsAre.length num]
  refine codeAny_call_builtin F.called_set.init.plain F.entry_set_init (check_set_init_1 kind ?_)
  obtain ⟨⟨cl, od, dat, sl⟩, at_l, is_l, nn, is_d⟩ := lst
  dsimp only at is_l is_d
  subst is_l is_d
  have below := Heap.lt_size at_l
  have at_l1 : (s.heap.push (bare w)).get? l = some ⟨.type "list", od, .seq arr nn, sl⟩ := Heap.get?_push_of_some _ at_l
  have lst1 : (s.heap.push (bare w)).IsList l arr := ⟨_, at_l1, rfl, nn, rfl⟩
  have no1 := F.sub_list_set
  have no2 := F.sub_list_frozenset
  have no3 : (Value.type "list" == Value.type "dict") = false := by decide
  unfold Builtin.«set.__init__» noKeywords Builtin.Frozenset.updateFrom
  generalize walker : pyIter = PI
  wp_walk
  subst walker
  refine wpAny_pyIter_list lst1 (wpAny_bind (wpAny_runValue ?_))
  have size1 : (s.heap.push (bare w)).objs.size = s.heap.objs.size + 1 := Heap.size_push ..
  have ne1 : l ≠ (s.heap.push (bare w)).objs.size := size1 ▸ Nat.ne_of_lt (Nat.lt_succ_of_lt below)
  have calm3 : A.in1.in1.handled = none := by simp [calm]
  have out : s.heap.objs.size ∉ [(s.heap.push (bare w)).objs.size, l] := by
    intro hm
    rcases List.mem_cons.mp hm with e | hm
    · rw [size1] at e
      exact Nat.ne_of_lt (Nat.lt_succ_self _) e
    · exact Nat.ne_of_lt below (List.mem_singleton.mp hm).symm
  have each : ∀ (i : Nat) (v : Value), arr[i]? = some v → ∃ k t, xs[i]? = some k ∧ v = .int k t := by
    intro i v hv
    have hi : i < xs.length := many ▸ (Array.getElem?_eq_some_iff.mp hv).1
    obtain ⟨t, e⟩ := PyProof.Rows.IntsAre.int_at num i v ((Array.getElem?_toList ..).trans hv)
    refine ⟨xs[i], t, List.getElem?_eq_getElem hi, ?_⟩
    rw [e, List.getD_eq_getElem?_getD, List.getElem?_eq_getElem hi]
    rfl
  refine set_update_ints ((Walks.list calm3 _ l ne1 arr).toS) s.heap.objs.size out xs many few each (arr.size - 0) 0 _ (by omega) (Nat.zero_le _) ⟨⟨_, Heap.get?_push_size _ rfl, rfl, rfl⟩, lst1.push _⟩ ⟨0, Nat.le_refl 0, setR_new_at (Heap.get?_push_of_some _ own)⟩ ?_
  rintro ⟨h', g', d', tk', os'⟩ c moved bound full
  obtain rfl : g' = s.gens := moved.gens
  obtain rfl : d' = s.drawn := moved.drawn
  obtain rfl : os' = s.os := moved.os
  show wpAny _ _ _ _ _ _
  refine wpAny_pure ?_
  show wpAny _ _ (ret Value.none) _ _ _
  refine wpAny_pure (told h' tk' c full (many ▸ bound) fun b o e => ?_)
  have low := Heap.lt_size e
  refine moved.heap b o ?_ (Heap.get?_push_of_some _ (Heap.get?_push_of_some _ e))
  intro hm
  rcases List.mem_cons.mp hm with z | hm
  · exact Nat.ne_of_lt low z
  · have z := List.mem_singleton.mp hm
    rw [size1] at z
    exact Nat.ne_of_lt (Nat.lt_succ_of_lt low) z
theorem call_set_ints {l : Addr} {arr : Array Value} {xs : List Int} {Q : Value → Shared → Prop} (calm : A.handled = none) (lst : s.heap.IsList l arr) (num : IntsAre arr.toList xs) (few : xs.length + 1 < scanBound)
    (then_ : ∀ (h' : Heap) (tk c : Nat), SetR w h' s.heap.objs.size (fun j => decide (j ∈ xs)) c → c ≤ xs.length → (∀ b o, s.heap.get? b = some o → h'.get? b = some o) → Q (.ref s.heap.objs.size) { s with heap := h', toks := tk }) :
    wpAny (model P w) A (call (.type "set") [.ref l]) Q E s := by
  obtain ⟨_, _, order⟩ := F.called_set.mro
  have made := F.called_set.made
  have below := F.called_set.sub
  refine wpAny_call (codeAny_of_tree ?_)
  show wpAny _ _ (callAny (.type "set") ⟨[.ref l], []⟩) _ _ s
  refine wpAny_pure ⟨Code.quiet_builtin _ (by decide +kernel), codeAny_builtin F.entry_type_call ?_⟩
  rw [Around.under_plain (weight_type_call_type "set" [.ref l] []) rfl]
  have f1 := F.called_set.notType
  have f2 := F.called_set.canCreate
  have f3 := F.typeCall_set_1 (.ref l)
  repeat (any_goals (first | assumption | wp_step))
  refine codeAny_mono (code_set_led1 (.ref l) (E := E) (Q₁ := fun u t => u = .ref s.heap.objs.size ∧ t = { s with heap := s.heap.push (bare w) }) ⟨rfl, rfl⟩) fun r t first => ?_
  match r, first with
  | .error e, first => exact first
  | .ok .next, first => exact first.elim
  | .ok .brk, first => exact first.elim
  | .ok .cont, first => exact first.elim
  | .ok (.ret u), ⟨eu, et⟩ =>
    subst eu et
    have kind : Shared.TypeIs { s with heap := s.heap.push (bare w) } (.ref s.heap.objs.size) "set" := ⟨_, Heap.get?_push_size _ rfl, rfl⟩
    have f4 := F.called_set.init.lookup
    have f5 := F.called_set.init.bind (.ref s.heap.objs.size)
    repeat (any_goals (first | assumption | wp_step))
    refine codeAny_mono (set_filled (A := _) (E := E) (R := fun v t => v = .none ∧ ∃ h' tk c, t = { s with heap := h', toks := tk } ∧ SetR w h' s.heap.objs.size (fun j => decide (j ∈ xs)) c ∧ c ≤ xs.length ∧ (∀ b o, s.heap.get? b = some o → h'.get? b = some o)) (by simp [calm]) lst num few fun h' tk c a b k => ⟨rfl, h', tk, c, rfl, a, b, k⟩) fun r t second => ?_
    match r, second with
    | .error e, second => exact second
    | .ok .next, second => exact second.elim
    | .ok .brk, second => exact second.elim
    | .ok .cont, second => exact second.elim
    | .ok (.ret v), ⟨ev, h', tk, c, et, a, b, k⟩ =>
      subst ev et
      repeat (any_goals (first | assumption | wp_step))
      exact then_ _ _ _ a b k
end
/-- set(xs) -/
def rSetOf (K : PySem.W.Frag) (w : World) : List V → Hp → VK → Prop := fun vs H Q => ∃ (l : Addr) (xs : List Int), vs = [.ref l] ∧ SqL K H l (xs.map V.int) ∧ xs.length ≤ 4000 ∧ ∀ p c, H p = none → c ≤ xs.length → Q (.ref p) (upd H p (SetO w p (fun j => decide (j ∈ xs)) c))
theorem cr_setOf {X : Cx} (hc : X.calm = true) : CallR X (.type "set") (rSetOf X.K X.w) := by
  intro pins s σ H vs us Q I r h
  obtain ⟨l, xs, rfl, seq, few, q⟩ := h
  obtain rfl := Vals.ref1 r
  obtain ⟨its, rv, pl, _⟩ := I.list seq
  have num : IntsAre its xs := intsAre_of rv
  refine call_set_ints (I.ok.hd hc) pl.isList (by simpa using num) (by unfold scanBound; omega) fun h' tk c full bound k => ?_
  exact ⟨.ref _, _, I.laid (t' := tk) k (Nat.le_refl _) (setO_new full), rfl, q _ c (I.hok.fresh (Nat.le_refl _)) bound⟩
/-- the ascending list of what stands in xs -/
theorem asc_mem {ns : List Int} {xs : List Nat} (h1 : ns.Pairwise (· < ·)) (h2 : ∀ k : Int, k ∈ ns ↔ k ∈ xs.map (fun (x : Nat) => (x : Int))) : ∃ ys : List Nat, ns = ys.map (fun (x : Nat) => (x : Int)) ∧ ys.Pairwise (· < ·) ∧ ∀ y, y ∈ ys ↔ y ∈ xs := by
  refine ⟨ns.map Int.toNat, ?_, ?_, ?_⟩
  · rw [List.map_map]
    refine (List.map_id ns).symm.trans (List.map_congr_left fun k hk => ?_)
    obtain ⟨x, _, rfl⟩ := List.mem_map.mp ((h2 k).mp hk)
    rfl
  · rw [List.pairwise_map]
    refine h1.imp_of_mem fun {a b} ha hb hab => ?_
    obtain ⟨x, _, rfl⟩ := List.mem_map.mp ((h2 a).mp ha)
    obtain ⟨y, _, rfl⟩ := List.mem_map.mp ((h2 b).mp hb)
    show (x : Int).toNat < (y : Int).toNat
    omega
  · intro y
    rw [List.mem_map]
    constructor
    · rintro ⟨k, hk, rfl⟩
      obtain ⟨x, hx, rfl⟩ := List.mem_map.mp ((h2 k).mp hk)
      exact hx
    · intro hy
      exact ⟨(y : Int), (h2 _).mpr (List.mem_map.mpr ⟨y, hy, rfl⟩), rfl⟩
theorem asc_unique : ∀ {xs ys : List Nat}, xs.Pairwise (· < ·) → ys.Pairwise (· < ·) → (∀ y, y ∈ xs ↔ y ∈ ys) → xs = ys
  | [], [], _, _, _ => rfl
  | [], y :: ys, _, _, h => by
    have := (h y).mpr List.mem_cons_self
    cases this
  | x :: xs, [], _, _, h => by
    have := (h x).mp List.mem_cons_self
    cases this
  | x :: xs, y :: ys, h1, h2, h => by
    rw [List.pairwise_cons] at h1 h2
    have e : x = y := by
      have a := (h x).mp List.mem_cons_self
      have b := (h y).mpr List.mem_cons_self
      rcases List.mem_cons.mp a with a | a
      · exact a
      · rcases List.mem_cons.mp b with b | b
        · exact b.symm
        · have c := h1.1 y b
          have d := h2.1 x a
          omega
    subst e
    rw [asc_unique h1.2 h2.2 fun z => ?_]
    have hz := h z
    rw [List.mem_cons, List.mem_cons] at hz
    constructor
    · intro m
      rcases hz.mp (.inr m) with rfl | m2
      · exact absurd (h1.1 z m) (Nat.lt_irrefl _)
      · exact m2
    · intro m
      rcases hz.mpr (.inr m) with rfl | m2
      · exact absurd (h2.1 z m) (Nat.lt_irrefl _)
      · exact m2
abbrev toI (xs : List Nat) : List Int := xs.map (fun (b : Nat) => (b : Int))
theorem vn_int (xs : List Nat) : vn xs = (toI xs).map V.int := by
  unfold toI
  rw [List.map_map]
  rfl
/-- sorted(set(xs)) -/
theorem sorted_set_nat {K : PySem.W.Frag} {w : World} {H : Hp} {l : Addr} {xs : List Nat} {Q : VK} (h : H l = some (.lst (vn xs))) (few : xs.length < 64)
    (q : ∀ p ys H', Same H H' → H p = none → H' p = some (.lst (vn ys)) → ys.Pairwise (· < ·) → (∀ y, y ∈ ys ↔ y ∈ xs) → ys.length ≤ xs.length → Q (.ref p) H') :
    rSetOf K w [.ref l] H (fun z Hz => rSortedSet w [z] Hz Q) := by
  refine ⟨l, toI xs, rfl, SqL.of (by rw [h, vn_int]), by rw [List.length_map]; omega, fun pz c nz hc => ⟨pz, _, c, rfl, upd_same, ?_, fun ns p asc mem len np => ?_⟩⟩
  · rw [List.length_map] at hc
    omega
  · obtain ⟨ys, rfl, h1, h2⟩ := asc_mem (xs := xs) asc fun k => by rw [mem k, decide_eq_true_eq]
    rw [List.length_map] at hc len
    have s1 := same_new (o := SetO w pz (fun j => decide (j ∈ toI xs)) c) nz
    refine q p ys _ (s1.trans (same_new np)) (none_of s1 np) ?_ h1 h2 (by omega)
    rw [upd_same, vn_int]
theorem perm_asc {ns : List Int} {ks : List Nat} (h1 : ns.Perm (toI ks)) (h2 : ns.Pairwise (· ≤ ·)) (nd : ks.Nodup) : ∃ zs : List Nat, ns = toI zs ∧ zs.Pairwise (· < ·) ∧ ∀ y, y ∈ zs ↔ y ∈ ks := by
  have nd1 : (toI ks).Nodup := by
    show List.Pairwise (· ≠ ·) (List.map _ ks)
    rw [List.pairwise_map]
    have nd' : ks.Pairwise (· ≠ ·) := nd
    exact nd'.imp fun {a b} h e => h (by omega)
  have nd2 : ns.Nodup := h1.nodup_iff.mpr nd1
  have h3 : ns.Pairwise (· < ·) := by
    have h4 : ns.Pairwise (· ≠ ·) := nd2
    exact (h2.and h4).imp fun {a b} h => by omega
  exact asc_mem h3 fun k => h1.mem_iff
/-! ### marks in a dict -/
def mkD (ks : List Nat) : List (Key × V) := ks.map fun (x : Nat) => (Sum.inl (x : Int), V.bl true)
theorem mkD_val (ks : List Nat) (y : Nat) : valV (mkD ks) (Sum.inl (y : Int)) = if y ∈ ks then some (V.bl true) else none := by
  induction ks with
  | nil =>
    rw [if_neg List.not_mem_nil]
    rfl
  | cons x r ih =>
    show valV ((Sum.inl (x : Int), V.bl true) :: mkD r) _ = _
    by_cases e : x = y
    · subst e
      rw [valV_pos (p := (Sum.inl (x : Int), V.bl true)) rfl, if_pos List.mem_cons_self]
    · rw [valV_neg (p := (Sum.inl (x : Int), V.bl true)) (fun z => e (by have := Sum.inl.inj z; omega)), ih]
      by_cases h : y ∈ r
      · rw [if_pos h, if_pos (List.mem_cons_of_mem _ h)]
      · rw [if_neg h, if_neg (fun m => (List.mem_cons.mp m).elim (fun z => e z.symm) h)]
def addN (ks : List Nat) (y : Nat) : List Nat := if y ∈ ks then ks else ks ++ [y]
theorem mkD_put (ks : List Nat) (y : Nat) : putK (mkD ks) (Sum.inl (y : Int)) (V.bl true) = mkD (addN ks y) := by
  unfold addN
  have hv := mkD_val ks y
  by_cases h : y ∈ ks
  · rw [if_pos h]
    rw [if_pos h] at hv
    have ha : ((mkD ks).any fun kv => decide (kv.1 = Sum.inl (y : Int))) = true := by rw [valV_any, hv]; rfl
    unfold putK
    rw [if_pos ha]
    unfold mkD
    rw [List.map_map]
    refine List.map_congr_left fun x _ => ?_
    show (if (Sum.inl (x : Int) : Key) = Sum.inl (y : Int) then ((Sum.inl (x : Int) : Key), V.bl true) else (Sum.inl (x : Int), V.bl true)) = _
    split <;> rfl
  · rw [if_neg h] at hv ⊢
    rw [putK_new _ hv]
    unfold mkD
    rw [List.map_append]
    rfl
theorem addN_mem (ks : List Nat) (y z : Nat) : z ∈ addN ks y ↔ z ∈ ks ∨ z = y := by
  unfold addN
  split
  · rename_i h
    constructor
    · exact .inl
    · rintro (m | rfl)
      · exact m
      · exact h
  · rw [List.mem_append, List.mem_singleton]
theorem addN_nodup {ks : List Nat} (h : ks.Nodup) (y : Nat) : (addN ks y).Nodup := by
  unfold addN
  split
  · exact h
  · rename_i hy
    rw [List.nodup_append]
    refine ⟨h, by simp, fun a ha b hb e => ?_⟩
    rw [List.mem_singleton.mp hb] at e
    exact hy (e ▸ ha)
theorem sum_int : ∀ xs : List Nat, (toI xs).sum = ((xs.sum : Nat) : Int)
  | [] => rfl
  | b :: r => by
    show ((b : Int) :: toI r).sum = ((b + r.sum : Nat) : Int)
    rw [List.sum_cons, sum_int r]
    omega
end V0
/-! cuts of nets, bits of tables -/
namespace V0
open PySem PySem.Spec PyProof.Rows L2
open PySem.W (Datum)
/-! ### numbers by their bits -/
def num : List Nat → Nat
  | [] => 0
  | b :: r => b + 2 * num r
theorem num_append (xs ys : List Nat) : num (xs ++ ys) = num xs + 2 ^ xs.length * num ys := by
  induction xs with
  | nil => simp [num]
  | cons b r ih =>
    show b + 2 * num (r ++ ys) = b + 2 * num r + 2 ^ (r.length + 1) * num ys
    rw [ih, Nat.pow_succ, Nat.mul_add, Nat.mul_comm (2 ^ r.length) 2, Nat.mul_assoc, Nat.add_assoc]
theorem num_snoc (xs : List Nat) (b : Nat) : num (xs ++ [b]) = num xs + b * 2 ^ xs.length := by
  rw [num_append]
  show num xs + 2 ^ xs.length * (b + 2 * 0) = _
  rw [Nat.mul_zero, Nat.add_zero, Nat.mul_comm]
theorem num_lt {xs : List Nat} (h : ∀ b ∈ xs, b < 2) : num xs < 2 ^ xs.length := by
  induction xs with
  | nil => decide
  | cons b r ih =>
    have h1 := h b List.mem_cons_self
    have h2 := ih fun c hc => h c (List.mem_cons_of_mem _ hc)
    show b + 2 * num r < 2 ^ (r.length + 1)
    rw [Nat.pow_succ]
    omega
theorem num_testBit {xs : List Nat} (h : ∀ b ∈ xs, b < 2) (i : Nat) : (num xs).testBit i = decide (xs[i]? = some 1) := by
  induction xs generalizing i with
  | nil => simp [num]
  | cons b r ih =>
    have h1 := h b List.mem_cons_self
    have hb : b = 0 ∨ b = 1 := by omega
    have h2 := fun j => ih (fun c hc => h c (List.mem_cons_of_mem _ hc)) j
    cases i with
    | zero =>
      show (b + 2 * num r).testBit 0 = decide (some b = some 1)
      rw [Nat.testBit_zero]
      rcases hb with rfl | rfl
      · have : (0 + 2 * num r) % 2 = 0 := by omega
        rw [this]
        rfl
      · have : (1 + 2 * num r) % 2 = 1 := by omega
        rw [this]
        rfl
    | succ j =>
      show (b + 2 * num r).testBit (j + 1) = decide (r[j]? = some 1)
      rw [Nat.testBit_succ, ← h2 j]
      congr 1
      omega
/-- the columns of bits f 0, f 1, .. -/
def colN (m : Nat) (f : Nat → Nat) : Nat := num ((List.range m).map f)
theorem col_succ (m : Nat) (f : Nat → Nat) : colN (m + 1) f = colN m f + f m * 2 ^ m := by
  unfold colN
  rw [map_range_succ, num_snoc, List.length_map, List.length_range]
theorem col_lt (m : Nat) (f : Nat → Nat) (h : ∀ i, i < m → f i < 2) : colN m f < 2 ^ m := by
  have := num_lt (xs := (List.range m).map f) fun b hb => by
    obtain ⟨i, hi, rfl⟩ := List.mem_map.mp hb
    exact h i (List.mem_range.mp hi)
  rw [List.length_map, List.length_range] at this
  exact this
theorem col_testBit {m : Nat} {f : Nat → Nat} (h : ∀ i, i < m → f i < 2) (i : Nat) : (colN m f).testBit i = (decide (i < m) && decide (f i = 1)) := by
  unfold colN
  rw [num_testBit]
  · by_cases hi : i < m
    · rw [List.getElem?_map, List.getElem?_range hi, decide_eq_true hi, Bool.true_and]
      show decide (some (f i) = some 1) = _
      exact decide_eq_decide.mpr ⟨fun e => Option.some.inj e, fun e => by rw [e]⟩
    · rw [List.getElem?_eq_none (by rw [List.length_map, List.length_range]; omega), decide_eq_false hi]
      rfl
  · intro b hb
    obtain ⟨i, hi, rfl⟩ := List.mem_map.mp hb
    exact h i (List.mem_range.mp hi)
theorem col_and {m : Nat} {f g : Nat → Nat} (hf : ∀ i, i < m → f i < 2) (hg : ∀ i, i < m → g i < 2) : colN m f &&& colN m g = colN m (fun i => f i * g i) := by
  apply Nat.eq_of_testBit_eq
  intro i
  rw [Nat.testBit_and, col_testBit hf, col_testBit hg, col_testBit (fun i hi => mul_lt2 (hf i hi) (hg i hi))]
  by_cases hi : i < m
  · rw [decide_eq_true hi, Bool.true_and, Bool.true_and, Bool.true_and]
    have h1 := hf i hi
    have h2 := hg i hi
    have e1 : f i = 0 ∨ f i = 1 := by omega
    have e2 : g i = 0 ∨ g i = 1 := by omega
    rcases e1 with e1 | e1 <;> rcases e2 with e2 | e2 <;> rw [e1, e2] <;> decide
  · rw [decide_eq_false hi]
    rfl
theorem col_xor {m : Nat} {f : Nat → Nat} (hf : ∀ i, i < m → f i < 2) (l : Nat) : colN m f ^^^ (if l % 2 = 1 then 2 ^ m - 1 else 0) = colN m (fun i => f i ^^^ (l % 2)) := by
  have hx : ∀ i, i < m → f i ^^^ (l % 2) < 2 := fun i hi => Nat.xor_lt_two_pow (n := 1) (hf i hi) (Nat.mod_lt _ (by decide))
  apply Nat.eq_of_testBit_eq
  intro i
  rw [Nat.testBit_xor, col_testBit hf, col_testBit hx]
  rcases Nat.mod_two_eq_zero_or_one l with e | e
  · rw [if_neg (by omega), e, Nat.zero_testBit, Bool.xor_false]
    simp
  · rw [if_pos e, e, Nat.testBit_two_pow_sub_one]
    by_cases hi : i < m
    · rw [decide_eq_true hi, Bool.true_and, Bool.true_and]
      have h1 := hf i hi
      have e1 : f i = 0 ∨ f i = 1 := by omega
      rcases e1 with e1 | e1 <;> rw [e1] <;> decide
    · rw [decide_eq_false hi]
      rfl
/-- the sum of the powers whose bit is set -/
theorem sum_pows (m : Nat) (f : Nat → Nat) (h : ∀ i, i < m → f i < 2) : (((List.range m).filter fun i => decide (f i = 1)).map fun i => 2 ^ i).sum = colN m f := by
  induction m with
  | zero => rfl
  | succ m ih =>
    rw [List.range_succ, List.filter_append, List.map_append, List.sum_append, ih fun i hi => h i (by omega), col_succ]
    have h1 := h m (by omega)
    have e1 : f m = 0 ∨ f m = 1 := by omega
    rcases e1 with e1 | e1
    · simp [e1]
    · simp [e1]
/-! ### cuts -/
inductive Sep (n : Net) (cut : List Nat) : Nat → Prop
  | hit {x : Nat} : x ∈ cut → Sep n cut x
  | gate {x : Nat} {g : Nat × Nat} : n.base ≤ x → n.gates[x - n.base]? = some g → Sep n cut (g.1 / 2) → Sep n cut (g.2 / 2) → Sep n cut x
def kids (n : Net) (x : Nat) : List Nat := if x < n.base then [] else match n.gates[x - n.base]? with
  | some g => [g.1 / 2, g.2 / 2]
  | none => []
theorem Sep.expand {n : Net} {cut other : List Nat} {node : Nat} (hn : kids n node ≠ []) (hk : ∀ y ∈ kids n node, y ∈ other) (ho : ∀ y ∈ cut, y ≠ node → y ∈ other) {x : Nat} (h : Sep n cut x) : Sep n other x := by
  induction h with
  | @hit x hx =>
    by_cases e : x = node
    · subst e
      unfold kids at hn hk
      by_cases hb : x < n.base
      · rw [if_pos hb] at hn
        exact absurd rfl hn
      · rw [if_neg hb] at hn hk
        cases eg : n.gates[x - n.base]? with
        | none =>
          rw [eg] at hn
          exact absurd rfl hn
        | some g =>
          rw [eg] at hk
          exact .gate (by omega) eg (.hit (hk _ (by simp))) (.hit (hk _ (by simp)))
    · exact .hit (ho x hx e)
  | gate hb hg _ _ i1 i2 => exact .gate hb hg i1 i2
theorem Sep.mono {n : Net} {cut other : List Nat} (ho : ∀ y ∈ cut, y ∈ other) {x : Nat} (h : Sep n cut x) : Sep n other x := by
  induction h with
  | hit hx => exact .hit (ho _ hx)
  | gate hb hg _ _ i1 i2 => exact .gate hb hg i1 i2
theorem Sep.some {n : Net} {cut : List Nat} {x : Nat} (h : Sep n cut x) : cut ≠ [] := by
  induction h with
  | hit hx => exact List.ne_nil_of_mem hx
  | gate _ _ _ _ i1 _ => exact i1
/-- a net as the law draws it -/
structure TOk (n : Net) : Prop where
  i1 : 1 ≤ n.ins
  i4 : n.ins ≤ 4
  fl : n.starts.length ≤ 2
  gl : n.gates.length ≤ 9
  g : ∀ j g, n.gates[j]? = some g → (2 ≤ g.1 ∧ g.1 < 2 * (n.base + j)) ∧ (2 ≤ g.2 ∧ g.2 < 2 * (n.base + j)) ∧ g.1 / 2 ≠ g.2 / 2
theorem TOk.kid {n : Net} (t : TOk n) {x y : Nat} (h : y ∈ kids n x) : 1 ≤ y ∧ y < x ∧ n.base ≤ x := by
  unfold kids at h
  by_cases hb : x < n.base
  · rw [if_pos hb] at h
    cases h
  · rw [if_neg hb] at h
    cases eg : n.gates[x - n.base]? with
    | none =>
      rw [eg] at h
      cases h
    | some g =>
      rw [eg] at h
      have := t.g _ _ eg
      simp only [List.mem_cons, List.not_mem_nil, or_false] at h
      rcases h with rfl | rfl <;> omega
structure IsCut (n : Net) (gate : Nat) (cut : List Nat) (k : Nat) : Prop where
  len : cut.length ≤ k
  asc : cut.Pairwise (· < ·)
  bnd : ∀ x ∈ cut, 0 < x ∧ x < gate
  sep : ∀ y ∈ kids n gate, Sep n cut y
theorem kids_gate {n : Net} {x : Nat} (h1 : n.base ≤ x) (h2 : x < n.many) : ∃ g, n.gates[x - n.base]? = some g ∧ kids n x = [g.1 / 2, g.2 / 2] := by
  have hj : x - n.base < n.gates.length := by
    unfold Net.many at h2
    omega
  refine ⟨_, List.getElem?_eq_getElem hj, ?_⟩
  unfold kids
  rw [if_neg (by omega), List.getElem?_eq_getElem hj]
theorem IsCut.some {n : Net} {gate k : Nat} {cut : List Nat} (c : IsCut n gate cut k) (h1 : n.base ≤ gate) (h2 : gate < n.many) : cut ≠ [] := by
  obtain ⟨g, _, e⟩ := kids_gate h1 h2
  exact (c.sep (g.1 / 2) (by rw [e]; simp)).some
theorem Sep.gate_of {n : Net} {cut : List Nat} {x : Nat} (h : Sep n cut x) (hx : x ∉ cut) : n.base ≤ x ∧ x < n.many ∧ ∀ y ∈ kids n x, Sep n cut y := by
  cases h with
  | hit h => exact absurd h hx
  | @gate _ g hb hg h1 h2 =>
    have hj := (List.getElem?_eq_some_iff.mp hg).1
    refine ⟨hb, by unfold Net.many; omega, fun y hy => ?_⟩
    unfold kids at hy
    rw [if_neg (by omega), hg] at hy
    simp only [List.mem_cons, List.not_mem_nil, or_false] at hy
    rcases hy with rfl | rfl
    · exact h1
    · exact h2
theorem kids_len (n : Net) (x : Nat) : (kids n x).length ≤ 2 := by
  unfold kids
  split
  · decide
  · split <;> simp
theorem nodup_bound : ∀ {m : Nat} {xs : List Nat}, xs.Nodup → (∀ x ∈ xs, x < m) → xs.length ≤ m
  | 0, xs, _, b => by
    cases xs with
    | nil => exact Nat.le_refl _
    | cons x r => exact absurd (b x List.mem_cons_self) (Nat.not_lt_zero _)
  | m + 1, xs, h, b => by
    have ih := nodup_bound (m := m) (xs := xs.erase m) (h.erase m) fun x hx => by
      have h1 := (h.mem_erase_iff).mp hx
      have h2 := b x h1.2
      have h3 := h1.1
      omega
    rw [List.length_erase] at ih
    split at ih <;> omega
theorem many16 {n : Net} (ok : TOk n) : n.many ≤ 16 := by
  have := ok.i4
  have := ok.fl
  have := ok.gl
  unfold Net.many Net.base
  omega
/-! ### bits of gates -/
def gbit (n : Net) (kn : Nat → Option Nat) (x : Nat) : Nat := match kn x with
  | some b => b
  | none => match n.gates[x - n.base]? with
    | none => 0
    | some g => if h : g.1 / 2 < x ∧ g.2 / 2 < x then (gbit n kn (g.1 / 2) ^^^ (g.1 % 2)) * (gbit n kn (g.2 / 2) ^^^ (g.2 % 2)) else 0
termination_by x
decreasing_by
  · exact h.1
  · exact h.2
theorem gbit_hit {n : Net} {kn : Nat → Option Nat} {x b : Nat} (h : kn x = some b) : gbit n kn x = b := by
  rw [gbit, h]
theorem gbit_gate {n : Net} {kn : Nat → Option Nat} {x : Nat} {g : Nat × Nat} (h : kn x = none) (hg : n.gates[x - n.base]? = some g) (h1 : g.1 / 2 < x) (h2 : g.2 / 2 < x) :
    gbit n kn x = (gbit n kn (g.1 / 2) ^^^ (g.1 % 2)) * (gbit n kn (g.2 / 2) ^^^ (g.2 % 2)) := by
  rw [gbit, h]
  simp only [hg]
  rw [dif_pos ⟨h1, h2⟩]
theorem gbit_lt {n : Net} {kn : Nat → Option Nat} (hk : ∀ x b, kn x = some b → b < 2) (x : Nat) : gbit n kn x < 2 := by
  induction x using Nat.strongRecOn with
  | ind x ih =>
    rw [gbit]
    cases e : kn x with
    | some b => exact hk x b e
    | none =>
      simp only
      cases eg : n.gates[x - n.base]? with
      | none =>
        show 0 < 2
        decide
      | some g =>
        simp only
        split
        · rename_i h
          exact mul_lt2 (Nat.xor_lt_two_pow (n := 1) (ih _ h.1) (Nat.mod_lt _ (by decide))) (Nat.xor_lt_two_pow (n := 1) (ih _ h.2) (Nat.mod_lt _ (by decide)))
        · decide
/-- what is known of the m-th choice of values of a cut -/
def kn (cut : List Nat) (m x : Nat) : Option Nat := if x ∈ cut then some (m / 2 ^ (cut.idxOf x) % 2) else none
theorem kn_lt (cut : List Nat) (m : Nat) : ∀ x b, kn cut m x = some b → b < 2 := by
  intro x b h
  unfold kn at h
  split at h
  · cases h
    exact Nat.mod_lt _ (by decide)
  · cases h
def colOf (n : Net) (cut : List Nat) (x : Nat) : Nat := colN (2 ^ cut.length) fun m => gbit n (kn cut m) x
theorem colOf_hit {n : Net} {cut : List Nat} {x : Nat} (h : x ∈ cut) : colOf n cut x = colN (2 ^ cut.length) fun m => m / 2 ^ (cut.idxOf x) % 2 := by
  unfold colOf
  congr 1
  funext m
  exact gbit_hit (if_pos h)
theorem colOf_gate {n : Net} {cut : List Nat} {x : Nat} {g : Nat × Nat} (h : x ∉ cut) (hg : n.gates[x - n.base]? = some g) (h1 : g.1 / 2 < x) (h2 : g.2 / 2 < x) :
    colOf n cut x = (colOf n cut (g.1 / 2) ^^^ (if g.1 % 2 = 1 then 2 ^ 2 ^ cut.length - 1 else 0)) &&& (colOf n cut (g.2 / 2) ^^^ (if g.2 % 2 = 1 then 2 ^ 2 ^ cut.length - 1 else 0)) := by
  have hx : ∀ (y l : Nat), ∀ i, i < 2 ^ cut.length → gbit n (kn cut i) y ^^^ (l % 2) < 2 := fun y l i _ => Nat.xor_lt_two_pow (n := 1) (gbit_lt (kn_lt cut i) y) (Nat.mod_lt _ (by decide))
  unfold colOf
  rw [col_xor fun i _ => gbit_lt (kn_lt cut i) _, col_xor fun i _ => gbit_lt (kn_lt cut i) _, col_and (hx _ _) (hx _ _)]
  congr 1
  funext m
  exact gbit_gate (if_neg h) hg h1 h2
/-! ### what stands above a cut -/
structure MK (n : Net) (gate : Nat) (cut ks : List Nat) : Prop where
  nd : ks.Nodup
  g : gate ∈ ks
  b : ∀ x ∈ ks, n.base ≤ x ∧ x ≤ gate ∧ x ∉ cut ∧ ∀ y ∈ kids n x, Sep n cut y
structure Above (n : Net) (gate : Nat) (cut ab : List Nat) : Prop where
  asc : ab.Pairwise (· < ·)
  g : gate ∈ ab
  b : ∀ x ∈ ab, n.base ≤ x ∧ x ≤ gate ∧ x ∉ cut
  k : ∀ x ∈ ab, ∀ y ∈ kids n x, y ∈ cut ∨ y ∈ ab
theorem band (a b : Nat) : Builtin.bitAnd (a : Int) (b : Int) = ((a &&& b : Nat) : Int) := by
  rw [bitAnd_pp (Int.natCast_nonneg _) (Int.natCast_nonneg _), Int.toNat_natCast, Int.toNat_natCast]
theorem band_one (a : Nat) : Builtin.bitAnd (a : Int) 1 = ((a % 2 : Nat) : Int) := by
  have h := PySem.W.kbt_mask ((a : Nat) : Int) 1
  rw [show (2 : Int) ^ 1 - 1 = 1 by decide, show (2 : Int) ^ 1 = 2 by decide] at h
  rw [h]
  rfl
theorem shl_nat (a k : Nat) : (a : Int) * 2 ^ ((k : Int)).toNat = ((a * 2 ^ k : Nat) : Int) := by
  rw [Int.toNat_natCast, Int.natCast_mul, Int.natCast_pow]
  rfl
theorem shl_one (k : Nat) : (1 : Int) * 2 ^ ((k : Int)).toNat = ((2 ^ k : Nat) : Int) := by
  rw [Int.one_mul, Int.toNat_natCast, Int.natCast_pow]
  rfl
theorem shr_nat (a k : Nat) : (a : Int) / 2 ^ ((k : Int)).toNat = ((a / 2 ^ k : Nat) : Int) := by
  rw [Int.toNat_natCast, Int.natCast_ediv, Int.natCast_pow]
  rfl
theorem shr_one (a : Nat) : (a : Int) / 2 ^ ((1 : Int)).toNat = ((a / 2 : Nat) : Int) := rfl
end V0
namespace K45
open PySem PySem.Spec PyProof.Rows L2 V0
def topS (i : Nat) : Stmt := PySem.Challenge.pw_cellcloth_k45_tables_of_cuts.main.body.getD i (.Pass ⟨0, 0, 0, 0⟩)
abbrev s__law_state : Stmt := topS 6
abbrev N__law_state : List Str := ["script", "seed", "cell"]
theorem sc_law_state : FnScope ["script", "seed", "cell"] ["script"] (defScope s__law_state) := ⟨rfl, rfl, rfl, by decide +kernel, rfl, by decide +kernel, by decide +kernel⟩
abbrev s__law_draw : Stmt := topS 7
abbrev N__law_draw : List Str := ["state", "many", "cells", "value", "mixed"]
theorem sc_law_draw : FnScope ["state", "many", "cells", "value", "mixed"] ["state", "many"] (defScope s__law_draw) := ⟨rfl, rfl, rfl, by decide +kernel, rfl, by decide +kernel, by decide +kernel⟩
abbrev s__law_tidy_net : Stmt := topS 9
abbrev N__law_tidy_net : List Str := ["state", "ins", "flops", "most", "k", "starts", "first", "gates", "many", "a", "b", "pair", "used", "outs", "nexts"]
theorem sc_law_tidy_net : FnScope ["state", "ins", "flops", "most", "k", "starts", "first", "gates", "many", "a", "b", "pair", "used", "outs", "nexts"] ["state", "ins", "flops", "most"] (defScope s__law_tidy_net) := ⟨rfl, rfl, rfl, by decide +kernel, rfl, by decide +kernel, by decide +kernel⟩
abbrev s__law_pick : Stmt := topS 8
abbrev N__law_pick : List Str := ["state", "row"]
theorem sc_law_pick : FnScope ["state", "row"] ["state", "row"] (defScope s__law_pick) := ⟨rfl, rfl, rfl, by decide +kernel, rfl, by decide +kernel, by decide +kernel⟩
abbrev s__law_first : Stmt := topS 10
abbrev N__law_first : List Str := ["net"]
theorem sc_law_first : FnScope ["net"] ["net"] (defScope s__law_first) := ⟨rfl, rfl, rfl, by decide +kernel, rfl, by decide +kernel, by decide +kernel⟩
abbrev s__law_down : Stmt := topS 11
abbrev N__law_down : List Str := ["net", "node", "literal"]
theorem sc_law_down : FnScope ["net", "node", "literal"] ["net", "node"] (defScope s__law_down) := ⟨rfl, rfl, rfl, by decide +kernel, rfl, by decide +kernel, by decide +kernel⟩
abbrev s__law_cut : Stmt := topS 18
abbrev N__law_cut : List Str := ["state", "net", "gate", "k", "cut", "turn", "node", "other", "extra", "one"]
theorem sc_law_cut : FnScope ["state", "net", "gate", "k", "cut", "turn", "node", "other", "extra", "one"] ["state", "net", "gate", "k"] (defScope s__law_cut) := ⟨rfl, rfl, rfl, by decide +kernel, rfl, by decide +kernel, by decide +kernel⟩
abbrev s__law_parts : Stmt := topS 12
abbrev N__law_parts : List Str := ["net", "gate", "cut", "front", "seen", "node"]
theorem sc_law_parts : FnScope ["net", "gate", "cut", "front", "seen", "node"] ["net", "gate", "cut"] (defScope s__law_parts) := ⟨rfl, rfl, rfl, by decide +kernel, rfl, by decide +kernel, by decide +kernel⟩
abbrev s__law_is_cut : Stmt := topS 13
abbrev N__law_is_cut : List Str := ["net", "gate", "cut", "k", "node"]
theorem sc_law_is_cut : FnScope ["net", "gate", "cut", "k", "node"] ["net", "gate", "cut", "k"] (defScope s__law_is_cut) := ⟨rfl, rfl, rfl, by decide +kernel, rfl, by decide +kernel, by decide +kernel⟩
abbrev s_base_of : Stmt := topS 1
abbrev N_base_of : List Str := ["net"]
theorem scbase_of : FnScope ["net"] ["net"] (defScope s_base_of) := ⟨rfl, rfl, rfl, by decide +kernel, rfl, by decide +kernel, by decide +kernel⟩
abbrev s__nodes_above : Stmt := topS 4
abbrev N__nodes_above : List Str := ["net", "gate", "cut", "first", "marked", "node", "literal"]
theorem sc_nodes_above : FnScope ["net", "gate", "cut", "first", "marked", "node", "literal"] ["net", "gate", "cut"] (defScope s__nodes_above) := ⟨rfl, rfl, rfl, by decide +kernel, rfl, by decide +kernel, by decide +kernel⟩
abbrev s_cut_bits : Stmt := topS 3
abbrev N_cut_bits : List Str := ["net", "gate", "cut", "many", "ones", "told", "at", "node", "words", "literal", "number"]
theorem sccut_bits : FnScope ["net", "gate", "cut", "many", "ones", "told", "at", "node", "words", "literal", "number"] ["net", "gate", "cut"] (defScope s_cut_bits) := ⟨rfl, rfl, rfl, by decide +kernel, rfl, by decide +kernel, by decide +kernel⟩
abbrev s__law_gate_bit : Stmt := topS 14
abbrev N__law_gate_bit : List Str := ["net", "node", "known", "a", "b", "left"]
theorem sc_law_gate_bit : FnScope ["net", "node", "known", "a", "b", "left"] ["net", "node", "known"] (defScope s__law_gate_bit) := ⟨rfl, rfl, rfl, by decide +kernel, rfl, by decide +kernel, by decide +kernel⟩
abbrev s__law_cut_bits : Stmt := topS 15
abbrev N__law_cut_bits : List Str := ["net", "gate", "cut", "total", "number", "known", "k"]
theorem sc_law_cut_bits : FnScope ["net", "gate", "cut", "total", "number", "known", "k"] ["net", "gate", "cut"] (defScope s__law_cut_bits) := ⟨rfl, rfl, rfl, by decide +kernel, rfl, by decide +kernel, by decide +kernel⟩
abbrev s_law : Stmt := topS 19
abbrev N_law : List Str := ["script", "state", "net", "before", "turn", "k", "gate", "cut"]
theorem sclaw : FnScope ["script", "state", "net", "before", "turn", "k", "gate", "cut"] ["script"] (defScope s_law) := ⟨rfl, rfl, rfl, by decide +kernel, rfl, by decide +kernel, by decide +kernel⟩
structure Txt (K : PySem.W.Frag) (mg : Str → Option Value) : Prop where
  m_abs : mg "abs" = none
  m_all : mg "all" = none
  m_enumerate : mg "enumerate" = none
  m_int : mg "int" = none
  m_len : mg "len" = none
  m_max : mg "max" = none
  m_min : mg "min" = none
  m_range : mg "range" = none
  m_repr : mg "repr" = none
  m_set : mg "set" = none
  m_sorted : mg "sorted" = none
  m_sum : mg "sum" = none
end K45
namespace K45
open PySem PySem.Spec PyProof.Rows L2 V0
/-! ### the draws -/
def sp__law_state (K : PySem.W.Frag) : Sp := fun vs H Q _ => ∃ (a : Addr) (ns : List Int), vs = [.ref a] ∧ SqL K H a (vi ns) ∧ ns.length ≤ 63 ∧ ∀ H' p c, Same H H' → Dr H' p c → Q (.ref p) H'
theorem ok__law_state {P : Program} {w : World} {K : PySem.W.Frag} {mg : Str → Option Value} {base : Heap} {f  : Addr} {fd  : FuncData} (F : Fun K "_law_state" "_law_state" s__law_state f fd) (T : Txt K mg) :
    FnOk P w K mg base CX0 1 f fd ["script"] (sp__law_state K) := by
  refine F.ok sc_law_state (fun vs H Q E h => ?_) (fun cdv A outer s H vs Q E hr h => ?_)
  · obtain ⟨a, ns, rfl, _⟩ := h
    rfl
  · obtain ⟨a, ns, rfl, hS, hl, q⟩ := h
    refine ⟨_, (pss_cons (ps_set (i := 1) sc_law_state.nd rfl (.inl rfl) pe_int)
      (pss_cons (ps_for PassesOwn.never rfl (pi_list (pv 0)) (pg_name (i := 2) sc_law_state.nd rfl (Or.inl rfl)) (pss_one (ps_set (i := 1) sc_law_state.nd rfl (.inl rfl) (pe_op op_modN (pe_callTy call_int1 (by rfl) T.m_int (by decide +kernel) (pa_cons (pe_op op_add (pe_op op_mul (pv 1) pe_int) (pv 2)) pa_nil)) pe_int))))
      (pss_one (ps_ret (pe_lst (pa_cons (pe_lc (own := [("cell", 2)]) (g := gName 2) (tt := tYes) rfl sc_law_state.nd (pi_list (pv 0)) (blkOk_by (N := N__law_state) (sc := defScope s__law_state) (by decide +kernel)) (fun _ _ _ _ _ => (pg_name (i := 2) sc_law_state.nd rfl (Or.inl rfl))) (fun _ _ _ _ _ => pts_nil) (fun _ _ _ _ _ => (pe_callB call_abs (by rfl) T.m_abs (by decide +kernel) (pa_cons (pe_callTy call_int1 (by rfl) T.m_int (by decide +kernel) (pa_cons (pv 2) pa_nil)) pa_nil)))) (pa_cons (pe_op op_add (pv 1) pe_int) pa_nil))))))), ?_⟩
    refine ⟨_, rfl, a, rfl, ⟨_, hS⟩, for_list (xs := vi ns) (fun _ σ H' => ∃ (z : Int) (y : Option V), σ = [some (.ref a), some (.int z), y] ∧ H' = H) ⟨7, none, rfl, rfl⟩ (fun i σ H' _ h => ?_) ?_ ?_⟩
    · obtain ⟨z, y, _, rfl⟩ := h
      exact hS
    · rintro i v σ H' hv ⟨z, y, rfl, rfl⟩
      obtain ⟨n, hn, rfl⟩ := List.mem_map.mp (List.mem_of_getElem? hv)
      refine ⟨_, rfl, _, _, rfl, rfl, .inr ⟨by decide, by decide⟩, _, rfl, _, _, rfl, rfl, .inl ⟨_, rfl, _, _, rfl, rfl, (show (1000003 : Int) ≠ 0 by decide), ?_⟩⟩
      exact ⟨_, _, rfl, rfl⟩
    · rintro σ H' ⟨z, y, rfl, rfl⟩
      refine ⟨_, rfl, a, rfl, ⟨_, hS⟩, fun D hD => lc_list (xs := vi ns) (fun i H'' => Same H' H'' ∧ H'' D = some (.lst (vn ((ns.take i).map Int.natAbs)))) ⟨same_new hD, upd_same⟩ (fun i H'' _ h => h.1.seq hS) ?_ ?_⟩
      · rintro i v H'' hv ⟨sm, hD'⟩
        have hi : i < ns.length := by
          have h := (List.getElem?_eq_some_iff.mp hv).1
          rw [List.length_map] at h
          exact h
        rw [List.getElem?_map, List.getElem?_eq_getElem hi] at hv
        cases hv
        refine ⟨rfl, _, rfl, .inl ⟨_, rfl, _, rfl, _, hD', ?_, same_mut sm hD, ?_⟩⟩
        · rw [vn_len, List.length_map, List.length_take]
          exact small1000 (by omega)
        · rw [upd_same, List.take_add_one, List.getElem?_eq_getElem hi]
          have e : (if ns[i] < 0 then -ns[i] else ns[i]) = ((ns[i].natAbs : Nat) : Int) := by
            by_cases h : ns[i] < 0
            · rw [if_pos h]
              omega
            · rw [if_neg h]
              omega
          rw [e]
          unfold vn
          rw [List.map_append, List.map_append]
          rfl
      · rintro H'' ⟨sm, hD'⟩
        refine ⟨_, rfl, _, _, rfl, rfl, by show 2 ≤ sizeLine; decide, fun p hp => ?_⟩
        have hDp : D ≠ p := fun e => by
          rw [e, hp] at hD'
          cases hD'
        refine q _ p D (same_mut sm (by rcases hq : H' p with _ | o; rfl; rw [sm _ _ hq] at hp; cases hp)) ⟨fun e => hDp e.symm, (ns.take (vi ns).length).map Int.natAbs, z + 1, upd_same, ?_, ?_⟩
        · rw [upd_ne hDp]
          exact hD'
        · rw [List.length_map, List.length_take]
          omega
def sp__law_draw (K : PySem.W.Frag) : Sp := fun vs H Q _ => ∃ (p c : Addr) (n : Nat), vs = [.ref p, .int n] ∧ Dr H p c ∧ 0 < n ∧ n < 1073741824 ∧ ∀ H' (d : Nat), Go p c H H' → d < n → Q (.int d) H'
theorem ok__law_draw {P : Program} {w : World} {K : PySem.W.Frag} {mg : Str → Option Value} {base : Heap} {f  : Addr} {fd  : FuncData} (F : Fun K "_law_draw" "_law_draw" s__law_draw f fd) (T : Txt K mg) :
    FnOk P w K mg base CX0 1 f fd ["state", "many"] (sp__law_draw K) := by
  refine F.ok sc_law_draw (fun vs H Q E h => ?_) (fun cdv A outer s H vs Q E hr h => ?_)
  · obtain ⟨p, c, n, rfl, _⟩ := h
    rfl
  · obtain ⟨p, c, n, rfl, d0, h0, h1, q⟩ := h
    have nz : ((n : Nat) : Int) ≠ 0 := by omega
    have fm : ∀ x : Nat, ((x : Int)).fmod (n : Int) = ((x % n : Nat) : Int) := fun x => by rw [Int.fmod_eq_emod_of_nonneg _ (by omega)]; omega
    obtain ⟨nc, cs0, z0, hp0, hc0, hl0⟩ := d0
    refine ⟨_, (pss_cons (ps_set (i := 2) sc_law_draw.nd rfl (.inl rfl) (pe_ix (r := rIxL K) ix_list (pv 0) pe_int (fun _ _ => rfl)))
      (C8.pss_cut (ps_while PassesOwn.never (PW.pt (pw_and (pt_cmpR op_gt (pe_callB call_len_seq (by rfl) T.m_len (by decide +kernel) (pa_cons (pv 2) pa_nil)) pe_int (nomark _)) (pw_and1 (pt_cmpR op_eq (pe_ix (r := rIxL K) ix_list (pv 2) pe_int (fun _ _ => rfl)) pe_int (nomark _))))) (pss_one (ps_expr (pe_bm PySem.F.plainAttrs_list PySem.F.slot_list_pop PySem.F.type_list_pop mt_popAt (pv 2) (pa_cons pe_int pa_nil)))))
      (pss_cons (ps_if (pt_cmpR op_gt (pe_callB call_len_seq (by rfl) T.m_len (by decide +kernel) (pa_cons (pv 2) pa_nil)) pe_int (nomark _)) (pss_cons (ps_set (i := 3) sc_law_draw.nd rfl (.inl rfl) (pe_ix (r := rIxL K) ix_list (pv 2) pe_int (fun _ _ => rfl)))
      (pss_cons (ps_asg (pe_op op_fdivN (pv 3) (pv 1)) (pg_sub (pv 2) pe_int set_list))
      (pss_one (ps_ret (pe_op op_modN (pe_callTy call_int1 (by rfl) T.m_int (by decide +kernel) (pa_cons (pv 3) pa_nil)) (pv 1)))))) pss_nil)
      (pss_cons (ps_set (i := 4) sc_law_draw.nd rfl (.inl rfl) (pe_op op_modN (pe_callTy call_int1 (by rfl) T.m_int (by decide +kernel) (pa_cons (pe_op op_add (pe_op op_mul (pe_ix (r := rIxL K) ix_list (pv 0) pe_int (fun _ _ => rfl)) pe_int) pe_int) pa_nil)) pe_int))
      (pss_cons (ps_asg (pv 4) (pg_sub (pv 0) pe_int set_list))
      (pss_one (ps_ret (pe_op op_modN (pe_callTy call_int1 (by rfl) T.m_int (by decide +kernel) (pa_cons (pe_op op_fdivN (pv 4) pe_int) pa_nil)) (pv 1))))))))), ?_⟩
    refine ⟨_, rfl, p, _, 0, _, rfl, rfl, SqL.of hp0, atI_nat (j := 0) rfl, ?_⟩
    have go : ∀ (cs : List Nat) (z : Int), cs.length ≤ 63 → Go p c H (upd (upd H c (.lst (vn cs))) p (.lst [.ref c, .int z])) := fun cs z hl =>
      ⟨⟨nc, _, _, hp0, hc0, hl0⟩, ⟨nc, cs, z, upd_same, by rw [upd_ne (fun e => nc e.symm)]; exact upd_same, hl⟩, fun b o hb => by
        obtain ⟨b1, b2, b3⟩ := res_some hb
        rw [res_eq b1 b2, upd_ne b1, upd_ne b2]
        exact b3⟩
    have hpc : ∀ cs : List Nat, (upd H c (.lst (vn cs))) p = some (.lst [.ref c, .int z0]) := fun cs => by
      rw [upd_ne nc]
      exact hp0
    refine ⟨fun σ H' => ∃ cs : List Nat, σ = [some (.ref p), some (.int n), some (.ref c), none, none] ∧ H' = upd H c (.lst (vn cs)) ∧ cs.length ≤ 63, ?_, ?_⟩
    · refine while_by (fun σ H' => ∃ cs : List Nat, σ = [some (.ref p), some (.int n), some (.ref c), none, none] ∧ H' = upd H c (.lst (vn cs)) ∧ cs.length ≤ 63) (fun _ H' => match H' c with | some (.lst xs) => xs.length | _ => 0) ⟨cs0, rfl, (upd_id hc0).symm, hl0⟩ ?_ ?_
      · rintro σ H' ⟨cs, rfl, rfl, hl⟩
        refine ⟨_, rfl, c, _, rfl, .inl (SqL.of upd_same), _, _, rfl, rfl, _, rfl, ?_⟩
        cases cs with
        | nil => exact iteF (iteF ⟨[], rfl, rfl, hl⟩)
        | cons x r =>
          have e : decide ((((vn (x :: r)).length : Nat) : Int) > 0) = true := decide_eq_true (by rw [vn_len, List.length_cons]; omega)
          rw [e]
          refine iteT ?_
          refine ⟨_, rfl, c, _, 0, _, rfl, rfl, SqL.of upd_same, atI_nat (j := 0) rfl, rfl, _, rfl, ?_⟩
          refine ite2 (fun _ => ?_) (fun _ => ⟨x :: r, rfl, rfl, hl⟩)
          refine ⟨_, rfl, .inl ⟨rfl, _, SqL.of upd_same⟩, c, _, 0, 0, _, rfl, rfl, upd_same, by decide, by decide, ?_, rfl, ?_, ?_⟩
          · rw [vn_len, List.length_cons]
            unfold seqIndex?
            simp
          · exact ⟨r, rfl, by rw [upd_upd]; rfl, by rw [List.length_cons] at hl; omega⟩
          · show (match (upd _ c _) c with | some (.lst xs) => xs.length | _ => 0) < (match (upd H c (.lst (vn (x :: r)))) c with | some (.lst xs) => xs.length | _ => 0)
            rw [upd_same, upd_same]
            show ((vn (x :: r)).eraseIdx 0).length < (vn (x :: r)).length
            simp
      · intro σ H' Q Q' hq h
        obtain ⟨x, e1, p', ys, e2, e3, i, j, e4, e5, k, e6, h⟩ := h
        refine ⟨x, e1, p', ys, e2, e3, i, j, e4, e5, k, e6, ?_⟩
        cases k with
        | false => exact iteF (hq _ _ (by rw [if_neg Bool.false_ne_true] at h; exact h))
        | true =>
          rw [if_pos rfl] at h
          obtain ⟨y, f1, l, xs, i2, v, f2, f3, f4, f5, f6, k2, f7, h⟩ := h
          exact iteT ⟨y, f1, l, xs, i2, v, f2, f3, f4, f5, f6, k2, f7, hq _ _ h⟩
    · rintro σ H' ⟨cs, rfl, rfl, hl⟩
      refine ⟨_, rfl, c, _, rfl, .inl (SqL.of upd_same), _, _, rfl, rfl, _, rfl, ?_⟩
      cases cs with
      | nil =>
        refine iteF ?_
        refine ⟨_, rfl, p, _, 1, _, rfl, rfl, SqL.of (hpc []), atI_nat (j := 1) rfl, _, _, rfl, rfl, .inr ⟨by decide, by decide⟩, _, _, rfl, rfl, .inl ⟨_, rfl, _, _, rfl, rfl, (show (2147483647 : Int) ≠ 0 by decide), ?_⟩⟩
        refine ⟨_, rfl, _, rfl, p, _, 1, 1, rfl, rfl, hpc [], rfl, ?_⟩
        have r := emod_range (x := z0 * 48271 + 12345) (show (0 : Int) < 2147483647 by decide)
        refine ⟨_, rfl, _, _, rfl, rfl, ⟨by decide, by decide⟩, .inl ⟨_, rfl, _, rfl, _, _, rfl, rfl, nz, ?_⟩⟩
        obtain ⟨y, hy⟩ : ∃ y : Nat, ((z0 * 48271 + 12345).fmod 2147483647).fdiv 64 = (y : Int) := ⟨_, (Int.toNat_of_nonneg (by
          rw [Int.fdiv_eq_ediv_of_nonneg _ (by decide)]
          omega)).symm⟩
        show Q (V.int ((((z0 * 48271 + 12345).fmod 2147483647).fdiv 64).fmod n)) _
        rw [hy, fm]
        exact q _ _ (go [] _ hl) (Nat.mod_lt _ h0)
      | cons x r =>
        have e : decide ((((vn (x :: r)).length : Nat) : Int) > 0) = true := decide_eq_true (by rw [vn_len, List.length_cons]; omega)
        rw [e]
        refine iteT ?_
        refine ⟨_, rfl, c, _, 0, _, rfl, rfl, SqL.of upd_same, atI_nat (j := 0) rfl, ?_⟩
        refine ⟨_, rfl, _, rfl, _, _, rfl, rfl, ⟨nz, by show ((n : Nat) : Int).natAbs < 1073741824; omega⟩, ?_⟩
        refine ⟨_, rfl, c, _, 0, 0, rfl, rfl, upd_same, ix_nat (j := 0) (by rw [vn_len, List.length_cons]; omega), ?_⟩
        refine ⟨_, rfl, .inl ⟨_, rfl, _, rfl, _, _, rfl, rfl, nz, ?_⟩⟩
        show Q (V.int ((x : Int).fmod n)) _
        rw [fm, upd_upd]
        have ed : (x : Int).fdiv n = ((x / n : Nat) : Int) := by
          rw [Int.fdiv_eq_ediv_of_nonneg _ (by omega)]
          rfl
        show Q _ (upd H c (.lst ((V.int ((x : Int).fdiv n)) :: vn r)))
        rw [ed]
        have g := go (x / n :: r) z0 hl
        rw [upd_id (show (upd H c (.lst (vn (x / n :: r)))) p = _ from hpc _)] at g
        exact q _ _ g (Nat.mod_lt _ h0)
def sp__law_pick (K : PySem.W.Frag) : Sp := fun vs H Q _ => ∃ (p c r : Addr) (xs : List Nat), vs = [.ref p, .ref r] ∧ Dr H p c ∧ r ≠ p ∧ r ≠ c ∧ H r = some (.lst (vn xs)) ∧ 0 < xs.length ∧ xs.length ≤ 1000 ∧ ∀ H' (d : Nat), Go p c H H' → d ∈ xs → Q (.int d) H'
theorem ok__law_pick {P : Program} {w : World} {K : PySem.W.Frag} {mg : Str → Option Value} {base : Heap} {f f_law_draw : Addr} {fd fd_law_draw : FuncData} (F : Fun K "_law_pick" "_law_pick" s__law_pick f fd) (T : Txt K mg)
    (G__law_draw : FnOk P w K mg base CX0 1 f_law_draw fd_law_draw ["state", "many"] (sp__law_draw K)) (D__law_draw : Def K mg "_law_draw" f_law_draw fd_law_draw ["state", "many"]) :
    FnOk P w K mg base CX0 2 f fd ["state", "row"] (sp__law_pick K) := by
  refine F.ok sc_law_pick (fun vs H Q E h => ?_) (fun cdv A outer s H vs Q E hr h => ?_)
  · obtain ⟨p, c, r, xs, rfl, _⟩ := h
    rfl
  · obtain ⟨p, c, r, xs, rfl, d0, n1, n2, hS, hl0, hl1, q⟩ := h
    refine ⟨_, (pss_one (ps_ret (pe_ix (r := rIxL K) ix_list (pv 1) (pe_call G__law_draw (hr.mono (by omega)) (by rfl) D__law_draw.m D__law_draw.k D__law_draw.b .nil pass0 (pa_cons (pv 0) (pa_cons (pe_callB call_len_seq (by rfl) T.m_len (by decide +kernel) (pa_cons (pv 1) pa_nil)) pa_nil))) (fun _ _ => rfl)))), ?_⟩
    refine ⟨_, rfl, _, rfl, _, rfl, r, _, rfl, .inl (SqL.of hS), p, c, xs.length, ?_, d0, hl0, by omega, fun H' d g hd => ?_⟩
    · rw [vn_len]
      rfl
    · exact ⟨r, _, _, _, rfl, rfl, SqL.of (g.get n1 n2 hS), atI_nat (vn_get (List.getElem?_eq_getElem hd)), q _ _ g (List.getElem_mem hd)⟩

end K45
namespace K45
open PySem PySem.Spec PyProof.Rows L2 V0
/-! ### drawn nets that are tidy -/
structure Few (n : Net) : Prop where
  nl : n.nexts.length ≤ 2
  nx : ∀ x ∈ n.nexts, x < 1000
  ol : n.outs.length ≤ 11
  ox : ∀ x ∈ n.outs, x < 1000
  bits : ∀ x ∈ n.starts, x < 2
def sp__law_tidy_net (K : PySem.W.Frag) : Sp := fun vs H Q _ => ∃ (p c : Addr), vs = [.ref p, .int 4, .int 2, .int 9] ∧ Dr H p c ∧ ∀ H' q (n : Net), Go p c H H' → H q = none → Dv (res p c H') (.ref q) n → TOk n → Few n → Q (.ref q) H'
theorem ok__law_tidy_net {P : Program} {w : World} {K : PySem.W.Frag} {mg : Str → Option Value} {base : Heap} {f f_law_draw : Addr} {fd fd_law_draw : FuncData} (F : Fun K "_law_tidy_net" "_law_tidy_net" s__law_tidy_net f fd) (T : Txt K mg)
    (G__law_draw : FnOk P w K mg base CX0 1 f_law_draw fd_law_draw ["state", "many"] (sp__law_draw K)) (D__law_draw : Def K mg "_law_draw" f_law_draw fd_law_draw ["state", "many"]) :
    FnOk P w K mg base CX0 2 f fd ["state", "ins", "flops", "most"] (sp__law_tidy_net K) := by
  refine F.ok sc_law_tidy_net (fun vs H Q E h => ?_) (fun cdv A outer s H vs Q E hr h => ?_)
  · obtain ⟨p, c, rfl, _⟩ := h
    rfl
  · obtain ⟨p, c, rfl, d0, q⟩ := h
    refine ⟨_, (pss_cons (ps_set (i := 1) sc_law_tidy_net.nd rfl (.inr rfl) (pe_op op_add pe_int (pe_call G__law_draw (hr.mono (by omega)) (by rfl) D__law_draw.m D__law_draw.k D__law_draw.b .nil pass0 (pa_cons (pv 0) (pa_cons (pv 1) pa_nil)))))
      (pss_cons (ps_setLc (i := 5) (own := [("k", 4)]) (g := gName 4) (tt := tYes) rfl sc_law_tidy_net.nd rfl rfl (sw_true rfl rfl rfl (by decide +kernel)) (pi_range1 rfl T.m_range (pa_cons (pe_call G__law_draw (hr.mono (by omega)) (by rfl) D__law_draw.m D__law_draw.k D__law_draw.b .nil pass0 (pa_cons (pv 0) (pa_cons (pe_op op_add (pv 2) pe_int) pa_nil))) pa_nil)) (blkOk_by (N := N__law_tidy_net) (sc := defScope s__law_tidy_net) (by decide +kernel)) (fun _ _ _ _ _ => (pg_name (i := 4) sc_law_tidy_net.nd rfl (Or.inl rfl))) (fun _ _ _ _ _ => pts_nil) (fun _ _ _ _ _ => (pe_call G__law_draw (hr.mono (by omega)) (by rfl) D__law_draw.m D__law_draw.k D__law_draw.b .nil pass0 (pa_cons (pv 0) (pa_cons pe_int pa_nil)))))
      (pss_cons (ps_set (i := 6) sc_law_tidy_net.nd rfl (.inr rfl) (pe_op op_add (pe_op op_add pe_int (pv 1)) (pe_callB call_len_seq (by rfl) T.m_len (by decide +kernel) (pa_cons (pv 5) pa_nil))))
      (pss_cons (ps_set (i := 7) sc_law_tidy_net.nd rfl (.inr rfl) (pe_lst pa_nil))
      (pss_cons (ps_for PassesOwn.never rfl (pi_range1 rfl T.m_range (pa_cons (pe_call G__law_draw (hr.mono (by omega)) (by rfl) D__law_draw.m D__law_draw.k D__law_draw.b .nil pass0 (pa_cons (pv 0) (pa_cons (pe_op op_add (pv 3) pe_int) pa_nil))) pa_nil)) (pg_name (i := 4) sc_law_tidy_net.nd rfl (Or.inl rfl)) (pss_cons (ps_set (i := 8) sc_law_tidy_net.nd rfl (.inl rfl) (pe_op op_add (pv 6) (pe_callB call_len_seq (by rfl) T.m_len (by decide +kernel) (pa_cons (pv 7) pa_nil))))
      (pss_cons (ps_set (i := 9) sc_law_tidy_net.nd rfl (.inl rfl) (pe_op op_add pe_int (pe_call G__law_draw (hr.mono (by omega)) (by rfl) D__law_draw.m D__law_draw.k D__law_draw.b .nil pass0 (pa_cons (pv 0) (pa_cons (pe_op op_sub (pe_op op_mul pe_int (pv 8)) pe_int) pa_nil)))))
      (pss_cons (ps_set (i := 10) sc_law_tidy_net.nd rfl (.inl rfl) (pe_op op_add pe_int (pe_call G__law_draw (hr.mono (by omega)) (by rfl) D__law_draw.m D__law_draw.k D__law_draw.b .nil pass0 (pa_cons (pv 0) (pa_cons (pe_op op_sub (pe_op op_mul pe_int (pv 8)) pe_int) pa_nil)))))
      (C8.pss_cut (ps_if (pt_cmpR op_eq (pe_call G__law_draw (hr.mono (by omega)) (by rfl) D__law_draw.m D__law_draw.k D__law_draw.b .nil pass0 (pa_cons (pv 0) (pa_cons pe_int pa_nil))) pe_int (nomark _)) (pss_one (ps_set (i := 9) sc_law_tidy_net.nd rfl (.inl rfl) (pe_callB (call_max2 (by rfl)) (by rfl) T.m_max (by decide +kernel) (pa_cons pe_int (pa_cons (pe_op op_sub (pe_op op_sub (pe_op op_mul pe_int (pv 8)) pe_int) (pe_call G__law_draw (hr.mono (by omega)) (by rfl) D__law_draw.m D__law_draw.k D__law_draw.b .nil pass0 (pa_cons (pv 0) (pa_cons pe_int pa_nil)))) pa_nil))))) pss_nil)
      (pss_cons (ps_set (i := 11) sc_law_tidy_net.nd rfl (.inl rfl) (pe_tup (pa_cons (pe_callB (call_min2 (by rfl)) (by rfl) T.m_min (by decide +kernel) (pa_cons (pv 9) (pa_cons (pv 10) pa_nil))) (pa_cons (pe_callB (call_max2 (by rfl)) (by rfl) T.m_max (by decide +kernel) (pa_cons (pv 9) (pa_cons (pv 10) pa_nil))) pa_nil))))
      (pss_one (ps_if (PW.pt (pw_and (pt_cmpR op_ne (pe_op op_fdivN (pv 9) pe_int) (pe_op op_fdivN (pv 10) pe_int) (nomark _)) (pw_and1 (pt_cmpR (r := rNotInD K) (op_notInD (hu65 hr)) (pv 11) (pv 7) (by rfl))))) (pss_one (ps_expr (pe_bm PySem.F.plainAttrs_list PySem.F.slot_list_append PySem.F.type_list_append mt_append (pv 7) (pa_cons (pv 11) pa_nil)))) pss_nil))))))))
      (pss_cons (ps_set (i := 12) sc_law_tidy_net.nd rfl (.inr rfl) (pe_lst pa_nil))
      (pss_cons (ps_for PassesOwn.never rfl (pi_list (pv 7)) (pg_tup (by rfl) (pgs_cons (pg_name (i := 9) sc_law_tidy_net.nd rfl (Or.inl rfl)) (pgs_cons (pg_name (i := 10) sc_law_tidy_net.nd rfl (Or.inl rfl)) pgs_nil))) (pss_one (ps_expr (pe_bm PySem.F.plainAttrs_list PySem.F.slot_list_extend PySem.F.type_list_extend mt_extend (pv 12) (pa_cons (pe_lst (pa_cons (pe_op op_fdivN (pv 9) pe_int) (pa_cons (pe_op op_fdivN (pv 10) pe_int) pa_nil))) pa_nil)))))
      (pss_cons (ps_setLc (i := 13) (own := [("k", 4)]) (g := gName 4) rfl sc_law_tidy_net.nd rfl rfl (sw_true rfl rfl rfl (by decide +kernel)) (pi_range1 rfl T.m_range (pa_cons (pe_callB call_len_seq (by rfl) T.m_len (by decide +kernel) (pa_cons (pv 7) pa_nil)) pa_nil)) (blkOk_by (N := N__law_tidy_net) (sc := defScope s__law_tidy_net) (by decide +kernel)) (fun _ _ _ _ _ => (pg_name (i := 4) sc_law_tidy_net.nd rfl (Or.inl rfl))) (fun _ _ _ _ _ => (pts_one (pt_cmpR (r := rIn K true) op_notIn_seq (pe_op op_add (pv 6) (pv 4)) (pv 12) (by rfl)))) (fun _ _ _ _ _ => (pe_op op_add (pe_op op_mul pe_int (pe_op op_add (pv 6) (pv 4))) (pe_call G__law_draw (hr.mono (by omega)) (by rfl) D__law_draw.m D__law_draw.k D__law_draw.b .nil pass0 (pa_cons (pv 0) (pa_cons pe_int pa_nil))))))
      (pss_cons (ps_setLc (i := 14) (own := [("k", 4)]) (g := gName 4) (tt := tYes) rfl sc_law_tidy_net.nd rfl rfl (sw_true rfl rfl rfl (by decide +kernel)) (pi_list (pv 5)) (blkOk_by (N := N__law_tidy_net) (sc := defScope s__law_tidy_net) (by decide +kernel)) (fun _ _ _ _ _ => (pg_name (i := 4) sc_law_tidy_net.nd rfl (Or.inl rfl))) (fun _ _ _ _ _ => pts_nil) (fun _ _ _ _ _ => (pe_op op_add pe_int (pe_call G__law_draw (hr.mono (by omega)) (by rfl) D__law_draw.m D__law_draw.k D__law_draw.b .nil pass0 (pa_cons (pv 0) (pa_cons (pe_op op_sub (pe_op op_mul pe_int (pe_op op_add (pv 6) (pe_callB (r := vLen K) call_len_seq (by rfl) T.m_len (by decide +kernel) (pa_cons (pv 7) pa_nil)))) pe_int) pa_nil))))))
      (pss_cons (ps_expr (pe_bm PySem.F.plainAttrs_list PySem.F.slot_list_extend PySem.F.type_list_extend mt_extend (pv 13) (pa_cons (pe_lc (own := [("k", 4)]) (g := gName 4) (tt := tYes) rfl sc_law_tidy_net.nd (pi_range1 rfl T.m_range (pa_cons (pe_callB call_len_seq (by rfl) T.m_len (by decide +kernel) (pa_cons (pv 5) pa_nil)) pa_nil)) (blkOk_by (N := N__law_tidy_net) (sc := defScope s__law_tidy_net) (by decide +kernel)) (fun _ _ _ _ _ => (pg_name (i := 4) sc_law_tidy_net.nd rfl (Or.inl rfl))) (fun _ _ _ _ _ => pts_nil) (fun _ _ _ _ _ => (pe_op op_mul pe_int (pe_op op_add (pe_op op_add pe_int (pv 1)) (pv 4))))) pa_nil)))
      (pss_one (ps_ret (pe_tup (pa_cons pe_str (pa_cons (pv 1) (pa_cons (pv 5) (pa_cons (pv 7) (pa_cons (pv 14) (pa_cons (pv 13) pa_nil))))))))))))))))))), ?_⟩
    refine ⟨_, rfl, _, rfl, p, c, 4, rfl, d0, by decide, by decide, fun H1 ins g1 h1 => ⟨_, _, rfl, rfl, ?_⟩⟩
    have eI : V.int (1 + (ins : Int)) = V.int ((1 + ins : Nat) : Int) := by rw [show (1 : Int) + (ins : Int) = ((1 + ins : Nat) : Int) by omega]
    -- starts
    refine ⟨_, rfl, _, rfl, _, _, rfl, rfl, p, c, 3, rfl, g1.b, by decide, by decide, fun H2 fl g2 h2 => ⟨_, rfl, by omega, by omega, fun pS nS => lc_range (n := fl) (fun j H' => ∃ bs : List Nat, Go p c H2 H' ∧ H' pS = some (.lst (vn bs)) ∧ bs.length = j ∧ ∀ b ∈ bs, b < 2) ⟨[], Go.of g2.b (same_new nS), upd_same, rfl, by simp⟩ ?_ ?_⟩⟩
    · rintro j H' hj ⟨bs, g, hp, hl, hb⟩
      refine ⟨rfl, _, rfl, p, c, 2, rfl, g.b, by decide, by decide, fun H'' d g' hd => ⟨_, g'.get' g2.b nS hp, by rw [vn_len]; exact small64k (by omega), bs ++ [d], (g.trans g').mut nS, ?_, by rw [List.length_append, hl]; rfl, mem_snoc hb hd⟩⟩
      rw [upd_same, vn_snoc]
    rintro H3 ⟨bs, g3, hS3, hlS, hbS⟩
    have oS := g2.b.off nS
    -- first, gates
    refine ⟨_, rfl, _, _, rfl, rfl, _, rfl, pS, _, rfl, .inl (SqL.of hS3), _, _, rfl, rfl, ?_⟩
    refine ⟨by show 0 ≤ sizeLine; decide, fun pG nG => ?_⟩
    have oG := g3.b.off nG
    have nSG : pS ≠ pG := ne_of_none hS3 nG
    have g4 : Go p c H (upd H3 pG (.lst [])) := ((g1.trans g2).trans g3).more (same_new nG)
    have nGH : H pG = none := ((g1.trans g2).trans g3).none nG
    have eB : (1 : Int) + (1 + (ins : Int)) + ((vn bs).length : Int) = ((2 + ins + fl : Nat) : Int) := by
      rw [vn_len, hlS]
      omega
    refine ⟨_, rfl, _, rfl, _, _, rfl, rfl, p, c, 10, rfl, g4.b, by decide, by decide, fun H5 mg g5 hmg => ⟨_, rfl, by omega, by omega, for_range (n := mg) (fun j σ H' => ∃ (y4 y8 y9 y10 y11 : Option V) (us : List V) (gs : List (Nat × Nat)), σ = [some (.ref p), some (.int ((1 + ins : Nat) : Int)), some (.int 2), some (.int 9), y4, some (.ref pS), some (.int ((2 + ins + fl : Nat) : Int)), some (.ref pG), y8, y9, y10, y11, none, none, none] ∧ Go p c H H' ∧ H' pS = some (.lst (vn bs)) ∧ H' pG = some (.lst us) ∧ Dvs (hid pG (res p c H')) us gs ∧ gs.length ≤ j ∧ ∀ k g, gs[k]? = some g → (2 ≤ g.1 ∧ g.1 < 2 * (2 + ins + fl + k)) ∧ (2 ≤ g.2 ∧ g.2 < 2 * (2 + ins + fl + k)) ∧ g.1 / 2 ≠ g.2 / 2) ⟨none, none, none, none, none, [], [], ?_, g4.trans g5, g5.get oS.1 oS.2 ((same_new nG) _ _ hS3), g5.get oG.1 oG.2 upd_same, .nil, Nat.le_refl _, by simp⟩ ?_ ?_⟩⟩
    · show [some (V.ref p), some (V.int (1 + (ins : Int))), some (V.int 2), some (V.int 9), none, some (V.ref pS), some (V.int ((1 : Int) + (1 + (ins : Int)) + ((vn bs).length : Int))), some (V.ref pG), none, none, none, none, none, none, none] = _
      rw [eB, eI]
    · rintro j σ H' hj ⟨y4, y8, y9, y10, y11, us, gs, rfl, g, hS, hG, hus, hlg, hgs⟩
      -- many, a, b
      refine ⟨_, rfl, _, rfl, pG, _, rfl, .inl (SqL.of hG), _, _, rfl, rfl, ?_⟩
      have em : ((2 + ins + fl : Nat) : Int) + (us.length : Int) = ((2 + ins + fl + gs.length : Nat) : Int) := by
        rw [hus.len]
        omega
      have e2 : (2 : Int) * (((2 + ins + fl : Nat) : Int) + (us.length : Int)) - 2 = ((2 * (2 + ins + fl + gs.length) - 2 : Nat) : Int) := by
        rw [em]
        omega
      refine ⟨_, rfl, _, rfl, _, _, rfl, rfl, .inl ⟨by decide, by decide⟩, _, _, rfl, rfl, p, c, 2 * (2 + ins + fl + gs.length) - 2, ?_, g.b, by omega, by omega, fun H6 a0 g6 ha => ⟨_, _, rfl, rfl, ?_⟩⟩
      · show [V.ref p, V.int ((2 : Int) * (((2 + ins + fl : Nat) : Int) + (us.length : Int)) - 2)] = _
        rw [e2]
      refine ⟨_, rfl, _, rfl, _, _, rfl, rfl, .inl ⟨by decide, by decide⟩, _, _, rfl, rfl, p, c, 2 * (2 + ins + fl + gs.length) - 2, ?_, g6.b, by omega, by omega, fun H7 b0 g7 hb => ⟨_, _, rfl, rfl, ?_⟩⟩
      · show [V.ref p, V.int ((2 : Int) * (((2 + ins + fl : Nat) : Int) + (us.length : Int)) - 2)] = _
        rw [e2]
      have gA := g6.trans g7
      -- a again
      refine ⟨fun σ' Hx => ∃ (a : Nat), σ' = [some (.ref p), some (.int ((1 + ins : Nat) : Int)), some (.int 2), some (.int 9), some (.int (0 + (j : Int))), some (.ref pS), some (.int ((2 + ins + fl : Nat) : Int)), some (.ref pG), some (.int ((2 + ins + fl + gs.length : Nat) : Int)), some (.int (a : Int)), some (.int ((2 + b0 : Nat) : Int)), y11, none, none, none] ∧ Go p c H' Hx ∧ 2 ≤ a ∧ a < 2 * (2 + ins + fl + gs.length), ?_, ?_⟩
      · refine ⟨_, rfl, p, c, 2, rfl, g7.b, by decide, by decide, fun H8 d g8 hd => ⟨rfl, _, rfl, ?_⟩⟩
        rw [show decide (V.int (d : Int) = V.int 0) = decide (d = 0) from dec_nat d 0]
        refine ite2 (fun _ => ?_) (fun _ => ?_)
        · refine ⟨_, rfl, _, _, rfl, rfl, .inl ⟨by decide, by decide⟩, _, _, rfl, rfl, _, rfl, p, c, 4, rfl, g8.b, by decide, by decide, fun H9 d9 g9 hd9 => ⟨_, _, rfl, rfl, _, _, rfl, ?_⟩⟩
          obtain ⟨x, ex, hx1, hx2⟩ : ∃ x : Nat, (if (2 : Int) * (((2 + ins + fl : Nat) : Int) + (us.length : Int)) - 1 - (d9 : Int) > 2 then (2 : Int) * (((2 + ins + fl : Nat) : Int) + (us.length : Int)) - 1 - (d9 : Int) else 2) = (x : Int) ∧ 2 ≤ x ∧ x < 2 * (2 + ins + fl + gs.length) := by
            rw [em]
            split
            · exact ⟨2 * (2 + ins + fl + gs.length) - 1 - d9, by omega, by omega, by omega⟩
            · exact ⟨2, rfl, by omega, by omega⟩
          refine ⟨x, ?_, (gA.trans g8).trans g9, hx1, hx2⟩
          show [some (V.ref p), some (V.int ((1 + ins : Nat) : Int)), some (V.int 2), some (V.int 9), some (V.int (0 + (j : Int))), some (V.ref pS), some (V.int ((2 + ins + fl : Nat) : Int)), some (V.ref pG), some (V.int (((2 + ins + fl : Nat) : Int) + (us.length : Int))), some (V.int (if (2 : Int) * (((2 + ins + fl : Nat) : Int) + (us.length : Int)) - 1 - (d9 : Int) > 2 then (2 : Int) * (((2 + ins + fl : Nat) : Int) + (us.length : Int)) - 1 - (d9 : Int) else 2)), some (V.int (2 + (b0 : Int))), y11, none, none, none] = _
          rw [ex, em, show (2 : Int) + (b0 : Int) = ((2 + b0 : Nat) : Int) by omega]
        · refine ⟨2 + a0, ?_, gA.trans g8, by omega, by omega⟩
          show [some (V.ref p), some (V.int ((1 + ins : Nat) : Int)), some (V.int 2), some (V.int 9), some (V.int (0 + (j : Int))), some (V.ref pS), some (V.int ((2 + ins + fl : Nat) : Int)), some (V.ref pG), some (V.int (((2 + ins + fl : Nat) : Int) + (us.length : Int))), some (V.int (2 + (a0 : Int))), some (V.int (2 + (b0 : Int))), y11, none, none, none] = _
          rw [em, show (2 : Int) + (b0 : Int) = ((2 + b0 : Nat) : Int) by omega, show (2 : Int) + (a0 : Int) = ((2 + a0 : Nat) : Int) by omega]
      rintro σ Hx ⟨a, rfl, gx, ha1, ha2⟩
      -- pair
      refine ⟨_, rfl, _, rfl, _, _, rfl, _, rfl, _, rfl, _, _, rfl, by show 2 ≤ sizeLine; decide, fun t nt => ?_⟩
      have e1 : (if ((2 + b0 : Nat) : Int) < (a : Int) then ((2 + b0 : Nat) : Int) else (a : Int)) = ((min a (2 + b0) : Nat) : Int) := by
        split
        · rw [Nat.min_eq_right (by omega)]
        · rw [Nat.min_eq_left (by omega)]
      have e2 : (if ((2 + b0 : Nat) : Int) > (a : Int) then ((2 + b0 : Nat) : Int) else (a : Int)) = ((max a (2 + b0) : Nat) : Int) := by
        split
        · rw [Nat.max_eq_right (by omega)]
        · rw [Nat.max_eq_left (by omega)]
      rw [e1, e2]
      have gX := g.trans gx
      have ot := gX.b.off nt
      have hGx := gx.get oG.1 oG.2 hG
      have ntG : t ≠ pG := ne_of_none hGx nt |>.symm
      have gY : Go p c H' (upd Hx t (.tup [.int ((min a (2 + b0) : Nat) : Int), .int ((max a (2 + b0) : Nat) : Int)])) := gx.more (same_new nt)
      have hGy : (upd Hx t (.tup [.int ((min a (2 + b0) : Nat) : Int), .int ((max a (2 + b0) : Nat) : Int)])) pG = some (.lst us) := (same_new nt) _ _ hGx
      have hSy := (gY.get oS.1 oS.2 hS)
      have husY := hus.same (hid_mono gY.s)
      have dpair : Dv (hid pG (res p c (upd Hx t (.tup [.int ((min a (2 + b0) : Nat) : Int), .int ((max a (2 + b0) : Nat) : Int)])))) (.ref t) (min a (2 + b0), max a (2 + b0)) := .pair (hid_of ntG (res_of ot.1 ot.2 upd_same)) (Dv.nat _) (Dv.nat _)
      generalize (upd Hx t (.tup [.int ((min a (2 + b0) : Nat) : Int), .int ((max a (2 + b0) : Nat) : Int)])) = Hy at gY hGy hSy husY dpair ⊢
      have dg : Dv Hy (.ref pG) gs := .list hGy ((husY.same (hid_same _ _)).up)
      refine ⟨_, rfl, _, _, rfl, rfl, ⟨by decide, by decide⟩, _, rfl, _, _, rfl, rfl, ⟨by decide, by decide⟩, rfl, _, rfl, ?_⟩
      have ed : decide (V.int ((a : Int).fdiv 2) = V.int (((2 + b0 : Nat) : Int).fdiv 2)) = decide (a / 2 = (2 + b0) / 2) := by
        rw [nfdiv2, nfdiv2]
        exact dec_nat _ _
      rw [ed]
      by_cases hab : a / 2 = (2 + b0) / 2
      · rw [decide_eq_true hab]
        exact iteF (iteF ⟨_, _, _, _, _, us, gs, rfl, g.trans gY, hSy, hGy, husY, by omega, hgs⟩)
      rw [decide_eq_false hab]
      refine iteT ⟨_, rfl, _, rfl, _, _, dh_dp _ _ (dpair.same ((hid_same _ _).trans (res_same _ _ _))), dh_dp _ _ dg, shaped_of _ (by decide), shaped_of gs (by decide), _, rfl, ite2 (fun _ => ?_) (fun _ => ⟨_, _, _, _, _, us, gs, rfl, g.trans gY, hSy, hGy, husY, by omega, hgs⟩)⟩
      refine ⟨_, rfl, .inl ⟨rfl, _, SqL.of hGy⟩, _, rfl, pG, us, _, rfl, rfl, hGy, ?_, ?_⟩
      · rw [hus.len]
        exact small64k (by omega)
      · refine ⟨_, _, _, _, _, us ++ [.ref t], gs ++ [(min a (2 + b0), max a (2 + b0))], rfl, (g.trans gY).mut nGH, by rw [upd_ne nSG]; exact hSy, upd_same, (husY.same hid_res_mut).app (.cons (dpair.same hid_res_mut) .nil), by rw [List.length_append]; show gs.length + 1 ≤ j + 1; omega, ?_⟩
        intro k g' hk
        rcases get_snoc hk with ⟨_, h⟩ | ⟨rfl, rfl⟩
        · exact hgs k g' h
        · show (2 ≤ min a (2 + b0) ∧ min a (2 + b0) < _) ∧ (2 ≤ max a (2 + b0) ∧ max a (2 + b0) < _) ∧ min a (2 + b0) / 2 ≠ max a (2 + b0) / 2
          rcases Nat.le_total a (2 + b0) with hc | hc
          · rw [Nat.min_eq_left hc, Nat.max_eq_right hc]
            omega
          · rw [Nat.min_eq_right hc, Nat.max_eq_left hc]
            omega
    · rintro σ H6 ⟨y4, y8, y9, y10, y11, us, gs, rfl, g, hS, hG, hus, hlg, hgs⟩
      -- used
      refine ⟨by show 0 ≤ sizeLine; decide, fun pU nU => ?_⟩
      have oU := g.b.off nU
      have nGU : pG ≠ pU := ne_of_none hG nU
      have nSU : pS ≠ pU := ne_of_none hS nU
      have r1 := same_new (o := .lst []) nU
      refine ⟨_, rfl, pG, rfl, ⟨_, SqL.of (r1 _ _ hG)⟩, for_list (xs := us) (fun j σ Hx => ∃ (y9 y10 : Option V) (ul : List Nat), σ = [some (.ref p), some (.int ((1 + ins : Nat) : Int)), some (.int 2), some (.int 9), y4, some (.ref pS), some (.int ((2 + ins + fl : Nat) : Int)), some (.ref pG), y8, y9, y10, y11, some (.ref pU), none, none] ∧ Same H6 Hx ∧ Hx pU = some (.lst (vn ul)) ∧ ul.length = 2 * j) ⟨y9, y10, [], rfl, r1, upd_same, rfl⟩ (fun j σ Hx _ ⟨_, _, _, _, s', _⟩ => SqL.of (s' _ _ hG)) ?_ ?_⟩
      · rintro j u σ Hx hu ⟨y9, y10, ul, rfl, s', hU, hl⟩
        obtain ⟨⟨x, y⟩, hg1, hd⟩ := hus.at hu
        obtain ⟨t, u1, u2, rfl, ht, hx, hy⟩ := hd.pair_inv
        have hx := hx.nat_inv
        have hy := hy.nat_inv
        subst hx hy
        have ht2 := s' _ _ ((res_some (hid_some ht).2).2.2)
        have hj : j < gs.length := (List.getElem?_eq_some_iff.mp hg1).1
        refine ⟨t, _, rfl, SqT.of ht2, rfl, _, _, rfl, _, _, rfl, rfl, ?_⟩
        refine ⟨_, rfl, .inl ⟨rfl, _, SqL.of hU⟩, _, rfl, _, _, rfl, rfl, ⟨by decide, by decide⟩, _, rfl, _, _, rfl, rfl, ⟨by decide, by decide⟩, by show 2 ≤ sizeLine; decide, fun l nl => ?_⟩
        have r2 := same_new (o := .lst [.int ((x : Int).fdiv 2), .int ((y : Int).fdiv 2)]) nl
        refine ⟨pU, l, vn ul, _, rfl, rfl, r2 _ _ hU, upd_same, ?_, ?_⟩
        · rw [vn_len]
          exact Nat.le_of_lt (small64k (by show ul.length + 2 ≤ _; omega))
        · refine ⟨some (.int x), some (.int y), ul ++ [x / 2, y / 2], rfl, same_mut (s'.trans r2) nU, ?_, by rw [List.length_append, hl]; show 2 * j + 2 = _; omega⟩
          rw [upd_same]
          show some (HO.lst (vn ul ++ [V.int ((x : Int).fdiv 2), V.int ((y : Int).fdiv 2)])) = _
          rw [nfdiv2, nfdiv2]
          unfold vn
          rw [List.map_append]
          rfl
      rintro σ H7 ⟨y9', y10', ul, rfl, s7, hU, hlU⟩
      have g7 : Go p c H6 H7 := Go.of g.b s7
      have hG7 := s7 _ _ hG
      have hS7 := s7 _ _ hS
      -- outs
      refine ⟨_, rfl, pG, _, rfl, .inl (SqL.of hG7), _, rfl, by rw [hus.len]; omega, by rw [hus.len]; omega, fun pO nO => lc_range (n := us.length) (fun j H' => ∃ os : List Nat, Go p c H7 H' ∧ H' pO = some (.lst (vn os)) ∧ os.length ≤ j ∧ ∀ x ∈ os, x < 1000) ⟨[], Go.of g7.b (same_new nO), upd_same, Nat.le_refl _, by simp⟩ ?_ ?_⟩
      · rintro j H' hj ⟨os, g', hp, hl, hx⟩
        rw [hus.len] at hj
        refine ⟨rfl, _, rfl, _, rfl, _, _, rfl, rfl, _, rfl, pU, _, rfl, .inl (SqL.of (g'.get oU.1 oU.2 hU)), rfl, flat_vn _, _, rfl, ?_⟩
        refine ite2 (fun _ => ?_) (fun _ => ⟨os, g', hp, by omega, hx⟩)
        refine ⟨_, rfl, _, rfl, _, _, rfl, rfl, _, _, rfl, rfl, .inl ⟨by decide, by decide⟩, _, rfl, p, c, 2, rfl, g'.b, by decide, by decide, fun H'' d g'' hd => ⟨_, _, rfl, rfl, _, g''.get' g7.b nO hp, by rw [vn_len]; exact small64k (by omega), os ++ [2 * (2 + ins + fl + j) + d], (g'.trans g'').mut nO, ?_, by rw [List.length_append]; show os.length + 1 ≤ _; omega, mem_snoc hx (by omega)⟩⟩
        rw [upd_same, ← vn_snoc]
        show some (HO.lst (_ ++ [V.int (2 * (((2 + ins + fl : Nat) : Int) + (0 + (j : Int))) + (d : Int))])) = _
        rw [show (2 : Int) * (((2 + ins + fl : Nat) : Int) + (0 + (j : Int))) + (d : Int) = ((2 * (2 + ins + fl + j) + d : Nat) : Int) by omega]
      rintro H8 ⟨os, g8, hO, hlO, hxO⟩
      rw [hus.len] at hlO
      have oO := g7.b.off nO
      have gA := g7.trans g8
      -- nexts
      have e3 : (2 : Int) * (((2 + ins + fl : Nat) : Int) + (us.length : Int)) - 2 = ((2 * (2 + ins + fl + gs.length) - 2 : Nat) : Int) := by
        rw [hus.len]
        omega
      refine ⟨_, rfl, pS, rfl, ⟨_, SqL.of (gA.get oS.1 oS.2 hS)⟩, fun pN nN => lc_list (xs := vn bs) (fun j H' => ∃ xs : List Nat, Go p c H8 H' ∧ H' pN = some (.lst (vn xs)) ∧ xs.length = j ∧ ∀ x ∈ xs, x < 1000) ⟨[], Go.of g8.b (same_new nN), upd_same, rfl, by simp⟩ (fun j H' _ h => ?_) ?_ ?_⟩
      · obtain ⟨xs, g', _⟩ := h
        exact SqL.of ((gA.trans g').get oS.1 oS.2 hS)
      · rintro j v H' hv ⟨xs, g', hp, hl, hx⟩
        have hj : j < bs.length := by
          have h := (List.getElem?_eq_some_iff.mp hv).1
          rw [vn_len] at h
          exact h
        refine ⟨rfl, _, rfl, _, rfl, _, rfl, pG, _, rfl, .inl (SqL.of ((gA.trans g').get oG.1 oG.2 hG)), _, _, rfl, rfl, _, _, rfl, rfl, .inl ⟨by decide, by decide⟩, _, _, rfl, rfl, p, c, 2 * (2 + ins + fl + gs.length) - 2, ?_, g'.b, by omega, by omega, fun H'' d g'' hd => ⟨_, _, rfl, rfl, _, g''.get' g8.b nN hp, by rw [vn_len]; exact small64k (by omega), xs ++ [2 + d], (g'.trans g'').mut nN, ?_, by rw [List.length_append, hl]; rfl, mem_snoc hx (by omega)⟩⟩
        · show [V.ref p, V.int ((2 : Int) * (((2 + ins + fl : Nat) : Int) + (us.length : Int)) - 2)] = _
          rw [e3]
        · rw [upd_same, ← vn_snoc]
          show some (HO.lst (_ ++ [V.int (2 + (d : Int))])) = _
          rw [show (2 : Int) + (d : Int) = ((2 + d : Nat) : Int) by omega]
      rintro H9 ⟨xs, g9, hN, hlN, hxN⟩
      rw [vn_len] at hlN
      have oN := g8.b.off nN
      have gB := gA.trans g9
      have hO9 := g9.get oO.1 oO.2 hO
      have hS9 := gB.get oS.1 oS.2 hS
      -- outs.extend(..)
      refine ⟨_, rfl, .inl ⟨rfl, _, SqL.of hO9⟩, _, rfl, pS, _, rfl, .inl (SqL.of hS9), _, rfl, by rw [vn_len]; omega, by rw [vn_len]; omega, fun D nD => lc_range (n := (vn bs).length) (fun j H' => Same H9 H' ∧ H' D = some (.lst (vn ((List.range j).map fun k => 2 * (2 + ins + k))))) ⟨same_new nD, upd_same⟩ ?_ ?_⟩
      · rintro j H' hj ⟨s', hp⟩
        rw [vn_len] at hj
        refine ⟨rfl, _, rfl, _, _, rfl, rfl, _, rfl, _, _, rfl, rfl, _, _, rfl, rfl, .inl ⟨by decide, by decide⟩, _, hp, by rw [vn_len, List.length_map, List.length_range]; exact small64k (by omega), same_mut s' nD, ?_⟩
        rw [upd_same, map_range_succ, ← vn_snoc]
        show some (HO.lst (_ ++ [V.int (2 * (1 + ((1 + ins : Nat) : Int) + (0 + (j : Int))))])) = _
        rw [show (2 : Int) * (1 + ((1 + ins : Nat) : Int) + (0 + (j : Int))) = ((2 * (2 + ins + j) : Nat) : Int) by omega]
      rintro H10 ⟨s10, hD⟩
      rw [vn_len] at hD
      have hO10 := s10 _ _ hO9
      refine ⟨pO, D, vn os, _, rfl, rfl, hO10, hD, ?_, ?_⟩
      · rw [vn_len, vn_len, List.length_map, List.length_range]
        exact Nat.le_of_lt (small64k (by omega))
      have eO : vn os ++ vn ((List.range bs.length).map fun k => 2 * (2 + ins + k)) = vn (os ++ (List.range bs.length).map fun k => 2 * (2 + ins + k)) := by
        unfold vn
        rw [List.map_append]
      rw [eO]
      have gC : Go p c H9 H10 := Go.of g9.b s10
      have nOH : H7 pO = none := nO
      have gD : Go p c H7 (upd H10 pO (.lst (vn (os ++ (List.range bs.length).map fun k => 2 * (2 + ins + k))))) := ((g8.trans g9).trans gC).mut nO
      have gE := g7.trans gD
      have hO11 : (upd H10 pO (.lst (vn (os ++ (List.range bs.length).map fun k => 2 * (2 + ins + k))))) pO = some (.lst (vn (os ++ (List.range bs.length).map fun k => 2 * (2 + ins + k)))) := upd_same
      have hN11 : (upd H10 pO (.lst (vn (os ++ (List.range bs.length).map fun k => 2 * (2 + ins + k))))) pN = some (.lst (vn xs)) := by
        rw [upd_ne (ne_of_none hO nN).symm]
        exact s10 _ _ hN
      generalize (upd H10 pO (.lst (vn (os ++ (List.range bs.length).map fun k => 2 * (2 + ins + k))))) = H11 at gD gE hO11 hN11 ⊢
      refine ⟨_, rfl, _, rfl, _, rfl, _, rfl, _, rfl, by show 6 ≤ sizeLine; decide, fun t nt => ?_⟩
      have ot := gE.b.off nt
      have gT := same_new (o := .tup [.str "net", .int ((1 + ins : Nat) : Int), .ref pS, .ref pG, .ref pN, .ref pO]) nt
      have gF := gE.more gT
      refine q _ t ⟨1 + ins, bs, gs, xs, os ++ (List.range bs.length).map fun k => 2 * (2 + ins + k)⟩ (g.trans gF) ((g.trans gE).none nt) (.net (res_of ot.1 ot.2 upd_same) ?_ ?_ ?_ ?_) ?_ ?_
      · exact .natl (res_of oS.1 oS.2 (gF.get oS.1 oS.2 hS))
      · exact .list (res_of oG.1 oG.2 (gF.get oG.1 oG.2 hG)) ((hus.same (hid_same _ _)).same gF.s)
      · exact .natl (res_of oN.1 oN.2 (gT _ _ hN11))
      · exact .natl (res_of oO.1 oO.2 (gT _ _ hO11))
      · have eb : Net.base ⟨1 + ins, bs, gs, xs, os ++ (List.range bs.length).map fun k => 2 * (2 + ins + k)⟩ = 2 + ins + fl := by
          show 1 + (1 + ins) + bs.length = _
          omega
        refine ⟨by show 1 ≤ 1 + ins; omega, by show 1 + ins ≤ 4; omega, by show bs.length ≤ 2; omega, by show gs.length ≤ 9; omega, ?_⟩
        rw [eb]
        exact hgs
      · refine ⟨by show xs.length ≤ 2; omega, hxN, ?_, ?_, hbS⟩
        · show (os ++ _).length ≤ 11
          rw [List.length_append, List.length_map, List.length_range]
          omega
        · intro x hx
          rcases List.mem_append.mp hx with hx | hx
          · exact hxO x hx
          · obtain ⟨k, hk, rfl⟩ := List.mem_map.mp hx
            have := List.mem_range.mp hk
            omega

end K45
namespace K45
open PySem PySem.Spec PyProof.Rows L2 V0
/-! ### cuts as the law draws them -/
def sp__law_first (K : PySem.W.Frag) : Sp := fun vs H Q _ => ∃ (v : V) (n : Net), vs = [v] ∧ Dv H v n ∧ Q (.int (n.base : Nat)) H
theorem ok__law_first {P : Program} {w : World} {K : PySem.W.Frag} {mg : Str → Option Value} {base : Heap} {f  : Addr} {fd  : FuncData} (F : Fun K "_law_first" "_law_first" s__law_first f fd) (T : Txt K mg) :
    FnOk P w K mg base CX0 1 f fd ["net"] (sp__law_first K) := by
  refine F.ok sc_law_first (fun vs H Q E h => ?_) (fun cdv A outer s H vs Q E hr h => ?_)
  · obtain ⟨l, n, rfl, _⟩ := h
    rfl
  · obtain ⟨v, n, rfl, hn, q⟩ := h
    obtain ⟨a, aS, aG, aN, aO, rfl, hA, hS, hG, hN, hO⟩ := hn.net_inv
    obtain ⟨_, e, hS⟩ := hS.natl_inv
    cases e
    refine ⟨_, (pss_one (ps_ret (pe_op op_add (pe_op op_add pe_int (pe_ix (r := rIxT K) ix_tup (pv 0) pe_int (fun _ _ => rfl))) (pe_callB call_len_seq (by rfl) T.m_len (by decide +kernel) (pa_cons (pe_ix (r := rIxT K) ix_tup (pv 0) pe_int (fun _ _ => rfl)) pa_nil))))), ?_⟩
    refine ⟨_, rfl, a, _, 1, _, rfl, rfl, SqT.of hA, atI_nat (j := 1) rfl, _, _, rfl, rfl, _, rfl, a, _, 2, _, rfl, rfl, SqT.of hA, atI_nat (j := 2) rfl, aS, _, rfl, .inl (SqL.of hS), _, _, rfl, rfl, ?_⟩
    show Q (V.int ((1 : Int) + (n.ins : Int) + ((vn n.starts).length : Int))) H
    rw [vn_len]
    exact q
def sp__law_down (K : PySem.W.Frag) : Sp := fun vs H Q _ => ∃ (v : V) (n : Net) (x : Nat), vs = [v, .int x] ∧ Dv H v n ∧ TOk n ∧ x < n.many ∧ ∀ H' p, Same H H' → H p = none → H' p = some (.lst (vn (kids n x))) → Q (.ref p) H'
theorem ok__law_down {P : Program} {w : World} {K : PySem.W.Frag} {mg : Str → Option Value} {base : Heap} {f f_law_first : Addr} {fd fd_law_first : FuncData} (F : Fun K "_law_down" "_law_down" s__law_down f fd) (T : Txt K mg)
    (G__law_first : FnOk P w K mg base CX0 1 f_law_first fd_law_first ["net"] (sp__law_first K)) (D__law_first : Def K mg "_law_first" f_law_first fd_law_first ["net"]) :
    FnOk P w K mg base CX0 2 f fd ["net", "node"] (sp__law_down K) := by
  refine F.ok sc_law_down (fun vs H Q E h => ?_) (fun cdv A outer s H vs Q E hr h => ?_)
  · obtain ⟨v, n, x, rfl, _⟩ := h
    rfl
  · obtain ⟨v, n, x, rfl, hn, ok, hx, q⟩ := h
    have hn0 := hn
    obtain ⟨a, aS, aG, aN, aO, rfl, hA, hS, hG, hN, hO⟩ := hn.net_inv
    obtain ⟨_, us, e, hGl, hus⟩ := hG.list_inv
    cases e
    refine ⟨_, (pss_cons (ps_if (pt_cmpR op_lt (pv 1) (pe_call G__law_first (hr.mono (by omega)) (by rfl) D__law_first.m D__law_first.k D__law_first.b .nil pass0 (pa_cons (pv 0) pa_nil)) (nomark _)) (pss_one (ps_ret (pe_lst pa_nil))) pss_nil)
      (pss_one (ps_ret (pe_lc (own := [("literal", 2)]) (g := gName 2) (tt := tYes) rfl sc_law_down.nd (pi_tup (pe_ix (r := rIxL K) ix_list (pe_ix (r := rIxT K) ix_tup (pv 0) pe_int (fun _ _ => rfl)) (pe_op op_sub (pv 1) (pe_call G__law_first (hr.mono (by omega)) (by rfl) D__law_first.m D__law_first.k D__law_first.b .nil pass0 (pa_cons (pv 0) pa_nil))) (fun _ _ => rfl))) (blkOk_by (N := N__law_down) (sc := defScope s__law_down) (by decide +kernel)) (fun _ _ _ _ _ => (pg_name (i := 2) sc_law_down.nd rfl (Or.inl rfl))) (fun _ _ _ _ _ => pts_nil) (fun _ _ _ _ _ => (pe_op op_fdivN (pv 2) pe_int)))))), ?_⟩
    refine ⟨_, rfl, _, rfl, _, n, rfl, hn0, _, _, rfl, rfl, _, rfl, ite2 (fun h => ?_) (fun h => ?_)⟩
    · have h1 : (x : Int) < (n.base : Int) := of_decide_eq_true h
      refine ⟨by show 0 ≤ sizeLine; decide, fun p np => q _ p (same_new np) np ?_⟩
      rw [upd_same]
      unfold kids
      rw [if_pos (by omega)]
      rfl
    · have h1 : ¬ (x : Int) < (n.base : Int) := fun z => h (decide_eq_true z)
      have hj : x - n.base < n.gates.length := by
        unfold Net.many at hx
        omega
      obtain ⟨g, hg⟩ : ∃ g, n.gates[x - n.base]? = some g := ⟨_, List.getElem?_eq_getElem hj⟩
      obtain ⟨u, hu, du⟩ := hus.get hg
      obtain ⟨t, u1, u2, rfl, ht, hx1, hx2⟩ := du.pair_inv
      have hx1 := hx1.nat_inv
      have hx2 := hx2.nat_inv
      subst hx1 hx2
      have ek : kids n x = [g.1 / 2, g.2 / 2] := by
        unfold kids
        rw [if_neg (by omega), hg]
      refine ⟨_, rfl, a, _, 3, _, rfl, rfl, SqT.of hA, atI_nat (j := 3) rfl, _, rfl, _, rfl, _, n, rfl, hn0, _, _, rfl, rfl, aG, _, _, _, rfl, rfl, SqL.of hGl, (by rw [show (x : Int) - (n.base : Int) = ((x - n.base : Nat) : Int) by omega]; exact atI_nat hu), t, rfl, ⟨_, SqT.of ht⟩, fun D hD => lc_tup (xs := [.int (g.1 : Int), .int (g.2 : Int)]) (fun i H' => Same H H' ∧ H' D = some (.lst (vn ([g.1 / 2, g.2 / 2].take i)))) ⟨same_new hD, upd_same⟩ (fun i H' _ h => SqT.of (h.1 _ _ ht)) ?_ ?_⟩
      · rintro i v H' hv ⟨s', hp⟩
        have hi : i = 0 ∨ i = 1 := by
          have h := (List.getElem?_eq_some_iff.mp hv).1
          have h : i < 2 := h
          omega
        rcases hi with rfl | rfl
        · cases hv
          refine ⟨rfl, _, rfl, _, _, rfl, rfl, ⟨by decide, by decide⟩, _, hp, by show 0 < sizeLine; decide, same_mut s' hD, ?_⟩
          rw [upd_same]
          show some (HO.lst [V.int ((g.1 : Int).fdiv 2)]) = _
          rw [nfdiv2]
          rfl
        · cases hv
          refine ⟨rfl, _, rfl, _, _, rfl, rfl, ⟨by decide, by decide⟩, _, hp, by show 1 < sizeLine; decide, same_mut s' hD, ?_⟩
          rw [upd_same]
          show some (HO.lst [V.int ((g.1 / 2 : Nat) : Int), V.int ((g.2 : Int).fdiv 2)]) = _
          rw [nfdiv2]
          rfl
      · rintro H' ⟨s', hp⟩
        refine q _ D s' hD ?_
        rw [hp, ek]
        rfl
def sp__law_cut (K : PySem.W.Frag) : Sp := fun vs H Q _ => ∃ (p c q : Addr) (n : Net) (gate k : Nat), vs = [.ref p, .ref q, .int gate, .int k] ∧ Dr H p c ∧ Dv (res p c H) (.ref q) n ∧ TOk n ∧ n.base ≤ gate ∧ gate < n.many ∧ 2 ≤ k ∧ k ≤ 4 ∧
  ∀ H' r cut, Go p c H H' → H r = none → H' r = some (.lst (vn cut)) → IsCut n gate cut k → Q (.ref r) H'
theorem ok__law_cut {P : Program} {w : World} {K : PySem.W.Frag} {mg : Str → Option Value} {base : Heap} {f f_law_draw f_law_pick f_law_down : Addr} {fd fd_law_draw fd_law_pick fd_law_down : FuncData} (F : Fun K "_law_cut" "_law_cut" s__law_cut f fd) (T : Txt K mg)
    (G__law_draw : FnOk P w K mg base CX0 1 f_law_draw fd_law_draw ["state", "many"] (sp__law_draw K)) (D__law_draw : Def K mg "_law_draw" f_law_draw fd_law_draw ["state", "many"])
    (G__law_pick : FnOk P w K mg base CX0 2 f_law_pick fd_law_pick ["state", "row"] (sp__law_pick K)) (D__law_pick : Def K mg "_law_pick" f_law_pick fd_law_pick ["state", "row"])
    (G__law_down : FnOk P w K mg base CX0 2 f_law_down fd_law_down ["net", "node"] (sp__law_down K)) (D__law_down : Def K mg "_law_down" f_law_down fd_law_down ["net", "node"]) :
    FnOk P w K mg base CX0 3 f fd ["state", "net", "gate", "k"] (sp__law_cut K) := by
  refine F.ok sc_law_cut (fun vs H Q E h => ?_) (fun cdv A outer s H vs Q E hr h => ?_)
  · obtain ⟨p, c, q, n, gate, k, rfl, _⟩ := h
    rfl
  · obtain ⟨p, c, qn, n, gate, k, rfl, d0, hn, ok, hg1, hg2, hk1, hk2, q⟩ := h
    refine ⟨_, (pss_cons (ps_set (i := 4) sc_law_cut.nd rfl (.inl rfl) (pe_callB (r := rSortedSet w) (cr_sortedSet (by rfl)) (by rfl) T.m_sorted (by decide +kernel) (pa_cons (pe_callTy (r := rSetOf K w) (cr_setOf (by rfl)) (by rfl) T.m_set (by decide +kernel) (pa_cons (pe_call G__law_down (hr.mono (by omega)) (by rfl) D__law_down.m D__law_down.k D__law_down.b .nil pass0 (pa_cons (pv 1) (pa_cons (pv 2) pa_nil))) pa_nil)) pa_nil)))
      (pss_cons (ps_for PassesOwn.never rfl (pi_range1 rfl T.m_range (pa_cons (pe_call G__law_draw (hr.mono (by omega)) (by rfl) D__law_draw.m D__law_draw.k D__law_draw.b .nil pass0 (pa_cons (pv 0) (pa_cons pe_int pa_nil))) pa_nil)) (pg_name (i := 5) sc_law_cut.nd rfl (Or.inl rfl)) (pss_cons (ps_set (i := 6) sc_law_cut.nd rfl (.inr rfl) (pe_call G__law_pick (hr.mono (by omega)) (by rfl) D__law_pick.m D__law_pick.k D__law_pick.b .nil pass0 (pa_cons (pv 0) (pa_cons (pv 4) pa_nil))))
      (pss_cons (ps_set (i := 7) sc_law_cut.nd rfl (.inl rfl) (pe_callB (r := rSortedSet w) (cr_sortedSet (by rfl)) (by rfl) T.m_sorted (by decide +kernel) (pa_cons (pe_callTy (r := rSetOf K w) (cr_setOf (by rfl)) (by rfl) T.m_set (by decide +kernel) (pa_cons (pe_op op_cat (pe_lc (own := [("one", 9)]) (g := gName 9) rfl sc_law_cut.nd (pi_list (pv 4)) (blkOk_by (N := N__law_cut) (sc := defScope s__law_cut) (by decide +kernel)) (fun _ _ _ _ _ => (pg_name (i := 9) sc_law_cut.nd rfl (Or.inl rfl))) (fun _ _ _ _ _ => (pts_one (pt_cmpR op_ne (pv 9) (pv 6) (nomark _)))) (fun _ _ _ _ _ => (pv 9))) (pe_call G__law_down (hr.mono (by omega)) (by rfl) D__law_down.m D__law_down.k D__law_down.b .nil pass0 (pa_cons (pv 1) (pa_cons (pv 6) pa_nil)))) pa_nil)) pa_nil)))
      (pss_one (ps_if (PW.pt (pw_and (pt_cmpR op_gt (pe_callB call_len_seq (by rfl) T.m_len (by decide +kernel) (pa_cons (pe_call G__law_down (hr.mono (by omega)) (by rfl) D__law_down.m D__law_down.k D__law_down.b .nil pass0 (pa_cons (pv 1) (pa_cons (pv 6) pa_nil))) pa_nil)) pe_int (nomark _)) (pw_and1 (pt_cmpR op_le (pe_callB call_len_seq (by rfl) T.m_len (by decide +kernel) (pa_cons (pv 7) pa_nil)) (pv 3) (nomark _))))) (pss_one (ps_set (i := 4) sc_law_cut.nd rfl (.inl rfl) (pv 7))) pss_nil)))))
      (pss_cons (ps_set (i := 8) sc_law_cut.nd rfl (.inl rfl) (pe_op op_add pe_int (pe_call G__law_draw (hr.mono (by omega)) (by rfl) D__law_draw.m D__law_draw.k D__law_draw.b .nil pass0 (pa_cons (pv 0) (pa_cons (pe_op op_sub (pv 2) pe_int) pa_nil)))))
      (C8.pss_cut (ps_if (PW.pt (pw_and (pt_cmpR op_lt (pe_callB call_len_seq (by rfl) T.m_len (by decide +kernel) (pa_cons (pv 4) pa_nil)) (pv 3) (nomark _)) (pw_and1 (pt_cmpR op_eq (pe_call G__law_draw (hr.mono (by omega)) (by rfl) D__law_draw.m D__law_draw.k D__law_draw.b .nil pass0 (pa_cons (pv 0) (pa_cons pe_int pa_nil))) pe_int (nomark _))))) (pss_one (ps_set (i := 4) sc_law_cut.nd rfl (.inl rfl) (pe_callB (r := rSortedSet w) (cr_sortedSet (by rfl)) (by rfl) T.m_sorted (by decide +kernel) (pa_cons (pe_callTy (r := rSetOf K w) (cr_setOf (by rfl)) (by rfl) T.m_set (by decide +kernel) (pa_cons (pe_op op_cat (pv 4) (pe_lst (pa_cons (pv 8) pa_nil))) pa_nil)) pa_nil)))) pss_nil)
      (pss_one (ps_ret (pv 4))))))), ?_⟩
    obtain ⟨g, eg, ek⟩ := kids_gate hg1 hg2
    refine ⟨_, rfl, _, rfl, .ref qn, n, gate, rfl, hn.up, ok, hg2, fun H1 l1 s1 n1 e1 => ⟨l1, toI (kids n gate), rfl, SqL.of (by rw [e1, vn_int]), by rw [List.length_map, ek]; show 2 ≤ 4000; decide, fun pz cz nz hcz => ⟨pz, _, cz, rfl, upd_same, ?_, fun ns r0 asc mem len nr0 => ?_⟩⟩⟩
    · rw [List.length_map, ek] at hcz
      exact Nat.lt_of_le_of_lt hcz (by show 2 < 64; decide)
    obtain ⟨c0, rfl, asc0, mem0⟩ := asc_mem (xs := kids n gate) asc fun k => by rw [mem k, decide_eq_true_eq]
    have len0 : c0.length ≤ 2 := by
      rw [List.length_map, ek] at hcz
      rw [List.length_map] at len
      rw [len]
      exact hcz
    have s2 := (same_new (o := SetO w pz (fun j => decide (j ∈ toI (kids n gate))) cz) nz).trans (same_new (o := .lst ((toI c0).map V.int)) nr0)
    have e2 : (upd (upd H1 pz (SetO w pz (fun j => decide (j ∈ toI (kids n gate))) cz)) r0 (.lst ((toI c0).map V.int))) r0 = some (.lst (vn c0)) := by rw [upd_same, vn_int]
    have n2 : H r0 = none := none_of (s1.trans (same_new nz)) nr0
    generalize (upd (upd H1 pz (SetO w pz (fun j => decide (j ∈ toI (kids n gate))) cz)) r0 (.lst ((toI c0).map V.int))) = H2 at s2 e2 ⊢
    have cut0 : IsCut n gate c0 k := by
      refine ⟨by omega, asc0, ?_, ?_⟩
      · intro x hx
        have := ok.kid ((mem0 x).mp hx)
        omega
      · intro y hy
        exact .hit ((mem0 y).mpr hy)
    have g2 : Go p c H H2 := Go.of d0 (s1.trans s2)
    have or0 := d0.off n2
    have hm : n.many ≤ 16 := by
      have := ok.i4
      have := ok.fl
      have := ok.gl
      unfold Net.many Net.base
      omega
    refine ⟨_, rfl, p, c, 6, rfl, g2.b, by decide, by decide, fun H3 turns g3 h3 => ⟨_, rfl, by omega, by omega, for_range (n := turns) (fun _ σ Hx => ∃ (y5 y6 y7 : Option V) (r : Addr) (cut : List Nat), σ = [some (.ref p), some (.ref qn), some (.int gate), some (.int k), some (.ref r), y5, y6, y7, none, none] ∧ Go p c H Hx ∧ H r = none ∧ Hx r = some (.lst (vn cut)) ∧ IsCut n gate cut k) ⟨none, none, none, r0, c0, rfl, g2.trans g3, n2, g3.get or0.1 or0.2 e2, cut0⟩ ?_ ?_⟩⟩
    · rintro j σ Hx hj ⟨y5, y6, y7, r, cut, rfl, gx, nr, er, ic⟩
      have orr := d0.off nr
      have hc0 : 0 < cut.length := List.length_pos_iff.mpr (ic.some hg1 hg2)
      have hcl := ic.len
      -- node
      refine ⟨_, rfl, _, rfl, p, c, r, cut, rfl, gx.b, orr.1, orr.2, er, hc0, by omega, fun H4 node g4 hnode => ?_⟩
      have bn := ic.bnd node hnode
      have hm4 : node < n.many := by omega
      have gy := gx.trans g4
      have er4 := g4.get orr.1 orr.2 er
      -- other
      refine ⟨_, rfl, r, rfl, ⟨_, SqL.of er4⟩, fun D nD => lc_list (xs := vn cut) (fun i Hy => Same H4 Hy ∧ Hy D = some (.lst (vn ((cut.take i).filter fun y => decide (y ≠ node))))) ⟨same_new nD, upd_same⟩ (fun i Hy _ h => SqL.of (h.1 _ _ er4)) ?_ ?_⟩
      · rintro i v Hy hv ⟨sy, hp⟩
        have hi : i < cut.length := by
          have h := (List.getElem?_eq_some_iff.mp hv).1
          rw [vn_len] at h
          exact h
        have hx := List.getElem?_eq_getElem hi
        rw [vn_get hx] at hv
        cases hv
        refine ⟨rfl, _, rfl, _, rfl, rfl, _, rfl, ?_⟩
        rw [show decide (V.int ((cut[i] : Nat) : Int) = V.int (node : Int)) = decide (cut[i] = node) from dec_nat _ _]
        by_cases e : cut[i] = node
        · rw [decide_eq_true e]
          refine iteF ⟨sy, ?_⟩
          rw [hp, take_snoc hx, List.filter_append]
          rw [show [cut[i]].filter (fun y => decide (y ≠ node)) = [] by simp [e], List.append_nil]
        · rw [decide_eq_false e]
          refine iteT ⟨_, rfl, _, hp, ?_, same_mut sy nD, ?_⟩
          · rw [vn_len]
            exact small64k (Nat.le_trans (List.length_filter_le _ _) (by rw [List.length_take]; omega))
          · rw [upd_same, vn_snoc, take_snoc hx, List.filter_append]
            rw [show [cut[i]].filter (fun y => decide (y ≠ node)) = [cut[i]] by simp [e]]
      rintro H5 ⟨s5, hD⟩
      rw [vn_len, List.take_length] at hD
      have gz := gy.more s5
      have hnz : Dv H5 (.ref qn) n := (hn.same gz.s).up
      refine ⟨_, rfl, _, rfl, .ref qn, n, node, rfl, hnz, ok, hm4, fun H6 kd s6 n6 e6 => ⟨D, kd, _, _, rfl, rfl, s6 _ _ hD, e6, ?_, fun m nm => ?_⟩⟩
      · rw [vn_len, vn_len]
        refine Nat.le_of_lt (small64k ?_)
        have h1 := List.length_filter_le (fun y => decide (y ≠ node)) cut
        have h2 : (kids n node).length ≤ 2 := by
          unfold kids
          split
          · decide
          · split <;> simp
        omega
      have eall : vn (cut.filter fun y => decide (y ≠ node)) ++ vn (kids n node) = vn ((cut.filter fun y => decide (y ≠ node)) ++ kids n node) := by
        unfold vn
        rw [List.map_append]
      rw [eall]
      have lall : ((cut.filter fun y => decide (y ≠ node)) ++ kids n node).length ≤ 6 := by
        rw [List.length_append]
        have h1 := List.length_filter_le (fun y => decide (y ≠ node)) cut
        have h2 : (kids n node).length ≤ 2 := by
          unfold kids
          split
          · decide
          · split <;> simp
        omega
      refine ⟨m, toI ((cut.filter fun y => decide (y ≠ node)) ++ kids n node), rfl, SqL.of (by rw [upd_same, vn_int]), by rw [List.length_map]; omega, fun pz cz nz hcz => ⟨pz, _, cz, rfl, upd_same, ?_, fun ns r1 asc mem len nr1 => ?_⟩⟩
      · rw [List.length_map] at hcz
        omega
      obtain ⟨oth, rfl, asc1, mem1⟩ := asc_mem (xs := (cut.filter fun y => decide (y ≠ node)) ++ kids n node) asc fun k => by rw [mem k, decide_eq_true_eq]
      have s7 := ((s6.trans (same_new (o := .lst (vn ((cut.filter fun y => decide (y ≠ node)) ++ kids n node))) nm)).trans (same_new (o := SetO w pz (fun j => decide (j ∈ toI ((cut.filter fun y => decide (y ≠ node)) ++ kids n node))) cz) nz)).trans (same_new (o := .lst ((toI oth).map V.int)) nr1)
      have e7 : (upd (upd (upd H6 m (.lst (vn ((cut.filter fun y => decide (y ≠ node)) ++ kids n node)))) pz (SetO w pz (fun j => decide (j ∈ toI ((cut.filter fun y => decide (y ≠ node)) ++ kids n node))) cz)) r1 (.lst ((toI oth).map V.int))) r1 = some (.lst (vn oth)) := by rw [upd_same, vn_int]
      have n7 : H5 r1 = none := none_of ((s6.trans (same_new nm)).trans (same_new nz)) nr1
      generalize (upd (upd (upd H6 m (.lst (vn ((cut.filter fun y => decide (y ≠ node)) ++ kids n node)))) pz (SetO w pz (fun j => decide (j ∈ toI ((cut.filter fun y => decide (y ≠ node)) ++ kids n node))) cz)) r1 (.lst ((toI oth).map V.int))) = H7 at s7 e7 ⊢
      have gw := gz.more s7
      have memo : ∀ y, y ∈ oth ↔ (y ∈ cut ∧ y ≠ node) ∨ y ∈ kids n node := fun y => by
        rw [mem1, List.mem_append, List.mem_filter, decide_eq_true_eq]
      refine ⟨_, rfl, _, rfl, .ref qn, n, node, rfl, (hn.same gw.s).up, ok, hm4, fun H8 kd2 s8 n8 e8 => ⟨kd2, _, rfl, .inl (SqL.of e8), _, _, rfl, rfl, _, rfl, ?_⟩⟩
      have gv := gw.more s8
      refine ite2 (fun hpos => ?_) (fun _ => ⟨_, _, _, r, cut, rfl, gv, nr, s8 _ _ (s7 _ _ (s5 _ _ er4)), ic⟩)
      have hpos : (0 : Int) < ((vn (kids n node)).length : Int) := of_decide_eq_true hpos
      rw [vn_len] at hpos
      have hne : kids n node ≠ [] := List.length_pos_iff.mp (by omega)
      refine ⟨_, rfl, r1, _, rfl, .inl (SqL.of (s8 _ _ e7)), _, rfl, _, _, rfl, rfl, _, rfl, ite2 (fun hle => ?_) (fun _ => ⟨_, _, _, r, cut, rfl, gv, nr, s8 _ _ (s7 _ _ (s5 _ _ er4)), ic⟩)⟩
      have hle : ((vn oth).length : Int) ≤ (k : Int) := of_decide_eq_true hle
      rw [vn_len] at hle
      refine ⟨_, rfl, _, _, _, r1, oth, rfl, gv, gz.none n7, s8 _ _ e7, by omega, asc1, ?_, fun y hy => (ic.sep y hy).expand hne (fun z hz => (memo z).mpr (.inr hz)) (fun z hz ne => (memo z).mpr (.inl ⟨hz, ne⟩))⟩
      intro y hy
      rcases (memo y).mp hy with ⟨h, _⟩ | h
      · exact ic.bnd y h
      · have := ok.kid h
        omega
    · rintro σ Hx ⟨y5, y6, y7, r, cut, rfl, gx, nr, er, ic⟩
      have orr := d0.off nr
      have hcl := ic.len
      -- extra
      have hb2 : 2 ≤ n.base := by
        have := ok.i1
        unfold Net.base
        omega
      refine ⟨_, rfl, _, rfl, _, _, rfl, rfl, p, c, gate - 1, ?_, gx.b, by omega, by omega, fun H4 ex g4 hex => ⟨_, _, rfl, rfl, ?_⟩⟩
      · show [V.ref p, V.int ((gate : Int) - 1)] = _
        rw [show (gate : Int) - 1 = ((gate - 1 : Nat) : Int) by omega]
      have gy := gx.trans g4
      have er4 := g4.get orr.1 orr.2 er
      have eex : V.int (1 + (ex : Int)) = V.int ((1 + ex : Nat) : Int) := by rw [show (1 : Int) + (ex : Int) = ((1 + ex : Nat) : Int) by omega]
      refine ⟨fun σ' Hy => ∃ (y5 y6 y7 y8 : Option V) (r : Addr) (cut : List Nat), σ' = [some (.ref p), some (.ref qn), some (.int gate), some (.int k), some (.ref r), y5, y6, y7, y8, none] ∧ Go p c H Hy ∧ H r = none ∧ Hy r = some (.lst (vn cut)) ∧ IsCut n gate cut k, ?_, ?_⟩
      · refine ⟨_, rfl, r, _, rfl, .inl (SqL.of er4), _, rfl, _, _, rfl, rfl, _, rfl, ite2 (fun hlt => ?_) (fun _ => ⟨_, _, _, _, r, cut, rfl, gy, nr, er4, ic⟩)⟩
        have hlt : ((vn cut).length : Int) < (k : Int) := of_decide_eq_true hlt
        rw [vn_len] at hlt
        refine ⟨_, rfl, p, c, 3, rfl, g4.b, by decide, by decide, fun H5 d g5 hd => ⟨rfl, _, rfl, ite2 (fun _ => ?_) (fun _ => ⟨_, _, _, _, r, cut, rfl, gy.trans g5, nr, g5.get orr.1 orr.2 er4, ic⟩)⟩⟩
        have gz := gy.trans g5
        have er5 := g5.get orr.1 orr.2 er4
        refine ⟨_, rfl, _, rfl, by show 1 ≤ sizeLine; decide, fun l nl => ⟨r, l, _, _, rfl, rfl, (same_new nl) _ _ er5, upd_same, by rw [vn_len]; exact Nat.le_of_lt (small64k (by show cut.length + 1 ≤ _; omega)), fun m nm => ?_⟩⟩
        have eall : vn cut ++ [V.int (1 + (ex : Int))] = vn (cut ++ [1 + ex]) := by rw [eex, vn_snoc]
        rw [eall]
        have lall : (cut ++ [1 + ex]).length ≤ k := by
          rw [List.length_append]
          show cut.length + 1 ≤ k
          omega
        refine ⟨m, toI (cut ++ [1 + ex]), rfl, SqL.of (by rw [upd_same, vn_int]), by rw [List.length_map]; omega, fun pz cz nz hcz => ⟨pz, _, cz, rfl, upd_same, ?_, fun ns r1 asc mem len nr1 => ?_⟩⟩
        · rw [List.length_map] at hcz
          omega
        obtain ⟨oth, rfl, asc1, mem1⟩ := asc_mem (xs := cut ++ [1 + ex]) asc fun k => by rw [mem k, decide_eq_true_eq]
        rw [List.length_map] at len hcz
        have memo : ∀ y, y ∈ oth ↔ y ∈ cut ∨ y = 1 + ex := fun y => by
          rw [mem1, List.mem_append, List.mem_singleton]
        have s7 := (((same_new (o := .lst [V.int (1 + (ex : Int))]) nl).trans (same_new (o := .lst (vn (cut ++ [1 + ex]))) nm)).trans (same_new (o := SetO w pz (fun j => decide (j ∈ toI (cut ++ [1 + ex]))) cz) nz)).trans (same_new (o := .lst ((toI oth).map V.int)) nr1)
        refine ⟨_, _, _, _, r1, oth, rfl, gz.more s7, gz.none (none_of (((same_new nl).trans (same_new nm)).trans (same_new nz)) nr1), by rw [upd_same, vn_int], by omega, asc1, ?_, fun y hy => (ic.sep y hy).mono fun z hz => (memo z).mpr (.inl hz)⟩
        intro y hy
        rcases (memo y).mp hy with h | h
        · exact ic.bnd y h
        · omega
      · rintro σ Hy ⟨y5, y6, y7, y8, r, cut, rfl, gz, nr, er, ic⟩
        exact ⟨_, rfl, q _ r cut gz nr er ic⟩

end K45
namespace K45
open PySem PySem.Spec PyProof.Rows L2 V0
/-! ### cuts are cuts -/
def sp__law_parts (K : PySem.W.Frag) : Sp := fun vs H Q _ => ∃ (v : V) (n : Net) (gate : Nat) (r : Addr) (cut : List Nat) (k : Nat), vs = [v, .int gate, .ref r] ∧ Dv H v n ∧ TOk n ∧ n.base ≤ gate ∧ gate < n.many ∧ H r = some (.lst (vn cut)) ∧ IsCut n gate cut k ∧ ∀ H', Same H H' → Q (.bl true) H'
theorem ok__law_parts {P : Program} {w : World} {K : PySem.W.Frag} {mg : Str → Option Value} {base : Heap} {f f_law_down f_law_first : Addr} {fd fd_law_down fd_law_first : FuncData} (F : Fun K "_law_parts" "_law_parts" s__law_parts f fd) (T : Txt K mg)
    (G__law_down : FnOk P w K mg base CX0 2 f_law_down fd_law_down ["net", "node"] (sp__law_down K)) (D__law_down : Def K mg "_law_down" f_law_down fd_law_down ["net", "node"])
    (G__law_first : FnOk P w K mg base CX0 1 f_law_first fd_law_first ["net"] (sp__law_first K)) (D__law_first : Def K mg "_law_first" f_law_first fd_law_first ["net"]) :
    FnOk P w K mg base CX0 3 f fd ["net", "gate", "cut"] (sp__law_parts K) := by
  refine F.ok sc_law_parts (fun vs H Q E h => ?_) (fun cdv A outer s H vs Q E hr h => ?_)
  · obtain ⟨v, n, gate, r, cut, k, rfl, _⟩ := h
    rfl
  · obtain ⟨v, n, gate, r, cut, k, rfl, hn, ok, hg1, hg2, hc, ic, q⟩ := h
    have m16 := many16 ok
    refine ⟨_, (pss_cons (ps_set (i := 3) sc_law_parts.nd rfl (.inl rfl) (pe_call G__law_down (hr.mono (by omega)) (by rfl) D__law_down.m D__law_down.k D__law_down.b .nil pass0 (pa_cons (pv 0) (pa_cons (pv 1) pa_nil))))
      (pss_cons (ps_set (i := 4) sc_law_parts.nd rfl (.inl rfl) (pe_lst pa_nil))
      (C8.pss_cut (ps_while PassesOwn.never (pt_cmpR op_gt (pe_callB call_len_seq (by rfl) T.m_len (by decide +kernel) (pa_cons (pv 3) pa_nil)) pe_int (nomark _)) (pss_cons (ps_set (i := 5) sc_law_parts.nd rfl (.inl rfl) (pe_bm0 PySem.F.plainAttrs_list PySem.F.slot_list_pop PySem.F.type_list_pop mt_pop (pv 3)))
      (pss_cons (ps_if (PW.pt (pw_or (pt_cmpR (r := rIn K false) op_in_seq (pv 5) (pv 2) (by rfl)) (pw_or1 (pt_cmpR (r := rIn K false) op_in_seq (pv 5) (pv 4) (by rfl))))) (pss_one ps_continue) pss_nil)
      (pss_cons (ps_if (pt_cmpR op_lt (pv 5) (pe_call G__law_first (hr.mono (by omega)) (by rfl) D__law_first.m D__law_first.k D__law_first.b .nil pass0 (pa_cons (pv 0) pa_nil)) (nomark _)) (pss_one (ps_ret pe_bl)) pss_nil)
      (pss_cons (ps_expr (pe_bm PySem.F.plainAttrs_list PySem.F.slot_list_append PySem.F.type_list_append mt_append (pv 4) (pa_cons (pv 5) pa_nil)))
      (pss_one (ps_expr (pe_bm PySem.F.plainAttrs_list PySem.F.slot_list_extend PySem.F.type_list_extend mt_extend (pv 3) (pa_cons (pe_call G__law_down (hr.mono (by omega)) (by rfl) D__law_down.m D__law_down.k D__law_down.b .nil pass0 (pa_cons (pv 0) (pa_cons (pv 5) pa_nil))) pa_nil)))))))))
      (pss_one (ps_ret pe_bl))))), ?_⟩
    refine ⟨_, rfl, _, rfl, v, n, gate, rfl, hn, ok, hg2, fun H1 pF s1 nF eF => ?_⟩
    refine ⟨by show 0 ≤ sizeLine; decide, fun pZ nZ => ?_⟩
    have nZ0 := none_of s1 nZ
    have nFZ : pF ≠ pZ := ne_of_none eF nZ
    refine ⟨fun σ Hx => ∃ y5 : Option V, σ = [some v, some (.int gate), some (.ref r), some (.ref pF), some (.ref pZ), y5] ∧ Same H Hx, ?_, ?_⟩
    · refine while_by (fun σ Hx => ∃ (y5 : Option V) (fr sn : List Nat), σ = [some v, some (.int gate), some (.ref r), some (.ref pF), some (.ref pZ), y5] ∧ Same H Hx ∧ Hx pF = some (.lst (vn fr)) ∧ Hx pZ = some (.lst (vn sn)) ∧ (∀ y ∈ fr, Sep n cut y) ∧ sn.Nodup ∧ (∀ y ∈ sn, y < n.many) ∧ fr.length + 3 * (n.many - sn.length) ≤ 60)
        (fun _ Hx => match Hx pF, Hx pZ with | some (.lst xs), some (.lst ys) => xs.length + 3 * (n.many - ys.length) | _, _ => 0)
        ⟨none, kids n gate, [], rfl, s1.trans (same_new nZ), (same_new nZ) _ _ eF, upd_same, ic.sep, List.nodup_nil, (by simp), (by have := kids_len n gate; show _ + 3 * (n.many - 0) ≤ 60; omega)⟩ ?_ ?_
      · rintro σ Hx ⟨y5, fr, sn, rfl, sx, hF, hZ, sep, nd, bs, len⟩
        refine ⟨_, rfl, pF, _, rfl, .inl (SqL.of hF), _, _, rfl, rfl, _, rfl, ?_⟩
        rcases List.eq_nil_or_concat fr with rfl | ⟨L, b, rfl⟩
        · exact iteF ⟨_, rfl, sx⟩
        rw [List.concat_eq_append] at hF sep len
        have e0 : decide ((((vn (L.concat b)).length : Nat) : Int) > 0) = true := decide_eq_true (by rw [vn_len, List.concat_eq_append, List.length_append]; show (0 : Int) < ((L.length + 1 : Nat) : Int); omega)
        rw [e0]
        refine iteT ?_
        -- node = front.pop()
        have evn : vn (L ++ [b]) = vn L ++ [V.int (b : Int)] := (vn_snoc L b).symm
        refine ⟨_, rfl, .inl ⟨rfl, _, SqL.of hF⟩, pF, _, .int (b : Int), rfl, rfl, hF, ?_, ?_⟩
        · rw [evn, List.length_append]
          show (vn L ++ [V.int (b : Int)])[(vn L).length + 1 - 1]? = _
          rw [Nat.add_sub_cancel, List.getElem?_append_right (Nat.le_refl _), Nat.sub_self]
          rfl
        rw [evn, List.dropLast_concat]
        have sy : Same H (upd Hx pF (.lst (vn L))) := same_mut sx nF
        have hZy : (upd Hx pF (.lst (vn L))) pZ = some (.lst (vn sn)) := by
          rw [upd_ne nFZ.symm]
          exact hZ
        have hFy : (upd Hx pF (.lst (vn L))) pF = some (.lst (vn L)) := upd_same
        have mu0 : (match Hx pF, Hx pZ with | some (.lst xs), some (.lst ys) => xs.length + 3 * (n.many - ys.length) | _, _ => 0) = L.length + 1 + 3 * (n.many - sn.length) := by
          rw [hF, hZ]
          show (vn (L ++ [b])).length + 3 * (n.many - (vn sn).length) = _
          rw [vn_len, vn_len, List.length_append]
          rfl
        rw [mu0]
        generalize (upd Hx pF (.lst (vn L))) = Hy at sy hZy hFy ⊢
        rw [List.length_append] at len
        have len : L.length + 1 + 3 * (n.many - sn.length) ≤ 60 := len
        have skip : Same H Hy ∧ (match Hy pF, Hy pZ with | some (.lst xs), some (.lst ys) => xs.length + 3 * (n.many - ys.length) | _, _ => 0) < L.length + 1 + 3 * (n.many - sn.length) := by
          refine ⟨sy, ?_⟩
          rw [hFy, hZy]
          show (vn L).length + 3 * (n.many - (vn sn).length) < _
          rw [vn_len, vn_len]
          omega
        have sepL : ∀ y ∈ L, Sep n cut y := fun y hy => sep y (List.mem_append_left _ hy)
        have sepb := sep b (by simp)
        -- if node in cut or node in seen: continue
        have kin : ∀ ys : List Nat, (if false = true then !inV (.int (b : Int)) (vn ys) else inV (.int (b : Int)) (vn ys)) = decide (b ∈ ys) := fun ys => by rw [if_neg Bool.false_ne_true, inV_vn]
        have again : ∃ (y5 : Option V) (fr sn : List Nat), [some v, some (.int gate), some (.ref r), some (.ref pF), some (.ref pZ), some (.int (b : Int))] = [some v, some (.int gate), some (.ref r), some (.ref pF), some (.ref pZ), y5] ∧ Same H Hy ∧ Hy pF = some (.lst (vn fr)) ∧ Hy pZ = some (.lst (vn sn)) ∧ (∀ y ∈ fr, Sep n cut y) ∧ sn.Nodup ∧ (∀ y ∈ sn, y < n.many) ∧ fr.length + 3 * (n.many - sn.length) ≤ 60 := ⟨_, L, sn, rfl, sy, hFy, hZy, sepL, nd, bs, by omega⟩
        refine ⟨_, rfl, _, rfl, r, _, rfl, .inl (SqL.of (sy _ _ hc)), rfl, flat_vn _, _, rfl, ?_⟩
        show if (if false = true then !inV (.int (b : Int)) (vn cut) else inV (.int (b : Int)) (vn cut)) = true then _ else _
        rw [kin]
        refine ite2 (fun _ => iteT ⟨again, skip.2⟩) (fun hcut => ?_)
        have hcut : b ∉ cut := fun z => hcut (decide_eq_true z)
        refine ⟨_, rfl, _, rfl, pZ, _, rfl, .inl (SqL.of hZy), rfl, flat_vn _, _, rfl, ?_⟩
        show if (if false = true then !inV (.int (b : Int)) (vn sn) else inV (.int (b : Int)) (vn sn)) = true then _ else _
        rw [kin]
        refine ite2 (fun _ => ⟨again, skip.2⟩) (fun hseen => ?_)
        have hseen : b ∉ sn := fun z => hseen (decide_eq_true z)
        obtain ⟨hb1, hb2, hkids⟩ := sepb.gate_of hcut
        -- if node < first: return False
        refine ⟨_, rfl, _, rfl, v, n, rfl, hn.same sy, _, _, rfl, rfl, _, rfl, ?_⟩
        rw [decide_eq_false (show ¬ (b : Int) < (n.base : Int) by omega)]
        refine iteF ?_
        have lsn := nodup_bound nd bs
        have lsn2 : sn.length < n.many := by
          have := nodup_bound (xs := b :: sn) (m := n.many) (List.nodup_cons.mpr ⟨hseen, nd⟩) (fun x hx => by
            rcases List.mem_cons.mp hx with rfl | hx
            · exact hb2
            · exact bs x hx)
          exact this
        refine ⟨_, rfl, .inl ⟨rfl, _, SqL.of hZy⟩, _, rfl, pZ, _, _, rfl, rfl, hZy, by rw [vn_len]; exact small64k (by omega), ?_⟩
        rw [vn_snoc]
        have sz : Same H (upd Hy pZ (.lst (vn (sn ++ [b])))) := same_mut sy nZ0
        have hFz : (upd Hy pZ (.lst (vn (sn ++ [b])))) pF = some (.lst (vn L)) := by
          rw [upd_ne nFZ]
          exact hFy
        have hZz : (upd Hy pZ (.lst (vn (sn ++ [b])))) pZ = some (.lst (vn (sn ++ [b]))) := upd_same
        generalize (upd Hy pZ (.lst (vn (sn ++ [b])))) = Hz at sz hFz hZz ⊢
        refine ⟨_, rfl, .inl ⟨rfl, _, SqL.of hFz⟩, _, rfl, _, rfl, v, n, b, rfl, hn.same sz, ok, hb2, fun Hw pD sw nD eD => ⟨pF, pD, _, _, rfl, rfl, sw _ _ hFz, eD, ?_, ?_⟩⟩
        · rw [vn_len, vn_len]
          have := kids_len n b
          exact Nat.le_of_lt (small64k (by omega))
        have eapp : vn L ++ vn (kids n b) = vn (L ++ kids n b) := by
          unfold vn
          rw [List.map_append]
        rw [eapp]
        have kl := kids_len n b
        refine ⟨⟨_, L ++ kids n b, sn ++ [b], rfl, same_mut (sz.trans sw) nF, upd_same, by rw [upd_ne nFZ.symm]; exact sw _ _ hZz, ?_, ?_, ?_, ?_⟩, ?_⟩
        · intro y hy
          rcases List.mem_append.mp hy with hy | hy
          · exact sepL y hy
          · exact hkids y hy
        · rw [List.nodup_append]
          refine ⟨nd, by simp, fun x hx y hy e => ?_⟩
          rw [List.mem_singleton.mp hy] at e
          exact hseen (e ▸ hx)
        · intro y hy
          rcases List.mem_append.mp hy with hy | hy
          · exact bs y hy
          · rw [List.mem_singleton.mp hy]
            exact hb2
        · rw [List.length_append, List.length_append]
          show _ + 3 * (n.many - (sn.length + 1)) ≤ 60
          omega
        · rw [upd_same, upd_ne nFZ.symm, sw _ _ hZz]
          show (vn (L ++ kids n b)).length + 3 * (n.many - (vn (sn ++ [b])).length) < _
          rw [vn_len, vn_len, List.length_append, List.length_append]
          show _ + 3 * (n.many - (sn.length + 1)) < _
          omega
      · intro σ H' Q Q' hq h
        obtain ⟨x, e1, p', ys, e2, e3, i, j, e4, e5, k, e6, h⟩ := h
        exact ⟨x, e1, p', ys, e2, e3, i, j, e4, e5, k, e6, hq _ _ h⟩
    · rintro σ Hx ⟨y5, rfl, sx⟩
      exact q Hx sx
def sp__law_is_cut (K : PySem.W.Frag) : Sp := fun vs H Q _ => ∃ (v : V) (n : Net) (gate : Nat) (r : Addr) (cut : List Nat) (k : Nat), vs = [v, .int gate, .ref r, .int k] ∧ Dv H v n ∧ TOk n ∧ n.base ≤ gate ∧ gate < n.many ∧ H r = some (.lst (vn cut)) ∧ k ≤ 4 ∧ IsCut n gate cut k ∧ ∀ H', Same H H' → Q (.bl true) H'
theorem ok__law_is_cut {P : Program} {w : World} {K : PySem.W.Frag} {mg : Str → Option Value} {base : Heap} {f f_law_parts : Addr} {fd fd_law_parts : FuncData} (F : Fun K "_law_is_cut" "_law_is_cut" s__law_is_cut f fd) (T : Txt K mg)
    (G__law_parts : FnOk P w K mg base CX0 3 f_law_parts fd_law_parts ["net", "gate", "cut"] (sp__law_parts K)) (D__law_parts : Def K mg "_law_parts" f_law_parts fd_law_parts ["net", "gate", "cut"]) :
    FnOk P w K mg base CX0 4 f fd ["net", "gate", "cut", "k"] (sp__law_is_cut K) := by
  refine F.ok sc_law_is_cut (fun vs H Q E h => ?_) (fun cdv A outer s H vs Q E hr h => ?_)
  · obtain ⟨v, n, gate, r, cut, k, rfl, _⟩ := h
    rfl
  · obtain ⟨v, n, gate, r, cut, k, rfl, hn, ok, hg1, hg2, hc, hk, ic, q⟩ := h
    refine ⟨_, (pss_cons (ps_if (PW.pt (pw_or (pt_cmpR op_gt (pe_callB call_len_seq (by rfl) T.m_len (by decide +kernel) (pa_cons (pv 2) pa_nil)) (pv 3) (nomark _)) (pw_or (pt_cmpR (op_neD hr.units) (pv 2) (pe_callB (r := rSortedSet w) (cr_sortedSet (by rfl)) (by rfl) T.m_sorted (by decide +kernel) (pa_cons (pe_callTy (r := rSetOf K w) (cr_setOf (by rfl)) (by rfl) T.m_set (by decide +kernel) (pa_cons (pv 2) pa_nil)) pa_nil)) (nomark _)) (pw_or1 (pt_not (pt_val (pe_callB (cr_all (by rfl)) (by rfl) T.m_all (by decide +kernel) (pa_cons (pe_lc (own := [("node", 4)]) (g := gName 4) (tt := tYes) rfl sc_law_is_cut.nd (pi_list (pv 2)) (blkOk_by (N := N__law_is_cut) (sc := defScope s__law_is_cut) (by decide +kernel)) (fun _ _ _ _ _ => (pg_name (i := 4) sc_law_is_cut.nd rfl (Or.inl rfl))) (fun _ _ _ _ _ => pts_nil) (fun _ _ _ _ _ => (pe_chain op_lt op_lt pe_int (pv 4) (pv 1)))) pa_nil)))))))) (pss_one (ps_ret pe_bl)) pss_nil)
      (pss_one (ps_ret (pe_call G__law_parts (hr.mono (by omega)) (by rfl) D__law_parts.m D__law_parts.k D__law_parts.b .nil pass0 (pa_cons (pv 0) (pa_cons (pv 1) (pa_cons (pv 2) pa_nil))))))), ?_⟩
    have hl := ic.len
    refine ⟨_, rfl, r, _, rfl, .inl (SqL.of hc), _, rfl, _, _, rfl, rfl, _, rfl, ?_⟩
    rw [decide_eq_false (show ¬ ((vn cut).length : Int) > (k : Int) by rw [vn_len]; omega)]
    refine iteF ?_
    refine ⟨_, rfl, _, rfl, r, toI cut, rfl, SqL.of (by rw [hc, vn_int]), by rw [List.length_map]; omega, fun pz cz nz hcz => ⟨pz, _, cz, rfl, upd_same, ?_, fun ns r1 asc mem len nr1 => ?_⟩⟩
    · rw [List.length_map] at hcz
      omega
    obtain ⟨oth, rfl, asc1, mem1⟩ := asc_mem (xs := cut) asc fun k => by rw [mem k, decide_eq_true_eq]
    have eo : oth = cut := asc_unique asc1 ic.asc mem1
    subst eo
    have s1 := (same_new (o := SetO w pz (fun j => decide (j ∈ toI oth)) cz) nz).trans (same_new (o := .lst ((toI oth).map V.int)) nr1)
    have e1 : (upd (upd H pz (SetO w pz (fun j => decide (j ∈ toI oth)) cz)) r1 (.lst ((toI oth).map V.int))) r1 = some (.lst (vn oth)) := by rw [upd_same, vn_int]
    generalize (upd (upd H pz (SetO w pz (fun j => decide (j ∈ toI oth)) cz)) r1 (.lst ((toI oth).map V.int))) = H1 at s1 e1 ⊢
    refine neD (a := oth) (b := oth) (.natl (s1 _ _ hc)) (.natl e1) (by decide) ⟨_, rfl, ?_⟩
    rw [decide_eq_true rfl]
    refine iteF ?_
    refine ⟨_, rfl, r, rfl, ⟨_, SqL.of (s1 _ _ hc)⟩, fun D nD => lc_list (xs := vn oth) (fun i Hx => Same H1 Hx ∧ Hx D = some (.lst ((List.replicate i true).map V.bl))) ⟨same_new nD, upd_same⟩ (fun i Hx _ h => SqL.of (h.1 _ _ (s1 _ _ hc))) ?_ ?_⟩
    · rintro i u Hx hu ⟨sx, hp⟩
      have hi : i < oth.length := by
        have h := (List.getElem?_eq_some_iff.mp hu).1
        rw [vn_len] at h
        exact h
      have hx := List.getElem?_eq_getElem hi
      rw [vn_get hx] at hu
      cases hu
      have hb := ic.bnd _ (List.getElem_mem hi)
      refine ⟨rfl, _, rfl, _, _, rfl, rfl, _, rfl, ?_⟩
      rw [decide_eq_true (show (0 : Int) < ((oth[i] : Nat) : Int) by omega)]
      refine iteT ⟨_, rfl, _, _, rfl, rfl, _, hp, ?_, same_mut sx nD, ?_⟩
      · rw [List.length_map, List.length_replicate]
        exact small1000 (by omega)
      · rw [upd_same]
        show some (HO.lst (_ ++ [V.bl (decide (((oth[i] : Nat) : Int) < (gate : Int)))])) = _
        rw [decide_eq_true (show ((oth[i] : Nat) : Int) < (gate : Int) by omega), List.replicate_succ', List.map_append]
        rfl
    rintro H2 ⟨s2, hp⟩
    refine ⟨D, _, rfl, SqL.of hp, _, rfl, ?_⟩
    rw [show (List.replicate (vn oth).length true).all id = true by simp]
    refine iteF ?_
    exact ⟨_, rfl, _, rfl, _, rfl, v, n, gate, r, oth, k, rfl, (hn.same s1).same s2, ok, hg1, hg2, s2 _ _ (s1 _ _ hc), ic, fun H' s' => q H' ((s1.trans s2).trans s')⟩

end K45
namespace K45
open PySem PySem.Spec PyProof.Rows L2 V0
/-! ### the program's tables -/
def sp_base_of (K : PySem.W.Frag) : Sp := fun vs H Q _ => ∃ (v : V) (n : Net), vs = [v] ∧ Dv H v n ∧ Q (.int (n.base : Nat)) H
theorem ok_base_of {P : Program} {w : World} {K : PySem.W.Frag} {mg : Str → Option Value} {base : Heap} {f  : Addr} {fd  : FuncData} (F : Fun K "base_of" "base_of" s_base_of f fd) (T : Txt K mg) :
    FnOk P w K mg base CX0 1 f fd ["net"] (sp_base_of K) := by
  refine F.ok scbase_of (fun vs H Q E h => ?_) (fun cdv A outer s H vs Q E hr h => ?_)
  · obtain ⟨l, n, rfl, _⟩ := h
    rfl
  · obtain ⟨v, n, rfl, hn, q⟩ := h
    obtain ⟨a, aS, aG, aN, aO, rfl, hA, hS, hG, hN, hO⟩ := hn.net_inv
    obtain ⟨_, e, hS⟩ := hS.natl_inv
    cases e
    refine ⟨_, (pss_one (ps_ret (pe_op op_add (pe_op op_add pe_int (pe_ix (r := rIxT K) ix_tup (pv 0) pe_int (fun _ _ => rfl))) (pe_callB call_len_seq (by rfl) T.m_len (by decide +kernel) (pa_cons (pe_ix (r := rIxT K) ix_tup (pv 0) pe_int (fun _ _ => rfl)) pa_nil))))), ?_⟩
    refine ⟨_, rfl, a, _, 1, _, rfl, rfl, SqT.of hA, atI_nat (j := 1) rfl, _, _, rfl, rfl, _, rfl, a, _, 2, _, rfl, rfl, SqT.of hA, atI_nat (j := 2) rfl, aS, _, rfl, .inl (SqL.of hS), _, _, rfl, rfl, ?_⟩
    show Q (V.int ((1 : Int) + (n.ins : Int) + ((vn n.starts).length : Int))) H
    rw [vn_len]
    exact q
def sp__nodes_above (K : PySem.W.Frag) : Sp := fun vs H Q _ => ∃ (v : V) (n : Net) (gate : Nat) (r : Addr) (cut : List Nat) (k : Nat), vs = [v, .int gate, .ref r] ∧ Dv H v n ∧ TOk n ∧ n.base ≤ gate ∧ gate < n.many ∧ H r = some (.lst (vn cut)) ∧ IsCut n gate cut k ∧
  ∀ H' p ab, Same H H' → H p = none → H' p = some (.lst (vn ab)) → Above n gate cut ab → Q (.ref p) H'
theorem ok__nodes_above {P : Program} {w : World} {K : PySem.W.Frag} {mg : Str → Option Value} {base : Heap} {f fbase_of : Addr} {fd fdbase_of : FuncData} (F : Fun K "_nodes_above" "_nodes_above" s__nodes_above f fd) (T : Txt K mg)
    (G_base_of : FnOk P w K mg base CX0 1 fbase_of fdbase_of ["net"] (sp_base_of K)) (D_base_of : Def K mg "base_of" fbase_of fdbase_of ["net"]) :
    FnOk P w K mg base CX0 2 f fd ["net", "gate", "cut"] (sp__nodes_above K) := by
  refine F.ok sc_nodes_above (fun vs H Q E h => ?_) (fun cdv A outer s H vs Q E hr h => ?_)
  · obtain ⟨v, n, gate, r, cut, k, rfl, _⟩ := h
    rfl
  · obtain ⟨v, n, gate, r, cut, k, rfl, hn, ok, hg1, hg2, hc, ic, q⟩ := h
    have hn0 := hn
    have m16 := many16 ok
    obtain ⟨a, aS, aG, aN, aO, rfl, hA, hS, hG, hN, hO⟩ := hn.net_inv
    obtain ⟨_, us, e, hGl, hus⟩ := hG.list_inv
    cases e
    refine ⟨_, (pss_cons (ps_set (i := 3) sc_nodes_above.nd rfl (.inl rfl) (pe_call G_base_of (hr.mono (by omega)) (by rfl) D_base_of.m D_base_of.k D_base_of.b .nil pass0 (pa_cons (pv 0) pa_nil)))
      (pss_cons (ps_set (i := 4) sc_nodes_above.nd rfl (.inl rfl) (pe_disp (pps_cons (pv 1) pe_bl pps_nil) rfl rfl (by intro h; cases h) (by decide)))
      (pss_cons (ps_for PassesOwn.never rfl (pi_range3 rfl T.m_range (pa_cons (pv 1) (pa_cons (pe_op op_sub (pv 3) pe_int) (pa_cons (pe_un un_neg pe_int) pa_nil)))) (pg_name (i := 5) sc_nodes_above.nd rfl (Or.inl rfl)) (pss_one (ps_if (pt_cmp (pc_din (hu_of hr) (pv 5) (pv 4))) (pss_one (ps_for PassesOwn.never rfl (pi_tup (pe_ix (r := rIxL K) ix_list (pe_ix (r := rIxT K) ix_tup (pv 0) pe_int (fun _ _ => rfl)) (pe_op op_sub (pv 5) (pv 3)) (fun _ _ => rfl))) (pg_name (i := 6) sc_nodes_above.nd rfl (Or.inl rfl)) (pss_one (ps_if (pt_cmpR (r := rIn K true) op_notIn_seq (pe_op op_shr (pv 6) pe_int) (pv 2) (by rfl)) (pss_one (ps_dput (hu_of hr) (pv 4) (pe_op op_shr (pv 6) pe_int) pe_bl rfl)) pss_nil)))) pss_nil)))
      (pss_one (ps_ret (pe_callB (call_sortedDI (by rfl)) (by rfl) T.m_sorted (by decide +kernel) (pa_cons (pv 4) pa_nil))))))), ?_⟩
    refine ⟨_, rfl, .ref a, n, rfl, hn0, ?_⟩
    refine fun d nd => ⟨_, rfl, upd_same, [(Sum.inl (gate : Int), V.bl true)], rfl, by show 1 ≤ 15; decide, ?_⟩
    have em : mergeK [] [((Sum.inl (gate : Int) : Key), V.bl true)] = mkD [gate] := rfl
    rw [em]
    have s0 : Same H (upd (upd H d (.dK [])) d (.dK (mkD [gate]))) := same_mut (same_new nd) nd
    have e0 : (upd (upd H d (.dK [])) d (.dK (mkD [gate]))) d = some (.dK (mkD [gate])) := upd_same
    generalize (upd (upd H d (.dK [])) d (.dK (mkD [gate]))) = H0 at s0 e0 ⊢
    have hgc : gate ∉ cut := fun hm => by
      have := ic.bnd gate hm
      omega
    have ec : ((gate : Int) - ((n.base : Int) - 1)).toNat = gate - n.base + 1 := by omega
    have mk0 : MK n gate cut [gate] := ⟨by simp, by simp, fun x hx => by
      rw [List.mem_singleton.mp hx]
      exact ⟨hg1, Nat.le_refl _, hgc, ic.sep⟩⟩
    refine ⟨_, rfl, _, rfl, _, _, rfl, rfl, _, rfl, _, _, _, _, rfl, RgC.neg (by omega) (by omega) (by omega) (by omega), for_rangeC (fun i σ Hx => ∃ (y5 y6 : Option V) (ks : List Nat), σ = [some (.ref a), some (.int gate), some (.ref r), some (.int (n.base : Nat)), some (.ref d), y5, y6] ∧ Same H Hx ∧ Hx d = some (.dK (mkD ks)) ∧ MK n gate cut ks ∧ ∀ x ∈ ks, gate < x + i → ∀ y ∈ kids n x, y ∈ cut ∨ y ∈ ks) ⟨none, none, [gate], rfl, s0, e0, mk0, fun x hx hlt => by rw [List.mem_singleton.mp hx] at hlt; omega⟩ ?_ ?_⟩
    · rintro i σ Hx hi ⟨y5, y6, ks, rfl, sx, hd, mk, done⟩
      rw [ec] at hi
      have ex : V.int ((gate : Int) + (i : Nat) * (-1)) = V.int ((gate - i : Nat) : Int) := by rw [show (gate : Int) + (i : Nat) * (-1) = ((gate - i : Nat) : Int) by omega]
      rw [ex]
      refine ⟨_, rfl, _, rfl, d, _, rfl, DGet.k (k := Sum.inl ((gate - i : Nat) : Int)) hd, _, rfl, ?_⟩
      rw [mkD_val]
      by_cases hm : gate - i ∈ ks
      · rw [if_pos hm]
        refine iteT ?_
        have hb := mk.b _ hm
        obtain ⟨g, hg, hk⟩ := kids_gate hb.1 (show gate - i < n.many by omega)
        obtain ⟨u, hu, du⟩ := hus.get hg
        obtain ⟨t, u1, u2, rfl, ht, hx1, hx2⟩ := du.pair_inv
        have hx1 := hx1.nat_inv
        have hx2 := hx2.nat_inv
        subst hx1 hx2
        have hsepk := hb.2.2.2
        have bk : ∀ y ∈ kids n (gate - i), y < gate - i := fun y hy => (ok.kid hy).2.1
        refine ⟨_, rfl, a, _, 3, _, rfl, rfl, SqT.of (sx _ _ hA), atI_nat (j := 3) rfl, _, rfl, _, rfl, _, _, rfl, rfl, aG, _, _, _, rfl, rfl, SqL.of (sx _ _ hGl), (by rw [show ((gate - i : Nat) : Int) - (n.base : Int) = ((gate - i - n.base : Nat) : Int) by omega]; exact atI_nat hu), t, rfl, ⟨_, SqT.of (sx _ _ ht)⟩, for_tup (xs := [.int (g.1 : Int), .int (g.2 : Int)]) (fun j σ Hy => ∃ (y6 : Option V) (ks2 : List Nat), σ = [some (.ref a), some (.int gate), some (.ref r), some (.int (n.base : Nat)), some (.ref d), some (.int ((gate - i : Nat) : Int)), y6] ∧ Same H Hy ∧ Hy d = some (.dK (mkD ks2)) ∧ MK n gate cut ks2 ∧ (∀ x ∈ ks, x ∈ ks2) ∧ (∀ x ∈ ks2, x ∈ ks ∨ x < gate - i) ∧ (∀ y ∈ (kids n (gate - i)).take j, y ∈ cut ∨ y ∈ ks2)) ⟨y6, ks, rfl, sx, hd, mk, fun _ h => h, fun _ h => .inl h, by simp⟩ (fun j σ Hy _ ⟨_, _, _, s', _⟩ => SqT.of (s' _ _ ht)) ?_ ?_⟩
        · rintro j v σ Hy hv ⟨y6, ks2, rfl, sy, hdy, mky, sub, new, part⟩
          obtain ⟨l, hl, rfl⟩ : ∃ l : Nat, (kids n (gate - i))[j]? = some (l / 2) ∧ v = V.int (l : Int) := by
            have hj : j = 0 ∨ j = 1 := by
              have h : j < 2 := (List.getElem?_eq_some_iff.mp hv).1
              omega
            rcases hj with rfl | rfl
            · cases hv
              exact ⟨g.1, by rw [hk]; rfl, rfl⟩
            · cases hv
              exact ⟨g.2, by rw [hk]; rfl, rfl⟩
          have hlm := List.mem_of_getElem? hl
          refine ⟨_, rfl, _, _, rfl, rfl, (show (0 : Int) ≤ 1 by decide), _, rfl, r, _, rfl, .inl (SqL.of (sy _ _ hc)), rfl, flat_vn _, _, rfl, ?_⟩
          show if (if true = true then !inV (.int ((l / 2 : Nat) : Int)) (vn cut) else inV (.int ((l / 2 : Nat) : Int)) (vn cut)) = true then _ else _
          rw [if_pos rfl, inV_vn]
          by_cases hin : l / 2 ∈ cut
          · rw [decide_eq_true hin]
            refine iteF ⟨_, ks2, rfl, sy, hdy, mky, sub, new, fun y hy => ?_⟩
            rw [take_snoc hl] at hy
            rcases List.mem_append.mp hy with hy | hy
            · exact part y hy
            · rw [List.mem_singleton.mp hy]
              exact .inl hin
          · rw [decide_eq_false hin]
            refine iteT ?_
            have lks := nodup_bound mky.nd (fun x hx => Nat.lt_of_le_of_lt (mky.b x hx).2.1 hg2)
            refine ⟨_, rfl, _, rfl, _, _, rfl, rfl, (show (0 : Int) ≤ 1 by decide), d, _, rfl, DPut.k (k := Sum.inl ((l / 2 : Nat) : Int)) hdy (by unfold mkD; rw [List.length_map]; exact small64k (by omega)), ?_⟩
            rw [mkD_put]
            have hs := (hsepk _ hlm).gate_of hin
            have hlt := bk _ hlm
            refine ⟨_, addN ks2 (l / 2), rfl, same_mut sy nd, upd_same, ⟨addN_nodup mky.nd _, (addN_mem _ _ _).mpr (.inl mky.g), fun x hx => ?_⟩, fun x hx => (addN_mem _ _ _).mpr (.inl (sub x hx)), fun x hx => ?_, fun y hy => ?_⟩
            · rcases (addN_mem _ _ _).mp hx with hx | rfl
              · exact mky.b x hx
              · exact ⟨hs.1, by omega, hin, hs.2.2⟩
            · rcases (addN_mem _ _ _).mp hx with hx | rfl
              · exact new x hx
              · exact .inr hlt
            · rw [take_snoc hl] at hy
              rcases List.mem_append.mp hy with hy | hy
              · exact (part y hy).imp id fun h => (addN_mem _ _ _).mpr (.inl h)
              · rw [List.mem_singleton.mp hy]
                exact .inr ((addN_mem _ _ _).mpr (.inr rfl))
        · rintro σ Hy ⟨y6, ks2, rfl, sy, hdy, mky, sub, new, part⟩
          refine ⟨_, _, ks2, rfl, sy, hdy, mky, fun x hx hlt y hy => ?_⟩
          have part : ∀ y ∈ kids n (gate - i), y ∈ cut ∨ y ∈ ks2 := fun y hy => part y (by rw [List.take_of_length_le (by rw [hk]; exact Nat.le_refl 2)]; exact hy)
          rcases new x hx with h | h
          · by_cases e : x = gate - i
            · subst e
              exact part y hy
            · have := (mk.b x h).2.1
              exact (done x h (by omega) y hy).imp id (sub y)
          · omega
      · rw [if_neg hm]
        refine iteF ⟨_, y6, ks, rfl, sx, hd, mk, fun x hx hlt y hy => done x hx ?_ y hy⟩
        have := (mk.b x hx).2.1
        have e : x ≠ gate - i := fun z => hm (z ▸ hx)
        omega
    · rintro σ Hx ⟨y5, y6, ks, rfl, sx, hd, mk, done⟩
      have lks := nodup_bound mk.nd (fun x hx => Nat.lt_of_le_of_lt (mk.b x hx).2.1 hg2)
      refine ⟨_, rfl, d, mkD ks, toI ks, rfl, .of hd, ?_, by rw [List.length_map]; omega, fun ys p pm srt np => ?_⟩
      · unfold mkD
        rw [List.map_map, List.map_map]
        rfl
      · obtain ⟨zs, rfl, h1, h2⟩ := perm_asc pm srt mk.nd
        refine q _ p zs (sx.trans (same_new np)) (none_of sx np) (by rw [upd_same, vn_int]) ⟨h1, (h2 _).mpr mk.g, fun x hx => ?_, fun x hx y hy => ?_⟩
        · have := mk.b x ((h2 x).mp hx)
          exact ⟨this.1, this.2.1, this.2.2.1⟩
        · have hx' := (h2 x).mp hx
          have hb := mk.b x hx'
          exact (done x hx' (by rw [ec]; omega) y hy).imp id (h2 y).mpr

end K45
namespace K45
open PySem PySem.Spec PyProof.Rows L2 V0
def sp_cut_bits (K : PySem.W.Frag) : Sp := fun vs H Q _ => ∃ (v : V) (n : Net) (gate : Nat) (r : Addr) (cut : List Nat) (k : Nat), vs = [v, .int gate, .ref r] ∧ Dv H v n ∧ TOk n ∧ n.base ≤ gate ∧ gate < n.many ∧ H r = some (.lst (vn cut)) ∧ k ≤ 4 ∧ IsCut n gate cut k ∧
  ∀ H', Same H H' → Q (.int (colOf n cut gate : Nat)) H'
theorem cb_putK_le (kvs : List (Key × V)) (k : Key) (v : V) : (putK kvs k v).length ≤ kvs.length + 1 := by
  unfold putK
  split
  · rw [List.length_map]
    omega
  · rw [List.length_append]
    exact Nat.le_refl _
theorem cpow1 {x : Nat} (h : x ≤ 1000000) : CPow 1 (x : Int) := ⟨Int.natCast_nonneg _, by omega, by decide⟩
theorem idx_at {cut : List Nat} (nd : cut.Nodup) {i x : Nat} (h : cut[i]? = some x) : cut.idxOf x = i := by
  obtain ⟨hi, e⟩ := List.getElem?_eq_some_iff.mp h
  rw [← e]
  exact nd.idxOf_getElem i hi
theorem asc_nodup {xs : List Nat} (h : xs.Pairwise (· < ·)) : xs.Nodup := h.imp fun {a b} h e => by omega
theorem ok_cut_bits {P : Program} {w : World} {K : PySem.W.Frag} {mg : Str → Option Value} {base : Heap} {f f_nodes_above fbase_of : Addr} {fd fd_nodes_above fdbase_of : FuncData} (F : Fun K "cut_bits" "cut_bits" s_cut_bits f fd) (T : Txt K mg)
    (G__nodes_above : FnOk P w K mg base CX0 2 f_nodes_above fd_nodes_above ["net", "gate", "cut"] (sp__nodes_above K)) (D__nodes_above : Def K mg "_nodes_above" f_nodes_above fd_nodes_above ["net", "gate", "cut"])
    (G_base_of : FnOk P w K mg base CX0 1 fbase_of fdbase_of ["net"] (sp_base_of K)) (D_base_of : Def K mg "base_of" fbase_of fdbase_of ["net"]) :
    FnOk P w K mg base CX0 3 f fd ["net", "gate", "cut"] (sp_cut_bits K) := by
  refine F.ok sccut_bits (fun vs H Q E h => ?_) (fun cdv A outer s H vs Q E hr h => ?_)
  · obtain ⟨v, n, gate, r, cut, k, rfl, _⟩ := h
    rfl
  · obtain ⟨v, n, gate, r, cut, k, rfl, hn, ok, hg1, hg2, hc, hk, ic, q⟩ := h
    have hn0 := hn
    have m16 := many16 ok
    have hcl := ic.len
    have ndc := asc_nodup ic.asc
    obtain ⟨a, aS, aG, aN, aO, rfl, hA, hS, hG, hN, hO⟩ := hn.net_inv
    obtain ⟨_, us, e, hGl, hus⟩ := hG.list_inv
    cases e
    have hM : 2 ^ cut.length ≤ 16 := Nat.le_trans (Nat.pow_le_pow_right (by decide) (show cut.length ≤ 4 by omega)) (by decide)
    have hMb : ∀ M, M = 2 ^ cut.length → M ≤ 16 := fun M e => by rw [e]; exact hM
    have hM2 : 2 ^ 2 ^ cut.length ≤ 65536 := Nat.le_trans (Nat.pow_le_pow_right (by decide) hM) (by decide)
    obtain ⟨MM, hMM⟩ : ∃ M, M = 2 ^ cut.length := ⟨_, rfl⟩
    have hMM16 := hMb MM hMM
    refine ⟨_, (pss_cons (ps_set (i := 3) sccut_bits.nd rfl (.inl rfl) (pe_op op_shl pe_int (pe_callB call_len_seq (by rfl) T.m_len (by decide +kernel) (pa_cons (pv 2) pa_nil))))
      (pss_cons (ps_set (i := 4) sccut_bits.nd rfl (.inr rfl) (pe_op op_sub (pe_op op_shl pe_int (pv 3)) pe_int))
      (pss_cons (ps_set (i := 5) sccut_bits.nd rfl (.inr rfl) pe_dnewK)
      (pss_cons (ps_for PassesOwn.never rfl (pi_enum (by rfl) T.m_enumerate (pa_cons (pv 2) pa_nil)) (pg_tup (by rfl) (pgs_cons (pg_name (i := 6) sccut_bits.nd rfl (Or.inr rfl)) (pgs_cons (pg_name (i := 7) sccut_bits.nd rfl (Or.inl rfl)) pgs_nil))) (pss_one (ps_dput (hu_of hr) (pv 5) (pv 7) (pe_callB (cr_sum rfl) (by rfl) T.m_sum (by decide +kernel) (pa_cons (pe_lc (own := [("number", 10)]) (g := gName 10) rfl sccut_bits.nd (pi_range1 rfl T.m_range (pa_cons (pv 3) pa_nil)) (blkOk_by (N := N_cut_bits) (sc := defScope s_cut_bits) (by decide +kernel)) (fun _ _ _ _ _ => (pg_name (i := 10) sccut_bits.nd rfl (Or.inl rfl))) (fun _ _ _ _ _ => (pts_one (pt_truthK (K := K) rfl (pe_op op_and (pe_op op_shr (pv 10) (pv 6)) pe_int) (by intro _; rfl)))) (fun _ _ _ _ _ => (pe_op op_shl pe_int (pv 10)))) pa_nil)) rfl)))
      (pss_cons (ps_for PassesOwn.never rfl (pi_list (pe_call G__nodes_above (hr.mono (by omega)) (by rfl) D__nodes_above.m D__nodes_above.k D__nodes_above.b .nil pass0 (pa_cons (pv 0) (pa_cons (pv 1) (pa_cons (pv 2) pa_nil))))) (pg_name (i := 7) sccut_bits.nd rfl (Or.inl rfl)) (pss_cons (ps_setLc (i := 8) (own := [("literal", 9)]) (g := gName 9) (tt := tYes) rfl sccut_bits.nd rfl rfl (sw_true rfl rfl rfl (by decide +kernel)) (pi_tup (pe_ix (r := rIxL K) ix_list (pe_ix (r := rIxT K) ix_tup (pv 0) pe_int (fun _ _ => rfl)) (pe_op op_sub (pv 7) (pe_call G_base_of (hr.mono (by omega)) (by rfl) D_base_of.m D_base_of.k D_base_of.b .nil pass0 (pa_cons (pv 0) pa_nil))) (fun _ _ => rfl))) (blkOk_by (N := N_cut_bits) (sc := defScope s_cut_bits) (by decide +kernel)) (fun _ _ _ _ _ => (pg_name (i := 9) sccut_bits.nd rfl (Or.inl rfl))) (fun _ _ _ _ _ => pts_nil) (fun _ _ _ _ _ => (pe_op op_xor (pe_dget (hu_of hr) (pv 5) (pe_op op_shr (pv 9) pe_int) (fun _ _ => rfl)) (pe_ifExp (pt_truthK (K := K) rfl (pe_op op_and (pv 9) pe_int) (by intro _; rfl)) (pv 4) pe_int))))
      (pss_one (ps_dput (hu_of hr) (pv 5) (pv 7) (pe_op op_and (pe_ix (r := rIxL K) ix_list (pv 8) pe_int (fun _ _ => rfl)) (pe_ix (r := rIxL K) ix_list (pv 8) pe_int (fun _ _ => rfl))) rfl))))
      (pss_one (ps_ret (pe_dget (hu_of hr) (pv 5) (pv 1) (fun _ _ => rfl))))))))), ?_⟩
    -- many, ones, told
    refine ⟨_, rfl, r, _, rfl, .inl (SqL.of hc), _, _, rfl, rfl, (by rw [vn_len]; exact cpow1 (by omega)), ?_⟩
    have e1 : V.int ((1 : Int) * 2 ^ (((vn cut).length : Nat) : Int).toNat) = V.int ((MM : Nat) : Int) := by rw [vn_len, shl_one, hMM]
    refine ⟨_, rfl, _, _, rfl, rfl, (by rw [vn_len, shl_one]; exact cpow1 (by omega)), _, _, rfl, rfl, ?_⟩
    have e2 : V.int ((1 : Int) * 2 ^ ((1 : Int) * 2 ^ (((vn cut).length : Nat) : Int).toNat).toNat - 1) = V.int ((2 ^ 2 ^ cut.length - 1 : Nat) : Int) := by
      rw [vn_len, shl_one, shl_one]
      have := Nat.two_pow_pos (2 ^ cut.length)
      rw [show ((2 ^ 2 ^ cut.length : Nat) : Int) - 1 = ((2 ^ 2 ^ cut.length - 1 : Nat) : Int) by omega]
    refine fun d nd => ?_
    have s0 := same_new (o := .dK []) nd
    refine ⟨_, rfl, r, _, rfl, SqL.of (s0 _ _ hc), for_it walk_enum (fun i σ Hx => ∃ (y6 y7 : Option V) (kvs : List (Key × V)), σ = [some (.ref a), some (.int gate), some (.ref r), some (.int ((MM : Nat) : Int)), some (.int ((2 ^ 2 ^ cut.length - 1 : Nat) : Int)), some (.ref d), y6, y7, none, none, none] ∧ Same H Hx ∧ Hx d = some (.dK kvs) ∧ kvs.length ≤ i ∧ ∀ j x, j < i → cut[j]? = some x → valV kvs (Sum.inl (x : Int)) = some (.int (colOf n cut x : Nat))) ⟨none, none, [], ?_, s0, upd_same, Nat.le_refl _, by omega⟩ (fun i σ Hx _ ⟨_, _, _, _, s', _⟩ => SqL.of (s' _ _ hc)) ?_ ?_⟩
    · show [some (V.ref a), some (V.int gate), some (V.ref r), some (V.int ((1 : Int) * 2 ^ (((vn cut).length : Nat) : Int).toNat)), some (V.int ((1 : Int) * 2 ^ ((1 : Int) * 2 ^ (((vn cut).length : Nat) : Int).toNat).toNat - 1)), some (V.ref d), none, none, none, none, none] = _
      rw [e1, e2]
    · rintro i v σ Hx Hx' hi ⟨y6, y7, kvs, rfl, sx, hd, lk, hk⟩ ⟨T1, x, y, rfl, nT, rfl, ex, ey⟩
      cases ex
      rw [vn_len] at hi
      have hx := List.getElem?_eq_getElem hi
      have ey : (vn cut)[i]? = some y := ey
      rw [vn_get hx] at ey
      cases ey
      have sT := same_new (o := .tup [.int (i : Nat), .int ((cut[i] : Nat) : Int)]) nT
      refine ⟨T1, _, rfl, SqT.of upd_same, rfl, _, _, rfl, _, _, rfl, rfl, ?_⟩
      have sy := sx.trans sT
      have hdy := sT _ _ hd
      refine ⟨_, rfl, _, rfl, by omega, by omega, fun D nD => lc_range (n := MM) (fun m Hz => Same (upd Hx T1 (.tup [.int (i : Nat), .int ((cut[i] : Nat) : Int)])) Hz ∧ Hz D = some (.lst (vn (((List.range m).filter fun x => decide (x / 2 ^ i % 2 = 1)).map fun x => 2 ^ x)))) ⟨same_new nD, upd_same⟩ ?_ ?_⟩
      · rintro m Hz hm ⟨sz, hp⟩
        refine ⟨rfl, _, rfl, _, rfl, _, _, rfl, rfl, Int.natCast_nonneg _, _, _, rfl, rfl, _, rfl, ?_⟩
        show if (Builtin.bitAnd ((0 + (m : Int)) / 2 ^ ((i : Int)).toNat) 1 != 0) = true then _ else _
        rw [Int.zero_add, shr_nat, band_one, List.range_succ, List.filter_append, List.map_append]
        rcases Nat.mod_two_eq_zero_or_one (m / 2 ^ i) with hb | hb
        · rw [hb]
          refine iteF ⟨sz, ?_⟩
          rw [hp, show [m].filter (fun x => decide (x / 2 ^ i % 2 = 1)) = [] by simp [hb], List.map_nil, List.append_nil]
        · rw [hb]
          refine iteT ⟨_, rfl, _, _, rfl, rfl, cpow1 (by omega), _, hp, ?_, same_mut sz nD, ?_⟩
          · rw [vn_len, List.length_map]
            exact small64k (Nat.le_trans (List.length_filter_le _ _) (by rw [List.length_range]; omega))
          · rw [upd_same, List.filter_append, List.map_append, show [m].filter (fun x => decide (x / 2 ^ i % 2 = 1)) = [m] by simp [hb], List.map_cons, List.map_nil, ← vn_snoc]
            show some (HO.lst (_ ++ [V.int (1 * 2 ^ ((m : Int)).toNat)])) = _
            rw [shl_one]
      rintro Hz ⟨sz, hp⟩
      have hdz := sz _ _ hdy
      refine ⟨D, toI _, rfl, SqL.of (by rw [hp, vn_int]), _, rfl, _, rfl, d, _, rfl, DPut.k (k := Sum.inl ((cut[i] : Nat) : Int)) hdz (small64k (by omega)), ?_⟩
      have ev : colOf n cut cut[i] = (((List.range MM).filter fun x => decide (x / 2 ^ i % 2 = 1)).map fun x => 2 ^ x).sum := by
        rw [colOf_hit (List.getElem_mem hi), idx_at ndc hx, hMM]
        exact (sum_pows _ (fun m => m / 2 ^ i % 2) fun m _ => Nat.mod_lt _ (by decide)).symm
      rw [sum_int, ← ev]
      refine ⟨_, _, putK kvs (Sum.inl ((cut[i] : Nat) : Int)) (.int (colOf n cut cut[i] : Nat)), rfl, same_mut (sy.trans sz) nd, upd_same, Nat.le_trans (cb_putK_le _ _ _) (by omega), fun j x' hj hx' => ?_⟩
      rw [valV_put]
      by_cases e : x' = cut[i]
      · rw [if_pos (by rw [e]), e]
      · rw [if_neg (fun z => e (by have := Sum.inl.inj z; omega))]
        refine hk j x' ?_ hx'
        rcases Nat.lt_or_ge j i with h | h
        · exact h
        · exfalso
          have : j = i := by omega
          subst this
          rw [hx] at hx'
          exact e (Option.some.inj hx').symm
    rintro σ Hx ⟨y6, y7, kvs, rfl, sx, hd, lk, hk⟩
    rw [vn_len] at lk hk
    have hkc : ∀ x ∈ cut, valV kvs (Sum.inl (x : Int)) = some (.int (colOf n cut x : Nat)) := fun x hx => by
      obtain ⟨j, hj, e⟩ := List.getElem_of_mem hx
      exact hk j x hj (by rw [List.getElem?_eq_getElem hj, e])
    -- the nodes above
    refine ⟨_, rfl, _, rfl, _, rfl, .ref a, n, gate, r, cut, k, rfl, hn0.same sx, ok, hg1, hg2, sx _ _ hc, ic, fun H3 pA ab s3 n3 e3 abv => ?_⟩
    have s03 := sx.trans s3
    refine ⟨pA, rfl, ⟨_, SqL.of e3⟩, for_list (xs := vn ab) (fun i σ Hy => ∃ (y7 y8 : Option V) (kv : List (Key × V)), σ = [some (.ref a), some (.int gate), some (.ref r), some (.int ((MM : Nat) : Int)), some (.int ((2 ^ 2 ^ cut.length - 1 : Nat) : Int)), some (.ref d), y6, y7, y8, none, none] ∧ Same H Hy ∧ Hy pA = some (.lst (vn ab)) ∧ Hy d = some (.dK kv) ∧ kv.length ≤ 4 + i ∧ (∀ x ∈ cut, valV kv (Sum.inl (x : Int)) = some (.int (colOf n cut x : Nat))) ∧ ∀ x ∈ ab.take i, valV kv (Sum.inl (x : Int)) = some (.int (colOf n cut x : Nat))) ⟨y7, none, kvs, rfl, s03, e3, s3 _ _ hd, by omega, hkc, by simp⟩ (fun i σ Hy _ ⟨_, _, _, _, _, h, _⟩ => SqL.of h) ?_ ?_⟩
    · rintro i v σ Hy hv ⟨y7, y8, kv, rfl, sy, eA, hdy, lkv, vc, va⟩
      have hi : i < ab.length := by
        have h := (List.getElem?_eq_some_iff.mp hv).1
        rw [vn_len] at h
        exact h
      have hx := List.getElem?_eq_getElem hi
      rw [vn_get hx] at hv
      cases hv
      have hxm := List.getElem_mem hi
      generalize ab[i] = x at hx hxm
      have hb := abv.b x hxm
      have lab := nodup_bound (asc_nodup abv.asc) (fun x hx => Nat.lt_of_le_of_lt (abv.b x hx).2.1 hg2)
      obtain ⟨g, hg, hkd⟩ := kids_gate hb.1 (show x < n.many by omega)
      obtain ⟨u, hu, du⟩ := hus.get hg
      obtain ⟨t, u1, u2, rfl, ht, hx1, hx2⟩ := du.pair_inv
      have hx1 := hx1.nat_inv
      have hx2 := hx2.nat_inv
      subst hx1 hx2
      -- a kid's column is known
      have known : ∀ y ∈ kids n x, valV kv (Sum.inl (y : Int)) = some (.int (colOf n cut y : Nat)) := by
        intro y hy
        rcases abv.k x hxm y hy with h | h
        · exact vc y h
        · have hlt := (ok.kid hy).2.1
          obtain ⟨j, hj, e⟩ := List.getElem_of_mem h
          refine va y ?_
          have hji : j < i := by
            rcases Nat.lt_or_ge j i with h | h
            · exact h
            · exfalso
              have hxi : ab[i] = x := by
                have := hx
                rw [List.getElem?_eq_getElem hi] at this
                exact Option.some.inj this
              rcases Nat.lt_or_ge i j with h2 | h2
              · have := List.pairwise_iff_getElem.mp abv.asc i j hi hj h2
                omega
              · have : i = j := by omega
                subst this
                omega
          rw [← e]
          exact List.mem_take_iff_getElem.mpr ⟨j, by omega, rfl⟩
      have k1 : g.1 / 2 ∈ kids n x := by rw [hkd]; simp
      have k2 : g.2 / 2 ∈ kids n x := by rw [hkd]; simp
      refine ⟨_, rfl, a, _, 3, _, rfl, rfl, SqT.of (sy _ _ hA), atI_nat (j := 3) rfl, _, rfl, _, rfl, .ref a, n, rfl, hn0.same sy, _, _, rfl, rfl, aG, _, _, _, rfl, rfl, SqL.of (sy _ _ hGl), (by rw [show (x : Int) - (n.base : Int) = ((x - n.base : Nat) : Int) by omega]; exact atI_nat hu), t, rfl, ⟨_, SqT.of (sy _ _ ht)⟩, fun D nD => lc_tup (xs := [.int (g.1 : Int), .int (g.2 : Int)]) (fun j Hz => Same Hy Hz ∧ Hz D = some (.lst (vn ([colOf n cut (g.1 / 2) ^^^ (if g.1 % 2 = 1 then 2 ^ 2 ^ cut.length - 1 else 0), colOf n cut (g.2 / 2) ^^^ (if g.2 % 2 = 1 then 2 ^ 2 ^ cut.length - 1 else 0)].take j)))) ⟨same_new nD, upd_same⟩ (fun j Hz _ h => SqT.of (h.1 _ _ (sy _ _ ht))) ?_ ?_⟩
      · rintro j v Hz hv ⟨sz, hp⟩
        obtain ⟨l, hl, rfl, hacc⟩ : ∃ l : Nat, l / 2 ∈ kids n x ∧ v = V.int (l : Int) ∧ ([colOf n cut (g.1 / 2) ^^^ (if g.1 % 2 = 1 then 2 ^ 2 ^ cut.length - 1 else 0), colOf n cut (g.2 / 2) ^^^ (if g.2 % 2 = 1 then 2 ^ 2 ^ cut.length - 1 else 0)] : List Nat)[j]? = some (colOf n cut (l / 2) ^^^ (if l % 2 = 1 then 2 ^ 2 ^ cut.length - 1 else 0)) := by
          have hj : j = 0 ∨ j = 1 := by
            have h : j < 2 := (List.getElem?_eq_some_iff.mp hv).1
            omega
          rcases hj with rfl | rfl
          · cases hv
            exact ⟨g.1, k1, rfl, rfl⟩
          · cases hv
            exact ⟨g.2, k2, rfl, rfl⟩
        refine ⟨rfl, _, rfl, _, rfl, _, _, rfl, rfl, (show (0 : Int) ≤ 1 by decide), d, _, rfl, (by rw [← known _ hl]; exact DGet.k (k := Sum.inl ((l / 2 : Nat) : Int)) (sz _ _ hdy)), _, rfl, _, _, rfl, rfl, _, rfl, ?_⟩
        show if (Builtin.bitAnd (l : Int) 1 != 0) = true then _ else _
        rw [band_one]
        have fin : ∀ w : Nat, (if l % 2 = 1 then 2 ^ 2 ^ cut.length - 1 else 0) = w → ∃ acc, Hz D = some (.lst acc) ∧ acc.length < sizeLine ∧ Same Hy (upd Hz D (.lst (acc ++ [V.int (Builtin.bitXor ((colOf n cut (l / 2) : Nat) : Int) (w : Int))]))) ∧ (upd Hz D (.lst (acc ++ [V.int (Builtin.bitXor ((colOf n cut (l / 2) : Nat) : Int) (w : Int))]))) D = some (.lst (vn ([colOf n cut (g.1 / 2) ^^^ (if g.1 % 2 = 1 then 2 ^ 2 ^ cut.length - 1 else 0), colOf n cut (g.2 / 2) ^^^ (if g.2 % 2 = 1 then 2 ^ 2 ^ cut.length - 1 else 0)].take (j + 1)))) := by
          intro w hw
          refine ⟨_, hp, ?_, same_mut sz nD, ?_⟩
          · rw [vn_len, List.length_take]
            exact small64k (by show min j 2 ≤ _; omega)
          · rw [upd_same, bxor, vn_snoc, take_snoc hacc, hw]
        rcases Nat.mod_two_eq_zero_or_one l with hb | hb
        · rw [hb]
          refine iteF ⟨_, _, rfl, rfl, ?_⟩
          exact fin 0 (by rw [if_neg (by omega)])
        · rw [hb]
          refine iteT ⟨_, rfl, _, _, rfl, rfl, ?_⟩
          exact fin _ (by rw [if_pos hb])
      · rintro Hz ⟨sz, hp⟩
        have hdz := sz _ _ hdy
        refine ⟨_, rfl, D, _, 0, _, rfl, rfl, SqL.of hp, atI_nat (j := 0) rfl, _, rfl, D, _, 1, _, rfl, rfl, SqL.of hp, atI_nat (j := 1) rfl, _, _, rfl, rfl, _, rfl, _, rfl, d, _, rfl, DPut.k (k := Sum.inl (x : Int)) hdz (small64k (by omega)), ?_⟩
        have hgb := ok.g _ _ hg
        have ev := colOf_gate (n := n) (cut := cut) hb.2.2 hg (by omega) (by omega)
        refine ⟨_, _, putK kv (Sum.inl (x : Int)) (.int (colOf n cut x : Nat)), rfl, same_mut (sy.trans sz) nd, ?_, ?_, Nat.le_trans (cb_putK_le _ _ _) (by omega), fun y hy => ?_, fun y hy => ?_⟩
        · rw [upd_ne (ne_of eA hdy (by intro z; cases z))]
          exact sz _ _ eA
        · rw [upd_same, ev, ← band]
        · rw [valV_put]
          by_cases e : y = x
          · rw [if_pos (by rw [e]), e]
          · rw [if_neg (fun z => e (by have := Sum.inl.inj z; omega))]
            exact vc y hy
        · rw [valV_put]
          by_cases e : y = x
          · rw [if_pos (by rw [e]), e]
          · rw [if_neg (fun z => e (by have := Sum.inl.inj z; omega))]
            rw [take_snoc hx] at hy
            rcases List.mem_append.mp hy with hy | hy
            · exact va y hy
            · exact absurd (List.mem_singleton.mp hy) e
    · rintro σ Hy ⟨y7, y8, kv, rfl, sy, eA, hdy, lkv, vc, va⟩
      rw [vn_len, List.take_length] at va
      exact ⟨_, rfl, _, rfl, d, _, rfl, (by rw [← va gate abv.g]; exact DGet.k (k := Sum.inl (gate : Int)) hdy), q Hy sy⟩

end K45
namespace K45
open PySem PySem.Spec PyProof.Rows L2 V0
/-! ### the law's own table -/
def GB (M : Nat) : Sp := fun vs H Q _ => ∃ (v : V) (n : Net) (x m : Nat) (d : Addr) (cut : List Nat) (kvs : List (Key × V)), vs = [v, .int x, .ref d] ∧ Dv H v n ∧ TOk n ∧ Sep n cut x ∧ x < n.many ∧ x < M ∧ H d = some (.dK kvs) ∧ (∀ y : Nat, valV kvs (Sum.inl (y : Int)) = (kn cut m y).map fun (b : Nat) => V.int (b : Int)) ∧ Q (.int (gbit n (kn cut m) x : Nat)) H
def sp__law_gate_bit (K : PySem.W.Frag) : Sp := GB 16
theorem gate_bit_ind {P : Program} {w : World} {K : PySem.W.Frag} {mg : Str → Option Value} {base : Heap} {f f_law_first : Addr} {fd fd_law_first : FuncData} (F : Fun K "_law_gate_bit" "_law_gate_bit" s__law_gate_bit f fd) (T : Txt K mg)
    (G__law_first : FnOk P w K mg base CX0 1 f_law_first fd_law_first ["net"] (sp__law_first K)) (D__law_first : Def K mg "_law_first" f_law_first fd_law_first ["net"]) (D__law_gate_bit : Def K mg "_law_gate_bit" f fd ["net", "node", "known"]) :
    ∀ M, FnOk P w K mg base CX0 (M + 2) f fd ["net", "node", "known"] (GB M)
  | 0 => by
    refine ⟨fun vs H Q E h => ?_, fun A outer s H args us vs Q E hr he hb hv h => ?_⟩
    · obtain ⟨v, n, x, m, d, cut, kvs, rfl, _⟩ := h
      rfl
    · obtain ⟨v, n, x, m, d, cut, kvs, _, _, _, _, _, lt, _⟩ := h
      exact absurd lt (Nat.not_lt_zero _)
  | M + 1 => by
    have G__law_gate_bit := gate_bit_ind F T G__law_first D__law_first D__law_gate_bit M
    refine F.ok sc_law_gate_bit (fun vs H Q E h => ?_) (fun cdv A outer s H vs Q E hr h => ?_)
    · obtain ⟨v, n, x, m, d, cut, kvs, rfl, _⟩ := h
      rfl
    · obtain ⟨v, n, x, m, d, cut, kvs, rfl, hn, ok, sp, xm, lt, hd, look, q⟩ := h
      have hn0 := hn
      have m16 := many16 ok
      obtain ⟨a, aS, aG, aN, aO, rfl, hA, hS, hG, hN, hO⟩ := hn.net_inv
      obtain ⟨_, us, e, hGl, hus⟩ := hG.list_inv
      cases e
      refine ⟨_, (pss_cons (ps_if (pt_cmp (pc_din (hu_of hr) (pv 1) (pv 2))) (pss_one (ps_ret (pe_dget (hu_of hr) (pv 2) (pv 1) (fun _ _ => rfl)))) pss_nil)
      (pss_cons (ps_asg (pe_ix (r := rIxL K) ix_list (pe_ix (r := rIxT K) ix_tup (pv 0) pe_int (fun _ _ => rfl)) (pe_op op_sub (pv 1) (pe_call G__law_first (hr.mono (by omega)) (by rfl) D__law_first.m D__law_first.k D__law_first.b .nil pass0 (pa_cons (pv 0) pa_nil))) (fun _ _ => rfl)) (pg_tup (by rfl) (pgs_cons (pg_name (i := 3) sc_law_gate_bit.nd rfl (Or.inl rfl)) (pgs_cons (pg_name (i := 4) sc_law_gate_bit.nd rfl (Or.inl rfl)) pgs_nil))))
      (pss_cons (ps_set (i := 5) sc_law_gate_bit.nd rfl (.inl rfl) (pe_op op_xor (pe_call G__law_gate_bit (hr.mono (by omega)) (by rfl) D__law_gate_bit.m D__law_gate_bit.k D__law_gate_bit.b .nil pass0 (pa_cons (pv 0) (pa_cons (pe_op op_fdivN (pv 3) pe_int) (pa_cons (pv 2) pa_nil)))) (pe_op op_modN (pe_callTy call_int1 (by rfl) T.m_int (by decide +kernel) (pa_cons (pv 3) pa_nil)) pe_int)))
      (pss_one (ps_ret (pe_op op_mul (pv 5) (pe_op op_xor (pe_call G__law_gate_bit (hr.mono (by omega)) (by rfl) D__law_gate_bit.m D__law_gate_bit.k D__law_gate_bit.b .nil pass0 (pa_cons (pv 0) (pa_cons (pe_op op_fdivN (pv 4) pe_int) (pa_cons (pv 2) pa_nil)))) (pe_op op_modN (pe_callTy call_int1 (by rfl) T.m_int (by decide +kernel) (pa_cons (pv 4) pa_nil)) pe_int)))))))), ?_⟩
      refine ⟨_, rfl, _, rfl, d, _, rfl, DGet.k (k := Sum.inl (x : Int)) hd, _, rfl, ?_⟩
      rw [look x]
      by_cases hx : x ∈ cut
      · have ek : kn cut m x = some (m / 2 ^ (cut.idxOf x) % 2) := if_pos hx
        rw [gbit_hit ek] at q
        have lx : valV kvs (Sum.inl (x : Int)) = some (V.int ((m / 2 ^ (cut.idxOf x) % 2 : Nat) : Int)) := by
          rw [look x, ek]
          rfl
        rw [ek]
        refine iteT ⟨_, rfl, _, rfl, d, _, rfl, (by rw [← lx]; exact DGet.k (k := Sum.inl (x : Int)) hd), q⟩
      · have ek : kn cut m x = none := if_neg hx
        rw [ek]
        refine iteF ?_
        obtain ⟨hb1, hb2, hk⟩ := sp.gate_of hx
        obtain ⟨g, hg, hkd⟩ := kids_gate hb1 hb2
        have hgb := ok.g _ _ hg
        rw [gbit_gate ek hg (by omega) (by omega)] at q
        obtain ⟨u, hu, du⟩ := hus.get hg
        obtain ⟨t, u1, u2, rfl, ht, hx1, hx2⟩ := du.pair_inv
        have hx1 := hx1.nat_inv
        have hx2 := hx2.nat_inv
        subst hx1 hx2
        have s1 := hk (g.1 / 2) (by rw [hkd]; simp)
        have s2 := hk (g.2 / 2) (by rw [hkd]; simp)
        have lit : ∀ l : Nat, ((l : Int)).fmod 2 = ((l % 2 : Nat) : Int) := nfmod2
        refine ⟨_, rfl, a, _, 3, _, rfl, rfl, SqT.of hA, atI_nat (j := 3) rfl, _, rfl, _, rfl, .ref a, n, rfl, hn0, _, _, rfl, rfl, aG, _, _, _, rfl, rfl, SqL.of hGl, (by rw [show (x : Int) - (n.base : Int) = ((x - n.base : Nat) : Int) by omega]; exact atI_nat hu), t, _, rfl, SqT.of ht, rfl, _, _, rfl, _, _, rfl, rfl, ?_⟩
        have xo : ∀ (b l : Nat), V.int (Builtin.bitXor (b : Int) ((l : Int).fmod 2)) = V.int ((b ^^^ (l % 2) : Nat) : Int) := fun b l => by rw [nfmod2, bxor]
        have bl : ∀ l y : Nat, gbit n (kn cut m) y ^^^ (l % 2) < 2 := fun l y => Nat.xor_lt_two_pow (n := 1) (gbit_lt (kn_lt cut m) y) (Nat.mod_lt _ (by decide))
        refine ⟨_, rfl, _, rfl, _, _, rfl, rfl, ⟨by decide, by decide⟩, _, rfl, .ref a, n, g.1 / 2, m, d, cut, kvs, (show [V.ref a, V.int ((g.1 : Int).fdiv 2), V.ref d] = _ by rw [nfdiv2]), hn0, ok, s1, by omega, by omega, hd, look, _, rfl, .inl ⟨_, rfl, _, _, rfl, rfl, (show (2 : Int) ≠ 0 by decide), _, _, rfl, rfl, ?_⟩⟩
        simp only [xo]
        refine ⟨_, rfl, _, rfl, _, rfl, _, _, rfl, rfl, ⟨by decide, by decide⟩, _, rfl, .ref a, n, g.2 / 2, m, d, cut, kvs, (show [V.ref a, V.int ((g.2 : Int).fdiv 2), V.ref d] = _ by rw [nfdiv2]), hn0, ok, s2, by omega, by omega, hd, look, _, rfl, .inl ⟨_, rfl, _, _, rfl, rfl, (show (2 : Int) ≠ 0 by decide), _, _, rfl, rfl, ?_⟩⟩
        simp only [xo]
        have b1 := bl g.1 (g.1 / 2)
        have b2 := bl g.2 (g.2 / 2)
        refine ⟨_, _, rfl, rfl, .inl ⟨by omega, by omega⟩, ?_⟩
        simp only [← Int.natCast_mul]
        exact q
theorem ok__law_gate_bit {P : Program} {w : World} {K : PySem.W.Frag} {mg : Str → Option Value} {base : Heap} {f f_law_first : Addr} {fd fd_law_first : FuncData} (F : Fun K "_law_gate_bit" "_law_gate_bit" s__law_gate_bit f fd) (T : Txt K mg)
    (G__law_first : FnOk P w K mg base CX0 1 f_law_first fd_law_first ["net"] (sp__law_first K)) (D__law_first : Def K mg "_law_first" f_law_first fd_law_first ["net"])
    (D__law_gate_bit : Def K mg "_law_gate_bit" f fd ["net", "node", "known"]) :
    FnOk P w K mg base CX0 30 f fd ["net", "node", "known"] (sp__law_gate_bit K) := by
  exact (gate_bit_ind F T G__law_first D__law_first D__law_gate_bit 16).mono (by decide)
/-- the cut's values in the dict -/
theorem known_of {cut : List Nat} {m : Nat} {kvs : List (Key × V)} (nd : cut.Nodup) (h1 : ∀ (j y : Nat), cut[j]? = some y → valV kvs (Sum.inl (y : Int)) = some (.int ((m / 2 ^ j % 2 : Nat) : Int))) (h2 : ∀ y : Nat, y ∉ cut → valV kvs (Sum.inl (y : Int)) = none) (y : Nat) :
    valV kvs (Sum.inl (y : Int)) = (kn cut m y).map fun (b : Nat) => V.int (b : Int) := by
  unfold kn
  by_cases h : y ∈ cut
  · rw [if_pos h]
    have hi := List.idxOf_lt_length_of_mem h
    have e : cut[cut.idxOf y]? = some y := by rw [List.getElem?_eq_getElem hi, List.getElem_idxOf]
    rw [h1 _ _ e]
    rfl
  · rw [if_neg h, h2 y h]
    rfl
def sp__law_cut_bits (K : PySem.W.Frag) : Sp := fun vs H Q _ => ∃ (v : V) (n : Net) (gate : Nat) (r : Addr) (cut : List Nat) (k : Nat), vs = [v, .int gate, .ref r] ∧ Dv H v n ∧ TOk n ∧ n.base ≤ gate ∧ gate < n.many ∧ H r = some (.lst (vn cut)) ∧ k ≤ 4 ∧ IsCut n gate cut k ∧
  ∀ H', Same H H' → Q (.int (colOf n cut gate : Nat)) H'
theorem ok__law_cut_bits {P : Program} {w : World} {K : PySem.W.Frag} {mg : Str → Option Value} {base : Heap} {f f_law_gate_bit : Addr} {fd fd_law_gate_bit : FuncData} (F : Fun K "_law_cut_bits" "_law_cut_bits" s__law_cut_bits f fd) (T : Txt K mg)
    (G__law_gate_bit : FnOk P w K mg base CX0 30 f_law_gate_bit fd_law_gate_bit ["net", "node", "known"] (sp__law_gate_bit K)) (D__law_gate_bit : Def K mg "_law_gate_bit" f_law_gate_bit fd_law_gate_bit ["net", "node", "known"]) :
    FnOk P w K mg base CX0 31 f fd ["net", "gate", "cut"] (sp__law_cut_bits K) := by
  refine F.ok sc_law_cut_bits (fun vs H Q E h => ?_) (fun cdv A outer s H vs Q E hr h => ?_)
  · obtain ⟨v, n, gate, r, cut, k, rfl, _⟩ := h
    rfl
  · obtain ⟨v, n, gate, r, cut, k, rfl, hn, ok, hg1, hg2, hc, hk, ic, q⟩ := h
    have m16 := many16 ok
    have hcl := ic.len
    have ndc := asc_nodup ic.asc
    have sepg : Sep n cut gate := by
      obtain ⟨g, hg, hkd⟩ := kids_gate hg1 hg2
      exact .gate hg1 hg (ic.sep _ (by rw [hkd]; simp)) (ic.sep _ (by rw [hkd]; simp))
    have hM : ∀ M, M = 2 ^ cut.length → M ≤ 16 := fun M e => by rw [e]; exact Nat.le_trans (Nat.pow_le_pow_right (by decide) (show cut.length ≤ 4 by omega)) (by decide)
    obtain ⟨MM, hMM⟩ : ∃ M, M = 2 ^ cut.length := ⟨_, rfl⟩
    have hMM16 := hM MM hMM
    have e1 : V.int ((1 : Int) * 2 ^ (((vn cut).length : Nat) : Int).toNat) = V.int ((MM : Nat) : Int) := by rw [vn_len, shl_one, hMM]
    refine ⟨_, (pss_cons (ps_set (i := 3) sc_law_cut_bits.nd rfl (.inl rfl) pe_int)
      (pss_cons (ps_for PassesOwn.never rfl (pi_range1 rfl T.m_range (pa_cons (pe_op op_shl pe_int (pe_callB call_len_seq (by rfl) T.m_len (by decide +kernel) (pa_cons (pv 2) pa_nil))) pa_nil)) (pg_name (i := 4) sc_law_cut_bits.nd rfl (Or.inl rfl)) (pss_cons (ps_set (i := 5) sc_law_cut_bits.nd rfl (.inl rfl) pe_dnewK)
      (pss_cons (ps_for PassesOwn.never rfl (pi_range1 rfl T.m_range (pa_cons (pe_callB call_len_seq (by rfl) T.m_len (by decide +kernel) (pa_cons (pv 2) pa_nil)) pa_nil)) (pg_name (i := 6) sc_law_cut_bits.nd rfl (Or.inl rfl)) (pss_one (ps_dput (hu_of hr) (pv 5) (pe_ix (r := rIxL K) ix_list (pv 2) (pv 6) (fun _ _ => rfl)) (pe_op op_and (pe_op op_shr (pv 4) (pv 6)) pe_int) rfl)))
      (pss_one (ps_set (i := 3) sc_law_cut_bits.nd rfl (.inl rfl) (pe_op op_add (pv 3) (pe_op op_shl (pe_call G__law_gate_bit (hr.mono (by omega)) (by rfl) D__law_gate_bit.m D__law_gate_bit.k D__law_gate_bit.b .nil pass0 (pa_cons (pv 0) (pa_cons (pv 1) (pa_cons (pv 5) pa_nil)))) (pv 4))))))))
      (pss_one (ps_ret (pv 3))))), ?_⟩
    refine ⟨_, rfl, r, _, rfl, .inl (SqL.of hc), _, _, rfl, rfl, (by rw [vn_len]; exact cpow1 (by omega)), ?_⟩
    show ∃ j, [V.int ((1 : Int) * 2 ^ (((vn cut).length : Nat) : Int).toNat)] = [V.int j] ∧ _
    rw [e1]
    refine ⟨_, rfl, by omega, by omega, for_range (n := MM) (fun m σ Hx => ∃ (y4 y5 y6 : Option V), σ = [some v, some (.int gate), some (.ref r), some (.int ((colN m fun j => gbit n (kn cut j) gate : Nat) : Int)), y4, y5, y6] ∧ Same H Hx) ⟨none, none, none, rfl, fun _ _ h => h⟩ ?_ ?_⟩
    · rintro m σ Hx hm ⟨y4, y5, y6, rfl, sx⟩
      rw [show (0 : Int) + (m : Int) = (m : Int) by omega]
      refine fun d nd => ?_
      have s0 := same_new (o := .dK []) nd
      refine ⟨_, rfl, r, _, rfl, .inl (SqL.of (s0 _ _ (sx _ _ hc))), _, rfl, (by rw [vn_len]; omega), (by rw [vn_len]; omega), for_range (n := (vn cut).length) (fun i σ Hy => ∃ (y6 : Option V) (kvs : List (Key × V)), σ = [some v, some (.int gate), some (.ref r), some (.int ((colN m fun j => gbit n (kn cut j) gate : Nat) : Int)), some (.int (m : Int)), some (.ref d), y6] ∧ Same Hx Hy ∧ Hy d = some (.dK kvs) ∧ kvs.length ≤ i ∧ (∀ (j y : Nat), j < i → cut[j]? = some y → valV kvs (Sum.inl (y : Int)) = some (.int ((m / 2 ^ j % 2 : Nat) : Int))) ∧ ∀ y : Nat, y ∉ cut → valV kvs (Sum.inl (y : Int)) = none) ⟨y6, [], rfl, s0, upd_same, Nat.le_refl _, by omega, fun _ _ => rfl⟩ ?_ ?_⟩
      · rintro i σ Hy hi ⟨y6, kvs, rfl, sy, hd, lk, h1, h2⟩
        rw [vn_len] at hi
        have hx := List.getElem?_eq_getElem hi
        rw [show (0 : Int) + (i : Int) = (i : Int) by omega]
        refine ⟨_, rfl, _, rfl, _, _, rfl, rfl, Int.natCast_nonneg _, _, _, rfl, rfl, ?_⟩
        simp only [shr_nat, band_one]
        refine ⟨_, rfl, _, rfl, _, rfl, r, _, _, _, rfl, rfl, SqL.of (sy _ _ (sx _ _ hc)), atI_nat (vn_get hx), d, _, rfl, DPut.k (k := Sum.inl ((cut[i] : Nat) : Int)) hd (small64k (by omega)), ?_⟩
        refine ⟨_, _, rfl, same_mut sy nd, upd_same, Nat.le_trans (cb_putK_le _ _ _) (by omega), fun j y hj hy => ?_, fun y hy => ?_⟩
        · rw [valV_put]
          by_cases e : y = cut[i]
          · rw [if_pos (by rw [e])]
            have : j = i := by
              have a := idx_at ndc hy
              have b := idx_at ndc hx
              rw [e] at a
              omega
            rw [this]
          · rw [if_neg (fun z => e (by have := Sum.inl.inj z; omega))]
            refine h1 j y ?_ hy
            rcases Nat.lt_or_ge j i with h | h
            · exact h
            · exfalso
              have : j = i := by omega
              subst this
              rw [hx] at hy
              exact e (Option.some.inj hy).symm
        · rw [valV_put, if_neg (fun z => hy (by have := Sum.inl.inj z; rw [show y = cut[i] by omega]; exact List.getElem_mem hi))]
          exact h2 y hy
      · rintro σ Hy ⟨y6, kvs, rfl, sy, hd, lk, h1, h2⟩
        rw [vn_len] at h1
        have kno := known_of ndc (fun j y e => h1 j y (List.getElem?_eq_some_iff.mp e).1 e) h2
        have gl := gbit_lt (n := n) (kn_lt cut m) gate
        refine ⟨_, rfl, _, rfl, _, rfl, _, rfl, v, n, gate, m, d, cut, kvs, rfl, (hn.same sx).same sy, ok, sepg, hg2, by omega, hd, kno, _, rfl, _, _, rfl, rfl, ⟨Int.natCast_nonneg _, by omega, by omega⟩, _, _, rfl, rfl, ?_⟩
        simp only [shl_nat, ← Int.natCast_add, ← col_succ]
        exact ⟨_, _, _, rfl, sx.trans sy⟩
    · rintro σ Hx ⟨y4, y5, y6, rfl, sx⟩
      refine ⟨_, rfl, ?_⟩
      rw [hMM]
      exact q Hx sx
theorem dummy : True := trivial
end K45
namespace K45
open PySem PySem.Spec PyProof.Rows L2 V0
/-! ### the law -/
theorem tidy_small {n : Net} (ok : TOk n) (few : Few n) : ∃ m, m ≤ 2 ^ 20 ∧ Sm (PySem.W.Datum.toD n) m := by
  have hm := many16 ok
  have hg : ∀ g ∈ n.gates, Sm (PySem.W.Datum.toD g) 82 := fun g hg => by
    obtain ⟨j, hj, e⟩ := List.getElem_of_mem hg
    have h := ok.g j g (by rw [List.getElem?_eq_getElem hj, e])
    have hb : n.base + j < 16 := by unfold Net.many at hm; omega
    exact Sm.tup ((SmA.cons (Sm.nat (n := g.1) (by omega)) (SmA.cons (Sm.nat (n := g.2) (by omega)) SmA.nil)))
  have s0 : Sm (.str "net") 40 := ⟨by decide +kernel, by decide +kernel, by decide +kernel⟩
  have i4 := ok.i4
  have h1 := Sm.nat (n := n.ins) (by omega)
  have h2 := Sm.nats (xs := n.starts) fun x hx => by have := few.bits x hx; omega
  have h3 := Sm.of_list hg
  have h4 := Sm.nats (xs := n.nexts) fun x hx => by have := few.nx x hx; omega
  have h5 := Sm.nats (xs := n.outs) fun x hx => by have := few.ox x hx; omega
  refine ⟨_, ?_, Sm.tup (SmA.cons s0 (SmA.cons h1 (SmA.cons h2 (SmA.cons h3 (SmA.cons h4 (SmA.cons h5 SmA.nil))))))⟩
  have := ok.fl
  have := ok.gl
  have := few.nl
  have := few.ol
  omega
def sp_law (K : PySem.W.Frag) : Sp := fun vs H Q _ => ∃ (a : Addr) (ns : List Int), vs = [.ref a] ∧ SqL K H a (ns.map V.int) ∧ ns.length ≤ 63 ∧ ∀ H', Q (.bl true) H'
theorem ok_law {P : Program} {w : World} {K : PySem.W.Frag} {mg : Str → Option Value} {base : Heap} {f f_law_state f_law_tidy_net f_law_cut f_law_draw f_law_first f_law_is_cut fcut_bits f_law_cut_bits : Addr} {fd fd_law_state fd_law_tidy_net fd_law_cut fd_law_draw fd_law_first fd_law_is_cut fdcut_bits fd_law_cut_bits : FuncData} (F : Fun K "law" "law" s_law f fd) (T : Txt K mg)
    (G__law_state : FnOk P w K mg base CX0 1 f_law_state fd_law_state ["script"] (sp__law_state K)) (D__law_state : Def K mg "_law_state" f_law_state fd_law_state ["script"])
    (G__law_tidy_net : FnOk P w K mg base CX0 2 f_law_tidy_net fd_law_tidy_net ["state", "ins", "flops", "most"] (sp__law_tidy_net K)) (D__law_tidy_net : Def K mg "_law_tidy_net" f_law_tidy_net fd_law_tidy_net ["state", "ins", "flops", "most"])
    (G__law_cut : FnOk P w K mg base CX0 3 f_law_cut fd_law_cut ["state", "net", "gate", "k"] (sp__law_cut K)) (D__law_cut : Def K mg "_law_cut" f_law_cut fd_law_cut ["state", "net", "gate", "k"])
    (G__law_draw : FnOk P w K mg base CX0 1 f_law_draw fd_law_draw ["state", "many"] (sp__law_draw K)) (D__law_draw : Def K mg "_law_draw" f_law_draw fd_law_draw ["state", "many"])
    (G__law_first : FnOk P w K mg base CX0 1 f_law_first fd_law_first ["net"] (sp__law_first K)) (D__law_first : Def K mg "_law_first" f_law_first fd_law_first ["net"])
    (G__law_is_cut : FnOk P w K mg base CX0 4 f_law_is_cut fd_law_is_cut ["net", "gate", "cut", "k"] (sp__law_is_cut K)) (D__law_is_cut : Def K mg "_law_is_cut" f_law_is_cut fd_law_is_cut ["net", "gate", "cut", "k"])
    (G_cut_bits : FnOk P w K mg base CX0 3 fcut_bits fdcut_bits ["net", "gate", "cut"] (sp_cut_bits K)) (D_cut_bits : Def K mg "cut_bits" fcut_bits fdcut_bits ["net", "gate", "cut"])
    (G__law_cut_bits : FnOk P w K mg base CX0 31 f_law_cut_bits fd_law_cut_bits ["net", "gate", "cut"] (sp__law_cut_bits K)) (D__law_cut_bits : Def K mg "_law_cut_bits" f_law_cut_bits fd_law_cut_bits ["net", "gate", "cut"]) :
    LawOk P w K mg base f fd ["script"] (sp_law K) := by
  refine lawOk F sclaw (k := 31) ⟨rfl, by decide, by decide⟩ (fun vs H Q E h => ?_) (fun cdv A outer s H vs Q E hr hgd h => ?_)
  · obtain ⟨a, ns, rfl, _⟩ := h
    rfl
  · obtain ⟨a, ns, rfl, hS, hl, q⟩ := h
    refine ⟨_, (pss_cons (ps_set (i := 1) sclaw.nd rfl (.inl rfl) (pe_call G__law_state (hr.mono (by omega)) (by rfl) D__law_state.m D__law_state.k D__law_state.b .nil pass0 (pa_cons (pv 0) pa_nil)))
      (pss_cons (ps_set (i := 2) sclaw.nd rfl (.inl rfl) (pe_call G__law_tidy_net (hr.mono (by omega)) (by rfl) D__law_tidy_net.m D__law_tidy_net.k D__law_tidy_net.b .nil pass0 (pa_cons (pv 1) (pa_cons pe_int (pa_cons pe_int (pa_cons pe_int pa_nil))))))
      (pss_cons (ps_if (pt_cmpR op_eq (pe_callB call_len_seq (by rfl) T.m_len (by decide +kernel) (pa_cons (pe_ix (r := rIxT K) ix_tup (pv 2) pe_int (fun _ _ => rfl)) pa_nil)) pe_int (nomark _)) (pss_one (ps_ret pe_bl)) pss_nil)
      (pss_cons (ps_set (i := 3) sclaw.nd rfl (.inl rfl) (pe_callB (r := rRepr K) (call_reprD hgd hr.units) (by rfl) T.m_repr (by decide +kernel) (pa_cons (pv 2) pa_nil)))
      (pss_cons (ps_for PassesOwn.never rfl (pi_range1 rfl T.m_range (pa_cons pe_int pa_nil)) (pg_name (i := 4) sclaw.nd rfl (Or.inl rfl)) (pss_cons (ps_set (i := 5) sclaw.nd rfl (.inl rfl) (pe_op op_add pe_int (pe_call G__law_draw (hr.mono (by omega)) (by rfl) D__law_draw.m D__law_draw.k D__law_draw.b .nil pass0 (pa_cons (pv 1) (pa_cons pe_int pa_nil)))))
      (pss_cons (ps_set (i := 6) sclaw.nd rfl (.inl rfl) (pe_op op_add (pe_call G__law_first (hr.mono (by omega)) (by rfl) D__law_first.m D__law_first.k D__law_first.b .nil pass0 (pa_cons (pv 2) pa_nil)) (pe_call G__law_draw (hr.mono (by omega)) (by rfl) D__law_draw.m D__law_draw.k D__law_draw.b .nil pass0 (pa_cons (pv 1) (pa_cons (pe_callB call_len_seq (by rfl) T.m_len (by decide +kernel) (pa_cons (pe_ix (r := rIxT K) ix_tup (pv 2) pe_int (fun _ _ => rfl)) pa_nil)) pa_nil)))))
      (pss_cons (ps_set (i := 7) sclaw.nd rfl (.inl rfl) (pe_call G__law_cut (hr.mono (by omega)) (by rfl) D__law_cut.m D__law_cut.k D__law_cut.b .nil pass0 (pa_cons (pv 1) (pa_cons (pv 2) (pa_cons (pv 6) (pa_cons (pv 5) pa_nil))))))
      (pss_cons (ps_if (pt_not (pt_val (pe_call G__law_is_cut (hr.mono (by omega)) (by rfl) D__law_is_cut.m D__law_is_cut.k D__law_is_cut.b .nil pass0 (pa_cons (pv 2) (pa_cons (pv 6) (pa_cons (pv 7) (pa_cons (pv 5) pa_nil))))))) (pss_one (ps_ret pe_bl)) pss_nil)
      (pss_one (ps_if (pt_cmpR op_ne (pe_call G_cut_bits (hr.mono (by omega)) (by rfl) D_cut_bits.m D_cut_bits.k D_cut_bits.b .nil pass0 (pa_cons (pv 2) (pa_cons (pv 6) (pa_cons (pv 7) pa_nil)))) (pe_call G__law_cut_bits (hr.mono (by omega)) (by rfl) D__law_cut_bits.m D__law_cut_bits.k D__law_cut_bits.b .nil pass0 (pa_cons (pv 2) (pa_cons (pv 6) (pa_cons (pv 7) pa_nil)))) (nomark _)) (pss_one (ps_ret pe_bl)) pss_nil)))))))
      (pss_one (ps_ret (pe_cmpR op_eq (pe_callB (r := rRepr K) (call_reprD hgd hr.units) (by rfl) T.m_repr (by decide +kernel) (pa_cons (pv 2) pa_nil)) (pv 3) (nomark _))))))))), ?_⟩
    refine ⟨_, rfl, a, ns, rfl, hS, hl, fun H1 p c s1 d1 => ?_⟩
    refine ⟨_, rfl, p, c, rfl, d1, fun H2 qn n g2 nq dn ok few => ?_⟩
    obtain ⟨z, aS, aG, aN, aO, e, hA, hSt, hG, hN, hO⟩ := dn.net_inv
    cases e
    obtain ⟨_, us, e, hGl, hus⟩ := hG.list_inv
    cases e
    have hlen := hus.len
    obtain ⟨m, hm, small⟩ := tidy_small ok few
    have m16 := many16 ok
    refine ⟨_, rfl, qn, _, 3, _, rfl, rfl, SqT.of (res_same p c H2 _ _ hA), atI_nat (j := 3) rfl, aG, _, rfl, .inl (SqL.of (res_same p c H2 _ _ hGl)), rfl, _, rfl, ?_⟩
    rw [show decide (V.int ((us.length : Nat) : Int) = V.int 0) = decide (us.length = 0) from dec_nat _ 0]
    by_cases e0 : us.length = 0
    · rw [decide_eq_true e0]
      exact iteT (q H2)
    rw [decide_eq_false e0]
    refine iteF ?_
    refine ⟨_, rfl, qn, _, rfl, dh_dp _ _ dn.up, four n small hm (by decide), ?_⟩
    refine ⟨_, rfl, by decide, by decide, for_range (n := 4) (fun _ σ Hx => ∃ y4 y5 y6 y7 : Option V, σ = [some (.ref a), some (.ref p), some (.ref qn), some (.str (txt n)), y4, y5, y6, y7] ∧ Go p c H2 Hx) ⟨none, none, none, none, rfl, Go.refl g2.b⟩ ?_ ?_⟩
    · rintro i σ Hx hi ⟨y4, y5, y6, y7, rfl, gx⟩
      refine ⟨_, rfl, p, c, 3, rfl, gx.b, by decide, by decide, fun H3 kk g3 hk => ⟨_, _, rfl, rfl, ?_⟩⟩
      have gy := gx.trans g3
      have hl9 := ok.gl
      refine ⟨_, rfl, .ref qn, n, rfl, (dn.same gy.s).up, _, rfl, _, rfl, qn, _, 3, _, rfl, rfl, SqT.of (gy.up hA), atI_nat (j := 3) rfl, aG, _, rfl, .inl (SqL.of (gy.up hGl)), p, c, us.length, rfl, gy.b, by omega, by omega, fun H4 dd g4 hd => ⟨_, _, rfl, rfl, ?_⟩⟩
      have gz := gy.trans g4
      have hgt : n.base + dd < n.many := by unfold Net.many; omega
      simp only [← Int.natCast_add]
      refine ⟨_, rfl, _, rfl, _, rfl, _, rfl, p, c, qn, n, n.base + dd, 2 + kk, rfl, gz.b, dn.same gz.s, ok, by omega, hgt, by omega, by omega, fun H5 r cut g5 nr er ic => ?_⟩
      have gw := gz.trans g5
      have dw := (dn.same gw.s).up
      refine ⟨_, rfl, _, rfl, _, rfl, _, rfl, .ref qn, n, n.base + dd, r, cut, 2 + kk, rfl, dw, ok, by omega, hgt, er, by omega, ic, fun H6 s6 => ?_⟩
      refine ⟨_, rfl, iteF ?_⟩
      have d6 := dw.same s6
      refine ⟨_, rfl, _, rfl, _, rfl, .ref qn, n, n.base + dd, r, cut, 2 + kk, rfl, d6, ok, by omega, hgt, s6 _ _ er, by omega, ic, fun H7 s7 => ?_⟩
      refine ⟨_, rfl, _, rfl, _, rfl, .ref qn, n, n.base + dd, r, cut, 2 + kk, rfl, d6.same s7, ok, by omega, hgt, s7 _ _ (s6 _ _ er), by omega, ic, fun H8 s8 => ?_⟩
      refine ⟨rfl, _, rfl, ?_⟩
      rw [show (!decide (V.int ((colOf n cut (n.base + dd) : Nat) : Int) = V.int ((colOf n cut (n.base + dd) : Nat) : Int))) = false by rw [decide_eq_true rfl]; rfl]
      refine iteF ?_
      exact ⟨_, _, _, _, rfl, gw.more ((s6.trans s7).trans s8)⟩
    · rintro σ Hx ⟨y4, y5, y6, y7, rfl, gx⟩
      refine ⟨_, rfl, qn, _, rfl, dh_dp _ _ (dn.same gx.s).up, four n small hm (by decide), ?_⟩
      refine ⟨_, rfl, rfl, ?_⟩
      show Q (.bl (decide (V.str (txt n) = V.str (txt n)))) Hx
      rw [decide_eq_true rfl]
      exact q Hx
end K45
namespace K45
open PySem PySem.Spec PyProof.Rows L2 V0
theorem all_mk {l : PySem.W.OpenLaw} {w : World} {K : PySem.W.Frag} {h : Heap} {mg : Str → Option Value} {fa f1 f2 f3 f4 f5 f6 f7 f8 f9 f10 f11 f12 f13 f14 f15 : Addr} (X : K.In h) (G : h.Ns mainGlobals mg) (hfa : mg "law" = some (.ref fa))
    {od1 an1 od2 an2 od3 an3 od4 an4 od5 an5 od6 an6 od7 an7 od8 an8 od9 an9 od10 an10 od11 an11 od12 an12 od13 an13 od14 an14 od15 an15 : Option Addr} {sl1 sl2 sl3 sl4 sl5 sl6 sl7 sl8 sl9 sl10 sl11 sl12 sl13 sl14 sl15 : Array (Option Value)} {oc1 kV1 dc1 pm1 cd1 ct1 oc2 kV2 dc2 pm2 cd2 ct2 oc3 kV3 dc3 pm3 cd3 ct3 oc4 kV4 dc4 pm4 cd4 ct4 oc5 kV5 dc5 pm5 cd5 ct5 oc6 kV6 dc6 pm6 cd6 ct6 oc7 kV7 dc7 pm7 cd7 ct7 oc8 kV8 dc8 pm8 cd8 ct8 oc9 kV9 dc9 pm9 cd9 ct9 oc10 kV10 dc10 pm10 cd10 ct10 oc11 kV11 dc11 pm11 cd11 ct11 oc12 kV12 dc12 pm12 cd12 ct12 oc13 kV13 dc13 pm13 cd13 ct13 oc14 kV14 dc14 pm14 cd14 ct14 oc15 kV15 dc15 pm15 cd15 ct15 : Value}
    (a1 : PySem.W.nsIn K mainGlobals "_law_state" = some (some (.ref f1))) (l1 : K.lookup f1 = some ⟨oc1, od1, .func (PySem.W.fnOf "_law_state" "_law_state" (defArgs s__law_state) (defBody s__law_state) (defScope s__law_state) .none kV1 dc1 pm1 an1 cd1 ct1), sl1⟩) (c1 : PySem.W.codeIn K cd1 "_law_state" = true) (k1 : PySem.W.keepIn K (.ref f1) = true)
    (a2 : PySem.W.nsIn K mainGlobals "_law_draw" = some (some (.ref f2))) (l2 : K.lookup f2 = some ⟨oc2, od2, .func (PySem.W.fnOf "_law_draw" "_law_draw" (defArgs s__law_draw) (defBody s__law_draw) (defScope s__law_draw) .none kV2 dc2 pm2 an2 cd2 ct2), sl2⟩) (c2 : PySem.W.codeIn K cd2 "_law_draw" = true) (k2 : PySem.W.keepIn K (.ref f2) = true)
    (a3 : PySem.W.nsIn K mainGlobals "_law_tidy_net" = some (some (.ref f3))) (l3 : K.lookup f3 = some ⟨oc3, od3, .func (PySem.W.fnOf "_law_tidy_net" "_law_tidy_net" (defArgs s__law_tidy_net) (defBody s__law_tidy_net) (defScope s__law_tidy_net) .none kV3 dc3 pm3 an3 cd3 ct3), sl3⟩) (c3 : PySem.W.codeIn K cd3 "_law_tidy_net" = true) (k3 : PySem.W.keepIn K (.ref f3) = true)
    (a4 : PySem.W.nsIn K mainGlobals "_law_pick" = some (some (.ref f4))) (l4 : K.lookup f4 = some ⟨oc4, od4, .func (PySem.W.fnOf "_law_pick" "_law_pick" (defArgs s__law_pick) (defBody s__law_pick) (defScope s__law_pick) .none kV4 dc4 pm4 an4 cd4 ct4), sl4⟩) (c4 : PySem.W.codeIn K cd4 "_law_pick" = true) (k4 : PySem.W.keepIn K (.ref f4) = true)
    (a5 : PySem.W.nsIn K mainGlobals "_law_first" = some (some (.ref f5))) (l5 : K.lookup f5 = some ⟨oc5, od5, .func (PySem.W.fnOf "_law_first" "_law_first" (defArgs s__law_first) (defBody s__law_first) (defScope s__law_first) .none kV5 dc5 pm5 an5 cd5 ct5), sl5⟩) (c5 : PySem.W.codeIn K cd5 "_law_first" = true) (k5 : PySem.W.keepIn K (.ref f5) = true)
    (a6 : PySem.W.nsIn K mainGlobals "_law_down" = some (some (.ref f6))) (l6 : K.lookup f6 = some ⟨oc6, od6, .func (PySem.W.fnOf "_law_down" "_law_down" (defArgs s__law_down) (defBody s__law_down) (defScope s__law_down) .none kV6 dc6 pm6 an6 cd6 ct6), sl6⟩) (c6 : PySem.W.codeIn K cd6 "_law_down" = true) (k6 : PySem.W.keepIn K (.ref f6) = true)
    (a7 : PySem.W.nsIn K mainGlobals "_law_cut" = some (some (.ref f7))) (l7 : K.lookup f7 = some ⟨oc7, od7, .func (PySem.W.fnOf "_law_cut" "_law_cut" (defArgs s__law_cut) (defBody s__law_cut) (defScope s__law_cut) .none kV7 dc7 pm7 an7 cd7 ct7), sl7⟩) (c7 : PySem.W.codeIn K cd7 "_law_cut" = true) (k7 : PySem.W.keepIn K (.ref f7) = true)
    (a8 : PySem.W.nsIn K mainGlobals "_law_parts" = some (some (.ref f8))) (l8 : K.lookup f8 = some ⟨oc8, od8, .func (PySem.W.fnOf "_law_parts" "_law_parts" (defArgs s__law_parts) (defBody s__law_parts) (defScope s__law_parts) .none kV8 dc8 pm8 an8 cd8 ct8), sl8⟩) (c8 : PySem.W.codeIn K cd8 "_law_parts" = true) (k8 : PySem.W.keepIn K (.ref f8) = true)
    (a9 : PySem.W.nsIn K mainGlobals "_law_is_cut" = some (some (.ref f9))) (l9 : K.lookup f9 = some ⟨oc9, od9, .func (PySem.W.fnOf "_law_is_cut" "_law_is_cut" (defArgs s__law_is_cut) (defBody s__law_is_cut) (defScope s__law_is_cut) .none kV9 dc9 pm9 an9 cd9 ct9), sl9⟩) (c9 : PySem.W.codeIn K cd9 "_law_is_cut" = true) (k9 : PySem.W.keepIn K (.ref f9) = true)
    (a10 : PySem.W.nsIn K mainGlobals "base_of" = some (some (.ref f10))) (l10 : K.lookup f10 = some ⟨oc10, od10, .func (PySem.W.fnOf "base_of" "base_of" (defArgs s_base_of) (defBody s_base_of) (defScope s_base_of) .none kV10 dc10 pm10 an10 cd10 ct10), sl10⟩) (c10 : PySem.W.codeIn K cd10 "base_of" = true) (k10 : PySem.W.keepIn K (.ref f10) = true)
    (a11 : PySem.W.nsIn K mainGlobals "_nodes_above" = some (some (.ref f11))) (l11 : K.lookup f11 = some ⟨oc11, od11, .func (PySem.W.fnOf "_nodes_above" "_nodes_above" (defArgs s__nodes_above) (defBody s__nodes_above) (defScope s__nodes_above) .none kV11 dc11 pm11 an11 cd11 ct11), sl11⟩) (c11 : PySem.W.codeIn K cd11 "_nodes_above" = true) (k11 : PySem.W.keepIn K (.ref f11) = true)
    (a12 : PySem.W.nsIn K mainGlobals "cut_bits" = some (some (.ref f12))) (l12 : K.lookup f12 = some ⟨oc12, od12, .func (PySem.W.fnOf "cut_bits" "cut_bits" (defArgs s_cut_bits) (defBody s_cut_bits) (defScope s_cut_bits) .none kV12 dc12 pm12 an12 cd12 ct12), sl12⟩) (c12 : PySem.W.codeIn K cd12 "cut_bits" = true) (k12 : PySem.W.keepIn K (.ref f12) = true)
    (a13 : PySem.W.nsIn K mainGlobals "_law_gate_bit" = some (some (.ref f13))) (l13 : K.lookup f13 = some ⟨oc13, od13, .func (PySem.W.fnOf "_law_gate_bit" "_law_gate_bit" (defArgs s__law_gate_bit) (defBody s__law_gate_bit) (defScope s__law_gate_bit) .none kV13 dc13 pm13 an13 cd13 ct13), sl13⟩) (c13 : PySem.W.codeIn K cd13 "_law_gate_bit" = true) (k13 : PySem.W.keepIn K (.ref f13) = true)
    (a14 : PySem.W.nsIn K mainGlobals "_law_cut_bits" = some (some (.ref f14))) (l14 : K.lookup f14 = some ⟨oc14, od14, .func (PySem.W.fnOf "_law_cut_bits" "_law_cut_bits" (defArgs s__law_cut_bits) (defBody s__law_cut_bits) (defScope s__law_cut_bits) .none kV14 dc14 pm14 an14 cd14 ct14), sl14⟩) (c14 : PySem.W.codeIn K cd14 "_law_cut_bits" = true) (k14 : PySem.W.keepIn K (.ref f14) = true)
    (a15 : PySem.W.nsIn K mainGlobals "law" = some (some (.ref f15))) (l15 : K.lookup f15 = some ⟨oc15, od15, .func (PySem.W.fnOf "law" "law" (defArgs s_law) (defBody s_law) (defScope s_law) .none kV15 dc15 pm15 an15 cd15 ct15), sl15⟩) (c15 : PySem.W.codeIn K cd15 "law" = true) (k15 : PySem.W.keepIn K (.ref f15) = true)
    (z_abs : PySem.W.nsIn K mainGlobals "abs" = some none)
    (z_all : PySem.W.nsIn K mainGlobals "all" = some none)
    (z_enumerate : PySem.W.nsIn K mainGlobals "enumerate" = some none)
    (z_int : PySem.W.nsIn K mainGlobals "int" = some none)
    (z_len : PySem.W.nsIn K mainGlobals "len" = some none)
    (z_max : PySem.W.nsIn K mainGlobals "max" = some none)
    (z_min : PySem.W.nsIn K mainGlobals "min" = some none)
    (z_range : PySem.W.nsIn K mainGlobals "range" = some none)
    (z_repr : PySem.W.nsIn K mainGlobals "repr" = some none)
    (z_set : PySem.W.nsIn K mainGlobals "set" = some none)
    (z_sorted : PySem.W.nsIn K mainGlobals "sorted" = some none)
    (z_sum : PySem.W.nsIn K mainGlobals "sum" = some none) :
    ∃ fd : FuncData, (∀ (s : Shared) (v : Value), BindsTo s fd ⟨[v], []⟩ [("script", v)]) ∧ ∀ base : Heap, K.In base → base.Ns mainGlobals mg → LawOk l.prog w K mg base fa fd ["script"] (sp_law K) := by
  have e := hfa.symm.trans (PySem.W.mg_of X G a15)
  cases e
  have T : Txt K mg := ⟨PySem.W.mg_none_of X G z_abs, PySem.W.mg_none_of X G z_all, PySem.W.mg_none_of X G z_enumerate, PySem.W.mg_none_of X G z_int, PySem.W.mg_none_of X G z_len, PySem.W.mg_none_of X G z_max, PySem.W.mg_none_of X G z_min, PySem.W.mg_none_of X G z_range, PySem.W.mg_none_of X G z_repr, PySem.W.mg_none_of X G z_set, PySem.W.mg_none_of X G z_sorted, PySem.W.mg_none_of X G z_sum⟩
  have F1 := fun_mk (st := s__law_state) l1 c1 k1
  have D1 : Def K mg "_law_state" f1 _ ["script"] := ⟨PySem.W.mg_of X G a1, F1.kp, F1.binds (ps := ["script"]) fun _ _ _ _ _ _ us hl => match us, hl with | [_], _ => rfl⟩
  have F2 := fun_mk (st := s__law_draw) l2 c2 k2
  have D2 : Def K mg "_law_draw" f2 _ ["state", "many"] := ⟨PySem.W.mg_of X G a2, F2.kp, F2.binds (ps := ["state", "many"]) fun _ _ _ _ _ _ us hl => match us, hl with | [_, _], _ => rfl⟩
  have F3 := fun_mk (st := s__law_tidy_net) l3 c3 k3
  have D3 : Def K mg "_law_tidy_net" f3 _ ["state", "ins", "flops", "most"] := ⟨PySem.W.mg_of X G a3, F3.kp, F3.binds (ps := ["state", "ins", "flops", "most"]) fun _ _ _ _ _ _ us hl => match us, hl with | [_, _, _, _], _ => rfl⟩
  have F4 := fun_mk (st := s__law_pick) l4 c4 k4
  have D4 : Def K mg "_law_pick" f4 _ ["state", "row"] := ⟨PySem.W.mg_of X G a4, F4.kp, F4.binds (ps := ["state", "row"]) fun _ _ _ _ _ _ us hl => match us, hl with | [_, _], _ => rfl⟩
  have F5 := fun_mk (st := s__law_first) l5 c5 k5
  have D5 : Def K mg "_law_first" f5 _ ["net"] := ⟨PySem.W.mg_of X G a5, F5.kp, F5.binds (ps := ["net"]) fun _ _ _ _ _ _ us hl => match us, hl with | [_], _ => rfl⟩
  have F6 := fun_mk (st := s__law_down) l6 c6 k6
  have D6 : Def K mg "_law_down" f6 _ ["net", "node"] := ⟨PySem.W.mg_of X G a6, F6.kp, F6.binds (ps := ["net", "node"]) fun _ _ _ _ _ _ us hl => match us, hl with | [_, _], _ => rfl⟩
  have F7 := fun_mk (st := s__law_cut) l7 c7 k7
  have D7 : Def K mg "_law_cut" f7 _ ["state", "net", "gate", "k"] := ⟨PySem.W.mg_of X G a7, F7.kp, F7.binds (ps := ["state", "net", "gate", "k"]) fun _ _ _ _ _ _ us hl => match us, hl with | [_, _, _, _], _ => rfl⟩
  have F8 := fun_mk (st := s__law_parts) l8 c8 k8
  have D8 : Def K mg "_law_parts" f8 _ ["net", "gate", "cut"] := ⟨PySem.W.mg_of X G a8, F8.kp, F8.binds (ps := ["net", "gate", "cut"]) fun _ _ _ _ _ _ us hl => match us, hl with | [_, _, _], _ => rfl⟩
  have F9 := fun_mk (st := s__law_is_cut) l9 c9 k9
  have D9 : Def K mg "_law_is_cut" f9 _ ["net", "gate", "cut", "k"] := ⟨PySem.W.mg_of X G a9, F9.kp, F9.binds (ps := ["net", "gate", "cut", "k"]) fun _ _ _ _ _ _ us hl => match us, hl with | [_, _, _, _], _ => rfl⟩
  have F10 := fun_mk (st := s_base_of) l10 c10 k10
  have D10 : Def K mg "base_of" f10 _ ["net"] := ⟨PySem.W.mg_of X G a10, F10.kp, F10.binds (ps := ["net"]) fun _ _ _ _ _ _ us hl => match us, hl with | [_], _ => rfl⟩
  have F11 := fun_mk (st := s__nodes_above) l11 c11 k11
  have D11 : Def K mg "_nodes_above" f11 _ ["net", "gate", "cut"] := ⟨PySem.W.mg_of X G a11, F11.kp, F11.binds (ps := ["net", "gate", "cut"]) fun _ _ _ _ _ _ us hl => match us, hl with | [_, _, _], _ => rfl⟩
  have F12 := fun_mk (st := s_cut_bits) l12 c12 k12
  have D12 : Def K mg "cut_bits" f12 _ ["net", "gate", "cut"] := ⟨PySem.W.mg_of X G a12, F12.kp, F12.binds (ps := ["net", "gate", "cut"]) fun _ _ _ _ _ _ us hl => match us, hl with | [_, _, _], _ => rfl⟩
  have F13 := fun_mk (st := s__law_gate_bit) l13 c13 k13
  have D13 : Def K mg "_law_gate_bit" f13 _ ["net", "node", "known"] := ⟨PySem.W.mg_of X G a13, F13.kp, F13.binds (ps := ["net", "node", "known"]) fun _ _ _ _ _ _ us hl => match us, hl with | [_, _, _], _ => rfl⟩
  have F14 := fun_mk (st := s__law_cut_bits) l14 c14 k14
  have D14 : Def K mg "_law_cut_bits" f14 _ ["net", "gate", "cut"] := ⟨PySem.W.mg_of X G a14, F14.kp, F14.binds (ps := ["net", "gate", "cut"]) fun _ _ _ _ _ _ us hl => match us, hl with | [_, _, _], _ => rfl⟩
  have F15 := fun_mk (st := s_law) l15 c15 k15
  refine ⟨PySem.W.fnOf "law" "law" (defArgs s_law) (defBody s_law) (defScope s_law) .none kV15 dc15 pm15 an15 cd15 ct15, fun s v => .of_eq rfl, fun base _ _ => ?_⟩
  have G1 : FnOk l.prog w K mg base CX0 1 f1 _ ["script"] (sp__law_state K) := ok__law_state F1 T 
  have G2 : FnOk l.prog w K mg base CX0 1 f2 _ ["state", "many"] (sp__law_draw K) := ok__law_draw F2 T 
  have G3 : FnOk l.prog w K mg base CX0 2 f3 _ ["state", "ins", "flops", "most"] (sp__law_tidy_net K) := ok__law_tidy_net F3 T G2 D2
  have G4 : FnOk l.prog w K mg base CX0 2 f4 _ ["state", "row"] (sp__law_pick K) := ok__law_pick F4 T G2 D2
  have G5 : FnOk l.prog w K mg base CX0 1 f5 _ ["net"] (sp__law_first K) := ok__law_first F5 T 
  have G6 : FnOk l.prog w K mg base CX0 2 f6 _ ["net", "node"] (sp__law_down K) := ok__law_down F6 T G5 D5
  have G7 : FnOk l.prog w K mg base CX0 3 f7 _ ["state", "net", "gate", "k"] (sp__law_cut K) := ok__law_cut F7 T G2 D2 G4 D4 G6 D6
  have G8 : FnOk l.prog w K mg base CX0 3 f8 _ ["net", "gate", "cut"] (sp__law_parts K) := ok__law_parts F8 T G6 D6 G5 D5
  have G9 : FnOk l.prog w K mg base CX0 4 f9 _ ["net", "gate", "cut", "k"] (sp__law_is_cut K) := ok__law_is_cut F9 T G8 D8
  have G10 : FnOk l.prog w K mg base CX0 1 f10 _ ["net"] (sp_base_of K) := ok_base_of F10 T 
  have G11 : FnOk l.prog w K mg base CX0 2 f11 _ ["net", "gate", "cut"] (sp__nodes_above K) := ok__nodes_above F11 T G10 D10
  have G12 : FnOk l.prog w K mg base CX0 3 f12 _ ["net", "gate", "cut"] (sp_cut_bits K) := ok_cut_bits F12 T G11 D11 G10 D10
  have G13 : FnOk l.prog w K mg base CX0 30 f13 _ ["net", "node", "known"] (sp__law_gate_bit K) := ok__law_gate_bit F13 T G5 D5 D13
  have G14 : FnOk l.prog w K mg base CX0 31 f14 _ ["net", "gate", "cut"] (sp__law_cut_bits K) := ok__law_cut_bits F14 T G13 D13
  exact ok_law F15 T G1 D1 G3 D3 G7 D7 G2 D2 G5 D5 G9 D9 G12 D12 G14 D14
end K45
open PySem PySem.W PyProof.Rows
set_option maxHeartbeats 0 in
theorem PySem.Challenge.cw_cellcloth_k45_tables_of_cuts_holds : PySem.Challenge.rw_cellcloth_k45_tables_of_cuts.Holds := by
  w_on; o_law; k_head; (case hw => w_witness2)
  k_fill
  refine V0.walk_at (l := PySem.Challenge.rw_cellcloth_k45_tables_of_cuts) (n := 63) (x := "script") (sp := K45.sp_law) rfl (by decide) rfl (fun w h Y => PySem.W.kIn_of Y) ?F (fun _ _ a ns hl _ hS => ⟨a, ns, rfl, hS, hl, fun _ => rfl⟩)
  case F =>
    intro w mg fa h KX G hmg
    refine' K45.all_mk KX G hmg ?a1 ?l1 ?c1 ?k1 ?a2 ?l2 ?c2 ?k2 ?a3 ?l3 ?c3 ?k3 ?a4 ?l4 ?c4 ?k4 ?a5 ?l5 ?c5 ?k5 ?a6 ?l6 ?c6 ?k6 ?a7 ?l7 ?c7 ?k7 ?a8 ?l8 ?c8 ?k8 ?a9 ?l9 ?c9 ?k9 ?a10 ?l10 ?c10 ?k10 ?a11 ?l11 ?c11 ?k11 ?a12 ?l12 ?c12 ?k12 ?a13 ?l13 ?c13 ?k13 ?a14 ?l14 ?c14 ?k14 ?a15 ?l15 ?c15 ?k15 ?z_abs ?z_all ?z_enumerate ?z_int ?z_len ?z_max ?z_min ?z_range ?z_repr ?z_set ?z_sorted ?z_sum
    (case a1 => k_is)
    (case l1 => k_is)
    (case c1 => k_is)
    (case k1 => k_is)
    (case a2 => k_is)
    (case l2 => k_is)
    (case c2 => k_is)
    (case k2 => k_is)
    (case a3 => k_is)
    (case l3 => k_is)
    (case c3 => k_is)
    (case k3 => k_is)
    (case a4 => k_is)
    (case l4 => k_is)
    (case c4 => k_is)
    (case k4 => k_is)
    (case a5 => k_is)
    (case l5 => k_is)
    (case c5 => k_is)
    (case k5 => k_is)
    (case a6 => k_is)
    (case l6 => k_is)
    (case c6 => k_is)
    (case k6 => k_is)
    (case a7 => k_is)
    (case l7 => k_is)
    (case c7 => k_is)
    (case k7 => k_is)
    (case a8 => k_is)
    (case l8 => k_is)
    (case c8 => k_is)
    (case k8 => k_is)
    (case a9 => k_is)
    (case l9 => k_is)
    (case c9 => k_is)
    (case k9 => k_is)
    (case a10 => k_is)
    (case l10 => k_is)
    (case c10 => k_is)
    (case k10 => k_is)
    (case a11 => k_is)
    (case l11 => k_is)
    (case c11 => k_is)
    (case k11 => k_is)
    (case a12 => k_is)
    (case l12 => k_is)
    (case c12 => k_is)
    (case k12 => k_is)
    (case a13 => k_is)
    (case l13 => k_is)
    (case c13 => k_is)
    (case k13 => k_is)
    (case a14 => k_is)
    (case l14 => k_is)
    (case c14 => k_is)
    (case k14 => k_is)
    (case a15 => k_is)
    (case l15 => k_is)
    (case c15 => k_is)
    (case k15 => k_is)
    (case z_abs => k_is)
    (case z_all => k_is)
    (case z_enumerate => k_is)
    (case z_int => k_is)
    (case z_len => k_is)
    (case z_max => k_is)
    (case z_min => k_is)
    (case z_range => k_is)
    (case z_repr => k_is)
    (case z_set => k_is)
    (case z_sorted => k_is)
    (case z_sum => k_is)
