import PyProof.Rows.All
import Wide.All
import OpenK.AllK
import Wide.FinOn
import HandS.ForMost
import HandS.Codes
import HandS.IsInst
import HandS.WideBits
import KE.Datum
import PyProof.ReprRoads
import PyProof.ReprLen
import PyProof.Rows.SetFrom
import HandS.Set
import HandS.SetFor
import HandS.Strs
import HandS.Star
import HandS.Wide
import HandS.Iter
import HandS.More
import HandS.Deep
import HandS.SortInts
import HandS.Small
import HandS.Walk
import PySem.Challenge.RW_cellcloth_k69_agreeing_faults
set_option Elab.async false
set_option linter.all false
set_option maxRecDepth 100000
set_option maxHeartbeats 4000000
/-! data with a Lean type in the abstract heap: what a value holds, kept by growth; the heap but for what is mutable -/
namespace V0
open PySem PySem.Spec PyProof.Rows L2
open PySem.W (Datum)
/-- a def of the text as callers need it -/
structure Def (K : PySem.W.Frag) (mg : Str → Option Value) (x : Str) (f : Addr) (fd : FuncData) (ps : List Str) : Prop where
  m : mg x = some (.ref f)
  k : PySem.W.keepIn K (.ref f) = true
  b : Binds K fd ps []
abbrev vLen (K : PySem.W.Frag) : List V → Hp → VK → Prop := fun xs H Q => ∃ p ys, xs = [.ref p] ∧ (SqL K H p ys ∨ SqT K H p ys) ∧ Q (.int ys.length) H
abbrev vListOf (K : PySem.W.Frag) : List V → Hp → VK → Prop := fun xs H Q => ∃ p ys, xs = [.ref p] ∧ (SqL K H p ys ∨ SqT K H p ys) ∧ ∀ l, H l = none → Q (.ref l) (upd H l (.lst ys))
abbrev vTupleOf (K : PySem.W.Frag) : List V → Hp → VK → Prop := fun xs H Q => ∃ p ys, xs = [.ref p] ∧ ((SqL K H p ys ∧ ∀ l, H l = none → Q (.ref l) (upd H l (.tup ys))) ∨ (SqT K H p ys ∧ Q (.ref p) H))
/-- a statement that is never reached -/
theorem ps_never {X : Cx} {st : Stmt} : PS X st (fun _ _ _ => False) := ⟨fun _ _ _ _ _ _ h => h.elim⟩
def tTru (K : PySem.W.Frag) (ta : TE) : TT := fun σ H Q => ta σ H fun x H' => ∃ k, TruV K x H' k ∧ Q k H'
/-- as pt_truth, K told -/
theorem pt_truthK {X : Cx} {K : PySem.W.Frag} {a : Expr} {ta : TE} (hK : X.K = K) (ha : PE X a ta) (he : ∀ whole, isTrue a X.env whole = (do let v ← whole; standAt a.pos; holding [v] (truthy v))) :
    PT X a (tTru K ta) := by
  subst hK
  exact pt_truth ha he
theorem hu65 {A : Around} {k : Nat} (hr : Room k A) : A.units + 65 < cLine := by
  have := hr.un
  omega
theorem same_new {H : Hp} {p : Addr} {o : HO} (h : H p = none) : Same H (upd H p o) := fun b x e => by
  rw [upd_ne (ne_of_none e h)]
  exact e
theorem same_mut {H H' : Hp} {p : Addr} {o : HO} (e : Same H H') (h : H p = none) : Same H (upd H' p o) := fun a u ha => by
  rw [upd_ne (ne_of_none ha h)]
  exact e a u ha
theorem tup_same {K : PySem.W.Frag} {H H' : Hp} {a : Addr} {xs : List V} (e : Same H H') (h : SqT K H a xs) : SqT K H' a xs := by
  rcases h with (h | ⟨o, h⟩) | h
  · exact .inl (.inl (e _ _ h))
  · exact .inl (.inr ⟨o, e _ _ h⟩)
  · exact .inr h
theorem map_range_succ {α : Type} (f : Nat → α) (i : Nat) : (List.range (i + 1)).map f = (List.range i).map f ++ [f i] := by
  rw [List.range_succ, List.map_append]
  rfl
/-! ### data -/
class Dm (α : Type) [DecidableEq α] extends Datum α where
  lay : ∀ a : α, (Datum.toD a).canLay0 = true
instance : Dm Int where
  lay _ := by simp only [Datum.toD, PyData.canLay0]
instance : Dm Bool where
  lay _ := by simp only [Datum.toD, PyData.canLay0]
instance : Datum Nat where
  toD n := .int (n : Int)
  plain _ := rfl
  eqv a b := by
    simp only [PyData.eqv]
    rw [PySem.W.beq_decide]
    exact decide_eq_decide.mpr ⟨fun e => by omega, fun e => by rw [e]⟩
  depth := 0
  depth_le _ := Nat.le_refl _
instance : Dm Nat where
  lay _ := by simp only [Datum.toD, PyData.canLay0]
section
variable {α β : Type} [DecidableEq α] [Dm α] [DecidableEq β] [Dm β]
theorem lay_all : ∀ xs : List α, PyData.canLayAll0 (xs.map Datum.toD) = true
  | [] => by simp only [List.map_nil, PyData.canLayAll0]
  | x :: xs => by
    rw [List.map_cons, PyData.canLayAll0, Dm.lay x, lay_all xs]
    rfl
instance : Dm (List α) where
  lay xs := by
    simp only [Datum.toD, PyData.canLay0]
    exact lay_all xs
instance : Dm (α × β) where
  lay p := by
    simp only [Datum.toD, PyData.canLay0, PyData.canLayAll0, Bool.and_true, Bool.and_eq_true]
    exact ⟨Dm.lay p.1, Dm.lay p.2⟩
end
mutual
/-- as Dp, of what stands in the abstract heap alone -/
inductive Dh (H : Hp) : V → PyData → Prop
  | non : Dh H .non .none
  | bl (b : Bool) : Dh H (.bl b) (.bool b)
  | int (i : Int) : Dh H (.int i) (.int i)
  | str (x : Str) : Dh H (.str x) (.str x)
  | lst {a : Addr} {xs : List V} {ds : List PyData} : H a = some (.lst xs) → DhAll H xs ds → Dh H (.ref a) (.list ds)
  | tup {a : Addr} {xs : List V} {ds : List PyData} : H a = some (.tup xs) → DhAll H xs ds → Dh H (.ref a) (.tuple ds)
inductive DhAll (H : Hp) : List V → List PyData → Prop
  | nil : DhAll H [] []
  | cons {v : V} {vs : List V} {d : PyData} {ds : List PyData} : Dh H v d → DhAll H vs ds → DhAll H (v :: vs) (d :: ds)
end
mutual
theorem dh_same {H H' : Hp} (s : Same H H') : ∀ (d : PyData) (v : V), Dh H v d → Dh H' v d
  | .none, _, h => by cases h; exact .non
  | .bool b, _, h => by cases h; exact .bl b
  | .int i, _, h => by cases h; exact .int i
  | .str x, _, h => by cases h; exact .str x
  | .list ds, _, h => by
    cases h with
    | lst h1 h2 => exact .lst (s _ _ h1) (dh_sameAll s ds _ h2)
  | .tuple ds, _, h => by
    cases h with
    | tup h1 h2 => exact .tup (s _ _ h1) (dh_sameAll s ds _ h2)
  | .dict _, _, h => by cases h
theorem dh_sameAll {H H' : Hp} (s : Same H H') : ∀ (ds : List PyData) (vs : List V), DhAll H vs ds → DhAll H' vs ds
  | [], _, h => by cases h; exact .nil
  | d :: ds, _, h => by
    cases h with
    | cons h1 h2 => exact .cons (dh_same s d _ h1) (dh_sameAll s ds _ h2)
end
mutual
theorem dh_dp {K : PySem.W.Frag} {H : Hp} : ∀ (d : PyData) (v : V), Dh H v d → Dp K H v d
  | .none, _, h => by cases h; exact .non
  | .bool b, _, h => by cases h; exact .bl b
  | .int i, _, h => by cases h; exact .int i
  | .str x, _, h => by cases h; exact .str x
  | .list ds, _, h => by
    cases h with
    | lst h1 h2 => exact .lst (SqL.of h1) (dh_dpAll ds _ h2)
  | .tuple ds, _, h => by
    cases h with
    | tup h1 h2 => exact .tup (SqT.of h1) (dh_dpAll ds _ h2)
  | .dict _, _, h => by cases h
theorem dh_dpAll {K : PySem.W.Frag} {H : Hp} : ∀ (ds : List PyData) (vs : List V), DhAll H vs ds → DpAll K H vs ds
  | [], _, h => by cases h; exact .nil
  | d :: ds, _, h => by
    cases h with
    | cons h1 h2 => exact .cons (dh_dp d _ h1) (dh_dpAll ds _ h2)
end
section
variable {α β : Type} [DecidableEq α] [Dm α] [DecidableEq β] [Dm β]
/-- v holds x -/
def Dv (H : Hp) (v : V) (x : α) : Prop := Dh H v (Datum.toD x)
def Dvs (H : Hp) (vs : List V) (xs : List α) : Prop := DhAll H vs (xs.map Datum.toD)
theorem Dv.same {H H' : Hp} {v : V} {x : α} (h : Dv H v x) (s : Same H H') : Dv H' v x := dh_same s _ _ h
theorem Dvs.same {H H' : Hp} {vs : List V} {xs : List α} (h : Dvs H vs xs) (s : Same H H') : Dvs H' vs xs := dh_sameAll s _ _ h
theorem Dv.int {H : Hp} (i : Int) : Dv H (.int i) i := Dh.int i
theorem Dv.nat {H : Hp} (n : Nat) : Dv H (.int (n : Int)) n := Dh.int (n : Int)
theorem Dv.bl {H : Hp} (b : Bool) : Dv H (.bl b) b := Dh.bl b
theorem Dv.int_inv {H : Hp} {v : V} {i : Int} (h : Dv H v i) : v = .int i := by
  unfold Dv at h
  cases h
  rfl
theorem Dv.nat_inv {H : Hp} {v : V} {n : Nat} (h : Dv H v n) : v = .int (n : Int) := by
  unfold Dv at h
  cases h
  rfl
theorem Dvs.nil {H : Hp} : Dvs H [] ([] : List α) := DhAll.nil
theorem Dvs.cons {H : Hp} {v : V} {vs : List V} {x : α} {xs : List α} (h : Dv H v x) (hs : Dvs H vs xs) : Dvs H (v :: vs) (x :: xs) := DhAll.cons h hs
theorem Dvs.cons_inv {H : Hp} {vs : List V} {x : α} {xs : List α} (h : Dvs H vs (x :: xs)) : ∃ v us, vs = v :: us ∧ Dv H v x ∧ Dvs H us xs := by
  unfold Dvs at h
  cases h with
  | cons h1 h2 => exact ⟨_, _, rfl, h1, h2⟩
theorem Dvs.nil_inv {H : Hp} {vs : List V} (h : Dvs H vs ([] : List α)) : vs = [] := by
  unfold Dvs at h
  cases h
  rfl
theorem Dvs.app {H : Hp} : ∀ {vs us : List V} {xs ys : List α}, Dvs H vs xs → Dvs H us ys → Dvs H (vs ++ us) (xs ++ ys)
  | _, _, [], _, h, g => by rw [h.nil_inv]; exact g
  | _, _, _ :: _, _, h, g => by
    obtain ⟨v, us, rfl, h1, h2⟩ := h.cons_inv
    exact .cons h1 (h2.app g)
theorem Dvs.len {H : Hp} : ∀ {vs : List V} {xs : List α}, Dvs H vs xs → vs.length = xs.length
  | _, [], h => by rw [h.nil_inv]; rfl
  | _, _ :: _, h => by
    obtain ⟨v, us, rfl, h1, h2⟩ := h.cons_inv
    rw [List.length_cons, List.length_cons, h2.len]
theorem Dvs.get {H : Hp} : ∀ {vs : List V} {xs : List α} {i : Nat} {x : α}, Dvs H vs xs → xs[i]? = some x → ∃ v, vs[i]? = some v ∧ Dv H v x
  | _, [], i, _, h, e => by simp at e
  | _, _ :: _, 0, _, h, e => by
    obtain ⟨v, us, rfl, h1, h2⟩ := h.cons_inv
    cases e
    exact ⟨_, rfl, h1⟩
  | _, _ :: _, i + 1, _, h, e => by
    obtain ⟨v, us, rfl, h1, h2⟩ := h.cons_inv
    exact h2.get (i := i) e
theorem Dvs.at {H : Hp} {vs : List V} {xs : List α} {i : Nat} {v : V} (h : Dvs H vs xs) (e : vs[i]? = some v) : ∃ x, xs[i]? = some x ∧ Dv H v x := by
  have hi : i < xs.length := by
    rw [← h.len]
    exact (List.getElem?_eq_some_iff.mp e).1
  obtain ⟨u, e2, d⟩ := h.get (List.getElem?_eq_getElem hi)
  rw [e] at e2
  cases e2
  exact ⟨_, List.getElem?_eq_getElem hi, d⟩
theorem Dv.list {H : Hp} {a : Addr} {vs : List V} {xs : List α} (h : H a = some (.lst vs)) (hs : Dvs H vs xs) : Dv H (.ref a) xs := Dh.lst h hs
theorem Dv.list_inv {H : Hp} {v : V} {xs : List α} (h : Dv H v xs) : ∃ a vs, v = .ref a ∧ H a = some (.lst vs) ∧ Dvs H vs xs := by
  unfold Dv at h
  cases h with
  | lst h1 h2 => exact ⟨_, _, rfl, h1, h2⟩
theorem Dv.pair {H : Hp} {a : Addr} {u v : V} {x : α} {y : β} (h : H a = some (.tup [u, v])) (h1 : Dv H u x) (h2 : Dv H v y) : Dv H (.ref a) (x, y) := Dh.tup h (.cons h1 (.cons h2 .nil))
theorem Dv.pair_inv {H : Hp} {v : V} {p : α × β} (h : Dv H v p) : ∃ a u w, v = .ref a ∧ H a = some (.tup [u, w]) ∧ Dv H u p.1 ∧ Dv H w p.2 := by
  unfold Dv at h
  cases h with
  | tup h1 h2 =>
    cases h2 with
    | cons h3 h4 =>
      cases h4 with
      | cons h5 h6 =>
        cases h6
        exact ⟨_, _, _, rfl, h1, h3, h5⟩
abbrev vi (xs : List Int) : List V := xs.map V.int
abbrev vn (xs : List Nat) : List V := xs.map (fun (b : Nat) => V.int (b : Int))
theorem vn_len (xs : List Nat) : (vn xs).length = xs.length := List.length_map _
theorem vn_get {xs : List Nat} {i n : Nat} (h : xs[i]? = some n) : (vn xs)[i]? = some (.int (n : Int)) := by
  rw [List.getElem?_map, h]
  rfl
theorem Dvs.ints_inv {H : Hp} : ∀ {vs : List V} {xs : List Int}, Dvs H vs xs → vs = vi xs
  | _, [], h => h.nil_inv
  | _, _ :: _, h => by
    obtain ⟨v, us, rfl, h1, h2⟩ := h.cons_inv
    rw [h1.int_inv, h2.ints_inv]
    rfl
theorem Dvs.nats_inv {H : Hp} : ∀ {vs : List V} {xs : List Nat}, Dvs H vs xs → vs = vn xs
  | _, [], h => h.nil_inv
  | _, _ :: _, h => by
    obtain ⟨v, us, rfl, h1, h2⟩ := h.cons_inv
    rw [h1.nat_inv, h2.nats_inv]
    rfl
theorem Dvs.ints {H : Hp} : ∀ xs : List Int, Dvs H (vi xs) xs
  | [] => .nil
  | x :: r => .cons (.int x) (Dvs.ints r)
theorem Dvs.nats {H : Hp} : ∀ xs : List Nat, Dvs H (vn xs) xs
  | [] => .nil
  | x :: r => .cons (.nat x) (Dvs.nats r)
theorem Dvs.bls {H : Hp} : ∀ xs : List Bool, Dvs H (xs.map V.bl) xs
  | [] => .nil
  | x :: r => .cons (.bl x) (Dvs.bls r)
/-- a list of whole numbers from 0 on -/
theorem Dv.natl {H : Hp} {a : Addr} {xs : List Nat} (h : H a = some (.lst (vn xs))) : Dv H (.ref a) xs := .list h (Dvs.nats xs)
theorem Dv.natl_inv {H : Hp} {v : V} {xs : List Nat} (h : Dv H v xs) : ∃ a, v = .ref a ∧ H a = some (.lst (vn xs)) := by
  obtain ⟨a, vs, rfl, h1, h2⟩ := h.list_inv
  rw [h2.nats_inv] at h1
  exact ⟨a, rfl, h1⟩
theorem Dv.intl {H : Hp} {a : Addr} {xs : List Int} (h : H a = some (.lst (vi xs))) : Dv H (.ref a) xs := .list h (Dvs.ints xs)
theorem Dv.intl_inv {H : Hp} {v : V} {xs : List Int} (h : Dv H v xs) : ∃ a, v = .ref a ∧ H a = some (.lst (vi xs)) := by
  obtain ⟨a, vs, rfl, h1, h2⟩ := h.list_inv
  rw [h2.ints_inv] at h1
  exact ⟨a, rfl, h1⟩
theorem shaped_of (x : α) (hd : Datum.depth α ≤ 64) : SeqAt.shaped (Datum.toD x) = true := by
  unfold SeqAt.shaped
  rw [Dm.lay x, Bool.true_and]
  exact decide_eq_true (Nat.le_trans (Datum.depth_le x) hd)
theorem eqD {K : PySem.W.Frag} {H : Hp} {x y : V} {Q : VK} {a b : α} (hx : Dv H x a) (hy : Dv H y b) (hd : Datum.depth α ≤ 64) (q : Q (.bl (decide (a = b))) H) : rEqD K x y H Q := by
  refine ⟨_, _, dh_dp _ _ hx, dh_dp _ _ hy, shaped_of a hd, shaped_of b hd, ?_⟩
  rw [Datum.eqv]
  exact q
theorem neD {K : PySem.W.Frag} {H : Hp} {x y : V} {Q : VK} {a b : α} (hx : Dv H x a) (hy : Dv H y b) (hd : Datum.depth α ≤ 64) (q : Q (.bl (!decide (a = b))) H) : rNeD K x y H Q := by
  refine ⟨_, _, dh_dp _ _ hx, dh_dp _ _ hy, shaped_of a hd, shaped_of b hd, ?_⟩
  rw [Datum.eqv]
  exact q
end
/-! ### the heap but for two objects that change -/
def res (p c : Addr) (H : Hp) : Hp := fun b => if b = p ∨ b = c then none else H b
theorem res_eq {p c b : Addr} {H : Hp} (h1 : b ≠ p) (h2 : b ≠ c) : res p c H b = H b := if_neg (fun h => h.elim h1 h2)
theorem res_some {p c b : Addr} {H : Hp} {o : HO} (h : res p c H b = some o) : b ≠ p ∧ b ≠ c ∧ H b = some o := by
  unfold res at h
  by_cases e : b = p ∨ b = c
  · rw [if_pos e] at h
    cases h
  · rw [if_neg e] at h
    exact ⟨fun z => e (.inl z), fun z => e (.inr z), h⟩
theorem res_same (p c : Addr) (H : Hp) : Same (res p c H) H := fun _ _ h => (res_some h).2.2
theorem Same.res {H H' : Hp} (s : Same H H') (p c : Addr) : Same (res p c H) (res p c H') := fun b o h => by
  obtain ⟨h1, h2, h3⟩ := res_some h
  rw [res_eq h1 h2]
  exact s _ _ h3
theorem res_of {p c b : Addr} {H : Hp} {o : HO} (h1 : b ≠ p) (h2 : b ≠ c) (h : H b = some o) : res p c H b = some o := by
  rw [res_eq h1 h2]
  exact h
/-- the heap but for one object -/
def hid (q : Addr) (H : Hp) : Hp := fun b => if b = q then none else H b
theorem hid_eq {q b : Addr} {H : Hp} (h : b ≠ q) : hid q H b = H b := if_neg h
theorem hid_some {q b : Addr} {H : Hp} {o : HO} (h : hid q H b = some o) : b ≠ q ∧ H b = some o := by
  unfold hid at h
  by_cases e : b = q
  · rw [if_pos e] at h
    cases h
  · rw [if_neg e] at h
    exact ⟨e, h⟩
theorem hid_of {q b : Addr} {H : Hp} {o : HO} (h : b ≠ q) (e : H b = some o) : hid q H b = some o := by
  rw [hid_eq h]
  exact e
theorem hid_same (q : Addr) (H : Hp) : Same (hid q H) H := fun _ _ h => (hid_some h).2
theorem hid_mono {q : Addr} {H H' : Hp} (s : Same H H') : Same (hid q H) (hid q H') := fun b o h => by
  obtain ⟨h1, h2⟩ := hid_some h
  exact hid_of h1 (s _ _ h2)
theorem hid_mut {q : Addr} {H : Hp} {o : HO} : Same (hid q H) (hid q (upd H q o)) := fun b u h => by
  obtain ⟨h1, h2⟩ := hid_some h
  exact hid_of h1 (by rw [upd_ne h1]; exact h2)
theorem hid_res_mut {p c q : Addr} {H : Hp} {o : HO} : Same (hid q (res p c H)) (hid q (res p c (upd H q o))) := fun b u h => by
  obtain ⟨h1, h2⟩ := hid_some h
  obtain ⟨h3, h4, h5⟩ := res_some h2
  exact hid_of h1 (res_of h3 h4 (by rw [upd_ne h1]; exact h5))
theorem res_upd {p c q : Addr} {H : Hp} {o : HO} (h1 : q ≠ p) (h2 : q ≠ c) : res p c (upd H q o) q = some o := by
  rw [res_eq h1 h2]
  exact upd_same
theorem res_mut {p c D : Addr} {H H' : Hp} {o : HO} (e : Same (res p c H) (res p c H')) (h : H D = none) : Same (res p c H) (res p c (upd H' D o)) := fun b u hb => by
  obtain ⟨h1, h2, h3⟩ := res_some hb
  have h4 : b ≠ D := fun z => by
    rw [z, h] at h3
    cases h3
  rw [res_eq h1 h2, upd_ne h4]
  exact (res_some (e _ _ hb)).2.2
/-- the state of the draws: the script's numbers, from 0 on, and a seed -/
structure Dr (H : Hp) (p c : Addr) : Prop where
  ne : p ≠ c
  st : ∃ (cs : List Nat) (s : Int), H p = some (.lst [.ref c, .int s]) ∧ H c = some (.lst (vn cs)) ∧ cs.length ≤ 63
theorem Dr.same {H H' : Hp} {p c : Addr} (h : Dr H p c) (s : Same H H') : Dr H' p c := by
  obtain ⟨n, cs, z, h1, h2, h3⟩ := h
  exact ⟨n, cs, z, s _ _ h1, s _ _ h2, h3⟩
theorem Dr.off {H : Hp} {p c q : Addr} (h : Dr H p c) (hq : H q = none) : q ≠ p ∧ q ≠ c := by
  obtain ⟨n, cs, z, h1, h2, h3⟩ := h
  exact ⟨fun e => (by rw [e, h1] at hq; cases hq), fun e => (by rw [e, h2] at hq; cases hq)⟩
/-- from H to H' all but the state of the draws stays -/
structure Go (p c : Addr) (H H' : Hp) : Prop where
  a : Dr H p c
  b : Dr H' p c
  s : Same (res p c H) (res p c H')
theorem Go.refl {p c : Addr} {H : Hp} (h : Dr H p c) : Go p c H H := ⟨h, h, Same.refl _⟩
theorem Go.trans {p c : Addr} {H H1 H2 : Hp} (x : Go p c H H1) (y : Go p c H1 H2) : Go p c H H2 := ⟨x.a, y.b, x.s.trans y.s⟩
theorem Go.of {p c : Addr} {H H' : Hp} (h : Dr H p c) (s : Same H H') : Go p c H H' := ⟨h, h.same s, V0.Same.res s p c⟩
theorem Go.more {p c : Addr} {H H1 H2 : Hp} (x : Go p c H H1) (s : Same H1 H2) : Go p c H H2 := x.trans (Go.of x.b s)
theorem Go.mut {p c D : Addr} {H H' : Hp} {o : HO} (x : Go p c H H') (h : H D = none) : Go p c H (upd H' D o) := by
  refine ⟨x.a, ?_, res_mut x.s h⟩
  obtain ⟨h1, h2⟩ := x.a.off h
  obtain ⟨n, cs, z, e1, e2, e3⟩ := x.b
  exact ⟨n, cs, z, (by rw [upd_ne (fun e => h1 e.symm)]; exact e1), (by rw [upd_ne (fun e => h2 e.symm)]; exact e2), e3⟩
theorem Go.get {p c b : Addr} {H H' : Hp} {o : HO} (x : Go p c H H') (h1 : b ≠ p) (h2 : b ≠ c) (h : H b = some o) : H' b = some o := by
  rw [← res_eq (p := p) (c := c) (H := H) h1 h2] at h
  exact (res_some (x.s _ _ h)).2.2
/-- what was new at H and stands at H1 stands at H' -/
theorem Go.get' {p c b : Addr} {H H1 H' : Hp} {o : HO} (x : Go p c H1 H') (d : Dr H p c) (n : H b = none) (h : H1 b = some o) : H' b = some o := x.get (d.off n).1 (d.off n).2 h
theorem Go.up {p c b : Addr} {H H' : Hp} {o : HO} (x : Go p c H H') (h : res p c H b = some o) : H' b = some o := (res_some (x.s _ _ h)).2.2
theorem Go.none {p c b : Addr} {H H' : Hp} (x : Go p c H H') (h : H' b = none) : H b = none := by
  obtain ⟨h1, h2⟩ := x.b.off h
  cases e : H b with
  | none => rfl
  | some o =>
    rw [x.get h1 h2 e] at h
    cases h
theorem Dv.up {α : Type} [DecidableEq α] [Dm α] {p c : Addr} {H : Hp} {v : V} {x : α} (h : Dv (res p c H) v x) : Dv H v x := h.same (res_same p c H)
theorem Dvs.up {α : Type} [DecidableEq α] [Dm α] {p c : Addr} {H : Hp} {vs : List V} {x : List α} (h : Dvs (res p c H) vs x) : Dvs H vs x := h.same (res_same p c H)
theorem emod_range {x m : Int} (h : 0 < m) : 0 ≤ x.fmod m ∧ x.fmod m < m := by
  rw [Int.fmod_eq_emod_of_nonneg x (by omega)]
  exact ⟨Int.emod_nonneg _ (by omega), Int.emod_lt_of_pos _ h⟩
theorem ix_nat {n j : Nat} (h : j < n) : ixN n (j : Int) = some j := by
  unfold ixN
  rw [if_pos (Int.natCast_nonneg _), if_pos (by omega), Int.toNat_natCast]
/-- what is new at H' -/
def fresh (H H' : Hp) : Hp := fun b => match H b with
  | none => H' b
  | some _ => none
theorem fresh_some {H H' : Hp} {b : Addr} {o : HO} (h : fresh H H' b = some o) : H b = none ∧ H' b = some o := by
  unfold fresh at h
  cases e : H b with
  | none =>
    rw [e] at h
    exact ⟨rfl, h⟩
  | some u =>
    rw [e] at h
    cases h
theorem fresh_of {H H' : Hp} {b : Addr} {o : HO} (h : H b = none) (e : H' b = some o) : fresh H H' b = some o := by
  unfold fresh
  rw [h]
  exact e
theorem fresh_same {H H' : Hp} : Same (fresh H H') H' := fun _ _ h => (fresh_some h).2
theorem fresh_pre {H H1 H' : Hp} (s : Same H H1) : Same (fresh H1 H') (fresh H H') := fun b o h => by
  obtain ⟨h1, h2⟩ := fresh_some h
  refine fresh_of ?_ h2
  cases e : H b with
  | none => rfl
  | some u =>
    rw [s _ _ e] at h1
    cases h1
theorem fresh_post {H H' H2 : Hp} (s : Same H' H2) : Same (fresh H H') (fresh H H2) := fun b o h => by
  obtain ⟨h1, h2⟩ := fresh_some h
  exact fresh_of h1 (s _ _ h2)
theorem fresh_hid {H H' : Hp} {q : Addr} {o : HO} (h : H q = some o) : Same (fresh H H') (hid q H') := fun b u e => by
  obtain ⟨h1, h2⟩ := fresh_some e
  refine hid_of (fun z => ?_) h2
  rw [z, h] at h1
  cases h1
/-- new at H', as H goes to H' by growth -/
theorem none_of {H H' : Hp} {b : Addr} (s : Same H H') (h : H' b = none) : H b = none := by
  cases e : H b with
  | none => rfl
  | some u =>
    rw [s _ _ e] at h
    cases h
theorem upd_id {H : Hp} {a : Addr} {o : HO} (h : H a = some o) : upd H a o = H := funext fun b => by
  by_cases e : b = a
  · rw [e, upd_same, h]
  · rw [upd_ne e]
theorem small64k {n : Nat} (h : n ≤ 65536) : n < sizeLine := Nat.lt_of_le_of_lt h (by decide)
theorem fresh_res {p c : Addr} {H H' : Hp} (d : Dr H p c) : Same (fresh H H') (res p c H') := fun b o h => by
  obtain ⟨h1, h2⟩ := fresh_some h
  obtain ⟨h3, h4⟩ := d.off h1
  exact res_of h3 h4 h2
end V0
/-! nets as data, and what the laws make of them -/
namespace V0
open PySem PySem.Spec PyProof.Rows L2
open PySem.W (Datum)
structure Net where
  ins : Nat
  starts : List Nat
  gates : List (Nat × Nat)
  nexts : List Nat
  outs : List Nat
  deriving DecidableEq
theorem eqv_net (a b : Str) : PyData.eqv (.str a) (.str b) = decide (a = b) := by
  simp only [PyData.eqv]
  exact PySem.W.beq_decide a b
instance : Datum Net where
  toD n := .tuple [.str "net", Datum.toD n.ins, Datum.toD n.starts, Datum.toD n.gates, Datum.toD n.nexts, Datum.toD n.outs]
  plain n := by simp only [PyData.plain, PyData.plainAll, Datum.plain, Bool.and_self]
  eqv a b := by
    simp only [PyData.eqv, PyData.eqvAll, Datum.eqv, Bool.and_true]
    rw [PySem.W.beq_decide, ← Bool.decide_and, ← Bool.decide_and, ← Bool.decide_and, ← Bool.decide_and, ← Bool.decide_and]
    refine decide_eq_decide.mpr ⟨fun ⟨_, h1, h2, h3, h4, h5⟩ => ?_, fun e => by rw [e]; exact ⟨rfl, rfl, rfl, rfl, rfl, rfl⟩⟩
    cases a
    cases b
    simp only at h1 h2 h3 h4 h5
    rw [h1, h2, h3, h4, h5]
  depth := 3
  depth_le n := by
    have h1 := Datum.depth_le n.ins
    have h2 := Datum.depth_le n.starts
    have h3 := Datum.depth_le n.gates
    have h4 := Datum.depth_le n.nexts
    have h5 := Datum.depth_le n.outs
    have e1 : Datum.depth Nat = 0 := rfl
    have e2 : Datum.depth (List Nat) = 1 := rfl
    have e3 : Datum.depth (List (Nat × Nat)) = 2 := rfl
    rw [e1] at h1
    rw [e2] at h2 h4 h5
    rw [e3] at h3
    simp only [PyData.depth, PyData.depthAll]
    omega
instance : Dm Net where
  lay n := by
    have h1 := Dm.lay n.ins
    have h2 := Dm.lay n.starts
    have h3 := Dm.lay n.gates
    have h4 := Dm.lay n.nexts
    have h5 := Dm.lay n.outs
    simp only [Datum.toD] at h1 h2 h3 h4 h5 ⊢
    simp only [PyData.canLay0, PyData.canLayAll0, Bool.and_true] at h1 h2 h3 h4 h5 ⊢
    rw [h2, h3, h4, h5]
    decide +kernel
section
theorem Dv.net_inv {H : Hp} {v : V} {n : Net} (h : Dv H v n) : ∃ a s g x o, v = .ref a ∧ H a = some (.tup [.str "net", .int (n.ins : Int), .ref s, .ref g, .ref x, .ref o]) ∧
    Dv H (.ref s) n.starts ∧ Dv H (.ref g) n.gates ∧ Dv H (.ref x) n.nexts ∧ Dv H (.ref o) n.outs := by
  unfold Dv at h
  cases h with
  | tup h1 h2 =>
    cases h2 with
    | cons a1 h2 =>
      cases h2 with
      | cons a2 h2 =>
        cases h2 with
        | cons a3 h2 =>
          cases h2 with
          | cons a4 h2 =>
            cases h2 with
            | cons a5 h2 =>
              cases h2 with
              | cons a6 h2 =>
                cases h2
                cases a1
                have e2 := Dv.nat_inv (n := n.ins) a2
                subst e2
                obtain ⟨s, _, rfl, _⟩ := Dv.list_inv (xs := n.starts) a3
                obtain ⟨g, _, rfl, _⟩ := Dv.list_inv (xs := n.gates) a4
                obtain ⟨x, _, rfl, _⟩ := Dv.list_inv (xs := n.nexts) a5
                obtain ⟨o, _, rfl, _⟩ := Dv.list_inv (xs := n.outs) a6
                exact ⟨_, _, _, _, _, rfl, h1, a3, a4, a5, a6⟩
theorem Dv.net {H : Hp} {a : Addr} {n : Net} {s g x o : V} (h : H a = some (.tup [.str "net", .int (n.ins : Int), s, g, x, o])) (h1 : Dv H s n.starts) (h2 : Dv H g n.gates) (h3 : Dv H x n.nexts) (h4 : Dv H o n.outs) : Dv H (.ref a) n :=
  Dh.tup h (.cons (.str _) (.cons (.int _) (.cons h1 (.cons h2 (.cons h3 (.cons h4 .nil))))))
end
/-- how many nodes there are behind the inputs and flops -/
def Net.base (n : Net) : Nat := 1 + n.ins + n.starts.length
def Net.many (n : Net) : Nat := n.base + n.gates.length
structure Net.Ok (n : Net) (ins flops most : Nat) : Prop where
  ins : n.ins ≤ ins
  fl : n.starts.length ≤ flops
  bits : ∀ b ∈ n.starts, b < 2
  most : n.gates.length ≤ most
  g : ∀ j g, n.gates[j]? = some g → g.1 < 2 * (n.base + j) ∧ g.2 < 2 * (n.base + j)
  nl : n.nexts.length = n.starts.length
  nx : ∀ x ∈ n.nexts, x < 2 * n.many
  ol : n.outs.length ≤ 3
  ox : ∀ x ∈ n.outs, x < 2 * n.many
/-- a literal's bit in a row of values -/
def bitv (row : List Nat) (l : Nat) : Nat := (row[l / 2]?.getD 0) ^^^ (l % 2)
def rowOf (gs : List (Nat × Nat)) (row : List Nat) : List Nat := gs.foldl (fun r g => r ++ [bitv r g.1 * bitv r g.2]) row
def Net.row (n : Net) (held bits : List Nat) : List Nat := rowOf n.gates (0 :: bits ++ held)
theorem rowOf_len (gs : List (Nat × Nat)) (r : List Nat) : (rowOf gs r).length = r.length + gs.length := by
  induction gs generalizing r with
  | nil => rfl
  | cons g gs ih =>
    show (rowOf gs _).length = _
    rw [ih, List.length_append, List.length_cons, List.length_cons, List.length_nil]
    omega
theorem rowOf_snoc (gs : List (Nat × Nat)) (g : Nat × Nat) (r : List Nat) : rowOf (gs ++ [g]) r = rowOf gs r ++ [bitv (rowOf gs r) g.1 * bitv (rowOf gs r) g.2] := by
  unfold rowOf
  rw [List.foldl_append]
  rfl
theorem bitv_lt {row : List Nat} (h : ∀ b ∈ row, b < 2) (l : Nat) : bitv row l < 2 := by
  have h1 : row[l / 2]?.getD 0 < 2 := by
    cases e : row[l / 2]? with
    | none => decide
    | some x => exact h x (List.mem_of_getElem? e)
  exact Nat.xor_lt_two_pow (n := 1) h1 (Nat.mod_lt _ (by decide))
theorem mul_lt2 {a b : Nat} (ha : a < 2) (hb : b < 2) : a * b < 2 := by
  have : a = 0 ∨ a = 1 := by omega
  rcases this with rfl | rfl <;> omega
theorem rowOf_lt {gs : List (Nat × Nat)} {r : List Nat} (h : ∀ b ∈ r, b < 2) : ∀ b ∈ rowOf gs r, b < 2 := by
  induction gs generalizing r with
  | nil => exact h
  | cons g gs ih =>
    refine ih (r := r ++ [_]) fun b hb => ?_
    rcases List.mem_append.mp hb with hb | hb
    · exact h b hb
    · rw [List.mem_singleton.mp hb]
      exact mul_lt2 (bitv_lt h _) (bitv_lt h _)
theorem take_snoc {α : Type} {xs : List α} {i : Nat} {x : α} (h : xs[i]? = some x) : xs.take (i + 1) = xs.take i ++ [x] := by
  rw [List.take_add_one, h]
  rfl
theorem get_snoc {α : Type} {xs : List α} {x y : α} {k : Nat} (h : (xs ++ [x])[k]? = some y) : (k < xs.length ∧ xs[k]? = some y) ∨ (k = xs.length ∧ y = x) := by
  by_cases hk : k < xs.length
  · rw [List.getElem?_append_left hk] at h
    exact .inl ⟨hk, h⟩
  · rw [List.getElem?_append_right (by omega)] at h
    have e : k - xs.length = 0 := by
      cases e : k - xs.length with
      | zero => rfl
      | succ j =>
        rw [e] at h
        simp at h
    rw [e] at h
    cases h
    exact .inr ⟨by omega, rfl⟩
theorem mem_snoc {α : Type} {P : α → Prop} {xs : List α} {x : α} (h : ∀ y ∈ xs, P y) (hx : P x) : ∀ y ∈ xs ++ [x], P y := by
  intro y hy
  rcases List.mem_append.mp hy with hy | hy
  · exact h y hy
  · rw [List.mem_singleton.mp hy]
    exact hx
theorem vn_snoc (xs : List Nat) (x : Nat) : vn xs ++ [V.int (x : Int)] = vn (xs ++ [x]) := by
  unfold vn
  rw [List.map_append]
  rfl
theorem cut_nn (xs : List Nat) {a b : Nat} (h1 : a ≤ b) (h2 : b ≤ xs.length) : cutV (vn xs) (some (a : Int)) (some (b : Int)) = vn ((xs.drop a).take (b - a)) := by
  unfold cutV
  rw [HT.sIx_nat, HT.sIx_nat, vn_len, Nat.min_eq_left h2, Nat.min_eq_left (Nat.le_trans h1 h2)]
  unfold vn
  rw [← List.map_drop, ← List.map_take]
theorem set_vn (xs : List Nat) (i x : Nat) : (vn xs).set i (.int (x : Int)) = vn (xs.set i x) := by
  unfold vn
  rw [List.map_set]
theorem mem_set {α : Type} {P : α → Prop} {xs : List α} {i : Nat} {x : α} (h : ∀ y ∈ xs, P y) (hx : P x) : ∀ y ∈ xs.set i x, P y := by
  intro y hy
  rcases List.mem_or_eq_of_mem_set hy with hy | rfl
  · exact h y hy
  · exact hx
theorem dec_bool (a b : Bool) : decide (V.bl a = V.bl b) = decide (a = b) := by rw [Bool.eq_iff_iff]; simp
theorem dec_int (a b : Int) : decide (V.int a = V.int b) = decide (a = b) := by rw [Bool.eq_iff_iff]; simp
theorem dec_nat (a b : Nat) : decide (V.int (a : Int) = V.int (b : Int)) = decide (a = b) := by
  rw [dec_int]
  exact decide_eq_decide.mpr ⟨fun e => by omega, fun e => by rw [e]⟩
theorem dec_one (a : Nat) : decide (V.int (a : Int) = V.int 1) = decide (a = 1) := dec_nat a 1
theorem flat_vn : ∀ xs : List Nat, (vn xs).all flatV = true
  | [] => rfl
  | y :: r => by
    show (true && (vn r).all flatV) = true
    rw [flat_vn r]
    rfl
theorem inV_vn (c : Nat) : ∀ xs : List Nat, inV (.int (c : Int)) (vn xs) = decide (c ∈ xs)
  | [] => by rfl
  | y :: r => by
    have ih := inV_vn c r
    show (eqV (.int (y : Int)) (.int (c : Int)) || inV (.int (c : Int)) (vn r)) = _
    rw [ih]
    show (((y : Int) == (c : Int)) || decide (c ∈ r)) = _
    by_cases h : c ∈ r
    · rw [decide_eq_true h, Bool.or_true, decide_eq_true (List.mem_cons_of_mem _ h)]
    · by_cases e : y = c
      · subst e
        rw [beq_self_eq_true, Bool.true_or, decide_eq_true List.mem_cons_self]
      · rw [beq_eq_false_iff_ne.mpr (fun z => e (by omega)), decide_eq_false h, Bool.or_false, decide_eq_false (fun m => ?_)]
        rcases List.mem_cons.mp m with m | m
        · exact e m.symm
        · exact h m
theorem bxor (a b : Nat) : Builtin.bitXor (a : Int) (b : Int) = ((a ^^^ b : Nat) : Int) := by
  rw [Bits.bitXor_pp (Int.natCast_nonneg _) (Int.natCast_nonneg _), Int.toNat_natCast, Int.toNat_natCast]
theorem fdiv_nat (a b : Nat) : ((a : Int)).fdiv (b : Int) = ((a / b : Nat) : Int) := by
  rw [Int.fdiv_eq_ediv_of_nonneg _ (by omega)]
  rfl
theorem fmod_nat (a b : Nat) : ((a : Int)).fmod (b : Int) = ((a % b : Nat) : Int) := by
  rw [Int.fmod_eq_emod_of_nonneg _ (by omega)]
  rfl
theorem nfdiv2 (a : Nat) : ((a : Int)).fdiv 2 = ((a / 2 : Nat) : Int) := fdiv_nat a 2
theorem nfmod2 (a : Nat) : ((a : Int)).fmod 2 = ((a % 2 : Nat) : Int) := fmod_nat a 2
end V0
/-! repr of data, where nothing is being shown; the law's call with what stands around it -/
namespace V0
open PySem PySem.Spec PyProof.Rows L2
open PySem.W (Datum)
def rRepr (K : PySem.W.Frag) : List V → Hp → VK → Prop := fun xs H Q => ∃ (a : Addr) (d : PyData), xs = [.ref a] ∧ Dp K H (.ref a) d ∧ (d.showable = true ∧ d.hasDict = false ∧ d.depth ≤ 60 ∧ d.shown.length ≤ sizeLine) ∧ Q (.str d.shown) H
theorem call_reprD {X : Cx} (hg : X.A.guards = some []) (hu : X.A.units + 64 < cLine) : CallR X (.builtin "repr") (rRepr X.K) := by
  intro pins s σ H xs us Q I r h
  obtain ⟨a, d, rfl, hd, ⟨h1, h2, h3, h4⟩, q⟩ := h
  obtain ⟨u, rfl, rx⟩ := vals1 r
  obtain ⟨as, rd⟩ := Dp.reads I d _ _ hd rx
  obtain rfl : u = Value.ref a := rx
  refine repr_of_reads' rd h1 (PyData.noDict_hsm h2) hg (by omega) (fun _ _ e => e) (fun h' t tk hk => ?_) h4
  exact ⟨.str _, H, I.kept hk, ⟨t, rfl⟩, q⟩
/-- data whose text is short -/
structure Sm (d : PyData) (n : Nat) : Prop where
  sh : d.showable = true
  lv : d.leavesShort 13 = true
  wt : d.weight ≤ n
structure SmA (ds : List PyData) (n : Nat) : Prop where
  sh : PyData.showableAll ds = true
  lv : PyData.leavesShortAll 13 ds = true
  wt : PyData.weightAll ds ≤ n
theorem Sm.mono {d : PyData} {n m : Nat} (h : Sm d n) (l : n ≤ m) : Sm d m := ⟨h.sh, h.lv, Nat.le_trans h.wt l⟩
theorem Sm.int {i : Int} (h : i.natAbs < 10 ^ 12) : Sm (.int i) 40 := by
  have hl : i.natAbs.log2 < 40 := by
    by_cases h0 : i.natAbs = 0
    · rw [h0]
      decide
    · exact (Nat.log2_lt h0).mpr (Nat.lt_trans h (by decide))
  refine ⟨?_, ?_, ?_⟩
  · simp only [PyData.showable, decide_eq_true_eq]
    omega
  · simp only [PyData.leavesShort, decide_eq_true_eq]
    exact PyData.shown_int_le h
  · simp only [PyData.weight]
    split <;> omega
theorem Sm.nat {n : Nat} (h : n < 10 ^ 12) : Sm (.int (n : Int)) 40 := Sm.int (by rw [Int.natAbs_natCast]; exact h)
theorem SmA.nil : SmA [] 0 := ⟨by simp only [PyData.showableAll], by simp only [PyData.leavesShortAll], by simp only [PyData.weightAll]; exact Nat.le_refl _⟩
theorem SmA.cons {d : PyData} {ds : List PyData} {n m : Nat} (h : Sm d n) (hs : SmA ds m) : SmA (d :: ds) (n + 1 + m) :=
  ⟨by simp only [PyData.showableAll, h.sh, hs.sh, Bool.and_self], by simp only [PyData.leavesShortAll, h.lv, hs.lv, Bool.and_self], by simp only [PyData.weightAll]; have := h.wt; have := hs.wt; omega⟩
theorem SmA.all {n : Nat} : ∀ {ds : List PyData}, (∀ d ∈ ds, Sm d n) → SmA ds (ds.length * (n + 1))
  | [], _ => by rw [List.length_nil, Nat.zero_mul]; exact SmA.nil
  | d :: ds, h => by
    have a := SmA.cons (h d List.mem_cons_self) (SmA.all (ds := ds) fun e he => h e (List.mem_cons_of_mem _ he))
    have e : (d :: ds).length * (n + 1) = n + 1 + ds.length * (n + 1) := by
      rw [List.length_cons, Nat.add_mul, Nat.one_mul]
      omega
    rw [e]
    exact a
theorem Sm.list {ds : List PyData} {n : Nat} (h : SmA ds n) : Sm (.list ds) n := ⟨by simp only [PyData.showable, h.sh], by simp only [PyData.leavesShort, h.lv], by simp only [PyData.weight]; exact h.wt⟩
theorem Sm.tup {ds : List PyData} {n : Nat} (h : SmA ds n) : Sm (.tuple ds) n := ⟨by simp only [PyData.showable, h.sh], by simp only [PyData.leavesShort, h.lv], by simp only [PyData.weight]; exact h.wt⟩
theorem Sm.bl (b : Bool) : Sm (.bool b) 0 := ⟨by simp only [PyData.showable], by simp only [PyData.leavesShort], by simp only [PyData.weight]; exact Nat.le_refl _⟩
section
variable {α : Type} [DecidableEq α] [Dm α]
theorem Sm.of_list {xs : List α} {n : Nat} (h : ∀ x ∈ xs, Sm (Datum.toD x) n) : Sm (Datum.toD xs) (xs.length * (n + 1)) := by
  have a := SmA.all (ds := xs.map Datum.toD) (n := n) fun d hd => by
    obtain ⟨x, hx, rfl⟩ := List.mem_map.mp hd
    exact h x hx
  rw [List.length_map] at a
  exact Sm.list a
theorem Sm.nats {xs : List Nat} (h : ∀ x ∈ xs, x < 10 ^ 12) : Sm (Datum.toD xs) (xs.length * 41) := Sm.of_list fun x hx => Sm.nat (h x hx)
theorem Sm.ints {xs : List Int} (h : ∀ x ∈ xs, x.natAbs < 10 ^ 12) : Sm (Datum.toD xs) (xs.length * 41) := Sm.of_list fun x hx => Sm.int (h x hx)
/-- what repr tells of x -/
def txt (x : α) : Str := (Datum.toD x).shown
theorem reprD {K : PySem.W.Frag} {H : Hp} {a : Addr} {x : α} {n : Nat} {Q : VK} (hx : Dv H (.ref a) x) (s : Sm (Datum.toD x) n) (hn : n ≤ 2 ^ 20) (hd : Datum.depth α ≤ 60) (q : Q (.str (txt x)) H) : rRepr K [.ref a] H Q :=
  ⟨a, _, rfl, dh_dp _ _ hx, ⟨s.sh, PyData.hasDict_of_canLay _ (Dm.lay x), Nat.le_trans (Datum.depth_le x) hd, PyData.shown_fits (by decide) (by decide) s.lv (Nat.le_trans s.wt hn)⟩, q⟩
theorem four (x : α) {n : Nat} (s : Sm (Datum.toD x) n) (hn : n ≤ 2 ^ 20) (hd : Datum.depth α ≤ 60) : (Datum.toD x).showable = true ∧ (Datum.toD x).hasDict = false ∧ (Datum.toD x).depth ≤ 60 ∧ (Datum.toD x).shown.length ≤ sizeLine :=
  ⟨s.sh, PyData.hasDict_of_canLay _ (Dm.lay x), Nat.le_trans (Datum.depth_le x) hd, PyData.shown_fits (by decide) (by decide) s.lv (Nat.le_trans s.wt hn)⟩
end
/-! ### the law's call -/
/-- the law's def from where a claim calls it -/
def LawOk (P : Program) (w : World) (K : PySem.W.Frag) (mg : Str → Option Value) (base : Heap) (f : Addr) (fd : FuncData) (ps : List Str) (sp : Sp) : Prop :=
  ∀ (s : Shared) (H : Hp) (args : Args) (us : List Value) (vs : List V) (Q : VK) (E : XK), Env0 P w K mg base callerA [] s H → BindsTo s fd args (ps.zip us) → Vals vs us → sp vs H Q E → codeAny (model P w) callerA (.call (.ref f) args) (CR CX0 [] P w H s Q E) s
theorem lawOk {P : Program} {w : World} {K : PySem.W.Frag} {mg : Str → Option Value} {base : Heap} {x qual : Str} {st : Stmt} {f : Addr} {fd : FuncData} {N ps : List Str} {k : Nat} {sp : Sp} (F : Fun K x qual st f fd) (S : FnScope N ps (defScope st)) (room : Room (k + 1) callerA)
    (len : ∀ vs H Q E, sp vs H Q E → vs.length = ps.length)
    (body : ∀ (cdv : Value) (A : Around) (outer : List Env) (s : Shared) (H : Hp) (vs : List V) (Q : VK) (E : XK), Room k (A.deeper (envOfC qual (defScope st) s.heap.objs.size f cdv)) → (A.deeper (envOfC qual (defScope st) s.heap.objs.size f cdv)).guards = some [] → sp vs H Q E →
      ∃ t, PSs (cxOf CX0 P w K mg base N qual (defScope st) f cdv A outer s H E).nox (defBody st) t ∧ t { nx := fun _ H' => Q .non H', rt := Q } (L2.start N vs) H) : LawOk P w K mg base f fd ps sp := by
  obtain ⟨_, _, _, _, _, _, cdv, _, _, rfl, look, cod⟩ := F.ex
  intro s H args us vs Q E env bind rel want
  have inK : K.In s.heap := env.mod.kin.keeps fun b o g => (env.bs b o g).1
  have free : s.heap.NoLimit := env.mod.nolimit.keeps fun b o g => (env.bs b o g).1
  have vis : ∀ y ∈ ps.zip us, (defScope st).names.lookup y.1 = some .local ∨ ((defScope st).names.lookup y.1 = some .cell ∧ ((cellsFrom (s.heap.objs.size + 1) (defScope st).names []).lookup y.1).isSome = true) := by
    rintro ⟨n, v⟩ hy
    exact (S.par n (List.of_mem_zip hy).1).imp id fun c => ⟨c, PySem.W.cellsFrom_some _ _ _ (.inl c)⟩
  refine codeAny_call_function room.depth (inK _ _ look) rfl S.co S.gen rfl (PySem.W.codeRec_of inK cod) (bind _ _ _ _ ?_)
  refine wpAny_newFunctionEnv_cells S.kind vis fun env1 he s1 made => ?_
  subst he
  refine ⟨free.keeps made.toInCall.keep, codeAny_func ?_⟩
  obtain ⟨t, ht, ok⟩ := body cdv callerA [] s H vs Q E (room.deeper _) rfl want
  have I := inv_start (CX := CX0) (E := E) S room.hd env (len _ _ _ _ want) rel made
  refine wpAny_mono ((ht.nox).run [] s1 (L2.start N vs) H _ I ok) (fun fl s' told => ?_) fun e s' told => told
  cases fl with
  | next =>
    obtain ⟨_, H', J, done⟩ := told
    exact ⟨.non, H', J.os, J.bare, J.base, J.hok, rfl, done⟩
  | ret u =>
    obtain ⟨v, _, H', J, rv, done⟩ := told
    exact ⟨v, H', J.os, J.bare, J.base, J.hok, rv, done⟩
  | brk => exact told.elim fun _ h => h.elim fun _ h => h.2.elim
  | cont => exact told.elim fun _ h => h.elim fun _ h => h.2.elim
theorem law_at {P : Program} {w : World} {K : PySem.W.Frag} {mg mb : Str → Option Value} {f a : Addr} {fd : FuncData} {x : Str} {sp : Sp} {s : Shared} {us : List Value} {ns : List Int}
    (kin : K.In s.heap) (glob : s.heap.Ns mainGlobals mg) (blt : s.heap.Ns builtinsNs mb) (same : ∀ y : Str, y ≠ "__name__" → mb y = bootBuiltins y) (free : s.heap.NoLimit) (gens : s.gens = #[])
    (script : s.heap.get? a = some { cls := .type "list", data := .seq us.toArray }) (whole : IntsAre us ns) (few : ns.length ≤ sizeLine)
    (F : ∀ base : Heap, K.In base → base.Ns mainGlobals mg → LawOk P w K mg base f fd [x] sp) (binds : ∀ (t : Shared) (u : Value), BindsTo t fd ⟨[u], []⟩ [(x, u)])
    (want : ∀ H : Hp, Only H → SqL K H a (ns.map V.int) → sp [.ref a] H (fun v _ => v = .bl true) fun _ _ _ => False) :
    codeAny (model P w) callerA (.call (.ref f) ⟨[.ref a], []⟩) (fun r t => r = .ok (.ret (.bool true)) ∧ OldK s.heap t.heap ∧ t.os = s.os ∧ AllBare t.gens) s := by
  have rel := vals_ints whole
  have long := whole.length
  -- what is tracked at the start: the script, if it is not one of the module's own objects
  obtain ⟨H, only, seq, fits, dom, own⟩ : ∃ H : Hp, Only H ∧ SqL K H a (ns.map V.int) ∧ HOk P w H s.heap ∧ (∀ b o, H b = some o → b = a) ∧ (∀ o, H a = some o → K.lookup a = none) := by
    cases kl : K.lookup a with
    | some o =>
      have g := kin a o kl
      rw [script] at g
      cases g
      refine ⟨fun _ => none, fun _ => .inl rfl, .inr ⟨_, us.toArray, _, kl, rfl, rfl, rfl, ?_, ?_⟩, ?_, ?_, ?_⟩
      · rw [List.size_toArray, long]
        exact few
      · rw [List.toList_toArray]
        exact rel
      · intro b u z
        cases z
      · intro b u z
        cases z
      · intro u z
        cases z
    | none =>
      let fz : HO := .frz { cls := .type "list", data := .seq us.toArray } (.lst (ns.map V.int))
      have at_a : (fun b => if b = a then some fz else none : Hp) a = some fz := if_pos rfl
      have off_a : ∀ {b : Addr}, b ≠ a → (fun b => if b = a then some fz else none : Hp) b = none := fun h => if_neg h
      refine ⟨fun b => if b = a then some fz else none, fun b => ?_, .inl (.inr ⟨_, at_a⟩), fun b u z => ?_, fun b u z => ?_, fun _ _ => rfl⟩
      · by_cases e : b = a
        · subst e
          exact .inr ⟨_, _, at_a⟩
        · exact .inl (off_a e)
      · by_cases e : b = a
        · subst e
          rw [at_a] at z
          cases z
          refine ⟨script, ?_, us, _, rel, script⟩
          rw [List.length_map]
          exact few
        · rw [off_a e] at z
          cases z
      · by_cases e : b = a
        · exact e
        · rw [off_a e] at z
          cases z
  have under : ∀ {b : Addr} {o : Obj}, s.heap.get? b = some o → H b = none → (hidT s.heap H).get? b = some o := fun g n => hidT_get g n
  have dicts : ∀ {b : Addr} {m : Str → Option Value}, s.heap.Ns b m → (hidT s.heap H).Ns b m := by
    rintro b m ⟨o, es, ep, g, d, r⟩
    refine ⟨o, es, ep, under g ?_, d, r⟩
    cases hb : H b with
    | none => rfl
    | some u =>
      obtain rfl := dom b u hb
      rw [script] at g
      cases g
      cases d
  have kinB : K.In (hidT s.heap H) := by
    intro b o kl
    refine under (kin b o kl) ?_
    cases hb : H b with
    | none => rfl
    | some u =>
      obtain rfl := dom b u hb
      rw [own u hb] at kl
      cases kl
  have modB : Mod K mg (hidT s.heap H) := by
    refine ⟨kinB, dicts glob, ⟨mb, dicts blt, same⟩, ?_⟩
    obtain ⟨mc, z1, z2⟩ := free
    exact ⟨mc, dicts z1, z2⟩
  have env : Env0 P w K mg (hidT s.heap H) callerA [] s H :=
    ⟨rfl, modB, fun b o g => of_hidT g, Nat.le_of_eq (hidT_size _ _), trivial, fun b hb => (by cases hb), fits, .of_eq gens⟩
  refine codeAny_mono (F _ kinB (dicts glob) s H ⟨[.ref a], []⟩ [.ref a] [.ref a] _ _ env (binds s (.ref a)) (.cons rfl .nil) (want H only seq)) fun r t told => ?_
  match r, told with
  | .error e, told => exact told.elim
  | .ok .next, told => exact told.elim
  | .ok .brk, told => exact told.elim
  | .ok .cont, told => exact told.elim
  | .ok (.ret u), ⟨v, H', os, bare, un, fits', rv, yes⟩ =>
    have yes' : v = .bl true := yes
    subst yes'
    have eu : u = Value.bool true := rv
    subst eu
    refine ⟨rfl, OldK.of_keep fun b o g => ?_, os, bare⟩
    cases hb : H b with
    | none => exact un.keep b o g hb (fun z => (by cases z)) (by simp)
    | some u2 =>
      rcases only b with z | ⟨ob, xs, z⟩
      · rw [z] at hb
        cases hb
      · obtain ⟨e1, _⟩ := fits b _ z
        obtain ⟨e2, _⟩ := fits' b _ (un.frzs b ob _ z)
        rw [g] at e1
        cases e1
        exact e2
/-- the goal that k_head leaves, where the law's promise is LawOk -/
theorem walk_at {l : PySem.W.OpenLaw} {n : Nat} {q : Program} {loose : List Str} {XP : (Str → Option Value) → Heap → Prop} {YP : World → Heap → Prop} {d : DefRec} {K : Params → PySem.W.Frag} {sp : PySem.W.Frag → Sp} {x : Str}
    (hn : l.most = some n) (hs : n ≤ sizeLine) (plain : d.params.defaults = []) (hY : ∀ (w : World) (h : Heap), YP w h → (K w.params).In h)
    (F : ∀ (w : World) (mg : Str → Option Value) (f : Addr) (h : Heap), (K w.params).In h → h.Ns mainGlobals mg → mg d.name = some (.ref f) →
      ∃ fd : FuncData, (∀ (s : Shared) (u : Value), BindsTo s fd ⟨[u], []⟩ [(x, u)]) ∧ ∀ base : Heap, (K w.params).In base → base.Ns mainGlobals mg → LawOk l.prog w (K w.params) mg base f fd [x] (sp (K w.params)))
    (want : ∀ (K : PySem.W.Frag) (H : Hp) (a : Addr) (ns : List Int), ns.length ≤ n → Only H → SqL K H a (ns.map V.int) → sp K [.ref a] H (fun v _ => v = .bl true) fun _ _ _ => False) :
    PySem.W.WalkO q loose XP YP l.row.toRowW d [] (fun f vs => PySem.call f vs) := by
  refine Att.attach_call hn plain fun w _ s1 mg mb f _ _ _ _ a us ns G Y _ _ _ named obj whole few gens => ?_
  have kin := hY w _ Y
  obtain ⟨fd, binds, told⟩ := F w mg f _ kin G.T.g named
  exact law_at kin G.T.g G.T.b G.T.builtins G.T.nolimit gens obj whole (Nat.le_trans few hs) told binds fun H only seq => want _ H a ns few only seq
end V0
/-! set(xs) of a list of whole numbers, and len of such a set -/
namespace V0
open PySem PySem.Spec PyProof.Rows L2
/-- the set that set.__new__ leaves -/
def bare (w : World) : Obj := { cls := .type "set", dict := none, data := .set #[] 0 (.fresh 0 0 (!w.params.followText "set-order")) }
section
variable {P : Program} {w : World} {A : Around} {E : Value → Shared → Prop} {s : Shared}
/-- what set.__init__ does with a list of ints -/
theorem set_filled {l : Addr} {arr : Array Value} {xs : List Int} {R : Value → Shared → Prop} (calm : A.handled = none) (lst : s.heap.IsList l arr) (num : IntsAre arr.toList xs) (few : xs.length + 1 < scanBound)
    (told : ∀ (h' : Heap) (tk c : Nat), SetR w h' s.heap.objs.size (fun j => decide (j ∈ xs)) c → c ≤ xs.length → (∀ b o, s.heap.get? b = some o → h'.get? b = some o) → R .none { s with heap := h', toks := tk }) :
    codeAny (model P w) A (.call (.builtin "set.__init__") ⟨[.ref s.heap.objs.size, .ref l], []⟩) (wants R E) { s with heap := s.heap.push (bare w) } := by
  have own : (s.heap.push (bare w)).get? s.heap.objs.size = some (bare w) := Heap.get?_push_size _ rfl
  have kind : Shared.TypeIs { s with heap := s.heap.push (bare w) } (.ref s.heap.objs.size) "set" := ⟨_, own, rfl⟩
  have many : arr.size = xs.length := by rw [← Array.length_toList, IntsAre.length num]
  refine codeAny_call_builtin F.called_set.init.plain F.entry_set_init (check_set_init_1 kind ?_)
  obtain ⟨⟨cl, od, dat, sl⟩, at_l, is_l, nn, is_d⟩ := lst
  dsimp only at is_l is_d
  subst is_l is_d
  have below := Heap.lt_size at_l
  have at_l1 : (s.heap.push (bare w)).get? l = some ⟨.type "list", od, .seq arr nn, sl⟩ := Heap.get?_push_of_some _ at_l
  have lst1 : (s.heap.push (bare w)).IsList l arr := ⟨_, at_l1, rfl, nn, rfl⟩
  have no1 := F.sub_list_set
  have no2 := F.sub_list_frozenset
  have no3 : (Value.type "list" == Value.type "dict") = false := by decide
  unfold Builtin.«set.__init__» noKeywords Builtin.Frozenset.updateFrom
  generalize walker : pyIter = PI
  wp_walk
  subst walker
  refine wpAny_pyIter_list lst1 (wpAny_bind (wpAny_runValue ?_))
  have size1 : (s.heap.push (bare w)).objs.size = s.heap.objs.size + 1 := Heap.size_push ..
  have ne1 : l ≠ (s.heap.push (bare w)).objs.size := size1 ▸ Nat.ne_of_lt (Nat.lt_succ_of_lt below)
  have calm3 : A.in1.in1.handled = none := by simp [calm]
  have out : s.heap.objs.size ∉ [(s.heap.push (bare w)).objs.size, l] := by
    intro hm
    rcases List.mem_cons.mp hm with e | hm
    · rw [size1] at e
      exact Nat.ne_of_lt (Nat.lt_succ_self _) e
    · exact Nat.ne_of_lt below (List.mem_singleton.mp hm).symm
  have each : ∀ (i : Nat) (v : Value), arr[i]? = some v → ∃ k t, xs[i]? = some k ∧ v = .int k t := by
    intro i v hv
    have hi : i < xs.length := many ▸ (Array.getElem?_eq_some_iff.mp hv).1
    obtain ⟨t, e⟩ := PyProof.Rows.IntsAre.int_at num i v ((Array.getElem?_toList ..).trans hv)
    refine ⟨xs[i], t, List.getElem?_eq_getElem hi, ?_⟩
    rw [e, List.getD_eq_getElem?_getD, List.getElem?_eq_getElem hi]
    rfl
  refine set_update_ints ((Walks.list calm3 _ l ne1 arr).toS) s.heap.objs.size out xs many few each (arr.size - 0) 0 _ (by omega) (Nat.zero_le _) ⟨⟨_, Heap.get?_push_size _ rfl, rfl, rfl⟩, lst1.push _⟩ ⟨0, Nat.le_refl 0, setR_new_at (Heap.get?_push_of_some _ own)⟩ ?_
  rintro ⟨h', g', d', tk', os'⟩ c moved bound full
  obtain rfl : g' = s.gens := moved.gens
  obtain rfl : d' = s.drawn := moved.drawn
  obtain rfl : os' = s.os := moved.os
  show wpAny _ _ _ _ _ _
  refine wpAny_pure ?_
  show wpAny _ _ (ret Value.none) _ _ _
  refine wpAny_pure (told h' tk' c full (many ▸ bound) fun b o e => ?_)
  have low := Heap.lt_size e
  refine moved.heap b o ?_ (Heap.get?_push_of_some _ (Heap.get?_push_of_some _ e))
  intro hm
  rcases List.mem_cons.mp hm with z | hm
  · exact Nat.ne_of_lt low z
  · have z := List.mem_singleton.mp hm
    rw [size1] at z
    exact Nat.ne_of_lt (Nat.lt_succ_of_lt low) z
theorem call_set_ints {l : Addr} {arr : Array Value} {xs : List Int} {Q : Value → Shared → Prop} (calm : A.handled = none) (lst : s.heap.IsList l arr) (num : IntsAre arr.toList xs) (few : xs.length + 1 < scanBound)
    (then_ : ∀ (h' : Heap) (tk c : Nat), SetR w h' s.heap.objs.size (fun j => decide (j ∈ xs)) c → c ≤ xs.length → (∀ b o, s.heap.get? b = some o → h'.get? b = some o) → Q (.ref s.heap.objs.size) { s with heap := h', toks := tk }) :
    wpAny (model P w) A (call (.type "set") [.ref l]) Q E s := by
  obtain ⟨_, _, order⟩ := F.called_set.mro
  have made := F.called_set.made
  have below := F.called_set.sub
  refine wpAny_call (codeAny_of_tree ?_)
  show wpAny _ _ (callAny (.type "set") ⟨[.ref l], []⟩) _ _ s
  refine wpAny_pure ⟨Code.quiet_builtin _ (by decide +kernel), codeAny_builtin F.entry_type_call ?_⟩
  rw [Around.under_plain (weight_type_call_type "set" [.ref l] []) rfl]
  have f1 := F.called_set.notType
  have f2 := F.called_set.canCreate
  have f3 := F.typeCall_set_1 (.ref l)
  repeat (any_goals (first | assumption | wp_step))
  refine codeAny_mono (code_set_led1 (.ref l) (E := E) (Q₁ := fun u t => u = .ref s.heap.objs.size ∧ t = { s with heap := s.heap.push (bare w) }) ⟨rfl, rfl⟩) fun r t first => ?_
  match r, first with
  | .error e, first => exact first
  | .ok .next, first => exact first.elim
  | .ok .brk, first => exact first.elim
  | .ok .cont, first => exact first.elim
  | .ok (.ret u), ⟨eu, et⟩ =>
    subst eu et
    have kind : Shared.TypeIs { s with heap := s.heap.push (bare w) } (.ref s.heap.objs.size) "set" := ⟨_, Heap.get?_push_size _ rfl, rfl⟩
    have f4 := F.called_set.init.lookup
    have f5 := F.called_set.init.bind (.ref s.heap.objs.size)
    repeat (any_goals (first | assumption | wp_step))
    refine codeAny_mono (set_filled (A := _) (E := E) (R := fun v t => v = .none ∧ ∃ h' tk c, t = { s with heap := h', toks := tk } ∧ SetR w h' s.heap.objs.size (fun j => decide (j ∈ xs)) c ∧ c ≤ xs.length ∧ (∀ b o, s.heap.get? b = some o → h'.get? b = some o)) (by simp [calm]) lst num few fun h' tk c a b k => ⟨rfl, h', tk, c, rfl, a, b, k⟩) fun r t second => ?_
    match r, second with
    | .error e, second => exact second
    | .ok .next, second => exact second.elim
    | .ok .brk, second => exact second.elim
    | .ok .cont, second => exact second.elim
    | .ok (.ret v), ⟨ev, h', tk, c, et, a, b, k⟩ =>
      subst ev et
      repeat (any_goals (first | assumption | wp_step))
      exact then_ _ _ _ a b k
end
/-- set(xs) -/
def rSetOf (K : PySem.W.Frag) (w : World) : List V → Hp → VK → Prop := fun vs H Q => ∃ (l : Addr) (xs : List Int), vs = [.ref l] ∧ SqL K H l (xs.map V.int) ∧ xs.length ≤ 4000 ∧ ∀ p c, H p = none → c ≤ xs.length → Q (.ref p) (upd H p (SetO w p (fun j => decide (j ∈ xs)) c))
theorem cr_setOf {X : Cx} (hc : X.calm = true) : CallR X (.type "set") (rSetOf X.K X.w) := by
  intro pins s σ H vs us Q I r h
  obtain ⟨l, xs, rfl, seq, few, q⟩ := h
  obtain rfl := Vals.ref1 r
  obtain ⟨its, rv, pl, _⟩ := I.list seq
  have num : IntsAre its xs := intsAre_of rv
  refine call_set_ints (I.ok.hd hc) pl.isList (by simpa using num) (by unfold scanBound; omega) fun h' tk c full bound k => ?_
  exact ⟨.ref _, _, I.laid (t' := tk) k (Nat.le_refl _) (setO_new full), rfl, q _ c (I.hok.fresh (Nat.le_refl _)) bound⟩
/-- the ascending list of what stands in xs -/
theorem asc_mem {ns : List Int} {xs : List Nat} (h1 : ns.Pairwise (· < ·)) (h2 : ∀ k : Int, k ∈ ns ↔ k ∈ xs.map (fun (x : Nat) => (x : Int))) : ∃ ys : List Nat, ns = ys.map (fun (x : Nat) => (x : Int)) ∧ ys.Pairwise (· < ·) ∧ ∀ y, y ∈ ys ↔ y ∈ xs := by
  refine ⟨ns.map Int.toNat, ?_, ?_, ?_⟩
  · rw [List.map_map]
    refine (List.map_id ns).symm.trans (List.map_congr_left fun k hk => ?_)
    obtain ⟨x, _, rfl⟩ := List.mem_map.mp ((h2 k).mp hk)
    rfl
  · rw [List.pairwise_map]
    refine h1.imp_of_mem fun {a b} ha hb hab => ?_
    obtain ⟨x, _, rfl⟩ := List.mem_map.mp ((h2 a).mp ha)
    obtain ⟨y, _, rfl⟩ := List.mem_map.mp ((h2 b).mp hb)
    show (x : Int).toNat < (y : Int).toNat
    omega
  · intro y
    rw [List.mem_map]
    constructor
    · rintro ⟨k, hk, rfl⟩
      obtain ⟨x, hx, rfl⟩ := List.mem_map.mp ((h2 k).mp hk)
      exact hx
    · intro hy
      exact ⟨(y : Int), (h2 _).mpr (List.mem_map.mpr ⟨y, hy, rfl⟩), rfl⟩
theorem asc_unique : ∀ {xs ys : List Nat}, xs.Pairwise (· < ·) → ys.Pairwise (· < ·) → (∀ y, y ∈ xs ↔ y ∈ ys) → xs = ys
  | [], [], _, _, _ => rfl
  | [], y :: ys, _, _, h => by
    have := (h y).mpr List.mem_cons_self
    cases this
  | x :: xs, [], _, _, h => by
    have := (h x).mp List.mem_cons_self
    cases this
  | x :: xs, y :: ys, h1, h2, h => by
    rw [List.pairwise_cons] at h1 h2
    have e : x = y := by
      have a := (h x).mp List.mem_cons_self
      have b := (h y).mpr List.mem_cons_self
      rcases List.mem_cons.mp a with a | a
      · exact a
      · rcases List.mem_cons.mp b with b | b
        · exact b.symm
        · have c := h1.1 y b
          have d := h2.1 x a
          omega
    subst e
    rw [asc_unique h1.2 h2.2 fun z => ?_]
    have hz := h z
    rw [List.mem_cons, List.mem_cons] at hz
    constructor
    · intro m
      rcases hz.mp (.inr m) with rfl | m2
      · exact absurd (h1.1 z m) (Nat.lt_irrefl _)
      · exact m2
    · intro m
      rcases hz.mpr (.inr m) with rfl | m2
      · exact absurd (h2.1 z m) (Nat.lt_irrefl _)
      · exact m2
abbrev toI (xs : List Nat) : List Int := xs.map (fun (b : Nat) => (b : Int))
theorem vn_int (xs : List Nat) : vn xs = (toI xs).map V.int := by
  unfold toI
  rw [List.map_map]
  rfl
/-- sorted(set(xs)) -/
theorem sorted_set_nat {K : PySem.W.Frag} {w : World} {H : Hp} {l : Addr} {xs : List Nat} {Q : VK} (h : H l = some (.lst (vn xs))) (few : xs.length < 64)
    (q : ∀ p ys H', Same H H' → H p = none → H' p = some (.lst (vn ys)) → ys.Pairwise (· < ·) → (∀ y, y ∈ ys ↔ y ∈ xs) → ys.length ≤ xs.length → Q (.ref p) H') :
    rSetOf K w [.ref l] H (fun z Hz => rSortedSet w [z] Hz Q) := by
  refine ⟨l, toI xs, rfl, SqL.of (by rw [h, vn_int]), by rw [List.length_map]; omega, fun pz c nz hc => ⟨pz, _, c, rfl, upd_same, ?_, fun ns p asc mem len np => ?_⟩⟩
  · rw [List.length_map] at hc
    omega
  · obtain ⟨ys, rfl, h1, h2⟩ := asc_mem (xs := xs) asc fun k => by rw [mem k, decide_eq_true_eq]
    rw [List.length_map] at hc len
    have s1 := same_new (o := SetO w pz (fun j => decide (j ∈ toI xs)) c) nz
    refine q p ys _ (s1.trans (same_new np)) (none_of s1 np) ?_ h1 h2 (by omega)
    rw [upd_same, vn_int]
theorem perm_asc {ns : List Int} {ks : List Nat} (h1 : ns.Perm (toI ks)) (h2 : ns.Pairwise (· ≤ ·)) (nd : ks.Nodup) : ∃ zs : List Nat, ns = toI zs ∧ zs.Pairwise (· < ·) ∧ ∀ y, y ∈ zs ↔ y ∈ ks := by
  have nd1 : (toI ks).Nodup := by
    show List.Pairwise (· ≠ ·) (List.map _ ks)
    rw [List.pairwise_map]
    have nd' : ks.Pairwise (· ≠ ·) := nd
    exact nd'.imp fun {a b} h e => h (by omega)
  have nd2 : ns.Nodup := h1.nodup_iff.mpr nd1
  have h3 : ns.Pairwise (· < ·) := by
    have h4 : ns.Pairwise (· ≠ ·) := nd2
    exact (h2.and h4).imp fun {a b} h => by omega
  exact asc_mem h3 fun k => h1.mem_iff
/-! ### marks in a dict -/
def mkD (ks : List Nat) : List (Key × V) := ks.map fun (x : Nat) => (Sum.inl (x : Int), V.bl true)
theorem mkD_val (ks : List Nat) (y : Nat) : valV (mkD ks) (Sum.inl (y : Int)) = if y ∈ ks then some (V.bl true) else none := by
  induction ks with
  | nil =>
    rw [if_neg List.not_mem_nil]
    rfl
  | cons x r ih =>
    show valV ((Sum.inl (x : Int), V.bl true) :: mkD r) _ = _
    by_cases e : x = y
    · subst e
      rw [valV_pos (p := (Sum.inl (x : Int), V.bl true)) rfl, if_pos List.mem_cons_self]
    · rw [valV_neg (p := (Sum.inl (x : Int), V.bl true)) (fun z => e (by have := Sum.inl.inj z; omega)), ih]
      by_cases h : y ∈ r
      · rw [if_pos h, if_pos (List.mem_cons_of_mem _ h)]
      · rw [if_neg h, if_neg (fun m => (List.mem_cons.mp m).elim (fun z => e z.symm) h)]
def addN (ks : List Nat) (y : Nat) : List Nat := if y ∈ ks then ks else ks ++ [y]
theorem mkD_put (ks : List Nat) (y : Nat) : putK (mkD ks) (Sum.inl (y : Int)) (V.bl true) = mkD (addN ks y) := by
  unfold addN
  have hv := mkD_val ks y
  by_cases h : y ∈ ks
  · rw [if_pos h]
    rw [if_pos h] at hv
    have ha : ((mkD ks).any fun kv => decide (kv.1 = Sum.inl (y : Int))) = true := by rw [valV_any, hv]; rfl
    unfold putK
    rw [if_pos ha]
    unfold mkD
    rw [List.map_map]
    refine List.map_congr_left fun x _ => ?_
    show (if (Sum.inl (x : Int) : Key) = Sum.inl (y : Int) then ((Sum.inl (x : Int) : Key), V.bl true) else (Sum.inl (x : Int), V.bl true)) = _
    split <;> rfl
  · rw [if_neg h] at hv ⊢
    rw [putK_new _ hv]
    unfold mkD
    rw [List.map_append]
    rfl
theorem addN_mem (ks : List Nat) (y z : Nat) : z ∈ addN ks y ↔ z ∈ ks ∨ z = y := by
  unfold addN
  split
  · rename_i h
    constructor
    · exact .inl
    · rintro (m | rfl)
      · exact m
      · exact h
  · rw [List.mem_append, List.mem_singleton]
theorem addN_nodup {ks : List Nat} (h : ks.Nodup) (y : Nat) : (addN ks y).Nodup := by
  unfold addN
  split
  · exact h
  · rename_i hy
    rw [List.nodup_append]
    refine ⟨h, by simp, fun a ha b hb e => ?_⟩
    rw [List.mem_singleton.mp hb] at e
    exact hy (e ▸ ha)
theorem sum_int : ∀ xs : List Nat, (toI xs).sum = ((xs.sum : Nat) : Int)
  | [] => rfl
  | b :: r => by
    show ((b : Int) :: toI r).sum = ((b + r.sum : Nat) : Int)
    rw [List.sum_cons, sum_int r]
    omega
end V0
/-! cuts of nets, bits of tables -/
namespace V0
open PySem PySem.Spec PyProof.Rows L2
open PySem.W (Datum)
/-! ### numbers by their bits -/
def num : List Nat → Nat
  | [] => 0
  | b :: r => b + 2 * num r
theorem num_append (xs ys : List Nat) : num (xs ++ ys) = num xs + 2 ^ xs.length * num ys := by
  induction xs with
  | nil => simp [num]
  | cons b r ih =>
    show b + 2 * num (r ++ ys) = b + 2 * num r + 2 ^ (r.length + 1) * num ys
    rw [ih, Nat.pow_succ, Nat.mul_add, Nat.mul_comm (2 ^ r.length) 2, Nat.mul_assoc, Nat.add_assoc]
theorem num_snoc (xs : List Nat) (b : Nat) : num (xs ++ [b]) = num xs + b * 2 ^ xs.length := by
  rw [num_append]
  show num xs + 2 ^ xs.length * (b + 2 * 0) = _
  rw [Nat.mul_zero, Nat.add_zero, Nat.mul_comm]
theorem num_lt {xs : List Nat} (h : ∀ b ∈ xs, b < 2) : num xs < 2 ^ xs.length := by
  induction xs with
  | nil => decide
  | cons b r ih =>
    have h1 := h b List.mem_cons_self
    have h2 := ih fun c hc => h c (List.mem_cons_of_mem _ hc)
    show b + 2 * num r < 2 ^ (r.length + 1)
    rw [Nat.pow_succ]
    omega
theorem num_testBit {xs : List Nat} (h : ∀ b ∈ xs, b < 2) (i : Nat) : (num xs).testBit i = decide (xs[i]? = some 1) := by
  induction xs generalizing i with
  | nil => simp [num]
  | cons b r ih =>
    have h1 := h b List.mem_cons_self
    have hb : b = 0 ∨ b = 1 := by omega
    have h2 := fun j => ih (fun c hc => h c (List.mem_cons_of_mem _ hc)) j
    cases i with
    | zero =>
      show (b + 2 * num r).testBit 0 = decide (some b = some 1)
      rw [Nat.testBit_zero]
      rcases hb with rfl | rfl
      · have : (0 + 2 * num r) % 2 = 0 := by omega
        rw [this]
        rfl
      · have : (1 + 2 * num r) % 2 = 1 := by omega
        rw [this]
        rfl
    | succ j =>
      show (b + 2 * num r).testBit (j + 1) = decide (r[j]? = some 1)
      rw [Nat.testBit_succ, ← h2 j]
      congr 1
      omega
/-- the columns of bits f 0, f 1, .. -/
def colN (m : Nat) (f : Nat → Nat) : Nat := num ((List.range m).map f)
theorem col_succ (m : Nat) (f : Nat → Nat) : colN (m + 1) f = colN m f + f m * 2 ^ m := by
  unfold colN
  rw [map_range_succ, num_snoc, List.length_map, List.length_range]
theorem col_lt (m : Nat) (f : Nat → Nat) (h : ∀ i, i < m → f i < 2) : colN m f < 2 ^ m := by
  have := num_lt (xs := (List.range m).map f) fun b hb => by
    obtain ⟨i, hi, rfl⟩ := List.mem_map.mp hb
    exact h i (List.mem_range.mp hi)
  rw [List.length_map, List.length_range] at this
  exact this
theorem col_testBit {m : Nat} {f : Nat → Nat} (h : ∀ i, i < m → f i < 2) (i : Nat) : (colN m f).testBit i = (decide (i < m) && decide (f i = 1)) := by
  unfold colN
  rw [num_testBit]
  · by_cases hi : i < m
    · rw [List.getElem?_map, List.getElem?_range hi, decide_eq_true hi, Bool.true_and]
      show decide (some (f i) = some 1) = _
      exact decide_eq_decide.mpr ⟨fun e => Option.some.inj e, fun e => by rw [e]⟩
    · rw [List.getElem?_eq_none (by rw [List.length_map, List.length_range]; omega), decide_eq_false hi]
      rfl
  · intro b hb
    obtain ⟨i, hi, rfl⟩ := List.mem_map.mp hb
    exact h i (List.mem_range.mp hi)
theorem col_and {m : Nat} {f g : Nat → Nat} (hf : ∀ i, i < m → f i < 2) (hg : ∀ i, i < m → g i < 2) : colN m f &&& colN m g = colN m (fun i => f i * g i) := by
  apply Nat.eq_of_testBit_eq
  intro i
  rw [Nat.testBit_and, col_testBit hf, col_testBit hg, col_testBit (fun i hi => mul_lt2 (hf i hi) (hg i hi))]
  by_cases hi : i < m
  · rw [decide_eq_true hi, Bool.true_and, Bool.true_and, Bool.true_and]
    have h1 := hf i hi
    have h2 := hg i hi
    have e1 : f i = 0 ∨ f i = 1 := by omega
    have e2 : g i = 0 ∨ g i = 1 := by omega
    rcases e1 with e1 | e1 <;> rcases e2 with e2 | e2 <;> rw [e1, e2] <;> decide
  · rw [decide_eq_false hi]
    rfl
theorem col_xor {m : Nat} {f : Nat → Nat} (hf : ∀ i, i < m → f i < 2) (l : Nat) : colN m f ^^^ (if l % 2 = 1 then 2 ^ m - 1 else 0) = colN m (fun i => f i ^^^ (l % 2)) := by
  have hx : ∀ i, i < m → f i ^^^ (l % 2) < 2 := fun i hi => Nat.xor_lt_two_pow (n := 1) (hf i hi) (Nat.mod_lt _ (by decide))
  apply Nat.eq_of_testBit_eq
  intro i
  rw [Nat.testBit_xor, col_testBit hf, col_testBit hx]
  rcases Nat.mod_two_eq_zero_or_one l with e | e
  · rw [if_neg (by omega), e, Nat.zero_testBit, Bool.xor_false]
    simp
  · rw [if_pos e, e, Nat.testBit_two_pow_sub_one]
    by_cases hi : i < m
    · rw [decide_eq_true hi, Bool.true_and, Bool.true_and]
      have h1 := hf i hi
      have e1 : f i = 0 ∨ f i = 1 := by omega
      rcases e1 with e1 | e1 <;> rw [e1] <;> decide
    · rw [decide_eq_false hi]
      rfl
/-- the sum of the powers whose bit is set -/
theorem sum_pows (m : Nat) (f : Nat → Nat) (h : ∀ i, i < m → f i < 2) : (((List.range m).filter fun i => decide (f i = 1)).map fun i => 2 ^ i).sum = colN m f := by
  induction m with
  | zero => rfl
  | succ m ih =>
    rw [List.range_succ, List.filter_append, List.map_append, List.sum_append, ih fun i hi => h i (by omega), col_succ]
    have h1 := h m (by omega)
    have e1 : f m = 0 ∨ f m = 1 := by omega
    rcases e1 with e1 | e1
    · simp [e1]
    · simp [e1]
/-! ### cuts -/
inductive Sep (n : Net) (cut : List Nat) : Nat → Prop
  | hit {x : Nat} : x ∈ cut → Sep n cut x
  | gate {x : Nat} {g : Nat × Nat} : n.base ≤ x → n.gates[x - n.base]? = some g → Sep n cut (g.1 / 2) → Sep n cut (g.2 / 2) → Sep n cut x
def kids (n : Net) (x : Nat) : List Nat := if x < n.base then [] else match n.gates[x - n.base]? with
  | some g => [g.1 / 2, g.2 / 2]
  | none => []
theorem Sep.expand {n : Net} {cut other : List Nat} {node : Nat} (hn : kids n node ≠ []) (hk : ∀ y ∈ kids n node, y ∈ other) (ho : ∀ y ∈ cut, y ≠ node → y ∈ other) {x : Nat} (h : Sep n cut x) : Sep n other x := by
  induction h with
  | @hit x hx =>
    by_cases e : x = node
    · subst e
      unfold kids at hn hk
      by_cases hb : x < n.base
      · rw [if_pos hb] at hn
        exact absurd rfl hn
      · rw [if_neg hb] at hn hk
        cases eg : n.gates[x - n.base]? with
        | none =>
          rw [eg] at hn
          exact absurd rfl hn
        | some g =>
          rw [eg] at hk
          exact .gate (by omega) eg (.hit (hk _ (by simp))) (.hit (hk _ (by simp)))
    · exact .hit (ho x hx e)
  | gate hb hg _ _ i1 i2 => exact .gate hb hg i1 i2
theorem Sep.mono {n : Net} {cut other : List Nat} (ho : ∀ y ∈ cut, y ∈ other) {x : Nat} (h : Sep n cut x) : Sep n other x := by
  induction h with
  | hit hx => exact .hit (ho _ hx)
  | gate hb hg _ _ i1 i2 => exact .gate hb hg i1 i2
theorem Sep.some {n : Net} {cut : List Nat} {x : Nat} (h : Sep n cut x) : cut ≠ [] := by
  induction h with
  | hit hx => exact List.ne_nil_of_mem hx
  | gate _ _ _ _ i1 _ => exact i1
/-- a net as the law draws it -/
structure TOk (n : Net) : Prop where
  i1 : 1 ≤ n.ins
  i4 : n.ins ≤ 4
  fl : n.starts.length ≤ 2
  gl : n.gates.length ≤ 9
  g : ∀ j g, n.gates[j]? = some g → (2 ≤ g.1 ∧ g.1 < 2 * (n.base + j)) ∧ (2 ≤ g.2 ∧ g.2 < 2 * (n.base + j)) ∧ g.1 / 2 ≠ g.2 / 2
theorem TOk.kid {n : Net} (t : TOk n) {x y : Nat} (h : y ∈ kids n x) : 1 ≤ y ∧ y < x ∧ n.base ≤ x := by
  unfold kids at h
  by_cases hb : x < n.base
  · rw [if_pos hb] at h
    cases h
  · rw [if_neg hb] at h
    cases eg : n.gates[x - n.base]? with
    | none =>
      rw [eg] at h
      cases h
    | some g =>
      rw [eg] at h
      have := t.g _ _ eg
      simp only [List.mem_cons, List.not_mem_nil, or_false] at h
      rcases h with rfl | rfl <;> omega
structure IsCut (n : Net) (gate : Nat) (cut : List Nat) (k : Nat) : Prop where
  len : cut.length ≤ k
  asc : cut.Pairwise (· < ·)
  bnd : ∀ x ∈ cut, 0 < x ∧ x < gate
  sep : ∀ y ∈ kids n gate, Sep n cut y
theorem kids_gate {n : Net} {x : Nat} (h1 : n.base ≤ x) (h2 : x < n.many) : ∃ g, n.gates[x - n.base]? = some g ∧ kids n x = [g.1 / 2, g.2 / 2] := by
  have hj : x - n.base < n.gates.length := by
    unfold Net.many at h2
    omega
  refine ⟨_, List.getElem?_eq_getElem hj, ?_⟩
  unfold kids
  rw [if_neg (by omega), List.getElem?_eq_getElem hj]
theorem IsCut.some {n : Net} {gate k : Nat} {cut : List Nat} (c : IsCut n gate cut k) (h1 : n.base ≤ gate) (h2 : gate < n.many) : cut ≠ [] := by
  obtain ⟨g, _, e⟩ := kids_gate h1 h2
  exact (c.sep (g.1 / 2) (by rw [e]; simp)).some
theorem Sep.gate_of {n : Net} {cut : List Nat} {x : Nat} (h : Sep n cut x) (hx : x ∉ cut) : n.base ≤ x ∧ x < n.many ∧ ∀ y ∈ kids n x, Sep n cut y := by
  cases h with
  | hit h => exact absurd h hx
  | @gate _ g hb hg h1 h2 =>
    have hj := (List.getElem?_eq_some_iff.mp hg).1
    refine ⟨hb, by unfold Net.many; omega, fun y hy => ?_⟩
    unfold kids at hy
    rw [if_neg (by omega), hg] at hy
    simp only [List.mem_cons, List.not_mem_nil, or_false] at hy
    rcases hy with rfl | rfl
    · exact h1
    · exact h2
theorem kids_len (n : Net) (x : Nat) : (kids n x).length ≤ 2 := by
  unfold kids
  split
  · decide
  · split <;> simp
theorem nodup_bound : ∀ {m : Nat} {xs : List Nat}, xs.Nodup → (∀ x ∈ xs, x < m) → xs.length ≤ m
  | 0, xs, _, b => by
    cases xs with
    | nil => exact Nat.le_refl _
    | cons x r => exact absurd (b x List.mem_cons_self) (Nat.not_lt_zero _)
  | m + 1, xs, h, b => by
    have ih := nodup_bound (m := m) (xs := xs.erase m) (h.erase m) fun x hx => by
      have h1 := (h.mem_erase_iff).mp hx
      have h2 := b x h1.2
      have h3 := h1.1
      omega
    rw [List.length_erase] at ih
    split at ih <;> omega
theorem many16 {n : Net} (ok : TOk n) : n.many ≤ 16 := by
  have := ok.i4
  have := ok.fl
  have := ok.gl
  unfold Net.many Net.base
  omega
/-! ### bits of gates -/
def gbit (n : Net) (kn : Nat → Option Nat) (x : Nat) : Nat := match kn x with
  | some b => b
  | none => match n.gates[x - n.base]? with
    | none => 0
    | some g => if h : g.1 / 2 < x ∧ g.2 / 2 < x then (gbit n kn (g.1 / 2) ^^^ (g.1 % 2)) * (gbit n kn (g.2 / 2) ^^^ (g.2 % 2)) else 0
termination_by x
decreasing_by
  · exact h.1
  · exact h.2
theorem gbit_hit {n : Net} {kn : Nat → Option Nat} {x b : Nat} (h : kn x = some b) : gbit n kn x = b := by
  rw [gbit, h]
theorem gbit_gate {n : Net} {kn : Nat → Option Nat} {x : Nat} {g : Nat × Nat} (h : kn x = none) (hg : n.gates[x - n.base]? = some g) (h1 : g.1 / 2 < x) (h2 : g.2 / 2 < x) :
    gbit n kn x = (gbit n kn (g.1 / 2) ^^^ (g.1 % 2)) * (gbit n kn (g.2 / 2) ^^^ (g.2 % 2)) := by
  rw [gbit, h]
  simp only [hg]
  rw [dif_pos ⟨h1, h2⟩]
theorem gbit_lt {n : Net} {kn : Nat → Option Nat} (hk : ∀ x b, kn x = some b → b < 2) (x : Nat) : gbit n kn x < 2 := by
  induction x using Nat.strongRecOn with
  | ind x ih =>
    rw [gbit]
    cases e : kn x with
    | some b => exact hk x b e
    | none =>
      simp only
      cases eg : n.gates[x - n.base]? with
      | none =>
        show 0 < 2
        decide
      | some g =>
        simp only
        split
        · rename_i h
          exact mul_lt2 (Nat.xor_lt_two_pow (n := 1) (ih _ h.1) (Nat.mod_lt _ (by decide))) (Nat.xor_lt_two_pow (n := 1) (ih _ h.2) (Nat.mod_lt _ (by decide)))
        · decide
/-- what is known of the m-th choice of values of a cut -/
def kn (cut : List Nat) (m x : Nat) : Option Nat := if x ∈ cut then some (m / 2 ^ (cut.idxOf x) % 2) else none
theorem kn_lt (cut : List Nat) (m : Nat) : ∀ x b, kn cut m x = some b → b < 2 := by
  intro x b h
  unfold kn at h
  split at h
  · cases h
    exact Nat.mod_lt _ (by decide)
  · cases h
def colOf (n : Net) (cut : List Nat) (x : Nat) : Nat := colN (2 ^ cut.length) fun m => gbit n (kn cut m) x
theorem colOf_hit {n : Net} {cut : List Nat} {x : Nat} (h : x ∈ cut) : colOf n cut x = colN (2 ^ cut.length) fun m => m / 2 ^ (cut.idxOf x) % 2 := by
  unfold colOf
  congr 1
  funext m
  exact gbit_hit (if_pos h)
theorem colOf_gate {n : Net} {cut : List Nat} {x : Nat} {g : Nat × Nat} (h : x ∉ cut) (hg : n.gates[x - n.base]? = some g) (h1 : g.1 / 2 < x) (h2 : g.2 / 2 < x) :
    colOf n cut x = (colOf n cut (g.1 / 2) ^^^ (if g.1 % 2 = 1 then 2 ^ 2 ^ cut.length - 1 else 0)) &&& (colOf n cut (g.2 / 2) ^^^ (if g.2 % 2 = 1 then 2 ^ 2 ^ cut.length - 1 else 0)) := by
  have hx : ∀ (y l : Nat), ∀ i, i < 2 ^ cut.length → gbit n (kn cut i) y ^^^ (l % 2) < 2 := fun y l i _ => Nat.xor_lt_two_pow (n := 1) (gbit_lt (kn_lt cut i) y) (Nat.mod_lt _ (by decide))
  unfold colOf
  rw [col_xor fun i _ => gbit_lt (kn_lt cut i) _, col_xor fun i _ => gbit_lt (kn_lt cut i) _, col_and (hx _ _) (hx _ _)]
  congr 1
  funext m
  exact gbit_gate (if_neg h) hg h1 h2
/-! ### what stands above a cut -/
structure MK (n : Net) (gate : Nat) (cut ks : List Nat) : Prop where
  nd : ks.Nodup
  g : gate ∈ ks
  b : ∀ x ∈ ks, n.base ≤ x ∧ x ≤ gate ∧ x ∉ cut ∧ ∀ y ∈ kids n x, Sep n cut y
structure Above (n : Net) (gate : Nat) (cut ab : List Nat) : Prop where
  asc : ab.Pairwise (· < ·)
  g : gate ∈ ab
  b : ∀ x ∈ ab, n.base ≤ x ∧ x ≤ gate ∧ x ∉ cut
  k : ∀ x ∈ ab, ∀ y ∈ kids n x, y ∈ cut ∨ y ∈ ab
theorem band (a b : Nat) : Builtin.bitAnd (a : Int) (b : Int) = ((a &&& b : Nat) : Int) := by
  rw [bitAnd_pp (Int.natCast_nonneg _) (Int.natCast_nonneg _), Int.toNat_natCast, Int.toNat_natCast]
theorem band_one (a : Nat) : Builtin.bitAnd (a : Int) 1 = ((a % 2 : Nat) : Int) := by
  have h := PySem.W.kbt_mask ((a : Nat) : Int) 1
  rw [show (2 : Int) ^ 1 - 1 = 1 by decide, show (2 : Int) ^ 1 = 2 by decide] at h
  rw [h]
  rfl
theorem shl_nat (a k : Nat) : (a : Int) * 2 ^ ((k : Int)).toNat = ((a * 2 ^ k : Nat) : Int) := by
  rw [Int.toNat_natCast, Int.natCast_mul, Int.natCast_pow]
  rfl
theorem shl_one (k : Nat) : (1 : Int) * 2 ^ ((k : Int)).toNat = ((2 ^ k : Nat) : Int) := by
  rw [Int.one_mul, Int.toNat_natCast, Int.natCast_pow]
  rfl
theorem shr_nat (a k : Nat) : (a : Int) / 2 ^ ((k : Int)).toNat = ((a / 2 ^ k : Nat) : Int) := by
  rw [Int.toNat_natCast, Int.natCast_ediv, Int.natCast_pow]
  rfl
theorem shr_one (a : Nat) : (a : Int) / 2 ^ ((1 : Int)).toNat = ((a / 2 : Nat) : Int) := rfl
end V0
/-! xs[i] op= e; more operators in place; comprehensions of two clauses by an invariant -/
namespace V0
open PySem PySem.Spec PyProof.Rows L2
theorem pg_ixL {X : Cx} : PGet X (rIxL X.K) := by
  intro pins s σ H x y v u Q I rx ry h
  obtain ⟨p, xs, i, z, rfl, rfl, hq, he, q⟩ := h
  cases rx
  obtain ⟨t, rfl⟩ := ry
  obtain ⟨its, r, pl, hz⟩ := I.list hq
  obtain ⟨j, h1, h2, h3, h4, h5⟩ := atI_get he
  obtain ⟨w, ew, rw'⟩ := r.get h2
  have hl := r.length
  have hn := line63
  have fin : EP X pins σ Q w s := ⟨z, H, I, rw', q⟩
  by_cases h0 : 0 ≤ i
  · have hj : i.toNat = j := by
      rw [seqIndex_of h0 h5] at h1
      exact Option.some.inj h1
    exact wpAny_getItem_list pl.isList h0 (by omega) (by rw [hj]; simpa using ew) fin
  · have hj : (i + (its.toArray.size : Int)).toNat = j := by
      rw [seqIndex_neg (by omega) h4] at h1
      rw [List.size_toArray, ← hl]
      exact Option.some.inj h1
    exact wpAny_getItem_list_neg pl.isList (by omega) (by rw [List.size_toArray] <;> omega) (by omega) (by rw [hj]; simpa using ew) fin
theorem ip_or {X : Cx} : PIp X .BitOr (ipI fun i j => Builtin.bitOr i j) := by
  intro pins s σ H x y v u Q I r1 r2 h
  obtain ⟨i, j, e1, e2, q⟩ := h
  subst e1; subst e2
  obtain ⟨t, rfl⟩ := r1
  obtain ⟨t', rfl⟩ := r2
  exact ior_int ⟨.int _, H, I.tok _, ⟨_, rfl⟩, q⟩
/-- a star in a display, K told -/
theorem pa_starK {X : Cx} {K : PySem.W.Frag} {e : Expr} {es : List Expr} {te : TE} {t : TA} {p : Pos} (hK : X.K = K) (he : PE X e te) (hr : PA X es t) (hs : starEach (.Starred e p :: es) X.env = (true, eval e X.env) :: starEach es X.env := by rfl) : PA X (.Starred e p :: es) (StX.tStar K te t) := by
  subst hK
  exact StX.pa_star he hr hs
/-- a if t else b: what both ways give -/
theorem ifx {b : Bool} {A B : VK → Prop} {Q : VK} (R : V → Hp → Prop) (hA : b = true → ∀ Q : VK, (∀ y H', R y H' → Q y H') → A Q) (hB : b = false → ∀ Q : VK, (∀ y H', R y H' → Q y H') → B Q) (fin : ∀ y H', R y H' → Q y H') : if b = true then A Q else B Q := by
  cases b with
  | true => exact iteT (hA rfl Q fin)
  | false => exact iteF (hB rfl Q fin)
/-- a walked thing's number of turns, and what each turn gives -/
structure Wk (J : It) (n : Nat) (Y : Nat → Hp → V → Hp → Prop) (S : Nat → Hp → Prop) : Prop where
  stop : ∀ H, S n H → J.stop n H
  go : ∀ i H, i < n → S i H → J.go i H
  yld : ∀ i H x H', i < n → S i H → J.yld i H x H' → Y i H x H'
theorem wk_range {lo : Int} {n : Nat} : Wk (Itr lo n) n (fun i H x H' => x = .int (lo + i) ∧ H' = H) (fun _ _ => True) := by
  refine ⟨fun H _ => Nat.le_refl _, fun i H h _ => h, fun i H x H' _ _ y => ?_⟩
  obtain ⟨e, y⟩ := y
  exact ⟨y, e⟩
theorem wk_list {K : PySem.W.Frag} {a : Addr} {xs : List V} : Wk (Itl K a) xs.length (fun i H x H' => xs[i]? = some x ∧ H' = H) (fun _ H => SqL K H a xs) := by
  refine ⟨fun H h => ⟨xs, h, Nat.le_refl _⟩, fun i H h s => ⟨xs, xs[i], s, by simp [h]⟩, fun i H x H' _ s y => ?_⟩
  obtain ⟨e, y⟩ := y
  subst e
  exact ⟨y xs s, rfl⟩
theorem wk_tup {K : PySem.W.Frag} {a : Addr} {xs : List V} : Wk (Itt K a) xs.length (fun i H x H' => xs[i]? = some x ∧ H' = H) (fun _ H => SqT K H a xs) := by
  refine ⟨fun H h => ⟨xs, h, Nat.le_refl _⟩, fun i H h s => ⟨xs, xs[i], s, by simp [h]⟩, fun i H x H' _ s y => ?_⟩
  obtain ⟨e, y⟩ := y
  subst e
  exact ⟨y xs s, rfl⟩
/-- the outer clause of a comprehension of two, and its inner one -/
theorem lc2_out {J : It} {n : Nat} {Y : Nat → Hp → V → Hp → Prop} {S : Nat → Hp → Prop} {g : TG} {tt : TT} {inner : L2.St → Hp → (Hp → Prop) → Prop} {vs : List Nat} {σ : L2.St} {H1 : Hp} {Qd : Hp → Prop} (w : Wk J n Y S) (Pv : Nat → Hp → Prop) (h0 : Pv 0 H1) (hl : ∀ i H, i ≤ n → Pv i H → S i H)
    (hs : ∀ i H x H', i < n → Pv i H → Y i H x H' → g x (wipe σ vs) H' fun σ2 H2 => wipe σ2 vs = wipe σ vs ∧ tt σ2 H2 fun b H3 => if b = true then inner σ2 H3 (Pv (i + 1)) else Pv (i + 1) H3) (hd : ∀ H, Pv n H → Qd H) :
    ∃ W : Nat → Nat → Hp → Prop, (∃ m, W 0 m H1) ∧ ∀ i m H, W i m H →
      (J.stop i H ∧ Qd H) ∨ (J.go i H ∧ ∃ Nx : Hp → Prop, (∀ H', Nx H' → ∃ m', m' < m ∧ W (i + 1) m' H') ∧ ∀ x H', J.yld i H x H' → g x (wipe σ vs) H' fun σ2 H2 => wipe σ2 vs = wipe σ vs ∧ tt σ2 H2 fun b H3 =>
        if b = true then inner σ2 H3 Nx else Nx H3) := by
  refine ⟨fun i m H => m = n - i ∧ i ≤ n ∧ Pv i H, ⟨n, by simp, Nat.zero_le _, h0⟩, ?_⟩
  rintro i m H ⟨rfl, hi, p⟩
  by_cases hlt : i < n
  · refine .inr ⟨w.go i H hlt (hl i H hi p), Pv (i + 1), fun H' p' => ⟨n - (i + 1), by omega, rfl, hlt, p'⟩, fun x H' y => ?_⟩
    exact hs i H x H' hlt p (w.yld i H x H' hlt (hl i H hi p) y)
  · have e : i = n := by omega
    subst e
    exact .inl ⟨w.stop H (hl i H hi p), hd H p⟩
end V0
/-! the state of draws that go through the script once and then on by a seed -/
namespace V0
open PySem PySem.Spec PyProof.Rows L2
structure Dw (H : Hp) (p c : Addr) : Prop where
  ne : p ≠ c
  st : ∃ (xs : List Int) (i b z : Nat), H p = some (.lst [.ref c, .int (i : Nat), .int (b : Nat), .int (z : Nat)]) ∧ H c = some (.lst (vi xs)) ∧ xs.length ≤ 63 ∧ z < 2147483647
theorem Dw.same {H H' : Hp} {p c : Addr} (h : Dw H p c) (s : Same H H') : Dw H' p c := by
  obtain ⟨n, xs, i, b, z, h1, h2, h3⟩ := h
  exact ⟨n, xs, i, b, z, s _ _ h1, s _ _ h2, h3⟩
theorem Dw.off {H : Hp} {p c q : Addr} (h : Dw H p c) (hq : H q = none) : q ≠ p ∧ q ≠ c := by
  obtain ⟨n, xs, i, b, z, h1, h2, h3⟩ := h
  exact ⟨fun e => (by rw [e, h1] at hq; cases hq), fun e => (by rw [e, h2] at hq; cases hq)⟩
/-- from H to H' all but the state of the draws stays -/
structure Gw (p c : Addr) (H H' : Hp) : Prop where
  a : Dw H p c
  b : Dw H' p c
  s : Same (hid p H) (hid p H')
theorem Gw.refl {p c : Addr} {H : Hp} (h : Dw H p c) : Gw p c H H := ⟨h, h, Same.refl _⟩
theorem Gw.trans {p c : Addr} {H H1 H2 : Hp} (x : Gw p c H H1) (y : Gw p c H1 H2) : Gw p c H H2 := ⟨x.a, y.b, x.s.trans y.s⟩
theorem Gw.of {p c : Addr} {H H' : Hp} (h : Dw H p c) (s : Same H H') : Gw p c H H' := ⟨h, h.same s, hid_mono s⟩
theorem Gw.more {p c : Addr} {H H1 H2 : Hp} (x : Gw p c H H1) (s : Same H1 H2) : Gw p c H H2 := x.trans (Gw.of x.b s)
theorem Gw.get {p c b : Addr} {H H' : Hp} {o : HO} (x : Gw p c H H') (h1 : b ≠ p) (h : H b = some o) : H' b = some o := (hid_some (x.s _ _ (hid_of h1 h))).2
/-- what was new at H and stands at H1 stands at H' -/
theorem Gw.get' {p c b : Addr} {H H1 H' : Hp} {o : HO} (x : Gw p c H1 H') (d : Dw H p c) (n : H b = none) (h : H1 b = some o) : H' b = some o := x.get (d.off n).1 h
theorem Gw.up {p c b : Addr} {H H' : Hp} {o : HO} (x : Gw p c H H') (h : hid p H b = some o) : H' b = some o := (hid_some (x.s _ _ h)).2
theorem Gw.mut {p c D : Addr} {H H' : Hp} {o : HO} (x : Gw p c H H') (h : H D = none) : Gw p c H (upd H' D o) := by
  obtain ⟨h1, h2⟩ := x.a.off h
  obtain ⟨n, xs, i, b, z, e1, e2, e3⟩ := x.b
  refine ⟨x.a, ⟨n, xs, i, b, z, (by rw [upd_ne (fun e => h1 e.symm)]; exact e1), (by rw [upd_ne (fun e => h2 e.symm)]; exact e2), e3⟩, fun b u hb => ?_⟩
  obtain ⟨g1, g2⟩ := hid_some hb
  have h4 : b ≠ D := fun y => by
    rw [y, h] at g2
    cases g2
  exact hid_of g1 (by rw [upd_ne h4]; exact (hid_some (x.s _ _ hb)).2)
theorem Gw.none {p c b : Addr} {H H' : Hp} (x : Gw p c H H') (h : H' b = none) : H b = none := by
  obtain ⟨h1, h2⟩ := x.b.off h
  cases e : H b with
  | none => rfl
  | some o =>
    rw [x.get h1 e] at h
    cases h
section
variable {α : Type} [DecidableEq α] [Dm α] {p c : Addr} {H H' : Hp} {v : V} {vs : List V} {x : α} {xs : List α}
theorem Dv.hup (h : Dv (hid p H) v x) : Dv H v x := h.same (hid_same p H)
theorem Dvs.hup (h : Dvs (hid p H) vs xs) : Dvs H vs xs := h.same (hid_same p H)
end
theorem fresh_hidp {p c : Addr} {H H' : Hp} (d : Dw H p c) : Same (fresh H H') (hid p H') := fun b o h => by
  obtain ⟨h1, h2⟩ := fresh_some h
  exact hid_of (d.off h1).1 h2
theorem hid2_mut {p q : Addr} {H : Hp} {o : HO} : Same (hid q (hid p H)) (hid q (hid p (upd H q o))) := fun b u h => by
  obtain ⟨h1, h2⟩ := hid_some h
  obtain ⟨h3, h4⟩ := hid_some h2
  exact hid_of h1 (hid_of h3 (by rw [upd_ne h1]; exact h4))
theorem ten18 : (10 : Int) ^ (18 : Int).toNat = 1000000000000000000 := by decide +kernel
end V0
/-! a pair or None as data; lists that grow in what is new; slices from and to a place -/
namespace V0
open PySem PySem.Spec PyProof.Rows L2
open PySem.W (Datum)
theorem pair_toD (p : Nat × Nat) : Datum.toD p = .tuple [Datum.toD p.1, Datum.toD p.2] := rfl
instance : Datum (Option (Nat × Nat)) where
  toD x := match x with
    | none => .none
    | some p => Datum.toD p
  plain x := by
    cases x with
    | none => simp only [PyData.plain]
    | some p => exact Datum.plain p
  eqv a b := by
    cases a with
    | none =>
      cases b with
      | none => simp only [PyData.eqv, decide_true]
      | some q =>
        rw [decide_eq_false (by intro e; cases e)]
        show PyData.eqv .none (.tuple [Datum.toD q.1, Datum.toD q.2]) = false
        simp only [PyData.eqv]
    | some p =>
      cases b with
      | none =>
        rw [decide_eq_false (by intro e; cases e)]
        show PyData.eqv (.tuple [Datum.toD p.1, Datum.toD p.2]) .none = false
        simp only [PyData.eqv]
      | some q =>
        have h := Datum.eqv p q
        rw [h]
        exact decide_eq_decide.mpr ⟨fun e => by rw [e], fun e => Option.some.inj e⟩
  depth := Datum.depth (Nat × Nat)
  depth_le x := by
    cases x with
    | none =>
      simp only [PyData.depth]
      exact Nat.zero_le _
    | some p => exact Datum.depth_le p
instance : Dm (Option (Nat × Nat)) where
  lay x := by
    cases x with
    | none => simp only [Datum.toD, PyData.canLay0]
    | some p => exact Dm.lay p
theorem Dv.non {H : Hp} : Dv H .non (none : Option (Nat × Nat)) := Dh.non
theorem Dv.some_ {H : Hp} {v : V} {p : Nat × Nat} (h : Dv H v p) : Dv H v (some p : Option (Nat × Nat)) := h
theorem Dv.some_inv {H : Hp} {v : V} {p : Nat × Nat} (h : Dv H v (some p : Option (Nat × Nat))) : Dv H v p := h
theorem Dv.none_inv {H : Hp} {v : V} (h : Dv H v (none : Option (Nat × Nat))) : v = .non := by
  unfold Dv at h
  cases h
  rfl
theorem Dvs.somes {H : Hp} : ∀ {vs : List V} {ps : List (Nat × Nat)}, Dvs H vs ps → Dvs H vs (ps.map some)
  | _, [], h => by rw [h.nil_inv]; exact .nil
  | _, _ :: _, h => by
    obtain ⟨v, us, rfl, h1, h2⟩ := h.cons_inv
    exact .cons h1.some_ h2.somes
/-- a list that is built is put again, with what is new around it -/
theorem hid_fresh_mut {D : Addr} {H Hx : Hp} {o : HO} : Same (hid D (fresh H Hx)) (hid D (fresh H (upd Hx D o))) := fun z u hz => by
  obtain ⟨h1, h2⟩ := hid_some hz
  obtain ⟨h3, h4⟩ := fresh_some h2
  exact hid_of h1 (fresh_of h3 (by rw [upd_ne h1]; exact h4))
theorem cut_to' (xs : List V) (n : Nat) : cutV xs none (some (n : Int)) = xs.take n := by
  unfold cutV
  rw [HT.sIx_none, HT.sIx_nat, List.drop_zero, Nat.sub_zero]
  rcases Nat.le_total n xs.length with h | h
  · rw [Nat.min_eq_left h]
  · rw [Nat.min_eq_right h, List.take_of_length_le (Nat.le_refl _), List.take_of_length_le h]
theorem cut_from (xs : List V) (n : Nat) : cutV xs (some (n : Int)) none = xs.drop n := by
  unfold cutV
  rw [HT.sIx_none, HT.sIx_nat]
  rcases Nat.le_total n xs.length with h | h
  · rw [Nat.min_eq_left h, List.take_of_length_le (by rw [List.length_drop]; exact Nat.le_refl _)]
  · rw [Nat.min_eq_right h, List.drop_of_length_le (Nat.le_refl _), List.drop_of_length_le h, List.take_nil]
end V0
namespace K69
open PySem PySem.Spec PyProof.Rows L2 V0
def topS (i : Nat) : Stmt := PySem.Challenge.pw_cellcloth_k69_agreeing_faults.main.body.getD i (.Pass ⟨0, 0, 0, 0⟩)
abbrev s__law_draws : Stmt := topS 17
abbrev N__law_draws : List Str := ["script"]
theorem sc_law_draws : FnScope ["script"] ["script"] (defScope s__law_draws) := ⟨rfl, rfl, rfl, by decide +kernel, rfl, by decide +kernel, by decide +kernel⟩
abbrev s__law_draw : Stmt := topS 18
abbrev N__law_draw : List Str := ["draws", "limit", "cell", "value"]
theorem sc_law_draw : FnScope ["draws", "limit", "cell", "value"] ["draws", "limit"] (defScope s__law_draw) := ⟨rfl, rfl, rfl, by decide +kernel, rfl, by decide +kernel, by decide +kernel⟩
abbrev s__law_net : Stmt := topS 20
abbrev N__law_net : List Str := ["draws", "most", "ins", "k", "starts", "gates", "first", "near", "rows", "many", "nexts", "bit"]
theorem sc_law_net : FnScope ["draws", "most", "ins", "k", "starts", "gates", "first", "near", "rows", "many", "nexts", "bit"] ["draws", "most"] (defScope s__law_net) := ⟨rfl, rfl, rfl, by decide +kernel, rfl, by decide +kernel, by decide +kernel⟩
abbrev s__law_all : Stmt := topS 22
abbrev N__law_all : List Str := ["net", "rows", "k", "row"]
theorem sc_law_all : FnScope ["net", "rows", "k", "row"] ["net"] (defScope s__law_all) := ⟨rfl, rfl, rfl, by decide +kernel, rfl, by decide +kernel, by decide +kernel⟩
abbrev s__law_faults : Stmt := topS 23
abbrev N__law_faults : List Str := ["net", "rows", "node"]
theorem sc_law_faults : FnScope ["net", "rows", "node"] ["net"] (defScope s__law_faults) := ⟨rfl, rfl, rfl, by decide +kernel, rfl, by decide +kernel, by decide +kernel⟩
abbrev s__law_stuck : Stmt := topS 21
abbrev N__law_stuck : List Str := ["net", "fault", "state", "bits", "row", "k", "a", "b", "one", "two", "outs", "v"]
theorem sc_law_stuck : FnScope ["net", "fault", "state", "bits", "row", "k", "a", "b", "one", "two", "outs", "v"] ["net", "fault", "state", "bits"] (defScope s__law_stuck) := ⟨rfl, rfl, rfl, by decide +kernel, rfl, by decide +kernel, by decide +kernel⟩
abbrev s__law_same : Stmt := topS 19
abbrev N__law_same : List Str := ["actual", "expected", "k"]
theorem sc_law_same : FnScope ["actual", "expected", "k"] ["actual", "expected"] (defScope s__law_same) := ⟨rfl, rfl, rfl, by decide +kernel, rfl, by decide +kernel, by decide +kernel⟩
abbrev s_column_of : Stmt := topS 1
abbrev N_column_of : List Str := ["columns", "literal", "ones"]
theorem sccolumn_of : FnScope ["columns", "literal", "ones"] ["columns", "literal", "ones"] (defScope s_column_of) := ⟨rfl, rfl, rfl, by decide +kernel, rfl, by decide +kernel, by decide +kernel⟩
abbrev s_with_gates : Stmt := topS 3
abbrev N_with_gates : List Str := ["net", "columns", "ones", "found", "a", "b"]
theorem scwith_gates : FnScope ["net", "columns", "ones", "found", "a", "b"] ["net", "columns", "ones"] (defScope s_with_gates) := ⟨rfl, rfl, rfl, by decide +kernel, rfl, by decide +kernel, by decide +kernel⟩
abbrev s_columns_of_rows : Stmt := topS 4
abbrev N_columns_of_rows : List Str := ["rows", "many", "at", "k", "row"]
theorem sccolumns_of_rows : FnScope ["rows", "many", "at", "k", "row"] ["rows", "many"] (defScope s_columns_of_rows) := ⟨rfl, rfl, rfl, by decide +kernel, rfl, by decide +kernel, by decide +kernel⟩
abbrev s_base_of : Stmt := topS 6
abbrev N_base_of : List Str := ["net"]
theorem scbase_of : FnScope ["net"] ["net"] (defScope s_base_of) := ⟨rfl, rfl, rfl, by decide +kernel, rfl, by decide +kernel, by decide +kernel⟩
abbrev s_sound_columns : Stmt := topS 9
abbrev N_sound_columns : List Str := ["net", "tests", "rows", "state", "bits"]
theorem scsound_columns : FnScope ["net", "tests", "rows", "state", "bits"] ["net", "tests"] (defScope s_sound_columns) := ⟨rfl, rfl, rfl, by decide +kernel, rfl, by decide +kernel, by decide +kernel⟩
abbrev s__columns_seen : Stmt := topS 15
abbrev N__columns_seen : List Str := ["net", "sights", "columns", "at", "_", "outs", "nexts", "k", "bit"]
theorem sc_columns_seen : FnScope ["net", "sights", "columns", "at", "_", "outs", "nexts", "k", "bit"] ["net", "sights"] (defScope s__columns_seen) := ⟨rfl, rfl, rfl, by decide +kernel, rfl, by decide +kernel, by decide +kernel⟩
abbrev s_many_nodes : Stmt := topS 7
abbrev N_many_nodes : List Str := ["net"]
theorem scmany_nodes : FnScope ["net"] ["net"] (defScope s_many_nodes) := ⟨rfl, rfl, rfl, by decide +kernel, rfl, by decide +kernel, by decide +kernel⟩
abbrev s_faults : Stmt := topS 13
abbrev N_faults : List Str := ["net", "node", "bit"]
theorem scfaults : FnScope ["net", "node", "bit"] ["net"] (defScope s_faults) := ⟨rfl, rfl, rfl, by decide +kernel, rfl, by decide +kernel, by decide +kernel⟩
abbrev s_columns_of : Stmt := topS 2
abbrev N_columns_of : List Str := ["columns", "literals", "ones", "literal"]
theorem sccolumns_of : FnScope ["columns", "literals", "ones", "literal"] ["columns", "literals", "ones"] (defScope s_columns_of) := ⟨rfl, rfl, rfl, by decide +kernel, rfl, by decide +kernel, by decide +kernel⟩
abbrev s_answer_columns : Stmt := topS 11
abbrev N_answer_columns : List Str := ["net", "columns", "ones"]
theorem scanswer_columns : FnScope ["net", "columns", "ones"] ["net", "columns", "ones"] (defScope s_answer_columns) := ⟨rfl, rfl, rfl, by decide +kernel, rfl, by decide +kernel, by decide +kernel⟩
abbrev s_faulty_columns : Stmt := topS 10
abbrev N_faulty_columns : List Str := ["net", "columns", "fault", "ones", "node", "bit", "base", "changed", "is_changed", "at", "a", "b"]
theorem scfaulty_columns : FnScope ["net", "columns", "fault", "ones", "node", "bit", "base", "changed", "is_changed", "at", "a", "b"] ["net", "columns", "fault", "ones"] (defScope s_faulty_columns) := ⟨rfl, rfl, rfl, by decide +kernel, rfl, by decide +kernel, by decide +kernel⟩
abbrev s_agreeing : Stmt := topS 14
abbrev N_agreeing : List Str := ["net", "sights", "columns", "ones", "wanted", "found", "fault", "test", "_"]
theorem scagreeing : FnScope ["net", "sights", "columns", "ones", "wanted", "found", "fault", "test", "_"] ["net", "sights"] (defScope s_agreeing) := ⟨rfl, rfl, rfl, by decide +kernel, rfl, by decide +kernel, by decide +kernel⟩
abbrev s_law : Stmt := topS 24
abbrev N_law : List Str := ["script", "draws", "net", "every", "rows", "fault", "sights", "k", "state", "bits", "outs", "nexts", "kept", "due", "other", "test", "seen"]
theorem sclaw : FnScope ["script", "draws", "net", "every", "rows", "fault", "sights", "k", "state", "bits", "outs", "nexts", "kept", "due", "other", "test", "seen"] ["script"] (defScope s_law) := ⟨rfl, rfl, rfl, by decide +kernel, rfl, by decide +kernel, by decide +kernel⟩
structure Txt (K : PySem.W.Frag) (mg : Str → Option Value) : Prop where
  m_all : mg "all" = none
  m_bool : mg "bool" = none
  m_enumerate : mg "enumerate" = none
  m_int : mg "int" = none
  m_isinstance : mg "isinstance" = none
  m_len : mg "len" = none
  m_list : mg "list" = none
  m_max : mg "max" = none
  m_range : mg "range" = none
  m_repr : mg "repr" = none
  m_str : mg "str" = none
  m_sum : mg "sum" = none
  m_tuple : mg "tuple" = none
end K69
namespace K69
open PySem PySem.Spec PyProof.Rows L2 V0
/-! ### the draws -/
def sp__law_draws (K : PySem.W.Frag) : Sp := fun vs H Q _ => ∃ (a : Addr) (ns : List Int), vs = [.ref a] ∧ SqL K H a (ns.map V.int) ∧ ns.length ≤ 63 ∧ ∀ H' p c, Same H H' → H p = none → Dw H' p c → Q (.ref p) H'
theorem ok__law_draws {P : Program} {w : World} {K : PySem.W.Frag} {mg : Str → Option Value} {base : Heap} {f  : Addr} {fd  : FuncData} (F : Fun K "_law_draws" "_law_draws" s__law_draws f fd) (T : Txt K mg) :
    FnOk P w K mg base CX0 1 f fd ["script"] (sp__law_draws K) := by
  refine F.ok sc_law_draws (fun vs H Q E h => ?_) (fun cdv A outer s H vs Q E hr h => ?_)
  · obtain ⟨a, ns, rfl, _⟩ := h
    rfl
  · obtain ⟨a, ns, rfl, hS, hl, q⟩ := h
    refine ⟨_, (pss_one (ps_ret (pe_lst (pa_cons (pe_callTy call_list_of (by rfl) T.m_list (by decide +kernel) (pa_cons (pv 0) pa_nil)) (pa_cons pe_int (pa_cons pe_int (pa_cons pe_int pa_nil))))))), ?_⟩
    refine ⟨_, rfl, a, _, rfl, .inl hS, fun c nc => ⟨by show 4 ≤ sizeLine; decide, fun p np => ?_⟩⟩
    have s1 := same_new (o := .lst (ns.map V.int)) nc
    have e1 : (upd H c (.lst (ns.map V.int))) c = some (.lst (vi ns)) := upd_same
    have ncp : c ≠ p := ne_of_none e1 np
    exact q _ p c (s1.trans (same_new np)) (none_of s1 np) ⟨ncp.symm, ns, 0, 0, 1, upd_same, (by rw [upd_ne ncp]; exact e1), hl, by decide⟩
def sp__law_draw (K : PySem.W.Frag) : Sp := fun vs H Q _ => ∃ (p c : Addr) (n : Nat), vs = [.ref p, .int (n : Nat)] ∧ Dw H p c ∧ 0 < n ∧ n < 2 ^ 64 ∧ ∀ H' (d : Nat), Gw p c H H' → d < n → Q (.int (d : Nat)) H'
theorem ok__law_draw {P : Program} {w : World} {K : PySem.W.Frag} {mg : Str → Option Value} {base : Heap} {f  : Addr} {fd  : FuncData} (F : Fun K "_law_draw" "_law_draw" s__law_draw f fd) (T : Txt K mg) :
    FnOk P w K mg base CX0 1 f fd ["draws", "limit"] (sp__law_draw K) := by
  refine F.ok sc_law_draw (fun vs H Q E h => ?_) (fun cdv A outer s H vs Q E hr h => ?_)
  · obtain ⟨p, c, n, rfl, _⟩ := h
    rfl
  · obtain ⟨p, c, n, rfl, dw, h0, h1, q⟩ := h
    obtain ⟨npc, xs, i0, b0, z0, hp0, hc0, hl, hz0⟩ := id dw
    obtain ⟨ST, hST⟩ : ∃ ST : Nat → Nat → Nat → Hp, ST = fun i b z => upd H p (.lst [.ref c, .int (i : Nat), .int (b : Nat), .int (z : Nat)]) := ⟨_, rfl⟩
    have hp : ∀ i b z, ST i b z p = some (.lst [.ref c, .int (i : Nat), .int (b : Nat), .int (z : Nat)]) := fun i b z => by rw [hST]; exact upd_same
    have hc : ∀ i b z, ST i b z c = some (.lst (vi xs)) := fun i b z => by rw [hST]; show upd H p _ c = _; rw [upd_ne (Ne.symm npc)]; exact hc0
    have st0 : H = ST i0 b0 z0 := by rw [hST]; exact (upd_id hp0).symm
    have su : ∀ i b z i' b' z', upd (ST i b z) p (.lst [.ref c, .int (i' : Nat), .int (b' : Nat), .int (z' : Nat)]) = ST i' b' z' := fun i b z i' b' z' => by rw [hST]; exact upd_upd
    have go : ∀ i b z, z < 2147483647 → Gw p c H (ST i b z) := fun i b z hz => ⟨dw, ⟨npc, xs, i, b, z, hp i b z, hc i b z, hl, hz⟩, by rw [hST]; exact hid_mut⟩
    have nz : ((n : Nat) : Int) ≠ 0 := by omega
    have fm : ∀ x : Int, ∃ d : Nat, x.fmod (n : Nat) = (d : Int) ∧ d < n := fun x => by
      have h := emod_range (x := x) (show (0 : Int) < (n : Nat) by omega)
      exact ⟨(x.fmod (n : Nat)).toNat, by omega, by omega⟩
    refine ⟨_, (C8.pss_cut (ps_if (PW.pt (pw_and (pt_cmpR op_eq (pe_ix (r := rIxL K) ix_list (pv 0) pe_int (fun _ _ => rfl)) pe_int (nomark _)) (pw_and1 (pt_cmpR op_lt (pe_ix (r := rIxL K) ix_list (pv 0) pe_int (fun _ _ => rfl)) (pe_callB call_len_seq (by rfl) T.m_len (by decide +kernel) (pa_cons (pe_ix (r := rIxL K) ix_list (pv 0) pe_int (fun _ _ => rfl)) pa_nil)) (nomark _))))) (pss_cons (ps_set (i := 2) sc_law_draw.nd rfl (.inl rfl) (pe_ix (r := rIxL K) ix_list (pe_ix (r := rIxL K) ix_list (pv 0) pe_int (fun _ _ => rfl)) (pe_ix (r := rIxL K) ix_list (pv 0) pe_int (fun _ _ => rfl)) (fun _ _ => rfl)))
      (pss_cons (ps_asg (pe_op op_add (pe_ix (r := rIxL K) ix_list (pv 0) pe_int (fun _ _ => rfl)) pe_int) (pg_sub (pv 0) pe_int set_list))
      (C8.pss_cut (ps_if (pt_cmpR op_ge (pv 2) (pe_op op_pow pe_int pe_int) (nomark _)) (pss_one (ps_asg (pv 2) (pg_sub (pv 0) pe_int set_list))) pss_nil)
      (pss_one (ps_asg (pe_op op_modN (pe_callTy call_int1 (by rfl) T.m_int (by decide +kernel) (pa_cons (pe_op op_add (pe_op op_add (pe_op op_mul (pe_ix (r := rIxL K) ix_list (pv 0) pe_int (fun _ _ => rfl)) pe_int) (pv 2)) pe_int) pa_nil)) pe_int) (pg_sub (pv 0) pe_int set_list)))))) pss_nil)
      (pss_cons (ps_if (pt_cmpR op_gt (pe_ix (r := rIxL K) ix_list (pv 0) pe_int (fun _ _ => rfl)) pe_int (nomark _)) (pss_cons (ps_set (i := 3) sc_law_draw.nd rfl (.inl rfl) (pe_op op_modN (pe_callTy call_int1 (by rfl) T.m_int (by decide +kernel) (pa_cons (pe_ix (r := rIxL K) ix_list (pv 0) pe_int (fun _ _ => rfl)) pa_nil)) (pv 1)))
      (pss_cons (ps_asg (pe_op op_fdivW (pe_ix (r := rIxL K) ix_list (pv 0) pe_int (fun _ _ => rfl)) (pv 1)) (pg_sub (pv 0) pe_int set_list))
      (pss_one (ps_ret (pv 3))))) pss_nil)
      (pss_cons (ps_asg (pe_op op_modN (pe_callTy call_int1 (by rfl) T.m_int (by decide +kernel) (pa_cons (pe_op op_add (pe_op op_mul (pe_ix (r := rIxL K) ix_list (pv 0) pe_int (fun _ _ => rfl)) pe_int) pe_int) pa_nil)) pe_int) (pg_sub (pv 0) pe_int set_list))
      (pss_one (ps_ret (pe_op op_modN (pe_callTy call_int1 (by rfl) T.m_int (by decide +kernel) (pa_cons (pe_op op_fdivN (pe_ix (r := rIxL K) ix_list (pv 0) pe_int (fun _ _ => rfl)) pe_int) pa_nil)) (pv 1))))))), ?_⟩
    refine ⟨fun σ H' => ∃ (y2 : Option V) (i b z : Nat), σ = [some (.ref p), some (.int (n : Nat)), y2, none] ∧ H' = ST i b z ∧ z < 2147483647, ?_, ?_⟩
    · rw [st0]
      refine ⟨_, rfl, p, _, 2, _, rfl, rfl, SqL.of (hp _ _ _), atI_nat (j := 2) rfl, rfl, _, rfl, ?_⟩
      rw [show decide (V.int (b0 : Int) = V.int 0) = decide (b0 = 0) from dec_nat _ 0]
      by_cases hb : b0 = 0
      · rw [decide_eq_true hb]
        refine iteT ⟨_, rfl, p, _, 1, _, rfl, rfl, SqL.of (hp _ _ _), atI_nat (j := 1) rfl, _, rfl, p, _, 0, _, rfl, rfl, SqL.of (hp _ _ _), atI_nat (j := 0) rfl, c, _, rfl, .inl (SqL.of (hc _ _ _)), _, _, rfl, rfl, _, rfl, ?_⟩
        by_cases hi : i0 < xs.length
        · rw [decide_eq_true (show ((i0 : Nat) : Int) < (((vi xs).length : Nat) : Int) by rw [List.length_map]; omega)]
          have ex : (vi xs)[i0]? = some (.int xs[i0]) := by
            unfold vi
            rw [List.getElem?_map, List.getElem?_eq_getElem hi]
            rfl
          refine iteT ⟨_, rfl, p, _, 0, _, rfl, rfl, SqL.of (hp _ _ _), atI_nat (j := 0) rfl, _, rfl, p, _, 1, _, rfl, rfl, SqL.of (hp _ _ _), atI_nat (j := 1) rfl, c, _, _, _, rfl, rfl, SqL.of (hc _ _ _), atI_nat ex, ?_⟩
          generalize xs[i0] = cell
          refine ⟨_, rfl, p, _, 1, _, rfl, rfl, SqL.of (hp _ _ _), atI_nat (j := 1) rfl, _, _, rfl, rfl, _, rfl, p, _, 1, 1, rfl, rfl, hp _ _ _, rfl, ?_⟩
          rw [show upd (ST i0 b0 z0) p (.lst (([.ref c, .int (i0 : Nat), .int (b0 : Nat), .int (z0 : Nat)] : List V).set 1 (.int ((i0 : Nat) + 1 : Int)))) = ST (i0 + 1) b0 z0 from su _ _ _ _ _ _]
          refine ⟨fun σ H' => ∃ b : Nat, σ = [some (.ref p), some (.int (n : Nat)), some (.int cell), none] ∧ H' = ST (i0 + 1) b z0, ?_, ?_⟩
          · refine ⟨_, rfl, _, _, rfl, rfl, ⟨by decide, by decide, by decide⟩, _, _, rfl, rfl, _, rfl, ?_⟩
            simp only [ten18]
            refine ite2 (fun hge => ?_) (fun _ => ⟨_, rfl, rfl⟩)
            have hge : cell ≥ 1000000000000000000 := of_decide_eq_true hge
            refine ⟨_, rfl, _, rfl, p, _, 2, 2, rfl, rfl, hp _ _ _, rfl, ?_⟩
            refine ⟨cell.toNat, rfl, ?_⟩
            obtain ⟨cn, rfl⟩ : ∃ cn : Nat, cell = (cn : Int) := ⟨cell.toNat, by omega⟩
            exact su _ _ _ _ _ _
          · rintro σ H' ⟨b, rfl, rfl⟩
            have r := emod_range (x := (z0 : Int) * 48271 + cell + 13) (show (0 : Int) < 2147483647 by decide)
            refine ⟨_, rfl, p, _, 3, _, rfl, rfl, SqL.of (hp _ _ _), atI_nat (j := 3) rfl, _, _, rfl, rfl, .inl ⟨by omega, by omega⟩, _, rfl, _, _, rfl, rfl, _, _, rfl, rfl, .inl ⟨_, rfl, _, _, rfl, rfl, (show (2147483647 : Int) ≠ 0 by decide), _, rfl, p, _, 3, 3, rfl, rfl, hp _ _ _, rfl, ?_⟩⟩
            obtain ⟨y, hy⟩ : ∃ y : Nat, ((z0 : Int) * 48271 + cell + 13).fmod 2147483647 = (y : Int) := ⟨_, (Int.toNat_of_nonneg r.1).symm⟩
            refine ⟨_, i0 + 1, b, y, rfl, ?_, by omega⟩
            have e : upd (ST (i0 + 1) b z0) p (.lst (([.ref c, .int ((i0 + 1 : Nat) : Int), .int (b : Nat), .int (z0 : Nat)] : List V).set 3 (.int (((z0 : Int) * 48271 + cell + 13).fmod 2147483647)))) = ST (i0 + 1) b y := by
              rw [hy]
              exact su _ _ _ _ _ _
            exact e
        · rw [decide_eq_false (show ¬ ((i0 : Nat) : Int) < (((vi xs).length : Nat) : Int) by rw [List.length_map]; omega)]
          exact iteF ⟨_, _, _, _, rfl, rfl, hz0⟩
      · rw [decide_eq_false hb]
        exact iteF ⟨_, _, _, _, rfl, rfl, hz0⟩
    · rintro σ H' ⟨y2, i, b, z, rfl, rfl, hz⟩
      refine ⟨_, rfl, p, _, 2, _, rfl, rfl, SqL.of (hp _ _ _), atI_nat (j := 2) rfl, _, _, rfl, rfl, _, rfl, ?_⟩
      by_cases hb : 0 < b
      · rw [decide_eq_true (show ((b : Nat) : Int) > 0 by omega)]
        obtain ⟨d, hd, hdn⟩ := fm (b : Nat)
        refine iteT ⟨_, rfl, p, _, 2, _, rfl, rfl, SqL.of (hp _ _ _), atI_nat (j := 2) rfl, .inl ⟨_, rfl, _, rfl, _, _, rfl, rfl, nz, ?_⟩⟩
        simp only [hd]
        refine ⟨_, rfl, p, _, 2, _, rfl, rfl, SqL.of (hp _ _ _), atI_nat (j := 2) rfl, _, rfl, _, _, rfl, rfl, wide_div (b := 64) (by omega) (by rw [Int.natAbs_natCast]; exact h1) (by decide) (by decide), _, rfl, p, _, 2, 2, rfl, rfl, hp _ _ _, rfl, ?_⟩
        refine ⟨_, rfl, ?_⟩
        have e : upd (ST i b z) p (.lst (([.ref c, .int (i : Nat), .int (b : Nat), .int (z : Nat)] : List V).set 2 (.int ((b : Int) / (n : Int))))) = ST i (b / n) z := su _ _ _ _ _ _
        exact q _ d (e ▸ go _ _ _ hz) hdn
      · rw [decide_eq_false (show ¬ ((b : Nat) : Int) > 0 by omega)]
        have r := emod_range (x := (z : Int) * 69621 + 7) (show (0 : Int) < 2147483629 by decide)
        refine iteF ⟨_, rfl, p, _, 3, _, rfl, rfl, SqL.of (hp _ _ _), atI_nat (j := 3) rfl, _, _, rfl, rfl, .inl ⟨by omega, by omega⟩, _, _, rfl, rfl, .inl ⟨_, rfl, _, _, rfl, rfl, (show (2147483629 : Int) ≠ 0 by decide), _, rfl, p, _, 3, 3, rfl, rfl, hp _ _ _, rfl, ?_⟩⟩
        obtain ⟨y, hy⟩ : ∃ y : Nat, ((z : Int) * 69621 + 7).fmod 2147483629 = (y : Int) := ⟨_, (Int.toNat_of_nonneg r.1).symm⟩
        have e : upd (ST i b z) p (.lst (([.ref c, .int (i : Nat), .int (b : Nat), .int (z : Nat)] : List V).set 3 (.int (((z : Int) * 69621 + 7).fmod 2147483629)))) = ST i b y := by
          rw [hy]
          exact su _ _ _ _ _ _
        rw [show upd (ST i b z) p (.lst (([.ref c, .int (i : Nat), .int (b : Nat), .int (z : Nat)] : List V).set 3 (.int (((z : Int) * 69621 + 7).fmod 2147483629)))) = ST i b y from e]
        obtain ⟨d, hd, hdn⟩ := fm ((y : Int).fdiv 11)
        refine ⟨_, rfl, p, _, 3, _, rfl, rfl, SqL.of (hp _ _ _), atI_nat (j := 3) rfl, _, _, rfl, rfl, ⟨by decide, by decide⟩, .inl ⟨_, rfl, _, rfl, _, _, rfl, rfl, nz, ?_⟩⟩
        simp only [hd]
        exact q _ d (go _ _ _ (by omega)) hdn

end K69
namespace K69
open PySem PySem.Spec PyProof.Rows L2 V0
/-! ### alike data are told to be so -/
def clsOf : PyData → Value
  | .none => .type "NoneType"
  | .bool _ => .type "bool"
  | .int _ => .type "int"
  | .str _ => .type "str"
  | .list _ => .type "list"
  | .tuple _ => .type "tuple"
  | .dict _ => .type "dict"
def isTup : PyData → Bool
  | .tuple _ => true
  | _ => false
def isLst : PyData → Bool
  | .list _ => true
  | _ => false
def items : PyData → List PyData
  | .list ds => ds
  | .tuple ds => ds
  | _ => []
mutual
def okD : PyData → Prop
  | .list ds => ds.length ≤ 1000 ∧ okDs ds
  | .tuple ds => ds.length ≤ 1000 ∧ okDs ds
  | _ => True
def okDs : List PyData → Prop
  | [] => True
  | d :: ds => okD d ∧ okDs ds
end
theorem okDs_get : ∀ {ds : List PyData} {i : Nat} {d : PyData}, okDs ds → ds[i]? = some d → okD d
  | [], _, _, _, h => by simp at h
  | _ :: _, 0, _, k, h => by
    cases h
    simp only [okDs] at k
    exact k.1
  | _ :: _, i + 1, _, k, h => by
    simp only [okDs] at k
    exact okDs_get (i := i) k.2 h
theorem depth_get : ∀ {ds : List PyData} {i : Nat} {d : PyData}, ds[i]? = some d → d.depth ≤ PyData.depthAll ds
  | [], _, _, h => by simp at h
  | _ :: _, 0, _, h => by
    cases h
    simp only [PyData.depthAll]
    omega
  | _ :: ds, i + 1, _, h => by
    have := depth_get (ds := ds) (i := i) h
    simp only [PyData.depthAll]
    omega
theorem dhs_get {H : Hp} : ∀ {vs : List V} {ds : List PyData} {i : Nat} {d : PyData}, DhAll H vs ds → ds[i]? = some d → ∃ v, vs[i]? = some v ∧ Dh H v d
  | _, [], _, _, _, h => by simp at h
  | _, _ :: _, 0, _, k, h => by
    cases h
    cases k with
    | cons k1 k2 => exact ⟨_, rfl, k1⟩
  | _, _ :: _, i + 1, _, k, h => by
    cases k with
    | cons k1 k2 => exact dhs_get (i := i) k2 h
theorem dhs_len {H : Hp} : ∀ {vs : List V} {ds : List PyData}, DhAll H vs ds → vs.length = ds.length
  | _, [], k => by cases k; rfl
  | _, _ :: _, k => by
    cases k with
    | cons k1 k2 => rw [List.length_cons, List.length_cons, dhs_len k2]
theorem ty_dh {K : PySem.W.Frag} {H : Hp} : ∀ {x : V} {d : PyData}, Dh H x d → TyX K H x (clsOf d)
  | _, .none, h => by cases h; exact .base .non
  | _, .bool b, h => by cases h; exact .base (.bl b)
  | _, .int i, h => by cases h; exact .base (.int i)
  | _, .str z, h => by cases h; exact .base (.str z)
  | _, .list ds, h => by
    cases h with
    | lst h1 _ => exact .base (.lst h1)
  | _, .tuple ds, h => by
    cases h with
    | tup h1 _ => exact .base (.tup h1)
  | _, .dict _, h => by cases h
theorem kit_tup {K : PySem.W.Frag} {H : Hp} {x : V} {d : PyData} (h : Dh H x d) : PySem.W.kitOne K (clsOf d) (.type "tuple") = some (isTup d) := by
  cases h with
  | non => exact kit_ty (r := false) (by decide +kernel)
  | bl _ => exact kit_ty (r := false) (by decide +kernel)
  | int _ => exact kit_ty (r := false) (by decide +kernel)
  | str _ => exact kit_ty (r := false) (by decide +kernel)
  | lst _ _ => exact kit_ty (r := false) (by decide +kernel)
  | tup _ _ => exact kit_ty (r := true) (by decide +kernel)
theorem kit_lst {K : PySem.W.Frag} {H : Hp} {x : V} {d : PyData} (h : Dh H x d) : PySem.W.kitOne K (clsOf d) (.type "list") = some (isLst d) := by
  cases h with
  | non => exact kit_ty (r := false) (by decide +kernel)
  | bl _ => exact kit_ty (r := false) (by decide +kernel)
  | int _ => exact kit_ty (r := false) (by decide +kernel)
  | str _ => exact kit_ty (r := false) (by decide +kernel)
  | lst _ _ => exact kit_ty (r := true) (by decide +kernel)
  | tup _ _ => exact kit_ty (r := false) (by decide +kernel)
theorem kit_seq {K : PySem.W.Frag} {H : Hp} {x : V} {d : PyData} (h : Dh H x d) : PySem.W.kitAny K (clsOf d) [.type "tuple", .type "list"] = some (isTup d || isLst d) := by
  refine kitAny_cons (kit_tup h) (fun e => ?_) (fun e => by rw [e]; rfl)
  refine kitAny_cons (kit_lst h) (fun e' => ?_) (fun e' => by rw [e', Bool.or_true])
  rw [e, e']
  rfl
theorem dh_items {K : PySem.W.Frag} {H : Hp} {x : V} {d : PyData} (h : Dh H x d) (hs : (isTup d || isLst d) = true) : ∃ p us, x = .ref p ∧ DhAll H us (items d) ∧ ∀ H', Same H H' → (SqL K H' p us ∨ SqT K H' p us) := by
  cases h with
  | lst h1 h2 => exact ⟨_, _, rfl, h2, fun H' s => .inl (SqL.of (s _ _ h1))⟩
  | tup h1 h2 => exact ⟨_, _, rfl, h2, fun H' s => .inr (SqT.of (s _ _ h1))⟩
  | non => cases hs
  | bl _ => cases hs
  | int _ => cases hs
  | str _ => cases hs
theorem ok_items {d : PyData} (h : okD d) (hs : (isTup d || isLst d) = true) : (items d).length ≤ 1000 ∧ okDs (items d) ∧ d.depth = PyData.depthAll (items d) + 1 := by
  cases d with
  | list ds =>
    simp only [okD] at h
    exact ⟨h.1, h.2, by simp only [PyData.depth, items]⟩
  | tuple ds =>
    simp only [okD] at h
    exact ⟨h.1, h.2, by simp only [PyData.depth, items]⟩
  | none => cases hs
  | bool _ => cases hs
  | int _ => cases hs
  | str _ => cases hs
  | dict _ => cases hs
theorem rIx_of {K : PySem.W.Frag} {H : Hp} {p : Addr} {xs : List V} {i : Int} {v : V} {Q : VK} (h : SqL K H p xs ∨ SqT K H p xs) (e : atI xs i = some v) (q : Q v H) : rIx K (.ref p) (.int i) H Q := by
  rcases h with h | h
  · exact .inl ⟨p, xs, i, v, rfl, rfl, h, e, q⟩
  · exact .inr (.inl ⟨p, xs, i, v, rfl, rfl, h, e, q⟩)
theorem all_trues (j : Nat) : (List.replicate j true).all id = true := by
  induction j with
  | zero => rfl
  | succ j ih => rw [List.replicate_succ, List.all_cons, ih]; rfl
def SM (K : PySem.W.Frag) (M : Nat) : Sp := fun vs H Q _ => ∃ (x y : V) (d : PyData), vs = [x, y] ∧ Dh H x d ∧ Dh H y d ∧ okD d ∧ d.depth < M ∧ ∀ H', Same H H' → Q (.bl true) H'
def sp__law_same (K : PySem.W.Frag) : Sp := SM K 16
theorem same_ind {P : Program} {w : World} {K : PySem.W.Frag} {mg : Str → Option Value} {base : Heap} {f : Addr} {fd : FuncData} (F : Fun K "_law_same" "_law_same" s__law_same f fd) (T : Txt K mg) (D__law_same : Def K mg "_law_same" f fd ["actual", "expected"]) :
    ∀ M, FnOk P w K mg base CX0 (M + 2) f fd ["actual", "expected"] (SM K M)
  | 0 => by
    refine ⟨fun vs H Q E h => ?_, fun A outer s H args us vs Q E hr he hb hv h => ?_⟩
    · obtain ⟨x, y, d, rfl, _⟩ := h
      rfl
    · obtain ⟨x, y, d, _, _, _, _, lt, _⟩ := h
      exact absurd lt (Nat.not_lt_zero _)
  | M + 1 => by
    have G__law_same := same_ind (P := P) (w := w) (base := base) F T D__law_same M
    refine F.ok sc_law_same (fun vs H Q E h => ?_) (fun cdv A outer s H vs Q E hr h => ?_)
    · obtain ⟨x, y, d, rfl, _⟩ := h
      rfl
    · obtain ⟨x, y, d, rfl, dx, dy, ok, lt, q⟩ := h
      refine ⟨_, (pss_cons (ps_if (pt_val (pe_callB (r := rIsiT K) call_isiT (by rfl) T.m_isinstance (by decide +kernel) (pa_cons (pv 1) (pa_cons (pe_tup (pa_cons (pe_bltn (v := .ty "tuple") (u := .type "tuple") (by rfl) T.m_tuple (by decide +kernel) rfl) (pa_cons (pe_bltn (v := .ty "list") (u := .type "list") (by rfl) T.m_list (by decide +kernel) rfl) pa_nil))) pa_nil)))) (pss_cons (ps_if (PW.pt (pw_or (pt_cmpR op_ne (pe_callB call_isi (by rfl) T.m_isinstance (by decide +kernel) (pa_cons (pv 0) (pa_cons (pe_bltn (v := .ty "tuple") (u := .type "tuple") (by rfl) T.m_tuple (by decide +kernel) rfl) pa_nil))) (pe_callB call_isi (by rfl) T.m_isinstance (by decide +kernel) (pa_cons (pv 1) (pa_cons (pe_bltn (v := .ty "tuple") (u := .type "tuple") (by rfl) T.m_tuple (by decide +kernel) rfl) pa_nil))) (nomark _)) (pw_or1 (pt_cmpR op_ne (pe_callB call_isi (by rfl) T.m_isinstance (by decide +kernel) (pa_cons (pv 0) (pa_cons (pe_bltn (v := .ty "list") (u := .type "list") (by rfl) T.m_list (by decide +kernel) rfl) pa_nil))) (pe_callB call_isi (by rfl) T.m_isinstance (by decide +kernel) (pa_cons (pv 1) (pa_cons (pe_bltn (v := .ty "list") (u := .type "list") (by rfl) T.m_list (by decide +kernel) rfl) pa_nil))) (nomark _))))) (pss_one (ps_ret pe_bl)) pss_nil)
      (pss_one (ps_ret (pe_and (pe_cmpR op_eq (pe_callB call_len_seq (by rfl) T.m_len (by decide +kernel) (pa_cons (pv 0) pa_nil)) (pe_callB call_len_seq (by rfl) T.m_len (by decide +kernel) (pa_cons (pv 1) pa_nil)) (nomark _)) (pe_one (pe_callB (cr_all (by rfl)) (by rfl) T.m_all (by decide +kernel) (pa_cons (pe_lc (own := [("k", 2)]) (g := gName 2) (tt := tYes) rfl sc_law_same.nd (pi_range1 rfl T.m_range (pa_cons (pe_callB call_len_seq (by rfl) T.m_len (by decide +kernel) (pa_cons (pv 1) pa_nil)) pa_nil)) (blkOk_by (N := N__law_same) (sc := defScope s__law_same) (by decide +kernel)) (fun _ _ _ _ _ => (pg_name (i := 2) sc_law_same.nd rfl (Or.inl rfl))) (fun _ _ _ _ _ => pts_nil) (fun _ _ _ _ _ => (pe_call G__law_same (hr.mono (by omega)) (by rfl) D__law_same.m D__law_same.k D__law_same.b .nil pass0 (pa_cons (pe_ix (r := rIx K) ix_seq (pv 0) (pv 2) (fun _ _ => rfl)) (pa_cons (pe_ix (r := rIx K) ix_seq (pv 1) (pv 2) (fun _ _ => rfl)) pa_nil))))) pa_nil))))))) pss_nil)
      (pss_cons (ps_if (pt_val (pe_callB call_isi (by rfl) T.m_isinstance (by decide +kernel) (pa_cons (pv 1) (pa_cons (pe_bltn (v := .ty "str") (u := .type "str") (by rfl) T.m_str (by decide +kernel) rfl) pa_nil)))) (pss_one (ps_ret (pe_and (pe_callB call_isi (by rfl) T.m_isinstance (by decide +kernel) (pa_cons (pv 0) (pa_cons (pe_bltn (v := .ty "str") (u := .type "str") (by rfl) T.m_str (by decide +kernel) rfl) pa_nil))) (pe_one (pe_cmpR op_eq (pv 0) (pv 1) (nomark _)))))) pss_nil)
      (pss_cons (ps_if (pt_cmpR op_isN (pv 1) pe_non (nomark _)) (pss_one (ps_ret (pe_cmpR op_isN (pv 0) pe_non (nomark _)))) pss_nil)
      (pss_cons (ps_if (PW.pt (pw_or (pt_val (pe_callB call_isi (by rfl) T.m_isinstance (by decide +kernel) (pa_cons (pv 1) (pa_cons (pe_bltn (v := .ty "bool") (u := .type "bool") (by rfl) T.m_bool (by decide +kernel) rfl) pa_nil)))) (pw_or1 (pt_val (pe_callB call_isi (by rfl) T.m_isinstance (by decide +kernel) (pa_cons (pv 0) (pa_cons (pe_bltn (v := .ty "bool") (u := .type "bool") (by rfl) T.m_bool (by decide +kernel) rfl) pa_nil))))))) (pss_one (ps_ret (pe_and (pe_callB call_isi (by rfl) T.m_isinstance (by decide +kernel) (pa_cons (pv 1) (pa_cons (pe_bltn (v := .ty "bool") (u := .type "bool") (by rfl) T.m_bool (by decide +kernel) rfl) pa_nil))) (pe_and (pe_callB call_isi (by rfl) T.m_isinstance (by decide +kernel) (pa_cons (pv 0) (pa_cons (pe_bltn (v := .ty "bool") (u := .type "bool") (by rfl) T.m_bool (by decide +kernel) rfl) pa_nil))) (pe_one (pe_cmpR op_eq (pv 0) (pv 1) (nomark _))))))) pss_nil)
      (pss_one (ps_ret (pe_and (pe_callB call_isi (by rfl) T.m_isinstance (by decide +kernel) (pa_cons (pv 0) (pa_cons (pe_bltn (v := .ty "int") (u := .type "int") (by rfl) T.m_int (by decide +kernel) rfl) pa_nil))) (pe_one (pe_cmpR op_eq (pv 0) (pv 1) (nomark _)))))))))), ?_⟩
      refine ⟨_, rfl, by show 2 ≤ sizeLine; decide, fun t nt => ?_⟩
      have s1 := same_new (o := .tup [.ty "tuple", .ty "list"]) nt
      have e1 : (upd H t (.tup [.ty "tuple", .ty "list"])) t = some (.tup [.ty "tuple", .ty "list"]) := upd_same
      generalize (upd H t (.tup [.ty "tuple", .ty "list"])) = H1 at s1 e1 ⊢
      have dx := dh_same s1 _ _ dx
      have dy := dh_same s1 _ _ dy
      refine ⟨y, t, _, clsOf d, [.type "tuple", .type "list"], _, rfl, e1, .cons (.ty _) (.cons (.ty _) .nil), ty_dh dy, kit_seq dy, _, rfl, ?_⟩
      by_cases hs : (isTup d || isLst d) = true
      · rw [hs]
        obtain ⟨px, ux, rfl, ax, sx⟩ := dh_items (K := K) dx hs
        obtain ⟨py, uy, rfl, ay, sy⟩ := dh_items (K := K) dy hs
        obtain ⟨l1, ok1, dp⟩ := ok_items ok hs
        have lx := dhs_len ax
        have ly := dhs_len ay
        refine iteT ⟨_, rfl, .ref px, .ty "tuple", clsOf d, .type "tuple", _, rfl, .ty _, ty_dh dx, kit_tup dx, _, rfl, .ref py, .ty "tuple", clsOf d, .type "tuple", _, rfl, .ty _, ty_dh dy, kit_tup dy, rfl, _, rfl, ?_⟩
        rw [decide_eq_true rfl]
        refine iteF ⟨_, rfl, .ref px, .ty "list", clsOf d, .type "list", _, rfl, .ty _, ty_dh dx, kit_lst dx, _, rfl, .ref py, .ty "list", clsOf d, .type "list", _, rfl, .ty _, ty_dh dy, kit_lst dy, rfl, _, rfl, ?_⟩
        rw [decide_eq_true rfl]
        refine iteF ?_
        refine ⟨_, rfl, px, ux, rfl, sx _ (Same.refl _), _, rfl, py, uy, rfl, sy _ (Same.refl _), rfl, _, rfl, ?_⟩
        rw [lx, ly, decide_eq_true rfl]
        refine iteT ⟨_, rfl, py, uy, rfl, sy _ (Same.refl _), _, rfl, by omega, by omega, fun D nD => lc_range (n := uy.length) (fun j Hx => Same H1 Hx ∧ Hx D = some (.lst ((List.replicate j true).map V.bl))) ⟨same_new nD, upd_same⟩ ?_ ?_⟩
        · rintro j Hx hj ⟨sz, hD⟩
          have hjd : j < (items d).length := by omega
          obtain ⟨u1, hu1, d1⟩ := dhs_get ax (List.getElem?_eq_getElem hjd)
          obtain ⟨u2, hu2, d2⟩ := dhs_get ay (List.getElem?_eq_getElem hjd)
          have okj := okDs_get ok1 (List.getElem?_eq_getElem hjd)
          have dj := depth_get (List.getElem?_eq_getElem hjd)
          refine ⟨rfl, _, rfl, _, rfl, rIx_of (sx _ sz) (by rw [Int.zero_add]; exact atI_nat hu1) ⟨_, rfl, _, rfl, rIx_of (sy _ sz) (by rw [Int.zero_add]; exact atI_nat hu2) ⟨u1, u2, (items d)[j], rfl, dh_same sz _ _ d1, dh_same sz _ _ d2, okj, by omega, fun Hy s2 => ?_⟩⟩⟩
          refine ⟨_, s2 _ _ hD, by rw [List.length_map, List.length_replicate]; exact small1000 (by omega), same_mut (sz.trans s2) nD, ?_⟩
          rw [upd_same, List.replicate_succ', List.map_append]
          rfl
        · rintro Hx ⟨sz, hD⟩
          refine ⟨D, _, rfl, SqL.of hD, ?_⟩
          rw [all_trues]
          exact q _ (s1.trans sz)
      · have hs' : (isTup d || isLst d) = false := by simpa using hs
        rw [hs']
        refine iteF ?_
        cases d with
        | none =>
          cases dx
          cases dy
          refine ⟨_, rfl, .non, .ty "str", .type "NoneType", .type "str", false, rfl, .ty _, .base .non, kit_ty (by decide +kernel), _, rfl, iteF ?_⟩
          refine ⟨_, rfl, rfl, _, rfl, ?_⟩
          rw [decide_eq_true rfl]
          refine iteT ⟨_, rfl, rfl, ?_⟩
          rw [decide_eq_true rfl]
          exact q _ s1
        | bool b =>
          cases dx
          cases dy
          refine ⟨_, rfl, .bl b, .ty "str", .type "bool", .type "str", false, rfl, .ty _, .base (.bl b), kit_ty (by decide +kernel), _, rfl, iteF ?_⟩
          refine ⟨_, rfl, rfl, _, rfl, ?_⟩
          rw [decide_eq_false (by intro z; cases z)]
          refine iteF ⟨_, rfl, .bl b, .ty "bool", .type "bool", .type "bool", true, rfl, .ty _, .base (.bl b), kit_ty (by decide +kernel), _, rfl, iteT ?_⟩
          refine ⟨_, rfl, .bl b, .ty "bool", .type "bool", .type "bool", true, rfl, .ty _, .base (.bl b), kit_ty (by decide +kernel), _, rfl, iteT ?_⟩
          refine ⟨_, rfl, .bl b, .ty "bool", .type "bool", .type "bool", true, rfl, .ty _, .base (.bl b), kit_ty (by decide +kernel), _, rfl, iteT ?_⟩
          refine ⟨_, rfl, _, rfl, rfl, ?_⟩
          rw [decide_eq_true rfl]
          exact q _ s1
        | int i =>
          cases dx
          cases dy
          refine ⟨_, rfl, .int i, .ty "str", .type "int", .type "str", false, rfl, .ty _, .base (.int i), kit_ty (by decide +kernel), _, rfl, iteF ?_⟩
          refine ⟨_, rfl, rfl, _, rfl, ?_⟩
          rw [decide_eq_false (by intro z; cases z)]
          refine iteF ⟨_, rfl, .int i, .ty "bool", .type "int", .type "bool", false, rfl, .ty _, .base (.int i), kit_ty (by decide +kernel), _, rfl, iteF ?_⟩
          refine ⟨_, rfl, .int i, .ty "bool", .type "int", .type "bool", false, rfl, .ty _, .base (.int i), kit_ty (by decide +kernel), _, rfl, iteF ?_⟩
          refine ⟨_, rfl, .int i, .ty "int", .type "int", .type "int", true, rfl, .ty _, .base (.int i), kit_ty (by decide +kernel), _, rfl, iteT ?_⟩
          refine ⟨_, rfl, _, rfl, rfl, ?_⟩
          rw [decide_eq_true rfl]
          exact q _ s1
        | str z =>
          cases dx
          cases dy
          refine ⟨_, rfl, .str z, .ty "str", .type "str", .type "str", true, rfl, .ty _, .base (.str z), kit_ty (by decide +kernel), _, rfl, iteT ?_⟩
          refine ⟨_, rfl, .str z, .ty "str", .type "str", .type "str", true, rfl, .ty _, .base (.str z), kit_ty (by decide +kernel), _, rfl, iteT ?_⟩
          refine ⟨_, rfl, _, rfl, rfl, ?_⟩
          rw [decide_eq_true rfl]
          exact q _ s1
        | list ds => cases hs'
        | tuple ds => cases hs'
        | dict ds => cases dx
theorem ok__law_same {P : Program} {w : World} {K : PySem.W.Frag} {mg : Str → Option Value} {base : Heap} {f  : Addr} {fd  : FuncData} (F : Fun K "_law_same" "_law_same" s__law_same f fd) (T : Txt K mg)
    (D__law_same : Def K mg "_law_same" f fd ["actual", "expected"]) :
    FnOk P w K mg base CX0 30 f fd ["actual", "expected"] (sp__law_same K) := by
  exact (same_ind F T D__law_same 16).mono (by decide)

end K69
namespace K69
open PySem PySem.Spec PyProof.Rows L2 V0
/-! ### drawn nets -/
structure WOk (n : Net) (most : Nat) : Prop where
  ins : n.ins ≤ 4
  fl : n.starts.length ≤ 3
  bits : ∀ b ∈ n.starts, b < 2
  most : n.gates.length ≤ most
  g : ∀ j g, n.gates[j]? = some g → g.1 < 2 * (n.base + j) ∧ g.2 < 2 * (n.base + j)
  nl : n.nexts.length = n.starts.length
  nx : ∀ x ∈ n.nexts, x < 2 * n.many
  ol : n.outs.length ≤ 4
  ox : ∀ x ∈ n.outs, x < 2 * n.many
theorem vmax0 (a : Int) (m : Nat) (h : a < m) (h0 : 0 < m) : ∃ x : Nat, (if a > 0 then a else 0) = (x : Int) ∧ x < m := by
  by_cases h1 : a > 0
  · rw [if_pos h1]
    exact ⟨a.toNat, by omega, by omega⟩
  · rw [if_neg h1]
    exact ⟨0, rfl, h0⟩
def sp__law_net (K : PySem.W.Frag) : Sp := fun vs H Q _ => ∃ (p c : Addr) (m : Nat), vs = [.ref p, .int (m : Nat)] ∧ Dw H p c ∧ m ≤ 1000 ∧ ∀ H' q (n : Net), Gw p c H H' → H q = none → Dv (hid p H') (.ref q) n → WOk n m → Q (.ref q) H'
theorem ok__law_net {P : Program} {w : World} {K : PySem.W.Frag} {mg : Str → Option Value} {base : Heap} {f f_law_draw : Addr} {fd fd_law_draw : FuncData} (F : Fun K "_law_net" "_law_net" s__law_net f fd) (T : Txt K mg)
    (G__law_draw : FnOk P w K mg base CX0 1 f_law_draw fd_law_draw ["draws", "limit"] (sp__law_draw K)) (D__law_draw : Def K mg "_law_draw" f_law_draw fd_law_draw ["draws", "limit"]) :
    FnOk P w K mg base CX0 2 f fd ["draws", "most"] (sp__law_net K) := by
  refine F.ok sc_law_net (fun vs H Q E h => ?_) (fun cdv A outer s H vs Q E hr h => ?_)
  · obtain ⟨p, c, m, rfl, _⟩ := h
    rfl
  · obtain ⟨p, c, m, rfl, d0, hm, q⟩ := h
    refine ⟨_, (pss_cons (ps_set (i := 2) sc_law_net.nd rfl (.inl rfl) (pe_call G__law_draw (hr.mono (by omega)) (by rfl) D__law_draw.m D__law_draw.k D__law_draw.b .nil pass0 (pa_cons (pv 0) (pa_cons pe_int pa_nil))))
      (pss_cons (ps_setLc (i := 4) (own := [("k", 3)]) (g := gName 3) (tt := tYes) rfl sc_law_net.nd rfl rfl (sw_true rfl rfl rfl (by decide +kernel)) (pi_range1 rfl T.m_range (pa_cons (pe_call G__law_draw (hr.mono (by omega)) (by rfl) D__law_draw.m D__law_draw.k D__law_draw.b .nil pass0 (pa_cons (pv 0) (pa_cons pe_int pa_nil))) pa_nil)) (blkOk_by (N := N__law_net) (sc := defScope s__law_net) (by decide +kernel)) (fun _ _ _ _ _ => (pg_name (i := 3) sc_law_net.nd rfl (Or.inl rfl))) (fun _ _ _ _ _ => pts_nil) (fun _ _ _ _ _ => (pe_call G__law_draw (hr.mono (by omega)) (by rfl) D__law_draw.m D__law_draw.k D__law_draw.b .nil pass0 (pa_cons (pv 0) (pa_cons pe_int pa_nil)))))
      (pss_cons (ps_set (i := 5) sc_law_net.nd rfl (.inl rfl) (pe_lst pa_nil))
      (pss_cons (ps_set (i := 6) sc_law_net.nd rfl (.inl rfl) (pe_op op_add (pe_op op_add pe_int (pv 2)) (pe_callB call_len_seq (by rfl) T.m_len (by decide +kernel) (pa_cons (pv 4) pa_nil))))
      (pss_cons (ps_for PassesOwn.never rfl (pi_range1 rfl T.m_range (pa_cons (pe_call G__law_draw (hr.mono (by omega)) (by rfl) D__law_draw.m D__law_draw.k D__law_draw.b .nil pass0 (pa_cons (pv 0) (pa_cons (pe_op op_add (pv 1) pe_int) pa_nil))) pa_nil)) (pg_name (i := 3) sc_law_net.nd rfl (Or.inl rfl)) (pss_cons (ps_set (i := 7) sc_law_net.nd rfl (.inl rfl) (pe_op op_mul pe_int (pe_op op_add (pv 6) (pv 3))))
      (pss_cons (ps_set (i := 8) sc_law_net.nd rfl (.inl rfl) (pe_lst (pa_cons (pe_call G__law_draw (hr.mono (by omega)) (by rfl) D__law_draw.m D__law_draw.k D__law_draw.b .nil pass0 (pa_cons (pv 0) (pa_cons (pv 7) pa_nil))) (pa_cons (pe_callB (call_max2 (by rfl)) (by rfl) T.m_max (by decide +kernel) (pa_cons pe_int (pa_cons (pe_op op_sub (pe_op op_sub (pv 7) pe_int) (pe_call G__law_draw (hr.mono (by omega)) (by rfl) D__law_draw.m D__law_draw.k D__law_draw.b .nil pass0 (pa_cons (pv 0) (pa_cons pe_int pa_nil)))) pa_nil))) pa_nil))))
      (pss_one (ps_expr (pe_bm PySem.F.plainAttrs_list PySem.F.slot_list_append PySem.F.type_list_append mt_append (pv 5) (pa_cons (pe_tup (pa_cons (pe_ix (r := rIxL K) ix_list (pv 8) pe_int (fun _ _ => rfl)) (pa_cons (pe_ifExp (pt_cmpR op_eq (pe_call G__law_draw (hr.mono (by omega)) (by rfl) D__law_draw.m D__law_draw.k D__law_draw.b .nil pass0 (pa_cons (pv 0) (pa_cons pe_int pa_nil))) pe_int (nomark _)) (pe_ix (r := rIxL K) ix_list (pv 8) (pe_call G__law_draw (hr.mono (by omega)) (by rfl) D__law_draw.m D__law_draw.k D__law_draw.b .nil pass0 (pa_cons (pv 0) (pa_cons pe_int pa_nil))) (fun _ _ => rfl)) (pe_ix (r := rIxL K) ix_list (pv 8) pe_int (fun _ _ => rfl))) pa_nil))) pa_nil)))))))
      (pss_cons (ps_set (i := 9) sc_law_net.nd rfl (.inr rfl) (pe_op op_mul pe_int (pe_op op_add (pv 6) (pe_callB call_len_seq (by rfl) T.m_len (by decide +kernel) (pa_cons (pv 5) pa_nil)))))
      (pss_cons (ps_setLc (i := 10) (own := [("bit", 11)]) (g := gName 11) (tt := tYes) rfl sc_law_net.nd rfl rfl (sw_true rfl rfl rfl (by decide +kernel)) (pi_list (pv 4)) (blkOk_by (N := N__law_net) (sc := defScope s__law_net) (by decide +kernel)) (fun _ _ _ _ _ => (pg_name (i := 11) sc_law_net.nd rfl (Or.inl rfl))) (fun _ _ _ _ _ => pts_nil) (fun _ _ _ _ _ => (pe_call G__law_draw (hr.mono (by omega)) (by rfl) D__law_draw.m D__law_draw.k D__law_draw.b .nil pass0 (pa_cons (pv 0) (pa_cons (pv 9) pa_nil)))))
      (pss_one (ps_ret (pe_tup (pa_cons pe_str (pa_cons (pv 2) (pa_cons (pv 4) (pa_cons (pv 5) (pa_cons (pv 10) (pa_cons (pe_lc (own := [("k", 3)]) (g := gName 3) (tt := tYes) rfl sc_law_net.nd (pi_range1 rfl T.m_range (pa_cons (pe_call G__law_draw (hr.mono (by omega)) (by rfl) D__law_draw.m D__law_draw.k D__law_draw.b .nil pass0 (pa_cons (pv 0) (pa_cons pe_int pa_nil))) pa_nil)) (blkOk_by (N := N__law_net) (sc := defScope s__law_net) (by decide +kernel)) (fun _ _ _ _ _ => (pg_name (i := 3) sc_law_net.nd rfl (Or.inl rfl))) (fun _ _ _ _ _ => pts_nil) (fun _ _ _ _ _ => (pe_callB (call_max2 (by rfl)) (by rfl) T.m_max (by decide +kernel) (pa_cons pe_int (pa_cons (pe_op op_sub (pe_op op_sub (pv 9) pe_int) (pe_call G__law_draw (hr.mono (by omega)) (by rfl) D__law_draw.m D__law_draw.k D__law_draw.b .nil pass0 (pa_cons (pv 0) (pa_cons pe_int pa_nil)))) pa_nil))))) pa_nil)))))))))))))))), ?_⟩
    refine ⟨_, rfl, p, c, 5, rfl, d0, by decide, by decide, fun H1 ins g1 h1 => ?_⟩
    -- starts
    refine ⟨_, rfl, p, c, 4, rfl, g1.b, by decide, by decide, fun H2 fl g2 h2 => ⟨_, rfl, by omega, by omega, fun pS nS => lc_range (n := fl) (fun j H' => ∃ bs : List Nat, Gw p c H2 H' ∧ H' pS = some (.lst (vn bs)) ∧ bs.length = j ∧ ∀ b ∈ bs, b < 2) ⟨[], Gw.of g2.b (same_new nS), upd_same, rfl, by simp⟩ ?_ ?_⟩⟩
    · rintro j H' hj ⟨bs, g, hp, hl, hb⟩
      refine ⟨rfl, _, rfl, p, c, 2, rfl, g.b, by decide, by decide, fun H'' d g' hd => ⟨_, g'.get' g2.b nS hp, by rw [vn_len]; exact small64k (by omega), bs ++ [d], (g.trans g').mut nS, ?_, by rw [List.length_append, hl]; rfl, mem_snoc hb hd⟩⟩
      rw [upd_same, vn_snoc]
    rintro H3 ⟨bs, g3, hS3, hlS, hbS⟩
    have oS := g2.b.off nS
    -- gates, first
    refine ⟨by show 0 ≤ sizeLine; decide, fun pG nG => ?_⟩
    have oG := g3.b.off nG
    have nSG : pS ≠ pG := ne_of_none hS3 nG
    have g4 : Gw p c H (upd H3 pG (.lst [])) := ((g1.trans g2).trans g3).more (same_new nG)
    refine ⟨_, rfl, _, _, rfl, rfl, _, rfl, pS, _, rfl, .inl (SqL.of ((same_new nG) _ _ hS3)), _, _, rfl, rfl, ?_⟩
    have eB : V.int ((1 : Int) + (ins : Int) + ((vn bs).length : Int)) = V.int ((1 + ins + fl : Nat) : Int) := by
      rw [vn_len, hlS]
      congr 1
    simp only [eB]
    obtain ⟨F0, hF0⟩ : ∃ F0, F0 = 1 + ins + fl := ⟨_, rfl⟩
    rw [← hF0]
    refine ⟨_, rfl, _, rfl, _, _, rfl, rfl, p, c, m + 1, rfl, g4.b, by omega, by omega, fun H5 mg g5 hmg => ⟨_, rfl, by omega, by omega, for_range (n := mg) (fun j σ H' => ∃ (y3 y7 y8 : Option V) (us : List V) (gs : List (Nat × Nat)), σ = [some (.ref p), some (.int (m : Nat)), some (.int (ins : Nat)), y3, some (.ref pS), some (.ref pG), some (.int (F0 : Nat)), y7, y8, none, none, none] ∧ Gw p c H H' ∧ H' pS = some (.lst (vn bs)) ∧ H' pG = some (.lst us) ∧ Dvs (hid pG (hid p H')) us gs ∧ gs.length = j ∧ ∀ k g, gs[k]? = some g → g.1 < 2 * (F0 + k) ∧ g.2 < 2 * (F0 + k)) ⟨none, none, none, [], [], rfl, g4.trans g5, g5.get oS.1 ((same_new nG) _ _ hS3), g5.get oG.1 upd_same, .nil, rfl, by simp⟩ ?_ ?_⟩⟩
    · rintro j σ H' hj ⟨y3, y7, y8, us, gs, rfl, g, hS, hG, hus, hlg, hgs⟩
      -- near
      refine ⟨_, rfl, _, rfl, _, _, rfl, rfl, _, _, rfl, rfl, .inl ⟨by decide, by decide⟩, ?_⟩
      have eN : V.int ((2 : Int) * ((F0 : Int) + (0 + (j : Int)))) = V.int ((2 * (F0 + j) : Nat) : Int) := by
        congr 1
        omega
      simp only [eN]
      obtain ⟨near, hnear⟩ : ∃ near, near = 2 * (F0 + j) := ⟨_, rfl⟩
      rw [← hnear]
      -- rows
      refine ⟨_, rfl, _, rfl, p, c, near, rfl, g.b, by omega, by omega, fun H6 d1 g6 hd1 => ?_⟩
      refine ⟨_, rfl, _, _, rfl, rfl, _, rfl, p, c, 6, rfl, g6.b, by decide, by decide, fun H7 d2 g7 hd2 => ⟨_, _, rfl, rfl, _, _, rfl, ?_⟩⟩
      obtain ⟨x, ex, hx⟩ := vmax0 ((near : Int) - 1 - (d2 : Int)) near (by omega) (by omega)
      simp only [ex]
      refine ⟨by show 2 ≤ sizeLine; decide, fun l nl => ?_⟩
      have g8 : Gw p c H' (upd H7 l (.lst [.int (d1 : Nat), .int (x : Nat)])) := (g6.trans g7).more (same_new nl)
      have ol := g7.b.off nl
      have el : (upd H7 l (.lst [.int (d1 : Nat), .int (x : Nat)])) l = some (.lst (vn [d1, x])) := upd_same
      generalize (upd H7 l (.lst [.int (d1 : Nat), .int (x : Nat)])) = H8 at g8 el ⊢
      -- gates.append(..)
      refine ⟨_, rfl, .inl ⟨rfl, _, SqL.of (g8.get oG.1 hG)⟩, _, rfl, l, _, 0, _, rfl, rfl, SqL.of el, atI_nat (j := 0) rfl, _, rfl, p, c, 9, rfl, g8.b, by decide, by decide, fun H9 d3 g9 hd3 => ⟨rfl, _, rfl, ?_⟩⟩
      refine ifx (fun v Hx => ∃ y : Nat, v = .int (y : Nat) ∧ y < near ∧ Gw p c H8 Hx) (fun _ Q hQ => ?_) (fun _ Q hQ => ?_) ?_
      · refine ⟨_, rfl, _, rfl, p, c, 2, rfl, g9.b, by decide, by decide, fun H10 d4 g10 hd4 => ?_⟩
        have hlt : d4 < [d1, x].length := hd4
        refine ⟨l, _, _, _, rfl, rfl, SqL.of ((g9.trans g10).get ol.1 el), atI_nat (vn_get (List.getElem?_eq_getElem hlt)), hQ _ _ ⟨_, rfl, ?_, g9.trans g10⟩⟩
        have : d4 = 0 ∨ d4 = 1 := by omega
        rcases this with rfl | rfl
        · exact hd1
        · exact hx
      · exact ⟨_, rfl, l, _, 1, _, rfl, rfl, SqL.of (g9.get ol.1 el), atI_nat (j := 1) rfl, hQ _ _ ⟨x, rfl, hx, g9⟩⟩
      rintro v Hx ⟨y, rfl, hy, gx⟩
      have g10 := g8.trans gx
      refine ⟨by show 2 ≤ sizeLine; decide, fun t nt => ?_⟩
      have ntG : t ≠ pG := ne_of_none (g10.get oG.1 hG) nt |>.symm
      have ot := g10.b.off nt
      refine ⟨pG, us, _, rfl, rfl, by rw [upd_ne ntG.symm]; exact g10.get oG.1 hG, ?_, ?_⟩
      · rw [hus.len, hlg]
        exact small64k (by omega)
      have g11 : Gw p c H' (upd Hx t (.tup [.int (d1 : Nat), .int (y : Nat)])) := g10.more (same_new nt)
      refine ⟨_, _, _, us ++ [.ref t], gs ++ [(d1, y)], rfl, (g.trans g11).mut (((g1.trans g2).trans g3).none nG), ?_, upd_same, ?_, by rw [List.length_append, hlg]; rfl, ?_⟩
      · rw [upd_ne nSG]
        exact g11.get oS.1 hS
      · exact ((hus.same (hid_mono g11.s)).same hid2_mut).app (.cons (.pair (hid_of ntG (hid_of ot.1 (by rw [upd_ne ntG]; exact upd_same))) (Dv.nat d1) (Dv.nat y)) .nil)
      · intro k g' hk
        rcases get_snoc hk with ⟨_, h⟩ | ⟨rfl, rfl⟩
        · exact hgs k g' h
        · rw [hlg, ← hnear]
          exact ⟨hd1, hy⟩
    · rintro σ H6 ⟨y3, y7, y8, us, gs, rfl, g, hS, hG, hus, hlg, hgs⟩
      -- many
      refine ⟨_, rfl, _, rfl, pG, _, rfl, .inl (SqL.of hG), _, _, rfl, rfl, _, _, rfl, rfl, .inl ⟨by decide, by decide⟩, ?_⟩
      have eM : V.int ((2 : Int) * ((F0 : Int) + (us.length : Int))) = V.int ((2 * (F0 + mg) : Nat) : Int) := by
        rw [hus.len, hlg]
        congr 1
      simp only [eM]
      obtain ⟨mn, hmn⟩ : ∃ mn, mn = 2 * (F0 + mg) := ⟨_, rfl⟩
      rw [← hmn]
      -- nexts
      refine ⟨_, rfl, pS, rfl, ⟨_, SqL.of hS⟩, fun pN nN => lc_list (xs := vn bs) (fun j H' => ∃ xs : List Nat, Gw p c H6 H' ∧ H' pN = some (.lst (vn xs)) ∧ xs.length = j ∧ ∀ x ∈ xs, x < mn) ⟨[], Gw.of g.b (same_new nN), upd_same, rfl, by simp⟩ (fun j H' _ h => ?_) ?_ ?_⟩
      · obtain ⟨xs, g', _⟩ := h
        exact SqL.of (g'.get oS.1 hS)
      · rintro j v H' hv ⟨xs, g', hp, hl, hx⟩
        have hj : j < bs.length := by
          have h := (List.getElem?_eq_some_iff.mp hv).1
          rw [vn_len] at h
          exact h
        refine ⟨rfl, _, rfl, _, rfl, p, c, mn, rfl, g'.b, by omega, by omega, fun H'' d g'' hd => ⟨_, g''.get' g.b nN hp, by rw [vn_len]; exact small64k (by omega), xs ++ [d], (g'.trans g'').mut nN, ?_, by rw [List.length_append, hl]; rfl, mem_snoc hx hd⟩⟩
        rw [upd_same, vn_snoc]
      · rintro H7 ⟨xs, g7, hN, hlN, hxN⟩
        rw [vn_len] at hlN
        have oN := g.b.off nN
        -- outs and the net
        refine ⟨_, rfl, _, rfl, _, rfl, _, rfl, _, rfl, p, c, 5, rfl, g7.b, by decide, by decide, fun H8 no g8 hno => ⟨_, rfl, by omega, by omega, fun pO nO => lc_range (n := no) (fun j H' => ∃ os : List Nat, Gw p c H8 H' ∧ H' pO = some (.lst (vn os)) ∧ os.length = j ∧ ∀ x ∈ os, x < mn) ⟨[], Gw.of g8.b (same_new nO), upd_same, rfl, by simp⟩ ?_ ?_⟩⟩
        · rintro j H' hj ⟨os, g', hp, hl, hx⟩
          refine ⟨rfl, _, rfl, _, _, rfl, rfl, _, rfl, p, c, 12, rfl, g'.b, by decide, by decide, fun H'' d g'' hd => ⟨_, _, rfl, rfl, _, _, rfl, ?_⟩⟩
          obtain ⟨y, ey, hy⟩ := vmax0 ((mn : Int) - 1 - (d : Int)) mn (by omega) (by omega)
          simp only [ey]
          refine ⟨_, g''.get' g8.b nO hp, by rw [vn_len]; exact small64k (by omega), os ++ [y], (g'.trans g'').mut nO, ?_, by rw [List.length_append, hl]; rfl, mem_snoc hx hy⟩
          rw [upd_same, vn_snoc]
        · rintro H9 ⟨os, g9, hO, hlO, hxO⟩
          have oO := g8.b.off nO
          refine ⟨by show 6 ≤ sizeLine; decide, fun t nt => ?_⟩
          have ot := g9.b.off nt
          have gE : Gw p c H6 (upd H9 t (.tup [.str "net", .int (ins : Nat), .ref pS, .ref pG, .ref pN, .ref pO])) := ((g7.trans g8).trans g9).more (same_new nt)
          have gT := same_new (o := .tup [.str "net", .int (ins : Nat), .ref pS, .ref pG, .ref pN, .ref pO]) nt
          refine q _ t ⟨ins, bs, gs, xs, os⟩ (g.trans gE) ((g.trans ((g7.trans g8).trans g9)).none nt) (.net (hid_of ot.1 upd_same) ?_ ?_ ?_ ?_) ?_
          · exact .natl (hid_of oS.1 (gE.get oS.1 hS))
          · exact .list (hid_of oG.1 (gE.get oG.1 hG)) ((hus.same (hid_same _ _)).same gE.s)
          · exact .natl (hid_of oN.1 (gT _ _ ((g8.trans g9).get oN.1 hN)))
          · exact .natl (hid_of oO.1 (gT _ _ hO))
          · have eb : Net.base ⟨ins, bs, gs, xs, os⟩ = F0 := by
              show 1 + ins + bs.length = _
              rw [hlS, hF0]
            have em : 2 * Net.many ⟨ins, bs, gs, xs, os⟩ = mn := by
              show 2 * (1 + ins + bs.length + gs.length) = _
              rw [hlS, hlg, hmn, hF0]
            refine ⟨by show ins ≤ 4; omega, by show bs.length ≤ 3; omega, hbS, by show gs.length ≤ m; omega, ?_, hlN, ?_, by show os.length ≤ 4; omega, ?_⟩
            · rw [eb]
              exact hgs
            · rw [em]
              exact hxN
            · rw [em]
              exact hxO

end K69
namespace K69
open PySem PySem.Spec PyProof.Rows L2 V0
/-! ### base_of -/
def sp_base_of (K : PySem.W.Frag) : Sp := fun vs H Q _ => ∃ (v : V) (n : Net), vs = [v] ∧ Dv H v n ∧ Q (.int (n.base : Nat)) H
theorem ok_base_of {P : Program} {w : World} {K : PySem.W.Frag} {mg : Str → Option Value} {base : Heap} {f  : Addr} {fd  : FuncData} (F : Fun K "base_of" "base_of" s_base_of f fd) (T : Txt K mg) :
    FnOk P w K mg base CX0 1 f fd ["net"] (sp_base_of K) := by
  refine F.ok scbase_of (fun vs H Q E h => ?_) (fun cdv A outer s H vs Q E hr h => ?_)
  · obtain ⟨l, n, rfl, _⟩ := h
    rfl
  · obtain ⟨v, n, rfl, hn, q⟩ := h
    obtain ⟨a, aS, aG, aN, aO, rfl, hA, hS, hG, hN, hO⟩ := hn.net_inv
    obtain ⟨_, e, hS⟩ := hS.natl_inv
    cases e
    refine ⟨_, (pss_one (ps_ret (pe_op op_add (pe_op op_add pe_int (pe_ix (r := rIxT K) ix_tup (pv 0) pe_int (fun _ _ => rfl))) (pe_callB call_len_seq (by rfl) T.m_len (by decide +kernel) (pa_cons (pe_ix (r := rIxT K) ix_tup (pv 0) pe_int (fun _ _ => rfl)) pa_nil))))), ?_⟩
    refine ⟨_, rfl, a, _, 1, _, rfl, rfl, SqT.of hA, atI_nat (j := 1) rfl, _, _, rfl, rfl, _, rfl, a, _, 2, _, rfl, rfl, SqT.of hA, atI_nat (j := 2) rfl, aS, _, rfl, .inl (SqL.of hS), _, _, rfl, rfl, ?_⟩
    show Q (V.int ((1 : Int) + (n.ins : Int) + ((vn n.starts).length : Int))) H
    rw [vn_len]
    exact q

/-! ### columns of nodes -/
/-- a literal's column -/
def colit (o : Nat) (f : List Nat) (l : Nat) : Nat := (f[l / 2]?.getD 0) ^^^ (if l % 2 = 1 then o else 0)
def wgs (o : Nat) (gs : List (Nat × Nat)) (f : List Nat) : List Nat := gs.foldl (fun f g => f ++ [colit o f g.1 &&& colit o f g.2]) f
theorem wgs_snoc (o : Nat) (gs : List (Nat × Nat)) (g : Nat × Nat) (f : List Nat) : wgs o (gs ++ [g]) f = wgs o gs f ++ [colit o (wgs o gs f) g.1 &&& colit o (wgs o gs f) g.2] := by
  unfold wgs
  rw [List.foldl_append]
  rfl
theorem wgs_len (o : Nat) (gs : List (Nat × Nat)) (f : List Nat) : (wgs o gs f).length = f.length + gs.length := by
  induction gs generalizing f with
  | nil => rfl
  | cons g gs ih =>
    show (wgs o gs _).length = _
    rw [ih, List.length_append, List.length_cons, List.length_cons, List.length_nil]
    omega
theorem vni (xs : List Nat) : vn xs = (xs.map fun (x : Nat) => (x : Int)).map V.int := by
  rw [List.map_map]
  rfl
theorem sum_ni (xs : List Nat) : (xs.map fun (x : Nat) => (x : Int)).sum = ((xs.sum : Nat) : Int) := by
  induction xs with
  | nil => rfl
  | cons x r ih => rw [List.map_cons, List.sum_cons, List.sum_cons, ih, Int.natCast_add]
theorem sum_shl (m : Nat) (f : Nat → Nat) : ((List.range m).map fun k => f k * 2 ^ k).sum = colN m f := by
  induction m with
  | zero => rfl
  | succ m ih => rw [map_range_succ, List.sum_append, ih, col_succ]; simp
theorem cpow2 {x k : Nat} (h : k ≤ 1000000) (h2 : x < 2 ^ 64) : CPow (x : Int) (k : Int) := ⟨Int.natCast_nonneg _, by omega, by rw [Int.natAbs_natCast]; exact h2⟩
def sp_column_of (K : PySem.W.Frag) : Sp := fun vs H Q _ => ∃ (a : Addr) (f : List Nat) (l o : Nat), vs = [.ref a, .int (l : Nat), .int (o : Nat)] ∧ SqL K H a (vn f) ∧ l / 2 < f.length ∧ Q (.int (colit o f l : Nat)) H
theorem ok_column_of {P : Program} {w : World} {K : PySem.W.Frag} {mg : Str → Option Value} {base : Heap} {f  : Addr} {fd  : FuncData} (F : Fun K "column_of" "column_of" s_column_of f fd) (T : Txt K mg) :
    FnOk P w K mg base CX0 1 f fd ["columns", "literal", "ones"] (sp_column_of K) := by
  refine F.ok sccolumn_of (fun vs H Q E h => ?_) (fun cdv A outer s H vs Q E hr h => ?_)
  · obtain ⟨a, f, l, o, rfl, _⟩ := h
    rfl
  · obtain ⟨a, f, l, o, rfl, hf, hl, q⟩ := h
    refine ⟨_, (pss_one (ps_ret (pe_op op_xor (pe_ix (r := rIxL K) ix_list (pv 0) (pe_op op_shr (pv 1) pe_int) (fun _ _ => rfl)) (pe_ifExp (pt_truthK (K := K) rfl (pe_op op_and (pv 1) pe_int) (by intro _; rfl)) (pv 2) pe_int)))), ?_⟩
    refine ⟨_, rfl, _, rfl, _, _, rfl, rfl, (show (0 : Int) ≤ 1 by decide), a, _, _, _, rfl, rfl, hf, (by rw [shr_one]; exact atI_nat (vn_get (List.getElem?_eq_getElem hl))), _, rfl, _, _, rfl, rfl, _, rfl, ?_⟩
    show if (Builtin.bitAnd (l : Int) 1 != 0) = true then _ else _
    rw [band_one]
    unfold colit at q
    rw [List.getElem?_eq_getElem hl] at q
    rcases Nat.mod_two_eq_zero_or_one l with hb | hb
    · rw [hb]
      rw [if_neg (by omega)] at q
      refine iteF ⟨_, _, rfl, rfl, ?_⟩
      show Q (V.int (Builtin.bitXor ((f[l / 2] : Nat) : Int) ((0 : Nat) : Int))) H
      rw [bxor]
      exact q
    · rw [hb]
      rw [if_pos hb] at q
      refine iteT ⟨_, rfl, _, _, rfl, rfl, ?_⟩
      simp only [bxor]
      exact q
def sp_columns_of (K : PySem.W.Frag) : Sp := fun vs H Q _ => ∃ (a b : Addr) (f ls : List Nat) (o : Nat), vs = [.ref a, .ref b, .int (o : Nat)] ∧ SqL K H a (vn f) ∧ SqL K H b (vn ls) ∧ (∀ l ∈ ls, l / 2 < f.length) ∧ ls.length ≤ 60000 ∧ (∀ H', Same H H' → SqL K H' a (vn f) ∧ SqL K H' b (vn ls)) ∧ ∀ H' r, Same H H' → H r = none → H' r = some (.lst (vn (ls.map (colit o f)))) → Q (.ref r) H'
theorem ok_columns_of {P : Program} {w : World} {K : PySem.W.Frag} {mg : Str → Option Value} {base : Heap} {f fcolumn_of : Addr} {fd fdcolumn_of : FuncData} (F : Fun K "columns_of" "columns_of" s_columns_of f fd) (T : Txt K mg)
    (G_column_of : FnOk P w K mg base CX0 1 fcolumn_of fdcolumn_of ["columns", "literal", "ones"] (sp_column_of K)) (D_column_of : Def K mg "column_of" fcolumn_of fdcolumn_of ["columns", "literal", "ones"]) :
    FnOk P w K mg base CX0 2 f fd ["columns", "literals", "ones"] (sp_columns_of K) := by
  refine F.ok sccolumns_of (fun vs H Q E h => ?_) (fun cdv A outer s H vs Q E hr h => ?_)
  · obtain ⟨a, b, f, ls, o, rfl, _⟩ := h
    rfl
  · obtain ⟨a, b, f, ls, o, rfl, hf, hl, hb, hll, kp, q⟩ := h
    refine ⟨_, (pss_one (ps_ret (pe_lc (own := [("literal", 3)]) (g := gName 3) (tt := tYes) rfl sccolumns_of.nd (pi_list (pv 1)) (blkOk_by (N := N_columns_of) (sc := defScope s_columns_of) (by decide +kernel)) (fun _ _ _ _ _ => (pg_name (i := 3) sccolumns_of.nd rfl (Or.inl rfl))) (fun _ _ _ _ _ => pts_nil) (fun _ _ _ _ _ => (pe_call G_column_of (hr.mono (by omega)) (by rfl) D_column_of.m D_column_of.k D_column_of.b .nil pass0 (pa_cons (pv 0) (pa_cons (pv 3) (pa_cons (pv 2) pa_nil)))))))), ?_⟩
    refine ⟨_, rfl, b, rfl, ⟨_, hl⟩, fun D nD => lc_list (xs := vn ls) (fun j Hx => Same H Hx ∧ Hx D = some (.lst (vn ((ls.take j).map (colit o f))))) ⟨same_new nD, upd_same⟩ (fun j Hx _ h => (kp _ h.1).2) ?_ ?_⟩
    · rintro j v Hx hv ⟨sx, hD⟩
      have hj : j < ls.length := by
        have h := (List.getElem?_eq_some_iff.mp hv).1
        rw [vn_len] at h
        exact h
      have hx := List.getElem?_eq_getElem hj
      rw [vn_get hx] at hv
      cases hv
      refine ⟨rfl, _, rfl, _, rfl, _, rfl, a, f, ls[j], o, rfl, (kp _ sx).1, hb _ (List.getElem_mem hj), _, hD, ?_, same_mut sx nD, ?_⟩
      · rw [vn_len, List.length_map, List.length_take]
        exact small64k (by omega)
      · rw [upd_same, vn_snoc, take_snoc hx, List.map_append]
        rfl
    · rintro Hx ⟨sx, hD⟩
      rw [vn_len, List.take_length] at hD
      exact q _ D sx nD hD
def sp_with_gates (K : PySem.W.Frag) : Sp := fun vs H Q _ => ∃ (v : V) (n : Net) (a : Addr) (cs : List Nat) (o : Nat), vs = [v, .ref a, .int (o : Nat)] ∧ Dv H v n ∧ H a = some (.lst (vn cs)) ∧ cs.length + 1 = n.base ∧ n.many ≤ 60000 ∧ (∀ j g, n.gates[j]? = some g → g.1 < 2 * (n.base + j) ∧ g.2 < 2 * (n.base + j)) ∧
  ∀ H' r, Same H H' → H r = none → H' r = some (.lst (vn (wgs o n.gates (0 :: cs)))) → Q (.ref r) H'
theorem ok_with_gates {P : Program} {w : World} {K : PySem.W.Frag} {mg : Str → Option Value} {base : Heap} {f fcolumn_of : Addr} {fd fdcolumn_of : FuncData} (F : Fun K "with_gates" "with_gates" s_with_gates f fd) (T : Txt K mg)
    (G_column_of : FnOk P w K mg base CX0 1 fcolumn_of fdcolumn_of ["columns", "literal", "ones"] (sp_column_of K)) (D_column_of : Def K mg "column_of" fcolumn_of fdcolumn_of ["columns", "literal", "ones"]) :
    FnOk P w K mg base CX0 2 f fd ["net", "columns", "ones"] (sp_with_gates K) := by
  refine F.ok scwith_gates (fun vs H Q E h => ?_) (fun cdv A outer s H vs Q E hr h => ?_)
  · obtain ⟨v, n, a, cs, o, rfl, _⟩ := h
    rfl
  · obtain ⟨v, n, b, cs, o, rfl, hn, hb, hl, hm, hgb, q⟩ := h
    obtain ⟨a, aS, aG, aN, aO, rfl, hA, hS, hG, hN, hO⟩ := hn.net_inv
    obtain ⟨_, us, e, hGl, hus⟩ := hG.list_inv
    cases e
    refine ⟨_, (pss_cons (ps_set (i := 3) scwith_gates.nd rfl (.inl rfl) (pe_lst (pa_cons pe_int (V0.pa_starK (K := K) rfl (pv 1) pa_nil))))
      (pss_cons (ps_for PassesOwn.never rfl (pi_list (pe_ix (r := rIxT K) ix_tup (pv 0) pe_int (fun _ _ => rfl))) (pg_tup (by rfl) (pgs_cons (pg_name (i := 4) scwith_gates.nd rfl (Or.inl rfl)) (pgs_cons (pg_name (i := 5) scwith_gates.nd rfl (Or.inl rfl)) pgs_nil))) (pss_one (ps_expr (pe_bm PySem.F.plainAttrs_list PySem.F.slot_list_append PySem.F.type_list_append mt_append (pv 3) (pa_cons (pe_op op_and (pe_call G_column_of (hr.mono (by omega)) (by rfl) D_column_of.m D_column_of.k D_column_of.b .nil pass0 (pa_cons (pv 3) (pa_cons (pv 4) (pa_cons (pv 2) pa_nil)))) (pe_call G_column_of (hr.mono (by omega)) (by rfl) D_column_of.m D_column_of.k D_column_of.b .nil pass0 (pa_cons (pv 3) (pa_cons (pv 5) (pa_cons (pv 2) pa_nil))))) pa_nil)))))
      (pss_one (ps_ret (pv 3))))), ?_⟩
    refine ⟨_, rfl, b, _, rfl, .inr (SqL.of hb), ?_, fun D nD => ?_⟩
    · show ((V.int 0 :: (vn cs ++ [])).length) ≤ sizeLine
      rw [List.append_nil, List.length_cons, vn_len]
      exact Nat.le_of_lt (small64k (by unfold Net.many at hm; omega))
    have s0 := same_new (o := .lst (V.int 0 :: (vn cs ++ []))) nD
    have e0 : (upd H D (.lst (V.int 0 :: (vn cs ++ [])))) D = some (.lst (vn (wgs o (n.gates.take 0) (0 :: cs)))) := by
      rw [upd_same, List.append_nil]
      rfl
    generalize (upd H D (.lst (V.int 0 :: (vn cs ++ [])))) = H0 at s0 e0 ⊢
    refine ⟨_, rfl, a, _, 3, _, rfl, rfl, SqT.of (s0 _ _ hA), atI_nat (j := 3) rfl, aG, rfl, ⟨_, SqL.of (s0 _ _ hGl)⟩, for_list (xs := us) (fun j σ Hx => ∃ y4 y5 : Option V, σ = [some (.ref a), some (.ref b), some (.int (o : Nat)), some (.ref D), y4, y5] ∧ Same H Hx ∧ Hx D = some (.lst (vn (wgs o (n.gates.take j) (0 :: cs))))) ⟨none, none, rfl, s0, e0⟩ (fun j σ Hx _ ⟨_, _, _, s', _⟩ => SqL.of (s' _ _ hGl)) ?_ ?_⟩
    · rintro j u σ Hx hu ⟨y4, y5, rfl, sx, hD⟩
      obtain ⟨⟨x, y⟩, hg1, hd⟩ := hus.at hu
      obtain ⟨t, u1, u2, rfl, ht, hx, hy⟩ := hd.pair_inv
      have hx := hx.nat_inv
      have hy := hy.nat_inv
      subst hx hy
      have hj : j < n.gates.length := (List.getElem?_eq_some_iff.mp hg1).1
      have hb2 := hgb j _ hg1
      have hb1 : x < 2 * (n.base + j) := hb2.1
      have hb3 : y < 2 * (n.base + j) := hb2.2
      rw [take_snoc hg1, wgs_snoc]
      have lrow : (wgs o (n.gates.take j) (0 :: cs)).length = n.base + j := by
        rw [wgs_len, List.length_take, List.length_cons]
        omega
      generalize wgs o (n.gates.take j) (0 :: cs) = f at hD lrow ⊢
      have hmj : n.base + j < 60000 := by unfold Net.many at hm; omega
      refine ⟨t, _, rfl, SqT.of (sx _ _ ht), rfl, _, _, rfl, _, _, rfl, rfl, ?_⟩
      refine ⟨_, rfl, .inl ⟨rfl, _, SqL.of hD⟩, _, rfl, _, rfl, _, rfl, D, f, x, o, rfl, SqL.of hD, by omega, _, rfl, _, rfl, _, rfl, D, f, y, o, rfl, SqL.of hD, by omega, _, _, rfl, rfl, D, _, _, rfl, rfl, hD, by rw [vn_len, lrow]; exact small64k (by omega), ?_⟩
      refine ⟨_, _, rfl, same_mut sx nD, ?_⟩
      rw [upd_same]
      show some (HO.lst (vn f ++ [V.int (Builtin.bitAnd ((colit o f x : Nat) : Int) ((colit o f y : Nat) : Int))])) = _
      rw [band, vn_snoc]
    rintro σ Hx ⟨y4, y5, rfl, sx, hD⟩
    rw [hus.len, List.take_length] at hD
    exact ⟨_, rfl, q _ D sx nD hD⟩
def sp_answer_columns (K : PySem.W.Frag) : Sp := fun vs H Q _ => ∃ (v : V) (n : Net) (a : Addr) (f : List Nat) (o : Nat), vs = [v, .ref a, .int (o : Nat)] ∧ Dv H v n ∧ H a = some (.lst (vn f)) ∧ (∀ l ∈ n.outs ++ n.nexts, l / 2 < f.length) ∧ (n.outs ++ n.nexts).length ≤ 60000 ∧
  ∀ H' r, Same H H' → H r = none → H' r = some (.lst (vn ((n.outs ++ n.nexts).map (colit o f)))) → Q (.ref r) H'
theorem ok_answer_columns {P : Program} {w : World} {K : PySem.W.Frag} {mg : Str → Option Value} {base : Heap} {f fcolumns_of : Addr} {fd fdcolumns_of : FuncData} (F : Fun K "answer_columns" "answer_columns" s_answer_columns f fd) (T : Txt K mg)
    (G_columns_of : FnOk P w K mg base CX0 2 fcolumns_of fdcolumns_of ["columns", "literals", "ones"] (sp_columns_of K)) (D_columns_of : Def K mg "columns_of" fcolumns_of fdcolumns_of ["columns", "literals", "ones"]) :
    FnOk P w K mg base CX0 3 f fd ["net", "columns", "ones"] (sp_answer_columns K) := by
  refine F.ok scanswer_columns (fun vs H Q E h => ?_) (fun cdv A outer s H vs Q E hr h => ?_)
  · obtain ⟨v, n, a, f, o, rfl, _⟩ := h
    rfl
  · obtain ⟨v, n, b, f, o, rfl, hn, hb, hl, hll, q⟩ := h
    obtain ⟨a, aS, aG, aN, aO, rfl, hA, hS, hG, hN, hO⟩ := hn.net_inv
    obtain ⟨_, e, hN⟩ := hN.natl_inv
    cases e
    obtain ⟨_, e, hO⟩ := hO.natl_inv
    cases e
    rw [List.length_append] at hll
    refine ⟨_, (pss_one (ps_ret (pe_call G_columns_of (hr.mono (by omega)) (by rfl) D_columns_of.m D_columns_of.k D_columns_of.b .nil pass0 (pa_cons (pv 1) (pa_cons (pe_op op_cat (pe_ix (r := rIxT K) ix_tup (pv 0) pe_int (fun _ _ => rfl)) (pe_ix (r := rIxT K) ix_tup (pv 0) pe_int (fun _ _ => rfl))) (pa_cons (pv 2) pa_nil)))))), ?_⟩
    refine ⟨_, rfl, _, rfl, a, _, 5, _, rfl, rfl, SqT.of hA, atI_nat (j := 5) rfl, _, rfl, a, _, 4, _, rfl, rfl, SqT.of hA, atI_nat (j := 4) rfl, aO, aN, _, _, rfl, rfl, hO, hN, ?_, fun D nD => ?_⟩
    · rw [vn_len, vn_len]
      exact Nat.le_of_lt (small64k (by omega))
    have s0 := same_new (o := .lst (vn n.outs ++ vn n.nexts)) nD
    have e0 : (upd H D (.lst (vn n.outs ++ vn n.nexts))) D = some (.lst (vn (n.outs ++ n.nexts))) := by
      rw [upd_same]
      unfold vn
      rw [List.map_append]
    generalize (upd H D (.lst (vn n.outs ++ vn n.nexts))) = H0 at s0 e0 ⊢
    refine ⟨_, rfl, b, D, f, _, o, rfl, SqL.of (s0 _ _ hb), SqL.of e0, hl, by rw [List.length_append]; omega, fun H' s' => ⟨SqL.of (s' _ _ (s0 _ _ hb)), SqL.of (s' _ _ e0)⟩, fun H' r s' nr hr => q _ r (s0.trans s') (none_of s0 nr) hr⟩

end K69
namespace K69
open PySem PySem.Spec PyProof.Rows L2 V0
/-! ### the faults of nets: there is none -/
structure Kind (n : Net) : Prop where
  bits : ∀ b ∈ n.starts, b < 2
  g : ∀ j g, n.gates[j]? = some g → g.1 < 2 * (n.base + j) ∧ g.2 < 2 * (n.base + j)
  nl : n.nexts.length = n.starts.length
  nx : ∀ x ∈ n.nexts, x < 2 * n.many
  ox : ∀ x ∈ n.outs, x < 2 * n.many
theorem kind_of {n : Net} {i f m : Nat} (h : n.Ok i f m) : Kind n := ⟨h.bits, h.g, h.nl, h.nx, h.ox⟩
def sp_many_nodes (K : PySem.W.Frag) : Sp := fun vs H Q _ => ∃ (v : V) (n : Net), vs = [v] ∧ Dv H v n ∧ Q (.int (n.many : Nat)) H
theorem ok_many_nodes {P : Program} {w : World} {K : PySem.W.Frag} {mg : Str → Option Value} {base : Heap} {f fbase_of : Addr} {fd fdbase_of : FuncData} (F : Fun K "many_nodes" "many_nodes" s_many_nodes f fd) (T : Txt K mg)
    (G_base_of : FnOk P w K mg base CX0 1 fbase_of fdbase_of ["net"] (sp_base_of K)) (D_base_of : Def K mg "base_of" fbase_of fdbase_of ["net"]) :
    FnOk P w K mg base CX0 2 f fd ["net"] (sp_many_nodes K) := by
  refine F.ok scmany_nodes (fun vs H Q E h => ?_) (fun cdv A outer s H vs Q E hr h => ?_)
  · obtain ⟨l, n, rfl, _⟩ := h
    rfl
  · obtain ⟨v, n, rfl, hn, q⟩ := h
    have hn0 := hn
    obtain ⟨a, aS, aG, aN, aO, rfl, hA, hS, hG, hN, hO⟩ := hn.net_inv
    obtain ⟨_, us, e, hGl, hus⟩ := hG.list_inv
    cases e
    refine ⟨_, (pss_one (ps_ret (pe_op op_add (pe_call G_base_of (hr.mono (by omega)) (by rfl) D_base_of.m D_base_of.k D_base_of.b .nil pass0 (pa_cons (pv 0) pa_nil)) (pe_callB call_len_seq (by rfl) T.m_len (by decide +kernel) (pa_cons (pe_ix (r := rIxT K) ix_tup (pv 0) pe_int (fun _ _ => rfl)) pa_nil))))), ?_⟩
    refine ⟨_, rfl, .ref a, n, rfl, hn0, _, rfl, a, _, 3, _, rfl, rfl, SqT.of hA, atI_nat (j := 3) rfl, aG, _, rfl, .inl (SqL.of hGl), _, _, rfl, rfl, ?_⟩
    show Q (V.int ((n.base : Int) + (us.length : Int))) H
    rw [hus.len]
    exact q

/-! ### columns of rows, of tests -/
def rowcol (rows : List (List Nat)) (i : Nat) : Nat := colN rows.length fun k => (rows[k]?.getD [])[i]?.getD 0
def sp_columns_of_rows (K : PySem.W.Frag) : Sp := fun vs H Q _ => ∃ (v : V) (rows : List (List Nat)) (m : Nat), vs = [v, .int (m : Nat)] ∧ Dv H v rows ∧ rows.length ≤ 60000 ∧ m ≤ 60000 ∧ (∀ r ∈ rows, m ≤ r.length ∧ ∀ b ∈ r, b < 2) ∧ ∀ H' r, Same H H' → H r = none → H' r = some (.lst (vn ((List.range m).map (rowcol rows)))) → Q (.ref r) H'
theorem ok_columns_of_rows {P : Program} {w : World} {K : PySem.W.Frag} {mg : Str → Option Value} {base : Heap} {f  : Addr} {fd  : FuncData} (F : Fun K "columns_of_rows" "columns_of_rows" s_columns_of_rows f fd) (T : Txt K mg) :
    FnOk P w K mg base CX0 1 f fd ["rows", "many"] (sp_columns_of_rows K) := by
  refine F.ok sccolumns_of_rows (fun vs H Q E h => ?_) (fun cdv A outer s H vs Q E hr h => ?_)
  · obtain ⟨v, rows, m, rfl, _⟩ := h
    rfl
  · obtain ⟨v, rows, m, rfl, hv, hl, hm, hb, q⟩ := h
    obtain ⟨a, us, rfl, ha, hus⟩ := hv.list_inv
    refine ⟨_, (pss_one (ps_ret (pe_lc (own := [("at", 2)]) (g := gName 2) (tt := tYes) rfl sccolumns_of_rows.nd (pi_range1 rfl T.m_range (pa_cons (pv 1) pa_nil)) (blkOk_by (N := N_columns_of_rows) (sc := defScope s_columns_of_rows) (by decide +kernel)) (fun _ _ _ _ _ => (pg_name (i := 2) sccolumns_of_rows.nd rfl (Or.inr rfl))) (fun _ _ _ _ _ => pts_nil) (fun _ _ _ _ _ => (pe_callB (r := rSum K) (cr_sum (by rfl)) (by rfl) T.m_sum (by decide +kernel) (pa_cons (pe_lc (own := [("k", 3), ("row", 4)]) (wi := iEnum K _) (g := gTup K 2 (gCons (gName 3) (gCons (gName 4) (gNil)))) (tt := tYes) rfl sccolumns_of_rows.nd (pi_enum (by rfl) T.m_enumerate (pa_cons (pv 0) pa_nil)) (blkOk_by (N := N_columns_of_rows) (sc := relS _ (defScope s_columns_of_rows)) (by decide +kernel)) (fun _ _ _ _ _ => (pg_tup (by rfl) (pgs_cons (pg_name (i := 3) sccolumns_of_rows.nd rfl (Or.inl rfl)) (pgs_cons (pg_name (i := 4) sccolumns_of_rows.nd rfl (Or.inl rfl)) pgs_nil)))) (fun _ _ _ _ _ => pts_nil) (fun _ _ _ _ _ => (pe_op op_shl (pe_ix (r := rIxL K) ix_list (pv 4) (pv 2) (fun _ _ => rfl)) (pv 3)))) pa_nil)))))), ?_⟩
    refine ⟨_, rfl, _, rfl, by omega, by omega, fun D nD => lc_range (n := m) (fun j Hx => Same H Hx ∧ Hx D = some (.lst (vn ((List.range j).map (rowcol rows))))) ⟨same_new nD, upd_same⟩ ?_ ?_⟩
    · rintro j Hx hj ⟨sx, hD⟩
      have hux := hus.same sx
      refine ⟨rfl, _, rfl, a, _, rfl, SqL.of (sx _ _ ha), fun D2 nD2 => lc_it walk_enum (fun i Hz => Same Hx Hz ∧ Hz D2 = some (.lst (vn ((List.range i).map fun k => ((rows[k]?.getD [])[j]?.getD 0) * 2 ^ k)))) ⟨same_new nD2, upd_same⟩ (fun i Hz _ h => SqL.of (h.1 _ _ (sx _ _ ha))) ?_ ?_⟩
      · rintro i v Hz Hz' hi ⟨sz, hpz⟩ ⟨T1, x, y, rfl, nT, rfl, ex, ey⟩
        cases ex
        have ey : us[i]? = some y := ey
        obtain ⟨row, hrow, hd⟩ := hux.at ey
        obtain ⟨ar, rfl, har⟩ := hd.natl_inv
        have hrm := hb row (List.mem_of_getElem? hrow)
        have hi' : i < rows.length := (List.getElem?_eq_some_iff.mp hrow).1
        have sT := same_new (o := .tup [.int (i : Nat), .ref ar]) nT
        have hjr : j < row.length := by omega
        have hbit : row[j] < 2 := hrm.2 _ (List.getElem_mem hjr)
        refine ⟨T1, _, rfl, SqT.of upd_same, rfl, _, _, rfl, _, _, rfl, rfl, rfl, _, rfl, _, rfl, ar, _, _, _, rfl, rfl, SqL.of (sT _ _ (sz _ _ har)), (by rw [Int.zero_add]; exact atI_nat (vn_get (List.getElem?_eq_getElem hjr))), _, rfl, _, _, rfl, rfl, cpow2 (by omega) (by omega), _, sT _ _ hpz, ?_, same_mut (sz.trans sT) nD2, ?_⟩
        · rw [vn_len, List.length_map, List.length_range]
          exact small64k (by omega)
        · rw [upd_same, map_range_succ, ← vn_snoc, hrow]
          show some (HO.lst (_ ++ [V.int (((row[j] : Nat) : Int) * 2 ^ ((i : Nat) : Int).toNat)])) = _
          rw [shl_nat, Option.getD_some, List.getElem?_eq_getElem hjr]
          rfl
      · rintro Hz ⟨sz, hpz⟩
        rw [hus.len] at hpz
        refine ⟨D2, _, rfl, SqL.of (by rw [hpz, vni]), _, sz _ _ hD, ?_, same_mut (sx.trans sz) nD, ?_⟩
        · rw [vn_len, List.length_map, List.length_range]
          exact small64k (by omega)
        · rw [upd_same, sum_ni, sum_shl, vn_snoc, map_range_succ]
          rfl
    · rintro Hx ⟨sx, hD⟩
      exact q _ D sx nD hD
def inRows (ts : List (List Nat × List Nat)) : List (List Nat) := ts.map fun t => t.2 ++ t.1
def sound (n : Net) (ts : List (List Nat × List Nat)) : List Nat := wgs (2 ^ ts.length - 1) n.gates (0 :: (List.range (n.base - 1)).map (rowcol (inRows ts)))
structure TestOk (n : Net) (t : List Nat × List Nat) : Prop where
  sl : t.1.length = n.starts.length
  il : t.2.length = n.ins
  sb : ∀ b ∈ t.1, b < 2
  ib : ∀ b ∈ t.2, b < 2
def sp_sound_columns (K : PySem.W.Frag) : Sp := fun vs H Q _ => ∃ (v u : V) (n : Net) (ts : List (List Nat × List Nat)), vs = [v, u] ∧ Dv H v n ∧ Dv H u ts ∧ ts.length ≤ 1000 ∧ n.many ≤ 1000 ∧ (∀ j g, n.gates[j]? = some g → g.1 < 2 * (n.base + j) ∧ g.2 < 2 * (n.base + j)) ∧ (∀ t ∈ ts, TestOk n t) ∧
  ∀ H' r, Same H H' → H r = none → H' r = some (.lst (vn (sound n ts))) → Q (.ref r) H'
theorem ok_sound_columns {P : Program} {w : World} {K : PySem.W.Frag} {mg : Str → Option Value} {base : Heap} {f fwith_gates fcolumns_of_rows fbase_of : Addr} {fd fdwith_gates fdcolumns_of_rows fdbase_of : FuncData} (F : Fun K "sound_columns" "sound_columns" s_sound_columns f fd) (T : Txt K mg)
    (G_with_gates : FnOk P w K mg base CX0 2 fwith_gates fdwith_gates ["net", "columns", "ones"] (sp_with_gates K)) (D_with_gates : Def K mg "with_gates" fwith_gates fdwith_gates ["net", "columns", "ones"])
    (G_columns_of_rows : FnOk P w K mg base CX0 1 fcolumns_of_rows fdcolumns_of_rows ["rows", "many"] (sp_columns_of_rows K)) (D_columns_of_rows : Def K mg "columns_of_rows" fcolumns_of_rows fdcolumns_of_rows ["rows", "many"])
    (G_base_of : FnOk P w K mg base CX0 1 fbase_of fdbase_of ["net"] (sp_base_of K)) (D_base_of : Def K mg "base_of" fbase_of fdbase_of ["net"]) :
    FnOk P w K mg base CX0 3 f fd ["net", "tests"] (sp_sound_columns K) := by
  refine F.ok scsound_columns (fun vs H Q E h => ?_) (fun cdv A outer s H vs Q E hr h => ?_)
  · obtain ⟨v, u, n, ts, rfl, _⟩ := h
    rfl
  · obtain ⟨v, u, n, ts, rfl, hn, ht, hl, hm, hgb, hok, q⟩ := h
    obtain ⟨a, us, rfl, ha, hus⟩ := ht.list_inv
    have hmb : n.base ≤ 1000 := by unfold Net.many at hm; omega
    have hb1 : 1 ≤ n.base := by unfold Net.base; omega
    refine ⟨_, (pss_cons (ps_setLc (i := 2) (own := [("state", 3), ("bits", 4)]) (g := gTup K 2 (gCons (gName 3) (gCons (gName 4) (gNil)))) (tt := tYes) rfl scsound_columns.nd rfl rfl (sw_true rfl rfl rfl (by decide +kernel)) (pi_list (pv 1)) (blkOk_by (N := N_sound_columns) (sc := defScope s_sound_columns) (by decide +kernel)) (fun _ _ _ _ _ => (pg_tup (by rfl) (pgs_cons (pg_name (i := 3) scsound_columns.nd rfl (Or.inl rfl)) (pgs_cons (pg_name (i := 4) scsound_columns.nd rfl (Or.inl rfl)) pgs_nil)))) (fun _ _ _ _ _ => pts_nil) (fun _ _ _ _ _ => (pe_lst (V0.pa_starK (K := K) rfl (pv 4) (V0.pa_starK (K := K) rfl (pv 3) pa_nil)))))
      (pss_one (ps_ret (pe_call G_with_gates (hr.mono (by omega)) (by rfl) D_with_gates.m D_with_gates.k D_with_gates.b .nil pass0 (pa_cons (pv 0) (pa_cons (pe_call G_columns_of_rows (hr.mono (by omega)) (by rfl) D_columns_of_rows.m D_columns_of_rows.k D_columns_of_rows.b .nil pass0 (pa_cons (pv 2) (pa_cons (pe_op op_sub (pe_call G_base_of (hr.mono (by omega)) (by rfl) D_base_of.m D_base_of.k D_base_of.b .nil pass0 (pa_cons (pv 0) pa_nil)) pe_int) pa_nil))) (pa_cons (pe_op op_sub (pe_op op_shl pe_int (pe_callB call_len_seq (by rfl) T.m_len (by decide +kernel) (pa_cons (pv 1) pa_nil))) pe_int) pa_nil))))))), ?_⟩
    refine ⟨_, rfl, a, rfl, ⟨_, SqL.of ha⟩, fun D nD => lc_list (xs := us) (fun j Hx => ∃ ws, Same H Hx ∧ Hx D = some (.lst ws) ∧ Dvs (hid D Hx) ws ((inRows ts).take j)) ⟨[], same_new nD, upd_same, .nil⟩ (fun j Hx _ h => by obtain ⟨_, s', _⟩ := h; exact SqL.of (s' _ _ ha)) ?_ ?_⟩
    · rintro j u Hx hu ⟨ws, sx, hD, hws⟩
      obtain ⟨t, ht1, hd⟩ := hus.at hu
      obtain ⟨T, u1, u2, rfl, hT, hx, hy⟩ := hd.pair_inv
      obtain ⟨as, rfl, has⟩ := hx.natl_inv
      obtain ⟨ab, rfl, hab⟩ := hy.natl_inv
      have hj : j < ts.length := (List.getElem?_eq_some_iff.mp ht1).1
      have tok := hok t (List.mem_of_getElem? ht1)
      have hs1 := tok.sl
      have hs2 := tok.il
      have hbn : n.base = 1 + n.ins + n.starts.length := rfl
      refine ⟨T, _, rfl, SqT.of (sx _ _ hT), rfl, _, _, rfl, _, _, rfl, rfl, rfl, ?_⟩
      refine ⟨_, rfl, ab, _, rfl, .inr (SqL.of (sx _ _ hab)), _, rfl, as, _, rfl, .inr (SqL.of (sx _ _ has)), ?_, fun L nL => ?_⟩
      · show ((vn t.2 ++ (vn t.1 ++ [])).length) ≤ sizeLine
        rw [List.append_nil, List.length_append, vn_len, vn_len]
        exact Nat.le_of_lt (small64k (by omega))
      have sL := same_new (o := .lst (vn t.2 ++ (vn t.1 ++ []))) nL
      have eL : (upd Hx L (.lst (vn t.2 ++ (vn t.1 ++ [])))) L = some (.lst (vn (t.2 ++ t.1))) := by
        rw [upd_same, List.append_nil]
        unfold vn
        rw [List.map_append]
      have nLD : L ≠ D := fun e => by rw [e, hD] at nL; cases nL
      generalize (upd Hx L (.lst (vn t.2 ++ (vn t.1 ++ [])))) = Hy at sL eL ⊢
      have lws := hws.len
      refine ⟨_, sL _ _ hD, ?_, ws ++ [.ref L], same_mut (sx.trans sL) nD, upd_same, ?_⟩
      · rw [lws, List.length_take]
        exact small64k (by omega)
      · have hin : (inRows ts)[j]? = some (t.2 ++ t.1) := by
          unfold inRows
          rw [List.getElem?_map, ht1]
          rfl
        rw [take_snoc hin]
        exact ((hws.same (hid_mono sL)).same hid_mut).app (.cons (.natl (hid_of nLD (by rw [upd_ne nLD]; exact eL))) .nil)
    · rintro Hx ⟨ws, sx, hD, hws⟩
      have lin : (inRows ts).length = ts.length := List.length_map _
      rw [hus.len, ← lin, List.take_length] at hws
      have drows : Dv Hx (.ref D) (inRows ts) := .list hD (hws.same (hid_same _ _))
      have eb : V.int ((n.base : Int) - 1) = V.int ((n.base - 1 : Nat) : Int) := by
        congr 1
        omega
      refine ⟨_, rfl, _, rfl, _, rfl, v, n, rfl, hn.same sx, _, _, rfl, rfl, ?_⟩
      simp only [eb]
      refine ⟨.ref D, inRows ts, n.base - 1, rfl, drows, by rw [lin]; omega, by omega, fun r hr => ?_, fun H1 C s1 nC hC => ?_⟩
      · unfold inRows at hr
        obtain ⟨t, ht1, rfl⟩ := List.mem_map.mp hr
        have tok := hok t ht1
        refine ⟨?_, fun b hb => ?_⟩
        · rw [List.length_append, tok.sl, tok.il]
          unfold Net.base
          omega
        · rcases List.mem_append.mp hb with hb | hb
          · exact tok.ib b hb
          · exact tok.sb b hb
      have s01 := sx.trans s1
      refine ⟨_, rfl, a, _, rfl, .inl (SqL.of (s01 _ _ ha)), _, _, rfl, rfl, ?_, _, _, rfl, rfl, ?_⟩
      · rw [hus.len]
        exact cpow2 (x := 1) (by omega) (by decide)
      have eo : V.int ((1 : Int) * 2 ^ (((us.length : Nat) : Int)).toNat - 1) = V.int ((2 ^ ts.length - 1 : Nat) : Int) := by
        rw [shl_one, hus.len]
        have := Nat.two_pow_pos ts.length
        rw [show ((2 ^ ts.length : Nat) : Int) - 1 = ((2 ^ ts.length - 1 : Nat) : Int) by omega]
      simp only [eo]
      refine ⟨v, n, C, _, _, rfl, hn.same s01, hC, ?_, by omega, hgb, fun H2 r s2 nr hr => q _ r (s01.trans s2) (none_of s01 nr) hr⟩
      rw [List.length_map, List.length_range]
      omega
/-! ### all faults -/
def faultsOf (m : Nat) : List (Nat × Nat) := (List.range m).flatMap fun j => [(j + 1, 0), (j + 1, 1)]
theorem faults_succ (m : Nat) : faultsOf (m + 1) = faultsOf m ++ [(m + 1, 0), (m + 1, 1)] := by
  unfold faultsOf
  rw [List.range_succ, List.flatMap_append]
  rfl
theorem faults_len (m : Nat) : (faultsOf m).length = 2 * m := by
  induction m with
  | zero => rfl
  | succ m ih => rw [faults_succ, List.length_append, ih]; rfl
theorem faults_mem {m : Nat} {f : Nat × Nat} (h : f ∈ faultsOf m) : 1 ≤ f.1 ∧ f.1 ≤ m ∧ f.2 < 2 := by
  induction m with
  | zero => cases h
  | succ m ih =>
    rw [faults_succ] at h
    rcases List.mem_append.mp h with h | h
    · have := ih h
      omega
    · simp only [List.mem_cons, List.not_mem_nil, or_false] at h
      rcases h with rfl | rfl
      · exact ⟨by show 1 ≤ m + 1; omega, Nat.le_refl _, by show 0 < 2; decide⟩
      · exact ⟨by show 1 ≤ m + 1; omega, Nat.le_refl _, by show 1 < 2; decide⟩
def sp_faults (K : PySem.W.Frag) : Sp := fun vs H Q _ => ∃ (v : V) (n : Net), vs = [v] ∧ Dv H v n ∧ n.many ≤ 1000 ∧ ∀ H' r, Same H H' → H r = none → Dv (fresh H H') (.ref r) (faultsOf (n.many - 1)) → Q (.ref r) H'
theorem ok_faults {P : Program} {w : World} {K : PySem.W.Frag} {mg : Str → Option Value} {base : Heap} {f fmany_nodes : Addr} {fd fdmany_nodes : FuncData} (F : Fun K "faults" "faults" s_faults f fd) (T : Txt K mg)
    (G_many_nodes : FnOk P w K mg base CX0 2 fmany_nodes fdmany_nodes ["net"] (sp_many_nodes K)) (D_many_nodes : Def K mg "many_nodes" fmany_nodes fdmany_nodes ["net"]) :
    FnOk P w K mg base CX0 3 f fd ["net"] (sp_faults K) := by
  refine F.ok scfaults (fun vs H Q E h => ?_) (fun cdv A outer s H vs Q E hr h => ?_)
  · obtain ⟨v, n, rfl, _⟩ := h
    rfl
  · obtain ⟨v, n, rfl, hn, hm, q⟩ := h
    have hm1 : 1 ≤ n.many := by unfold Net.many Net.base; omega
    refine ⟨_, (pss_one (ps_ret (pe_lc2 (own := [("node", 1), ("bit", 2)]) (vs1 := [2]) (g := gName 1) (g1 := gName 2) (tt := tYes) (tt1 := tYes) rfl scfaults.nd (pi_range2 rfl T.m_range (pa_cons pe_int (pa_cons (pe_call G_many_nodes (hr.mono (by omega)) (by rfl) D_many_nodes.m D_many_nodes.k D_many_nodes.b .nil pass0 (pa_cons (pv 0) pa_nil)) pa_nil))) (blkOk_by (N := N_faults) (sc := defScope s_faults) (by decide +kernel)) (by decide) (fun _ _ _ _ _ => (pg_name (i := 1) scfaults.nd rfl (Or.inl rfl))) (fun _ _ _ _ _ => pts_nil) (fun _ _ _ _ _ => (pi_range1 rfl T.m_range (pa_cons pe_int pa_nil))) (fun _ _ _ _ _ => (pg_name (i := 2) scfaults.nd rfl (Or.inl rfl))) (fun _ _ _ _ _ => pts_nil) (fun _ _ _ _ _ => (pe_tup (pa_cons (pv 1) (pa_cons (pv 2) pa_nil))))))), ?_⟩
    refine ⟨_, rfl, v, n, rfl, hn, _, _, rfl, by omega, fun D nD => ?_⟩
    rw [show ((n.many : Int) - 1).toNat = n.many - 1 by omega]
    refine lc2_out (wk_range (n := n.many - 1)) (fun j Hx => ∃ us, Same H Hx ∧ Hx D = some (.lst us) ∧ Dvs (hid D (fresh H Hx)) us (faultsOf j)) ⟨[], same_new nD, upd_same, .nil⟩ (fun _ _ _ _ => trivial) ?_ ?_
    · rintro j Hx x Hx' hj ⟨us, sx, hD, hus⟩ ⟨rfl, rfl⟩
      refine ⟨rfl, 2, rfl, by decide, by decide, lc2_out (wk_range (n := 2)) (fun b Hy => ∃ us, Same H Hy ∧ Hy D = some (.lst us) ∧ Dvs (hid D (fresh H Hy)) us (faultsOf j ++ [(j + 1, 0), (j + 1, 1)].take b)) ⟨us, sx, hD, by rw [List.take_zero, List.append_nil]; exact hus⟩ (fun _ _ _ _ => trivial) ?_ ?_⟩
      · rintro b Hy x Hy' hb ⟨us, sy, hD, hus⟩ ⟨rfl, rfl⟩
        refine ⟨rfl, _, rfl, _, rfl, by show 2 ≤ sizeLine; decide, fun t nt => ?_⟩
        have st := same_new (o := .tup [.int (1 + (j : Int)), .int (0 + (b : Int))]) nt
        have ntD : t ≠ D := fun e => by rw [e, hD] at nt; cases nt
        have lus := hus.len
        refine ⟨us, st _ _ hD, ?_, us ++ [.ref t], same_mut (sy.trans st) nD, upd_same, ?_⟩
        · rw [lus, List.length_append, faults_len, List.length_take]
          exact small64k (by show 2 * j + min b 2 ≤ _; omega)
        · have hp : ([(j + 1, 0), (j + 1, 1)] : List (Nat × Nat))[b]? = some (j + 1, b) := by
            have : b = 0 ∨ b = 1 := by omega
            rcases this with rfl | rfl <;> rfl
          rw [take_snoc hp, ← List.append_assoc]
          refine ((hus.same (hid_mono (fresh_post st))).same ?_).app (.cons (.pair (hid_of ntD (fresh_of (none_of sy nt) (by rw [upd_ne ntD]; exact upd_same))) ?_ ?_) .nil)
          · intro z u hz
            obtain ⟨h1, h2⟩ := hid_some hz
            obtain ⟨h3, h4⟩ := fresh_some h2
            exact hid_of h1 (fresh_of h3 (by rw [upd_ne h1]; exact h4))
          · rw [show (1 : Int) + (j : Int) = ((j + 1 : Nat) : Int) by omega]
            exact Dv.nat _
          · rw [show (0 : Int) + (b : Int) = ((b : Nat) : Int) by omega]
            exact Dv.nat _
      · rintro Hy ⟨us, sy, hD, hus⟩
        refine ⟨us, sy, hD, ?_⟩
        rw [faults_succ]
        exact hus
    · rintro Hx ⟨us, sx, hD, hus⟩
      exact q _ D sx nD (.list (fresh_of nD hD) (hus.same (hid_same _ _)))

end K69
namespace K69
open PySem PySem.Spec PyProof.Rows L2 V0
/-! ### columns with a fault -/
structure FOk (n : Net) (o : Nat) (cs : List Nat) (x b : Nat) (F : List Nat) : Prop where
  len : F.length = cs.length
  at_ : F[x]? = some (if b = 1 then o else 0)
  low : ∀ j, j ≠ x → j < n.base → F[j]? = cs[j]?
  gate : ∀ j g, n.gates[j]? = some g → n.base + j ≠ x → F[n.base + j]? = some (colit o F g.1 &&& colit o F g.2)
/-- the loop of faulty_columns, ahead of a node -/
structure FInv (n : Net) (o : Nat) (cs : List Nat) (x b : Nat) (i : Nat) (F : List Nat) : Prop where
  len : F.length = cs.length
  at_ : F[x]? = some (if b = 1 then o else 0)
  low : ∀ j, j ≠ x → j < n.base → F[j]? = cs[j]?
  gate : ∀ j g, n.gates[j]? = some g → n.base + j ≠ x → n.base + j < i → F[n.base + j]? = some (colit o F g.1 &&& colit o F g.2)
  rest : ∀ j, i ≤ j → F[j]? = cs[j]?
theorem colit_congr {o : Nat} {f h : List Nat} {l : Nat} (e : f[l / 2]? = h[l / 2]?) : colit o f l = colit o h l := by
  unfold colit
  rw [e]
theorem FInv.start {n : Net} {o x b : Nat} {cs : List Nat} (hl : cs.length = n.many) (hx : x < n.many) (hgb : ∀ j g, n.gates[j]? = some g → g.1 < 2 * (n.base + j) ∧ g.2 < 2 * (n.base + j)) (hcs : ∀ j g, n.gates[j]? = some g → cs[n.base + j]? = some (colit o cs g.1 &&& colit o cs g.2)) :
    FInv n o cs x b (max n.base (x + 1)) (cs.set x (if b = 1 then o else 0)) := by
  have ne : ∀ j, j ≠ x → (cs.set x (if b = 1 then o else 0))[j]? = cs[j]? := fun j h => List.getElem?_set_ne (Ne.symm h)
  refine ⟨List.length_set, ?_, fun j h _ => ne j h, fun j g hg h1 h2 => ?_, fun j h => ne j (by omega)⟩
  · rw [List.getElem?_set_self (by omega)]
  · have hb := hgb j g hg
    have lt : n.base + j < x := by omega
    rw [ne _ h1, hcs j g hg, colit_congr (ne (g.1 / 2) (by omega)), colit_congr (ne (g.2 / 2) (by omega))]
theorem FInv.put {n : Net} {o x b i : Nat} {cs F : List Nat} {g : Nat × Nat} (h : FInv n o cs x b i F) (hx : x < i) (hi : n.base ≤ i) (hg : n.gates[i - n.base]? = some g) (hlt : i < cs.length) (hgb : ∀ j g, n.gates[j]? = some g → g.1 < 2 * (n.base + j) ∧ g.2 < 2 * (n.base + j)) :
    FInv n o cs x b (i + 1) (F.set i (colit o F g.1 &&& colit o F g.2)) := by
  have ne : ∀ j, j ≠ i → (F.set i (colit o F g.1 &&& colit o F g.2))[j]? = F[j]? := fun j h => List.getElem?_set_ne (Ne.symm h)
  refine ⟨by rw [List.length_set]; exact h.len, by rw [ne x (by omega)]; exact h.at_, fun j h1 h2 => by rw [ne j (by omega)]; exact h.low j h1 h2, fun j g' hg' h1 h2 => ?_, fun j hj => by rw [ne j (by omega)]; exact h.rest j (by omega)⟩
  have hb := hgb j g' hg'
  rw [colit_congr (ne (g'.1 / 2) (by omega)), colit_congr (ne (g'.2 / 2) (by omega))]
  by_cases e : n.base + j = i
  · have e2 : j = i - n.base := by omega
    rw [e2, hg] at hg'
    cases hg'
    rw [e, List.getElem?_set_self (by rw [h.len]; omega)]
  · rw [ne _ e]
    exact h.gate j g' hg' h1 (by omega)
theorem FInv.keep {n : Net} {o x b i : Nat} {cs F : List Nat} {g : Nat × Nat} (h : FInv n o cs x b i F) (hx : x < i) (hi : n.base ≤ i) (hg : n.gates[i - n.base]? = some g) (hcs : ∀ j g, n.gates[j]? = some g → cs[n.base + j]? = some (colit o cs g.1 &&& colit o cs g.2))
    (e1 : F[g.1 / 2]? = cs[g.1 / 2]?) (e2 : F[g.2 / 2]? = cs[g.2 / 2]?) : FInv n o cs x b (i + 1) F := by
  refine ⟨h.len, h.at_, h.low, fun j g' hg' h1 h2 => ?_, fun j hj => h.rest j (by omega)⟩
  by_cases e : n.base + j = i
  · have e3 : j = i - n.base := by omega
    have e4 := hcs j g' hg'
    rw [e3, hg] at hg'
    cases hg'
    rw [e, h.rest i (Nat.le_refl _), ← e, e4, colit_congr e1, colit_congr e2]
  · exact h.gate j g' hg' h1 (by omega)
theorem FInv.done {n : Net} {o x b i : Nat} {cs F : List Nat} (h : FInv n o cs x b i F) (hl : cs.length = n.many) (hi : n.many ≤ i) : FOk n o cs x b F := ⟨h.len, h.at_, h.low, fun j g hg h1 => h.gate j g hg h1 (by
  have := (List.getElem?_eq_some_iff.mp hg).1
  unfold Net.many at hi
  omega)⟩
/-- which columns are changed -/
def chg (cs F : List Nat) : List Bool := (List.range cs.length).map fun j => !decide (F[j]? = cs[j]?)
theorem chg_len (cs F : List Nat) : (chg cs F).length = cs.length := by
  unfold chg
  rw [List.length_map, List.length_range]
theorem chg_get {cs F : List Nat} {j : Nat} (h : j < cs.length) : (chg cs F)[j]? = some (!decide (F[j]? = cs[j]?)) := by
  unfold chg
  rw [List.getElem?_map, List.getElem?_range h]
  rfl
theorem chg_set {cs F : List Nat} {i v c : Nat} (hi : i < F.length) (hc : cs[i]? = some c) : (chg cs F).set i (!decide (v = c)) = chg cs (F.set i v) := by
  apply List.ext_getElem?
  intro j
  have hic : i < cs.length := (List.getElem?_eq_some_iff.mp hc).1
  by_cases hj : j < cs.length
  · rw [chg_get hj]
    by_cases e : j = i
    · subst e
      rw [List.getElem?_set_self (by rw [chg_len]; exact hj), List.getElem?_set_self hi, hc]
      congr 2
      exact decide_eq_decide.mpr ⟨fun e => by rw [e], fun e => Option.some.inj e⟩
    · rw [List.getElem?_set_ne (Ne.symm e), chg_get hj, List.getElem?_set_ne (Ne.symm e)]
  · rw [List.getElem?_eq_none (by rw [List.length_set, chg_len]; omega), List.getElem?_eq_none (by rw [chg_len]; omega)]
theorem chg_none (cs : List Nat) : chg cs cs = List.replicate cs.length false := by
  apply List.ext_getElem?
  intro j
  by_cases hj : j < cs.length
  · rw [chg_get hj, List.getElem?_replicate, if_pos hj]
    simp
  · rw [List.getElem?_eq_none (by rw [chg_len]; omega), List.getElem?_eq_none (by rw [List.length_replicate]; omega)]
theorem rep_fl (k : Nat) (v : V) : (List.replicate k [v]).flatten = List.replicate k v := by
  induction k with
  | zero => rfl
  | succ k ih => rw [List.replicate_succ, List.flatten_cons, ih, List.replicate_succ]; rfl
theorem set_bl (xs : List Bool) (i : Nat) (x : Bool) : (xs.map V.bl).set i (.bl x) = (xs.set i x).map V.bl := by rw [List.map_set]
theorem bl_get {xs : List Bool} {i : Nat} {b : Bool} (h : xs[i]? = some b) : (xs.map V.bl)[i]? = some (.bl b) := by
  rw [List.getElem?_map, h]
  rfl
def sp_faulty_columns (K : PySem.W.Frag) : Sp := fun vs H Q _ => ∃ (v u : V) (n : Net) (c : Addr) (cs : List Nat) (x b o : Nat), vs = [v, .ref c, u, .int (o : Nat)] ∧ Dv H v n ∧ H c = some (.lst (vn cs)) ∧ Dv H u ((x, b) : Nat × Nat) ∧ cs.length = n.many ∧ n.many ≤ 1000 ∧ x < n.many ∧
  (∀ j g, n.gates[j]? = some g → g.1 < 2 * (n.base + j) ∧ g.2 < 2 * (n.base + j)) ∧ (∀ j g, n.gates[j]? = some g → cs[n.base + j]? = some (colit o cs g.1 &&& colit o cs g.2)) ∧
  ∀ H' r F, Same H H' → H r = none → H' r = some (.lst (vn F)) → FOk n o cs x b F → Q (.ref r) H'
theorem ok_faulty_columns {P : Program} {w : World} {K : PySem.W.Frag} {mg : Str → Option Value} {base : Heap} {f fbase_of fcolumn_of : Addr} {fd fdbase_of fdcolumn_of : FuncData} (F : Fun K "faulty_columns" "faulty_columns" s_faulty_columns f fd) (T : Txt K mg)
    (G_base_of : FnOk P w K mg base CX0 1 fbase_of fdbase_of ["net"] (sp_base_of K)) (D_base_of : Def K mg "base_of" fbase_of fdbase_of ["net"])
    (G_column_of : FnOk P w K mg base CX0 1 fcolumn_of fdcolumn_of ["columns", "literal", "ones"] (sp_column_of K)) (D_column_of : Def K mg "column_of" fcolumn_of fdcolumn_of ["columns", "literal", "ones"]) :
    FnOk P w K mg base CX0 2 f fd ["net", "columns", "fault", "ones"] (sp_faulty_columns K) := by
  refine F.ok scfaulty_columns (fun vs H Q E h => ?_) (fun cdv A outer s H vs Q E hr h => ?_)
  · obtain ⟨v, u, n, c, cs, x, b, o, rfl, _⟩ := h
    rfl
  · obtain ⟨v, u, n, c, cs, x, b, o, rfl, hn, hc, hu, hl, hm, hx, hgb, hcs, q⟩ := h
    have hn0 := hn
    obtain ⟨a, aS, aG, aN, aO, rfl, hA, hS, hG, hN, hO⟩ := hn.net_inv
    obtain ⟨_, us, e, hGl, hus⟩ := hG.list_inv
    cases e
    obtain ⟨tf, u1, u2, rfl, hT, h1, h2⟩ := hu.pair_inv
    have h1 := h1.nat_inv
    have h2 := h2.nat_inv
    subst h1 h2
    have hmb : n.base ≤ n.many := by unfold Net.many; omega
    refine ⟨_, (pss_cons (ps_asg (pv 2) (pg_tup (by rfl) (pgs_cons (pg_name (i := 4) scfaulty_columns.nd rfl (Or.inl rfl)) (pgs_cons (pg_name (i := 5) scfaulty_columns.nd rfl (Or.inl rfl)) pgs_nil))))
      (pss_cons (ps_set (i := 6) scfaulty_columns.nd rfl (.inl rfl) (pe_call G_base_of (hr.mono (by omega)) (by rfl) D_base_of.m D_base_of.k D_base_of.b .nil pass0 (pa_cons (pv 0) pa_nil)))
      (pss_cons (ps_set (i := 7) scfaulty_columns.nd rfl (.inl rfl) (pe_callTy call_list_of (by rfl) T.m_list (by decide +kernel) (pa_cons (pv 1) pa_nil)))
      (pss_cons (ps_asg (pe_ifExp (pt_cmpR op_eq (pv 5) pe_int (nomark _)) (pv 3) pe_int) (pg_sub (pv 7) (pv 4) set_list))
      (pss_cons (ps_set (i := 8) scfaulty_columns.nd rfl (.inl rfl) (pe_op op_rep (pe_lst (pa_cons pe_bl pa_nil)) (pe_callB call_len_seq (by rfl) T.m_len (by decide +kernel) (pa_cons (pv 1) pa_nil))))
      (pss_cons (ps_asg (pe_cmpR op_ne (pe_ix (r := rIxL K) ix_list (pv 7) (pv 4) (fun _ _ => rfl)) (pe_ix (r := rIxL K) ix_list (pv 1) (pv 4) (fun _ _ => rfl)) (nomark _)) (pg_sub (pv 8) (pv 4) set_list))
      (pss_cons (ps_for PassesOwn.never rfl (pi_range2 rfl T.m_range (pa_cons (pe_callB (call_max2 (by rfl)) (by rfl) T.m_max (by decide +kernel) (pa_cons (pv 6) (pa_cons (pe_op op_add (pv 4) pe_int) pa_nil))) (pa_cons (pe_callB call_len_seq (by rfl) T.m_len (by decide +kernel) (pa_cons (pv 1) pa_nil)) pa_nil))) (pg_name (i := 9) scfaulty_columns.nd rfl (Or.inl rfl)) (pss_cons (ps_asg (pe_ix (r := rIxL K) ix_list (pe_ix (r := rIxT K) ix_tup (pv 0) pe_int (fun _ _ => rfl)) (pe_op op_sub (pv 9) (pv 6)) (fun _ _ => rfl)) (pg_tup (by rfl) (pgs_cons (pg_name (i := 10) scfaulty_columns.nd rfl (Or.inl rfl)) (pgs_cons (pg_name (i := 11) scfaulty_columns.nd rfl (Or.inl rfl)) pgs_nil))))
      (pss_one (ps_if (PW.pt (pw_or (pt_val (pe_ix (r := rIxL K) ix_list (pv 8) (pe_op op_shr (pv 10) pe_int) (fun _ _ => rfl))) (pw_or1 (pt_val (pe_ix (r := rIxL K) ix_list (pv 8) (pe_op op_shr (pv 11) pe_int) (fun _ _ => rfl)))))) (pss_cons (ps_asg (pe_op op_and (pe_call G_column_of (hr.mono (by omega)) (by rfl) D_column_of.m D_column_of.k D_column_of.b .nil pass0 (pa_cons (pv 7) (pa_cons (pv 10) (pa_cons (pv 3) pa_nil)))) (pe_call G_column_of (hr.mono (by omega)) (by rfl) D_column_of.m D_column_of.k D_column_of.b .nil pass0 (pa_cons (pv 7) (pa_cons (pv 11) (pa_cons (pv 3) pa_nil))))) (pg_sub (pv 7) (pv 9) set_list))
      (pss_one (ps_asg (pe_cmpR op_ne (pe_ix (r := rIxL K) ix_list (pv 7) (pv 9) (fun _ _ => rfl)) (pe_ix (r := rIxL K) ix_list (pv 1) (pv 9) (fun _ _ => rfl)) (nomark _)) (pg_sub (pv 8) (pv 9) set_list)))) pss_nil))))
      (pss_one (ps_ret (pv 7)))))))))), ?_⟩
    refine ⟨_, rfl, tf, _, rfl, SqT.of hT, rfl, _, _, rfl, _, _, rfl, rfl, ?_⟩
    refine ⟨_, rfl, .ref a, n, rfl, hn0, ?_⟩
    -- changed
    refine ⟨_, rfl, c, _, rfl, .inl (SqL.of hc), fun D nD => ?_⟩
    have s1 := same_new (o := .lst (vn cs)) nD
    have e1 : (upd H D (.lst (vn cs))) D = some (.lst (vn cs)) := upd_same
    refine ⟨_, rfl, rfl, _, rfl, ?_⟩
    have ov : V.int (if b = 1 then (o : Int) else 0) = V.int ((if b = 1 then o else 0 : Nat) : Int) := by split <;> rfl
    rw [show decide (V.int ((b : Nat) : Int) = V.int 1) = decide (b = 1) from dec_nat b 1]
    refine ifx (fun v Hx => v = .int ((if b = 1 then o else 0 : Nat) : Int) ∧ Hx = upd H D (.lst (vn cs))) (fun e Q hQ => ⟨_, rfl, hQ _ _ ⟨by rw [if_pos (of_decide_eq_true e)], rfl⟩⟩) (fun e Q hQ => hQ _ _ ⟨by rw [if_neg (of_decide_eq_false e)]; rfl, rfl⟩) ?_
    rintro _ Hx ⟨rfl, rfl⟩
    refine ⟨_, rfl, _, rfl, D, _, x, x, rfl, rfl, e1, ix_nat (by rw [vn_len]; omega), ?_⟩
    rw [set_vn, upd_upd]
    have fi := FInv.start (b := b) hl hx hgb hcs
    have nDc : c ≠ D := fun e => by rw [e] at hc; rw [hc] at nD; cases nD
    have s2 : Same H (upd H D (.lst (vn (cs.set x (if b = 1 then o else 0))))) := same_new nD
    have e2 : (upd H D (.lst (vn (cs.set x (if b = 1 then o else 0))))) D = some (.lst (vn (cs.set x (if b = 1 then o else 0)))) := upd_same
    generalize (upd H D (.lst (vn (cs.set x (if b = 1 then o else 0))))) = H2 at s2 e2 ⊢
    -- is_changed
    refine ⟨by show 1 ≤ sizeLine; decide, fun L nL => ?_⟩
    have sL := same_new (o := .lst [.bl false]) nL
    refine ⟨_, rfl, c, _, rfl, .inl (SqL.of (sL _ _ (s2 _ _ hc))), L, _, _, rfl, rfl, upd_same, by rw [vn_len]; omega, by rw [vn_len]; omega, ?_, fun B nB => ?_⟩
    · rw [vn_len, Int.toNat_natCast]
      exact Nat.le_of_lt (small64k (by show 1 * cs.length ≤ _; omega))
    have s3 := (s2.trans sL).trans (same_new (o := .lst (List.replicate (((vn cs).length : Nat) : Int).toNat [V.bl false]).flatten) nB)
    have e3 : (upd (upd H2 L (.lst [.bl false])) B (.lst (List.replicate (((vn cs).length : Nat) : Int).toNat [V.bl false]).flatten)) B = some (.lst ((chg cs cs).map V.bl)) := by
      rw [upd_same, rep_fl, Int.toNat_natCast, vn_len, chg_none, List.map_replicate]
    have nDB : D ≠ B := ne_of_none (sL _ _ e2) nB
    have e2 := same_new (o := .lst (List.replicate (((vn cs).length : Nat) : Int).toNat [V.bl false]).flatten) nB _ _ (sL _ _ e2)
    have nB0 : H B = none := none_of (s2.trans sL) nB
    generalize (upd (upd H2 L (.lst [.bl false])) B (.lst (List.replicate (((vn cs).length : Nat) : Int).toNat [V.bl false]).flatten)) = H3 at s3 e3 e2 ⊢
    have hxc : x < cs.length := by omega
    have gx := fi.at_
    have hcx := List.getElem?_eq_getElem hxc
    refine ⟨_, rfl, _, rfl, D, _, _, _, rfl, rfl, SqL.of e2, atI_nat (vn_get gx), _, rfl, _, rfl, c, _, _, _, rfl, rfl, SqL.of (s3 _ _ hc), atI_nat (vn_get hcx), rfl, _, rfl, _, rfl, B, _, x, x, rfl, rfl, e3, ix_nat (by rw [List.length_map, chg_len]; exact hxc), ?_⟩
    rw [show (!decide (V.int (((if b = 1 then o else 0 : Nat)) : Int) = V.int ((cs[x] : Nat) : Int))) = (!decide ((if b = 1 then o else 0) = cs[x])) by rw [show decide (V.int (((if b = 1 then o else 0 : Nat)) : Int) = V.int ((cs[x] : Nat) : Int)) = decide ((if b = 1 then o else 0) = cs[x]) from dec_nat _ _]]
    rw [set_bl, chg_set (F := cs) hxc hcx]
    have s4 : Same H (upd H3 B (.lst ((chg cs (cs.set x (if b = 1 then o else 0))).map V.bl))) := same_mut s3 nB0
    have e4 : (upd H3 B (.lst ((chg cs (cs.set x (if b = 1 then o else 0))).map V.bl))) B = some (.lst ((chg cs (cs.set x (if b = 1 then o else 0))).map V.bl)) := upd_same
    have e5 : (upd H3 B (.lst ((chg cs (cs.set x (if b = 1 then o else 0))).map V.bl))) D = some (.lst (vn (cs.set x (if b = 1 then o else 0)))) := by rw [upd_ne nDB]; exact e2
    generalize (upd H3 B (.lst ((chg cs (cs.set x (if b = 1 then o else 0))).map V.bl))) = H4 at s4 e4 e5 ⊢
    generalize (cs.set x (if b = 1 then o else 0)) = F0 at fi e4 e5
    clear e3 e2 s3 sL s2 gx
    -- the gates
    obtain ⟨lo, hlo⟩ : ∃ lo, lo = max n.base (x + 1) := ⟨_, rfl⟩
    obtain ⟨lz, hlz⟩ : ∃ lz : Int, lz = if ((x : Int) + 1) > (n.base : Int) then ((x : Int) + 1) else (n.base : Int) := ⟨_, rfl⟩
    have elo : lz = (lo : Int) := by
      rw [hlz, hlo]
      split
      · rw [Nat.max_eq_right (by omega)]
        rfl
      · rw [Nat.max_eq_left (by omega)]
    rw [← hlo] at fi
    have lob : n.base ≤ lo := by omega
    have lox : x < lo := by omega
    refine ⟨_, rfl, _, rfl, _, _, rfl, rfl, _, _, rfl, _, rfl, c, _, rfl, .inl (SqL.of (s4 _ _ hc)), lz, _, by rw [hlz], ⟨by omega, by omega, by rw [vn_len]; omega, by rw [vn_len]; omega⟩, for_range (lo := lz) (n := ((((vn cs).length : Nat) : Int) - lz).toNat) (fun i σ Hx => ∃ (y9 y10 y11 : Option V) (G : List Nat), σ = [some (.ref a), some (.ref c), some (.ref tf), some (.int (o : Nat)), some (.int (x : Nat)), some (.int (b : Nat)), some (.int (n.base : Nat)), some (.ref D), some (.ref B), y9, y10, y11] ∧ Same H Hx ∧ Hx D = some (.lst (vn G)) ∧ Hx B = some (.lst ((chg cs G).map V.bl)) ∧ FInv n o cs x b (lo + i) G) ?_ ?_ ?_⟩
    · exact ⟨none, none, none, F0, rfl, s4, e5, e4, fi⟩
    · rintro i σ Hx hi ⟨y9, y10, y11, G, rfl, sx, hD, hB, gi⟩
      rw [vn_len] at hi
      obtain ⟨k, hk⟩ : ∃ k, k = lo + i := ⟨_, rfl⟩
      rw [← hk] at gi
      rw [show lz + (i : Int) = (k : Int) by omega]
      have hkm : k < n.many := by omega
      have hj : k - n.base < n.gates.length := by unfold Net.many at hkm; omega
      have hg := List.getElem?_eq_getElem hj
      generalize n.gates[k - n.base] = g at hg
      have hb := hgb _ g hg
      obtain ⟨u, hu, du⟩ := hus.get hg
      obtain ⟨t, u1, u2, rfl, ht, hx1, hx2⟩ := du.pair_inv
      have hx1 := hx1.nat_inv
      have hx2 := hx2.nat_inv
      subst hx1 hx2
      have gl := gi.len
      have k1 : g.1 / 2 < cs.length := by omega
      have k2 : g.2 / 2 < cs.length := by omega
      refine ⟨_, rfl, a, _, 3, _, rfl, rfl, SqT.of (sx _ _ hA), atI_nat (j := 3) rfl, _, rfl, _, rfl, _, _, rfl, rfl, aG, _, _, _, rfl, rfl, SqL.of (sx _ _ hGl), (by rw [show (k : Int) - (n.base : Int) = ((k - n.base : Nat) : Int) by omega]; exact atI_nat hu), t, _, rfl, SqT.of (sx _ _ ht), rfl, _, _, rfl, _, _, rfl, rfl, ?_⟩
      have flag : ∀ l : Nat, l / 2 < cs.length → ((chg cs G).map V.bl)[l / 2]? = some (.bl (!decide (G[l / 2]? = cs[l / 2]?))) := fun l hl => bl_get (chg_get hl)
      refine ⟨_, rfl, _, rfl, _, _, rfl, rfl, (show (0 : Int) ≤ 1 by decide), B, _, _, _, rfl, rfl, SqL.of hB, (by rw [shr_one]; exact atI_nat (flag g.1 k1)), _, rfl, ?_⟩
      by_cases c1 : G[g.1 / 2]? = cs[g.1 / 2]?
      · rw [decide_eq_true c1]
        refine iteF ⟨_, rfl, _, rfl, _, _, rfl, rfl, (show (0 : Int) ≤ 1 by decide), B, _, _, _, rfl, rfl, SqL.of hB, (by rw [shr_one]; exact atI_nat (flag g.2 k2)), _, rfl, ?_⟩
        by_cases c2 : G[g.2 / 2]? = cs[g.2 / 2]?
        · rw [decide_eq_true c2]
          refine iteF ⟨_, _, _, G, rfl, sx, hD, hB, ?_⟩
          have := gi.keep (by omega) (by omega) hg hcs c1 c2
          rw [show lo + (i + 1) = k + 1 by omega]
          exact this
        · rw [decide_eq_false c2]
          refine iteT ⟨_, rfl, _, rfl, _, rfl, D, G, g.1, o, rfl, SqL.of hD, by omega, _, rfl, _, rfl, _, rfl, D, G, g.2, o, rfl, SqL.of hD, by omega, _, _, rfl, rfl, _, rfl, _, rfl, D, _, k, k, rfl, rfl, hD, ix_nat (by rw [vn_len]; omega), ?_⟩
          rw [show (upd Hx D (.lst ((vn G).set k (.int (Builtin.bitAnd ((colit o G g.1 : Nat) : Int) ((colit o G g.2 : Nat) : Int)))))) = upd Hx D (.lst (vn (G.set k (colit o G g.1 &&& colit o G g.2)))) by rw [band, set_vn]]
          have hDc : c ≠ D := fun e => by have := sx _ _ hc; rw [e, hD] at this; rw [e] at hc; rw [hc] at nD; cases nD
          have hDB : D ≠ B := nDB
          have gp := gi.put (g := g) (by omega) (by omega) hg (by omega) hgb
          generalize colit o G g.1 &&& colit o G g.2 = w at gp ⊢
          have sy : Same H (upd Hx D (.lst (vn (G.set k w)))) := same_mut sx nD
          have hB2 : (upd Hx D (.lst (vn (G.set k w)))) B = some (.lst ((chg cs G).map V.bl)) := by rw [upd_ne (Ne.symm hDB)]; exact hB
          have hD2 : (upd Hx D (.lst (vn (G.set k w)))) D = some (.lst (vn (G.set k w))) := upd_same
          generalize (upd Hx D (.lst (vn (G.set k w)))) = Hy at sy hB2 hD2 ⊢
          have hck := List.getElem?_eq_getElem (show k < cs.length by omega)
          have hgk : (G.set k w)[k]? = some w := List.getElem?_set_self (by omega)
          refine ⟨_, rfl, _, rfl, D, _, _, _, rfl, rfl, SqL.of hD2, atI_nat (vn_get hgk), _, rfl, _, rfl, c, _, _, _, rfl, rfl, SqL.of (sy _ _ hc), atI_nat (vn_get hck), rfl, _, rfl, _, rfl, B, _, k, k, rfl, rfl, hB2, ix_nat (by rw [List.length_map, chg_len]; omega), ?_⟩
          rw [show decide (V.int ((w : Nat) : Int) = V.int ((cs[k] : Nat) : Int)) = decide (w = cs[k]) from dec_nat _ _, set_bl, chg_set (F := G) (by omega) hck]
          refine ⟨_, _, _, G.set k w, rfl, same_mut sy nB0, ?_, upd_same, ?_⟩
          · rw [upd_ne hDB]
            exact hD2
          · rw [show lo + (i + 1) = k + 1 by omega]
            exact gp
      · rw [decide_eq_false c1]
        refine iteT ⟨_, rfl, _, rfl, _, rfl, D, G, g.1, o, rfl, SqL.of hD, by omega, _, rfl, _, rfl, _, rfl, D, G, g.2, o, rfl, SqL.of hD, by omega, _, _, rfl, rfl, _, rfl, _, rfl, D, _, k, k, rfl, rfl, hD, ix_nat (by rw [vn_len]; omega), ?_⟩
        rw [show (upd Hx D (.lst ((vn G).set k (.int (Builtin.bitAnd ((colit o G g.1 : Nat) : Int) ((colit o G g.2 : Nat) : Int)))))) = upd Hx D (.lst (vn (G.set k (colit o G g.1 &&& colit o G g.2)))) by rw [band, set_vn]]
        have hDc : c ≠ D := fun e => by have := sx _ _ hc; rw [e, hD] at this; rw [e] at hc; rw [hc] at nD; cases nD
        have hDB : D ≠ B := nDB
        have gp := gi.put (g := g) (by omega) (by omega) hg (by omega) hgb
        generalize colit o G g.1 &&& colit o G g.2 = w at gp ⊢
        have sy : Same H (upd Hx D (.lst (vn (G.set k w)))) := same_mut sx nD
        have hB2 : (upd Hx D (.lst (vn (G.set k w)))) B = some (.lst ((chg cs G).map V.bl)) := by rw [upd_ne (Ne.symm hDB)]; exact hB
        have hD2 : (upd Hx D (.lst (vn (G.set k w)))) D = some (.lst (vn (G.set k w))) := upd_same
        generalize (upd Hx D (.lst (vn (G.set k w)))) = Hy at sy hB2 hD2 ⊢
        have hck := List.getElem?_eq_getElem (show k < cs.length by omega)
        have hgk : (G.set k w)[k]? = some w := List.getElem?_set_self (by omega)
        refine ⟨_, rfl, _, rfl, D, _, _, _, rfl, rfl, SqL.of hD2, atI_nat (vn_get hgk), _, rfl, _, rfl, c, _, _, _, rfl, rfl, SqL.of (sy _ _ hc), atI_nat (vn_get hck), rfl, _, rfl, _, rfl, B, _, k, k, rfl, rfl, hB2, ix_nat (by rw [List.length_map, chg_len]; omega), ?_⟩
        rw [show decide (V.int ((w : Nat) : Int) = V.int ((cs[k] : Nat) : Int)) = decide (w = cs[k]) from dec_nat _ _, set_bl, chg_set (F := G) (by omega) hck]
        refine ⟨_, _, _, G.set k w, rfl, same_mut sy nB0, ?_, upd_same, ?_⟩
        · rw [upd_ne hDB]
          exact hD2
        · rw [show lo + (i + 1) = k + 1 by omega]
          exact gp
    · rintro σ Hx ⟨y9, y10, y11, G, rfl, sx, hD, hB, gi⟩
      exact ⟨_, rfl, q _ D G sx nD hD (gi.done hl (by rw [vn_len]; omega))⟩

end K69
namespace K69
open PySem PySem.Spec PyProof.Rows L2 V0
/-! ### columns of what was seen -/
abbrev Test := List Nat × List Nat
abbrev Sight := Test × Test
/-- the bits that a sight tells, outs and then nexts -/
def told (s : Sight) : List Nat := s.2.1 ++ s.2.2
def seen (ss : List Sight) (m i : Nat) : Nat := colN m fun k => ((ss[k]?.map told).getD [])[i]?.getD 0
structure SightOk (n : Net) (s : Sight) : Prop where
  t : TestOk n s.1
  ol : s.2.1.length = n.outs.length
  nl : s.2.2.length = n.nexts.length
  ob : ∀ b ∈ s.2.1, b < 2
  nb : ∀ b ∈ s.2.2, b < 2
theorem bor (a b : Nat) : Builtin.bitOr (a : Int) (b : Int) = ((a ||| b : Nat) : Int) := by
  rw [Bits.bitOr_pp (Int.natCast_nonneg _) (Int.natCast_nonneg _), Int.toNat_natCast, Int.toNat_natCast]
theorem col_or {m : Nat} {f : Nat → Nat} (h : ∀ i, i < m → f i < 2) : colN m f ||| f m * 2 ^ m = colN (m + 1) f := by
  rw [col_succ, Nat.or_comm, Nat.mul_comm, ← Nat.two_pow_add_eq_or_of_lt (col_lt m f h), Nat.add_comm]
theorem map_set_range {f g : Nat → Nat} {w k : Nat} (hk : k < w) (h : ∀ i, i ≠ k → f i = g i) : ((List.range w).map f).set k (g k) = (List.range w).map g := by
  apply List.ext_getElem?
  intro j
  by_cases e : j = k
  · subst e
    rw [List.getElem?_set_self (by rw [List.length_map, List.length_range]; exact hk), List.getElem?_map, List.getElem?_range hk]
    rfl
  · rw [List.getElem?_set_ne (Ne.symm e), List.getElem?_map, List.getElem?_map]
    by_cases hj : j < w
    · rw [List.getElem?_range hj]
      show some (f j) = some (g j)
      rw [h j e]
    · rw [List.getElem?_eq_none (by rw [List.length_range]; omega)]
      rfl
theorem told_get {n : Net} {s : Sight} (h : SightOk n s) {i : Nat} (hi : i < n.outs.length + n.nexts.length) : ∃ b, (told s)[i]? = some b ∧ b < 2 := by
  have hl : i < (told s).length := by
    unfold told
    rw [List.length_append, h.ol, h.nl]
    exact hi
  refine ⟨_, List.getElem?_eq_getElem hl, ?_⟩
  have hm := List.getElem_mem hl
  rcases List.mem_append.mp hm with hm | hm
  · exact h.ob _ hm
  · exact h.nb _ hm
def sp__columns_seen (K : PySem.W.Frag) : Sp := fun vs H Q _ => ∃ (v u : V) (n : Net) (ss : List Sight), vs = [v, u] ∧ Dv H v n ∧ Dv H u ss ∧ ss.length ≤ 1000 ∧ n.outs.length + n.nexts.length ≤ 1000 ∧ (∀ s ∈ ss, SightOk n s) ∧
  ∀ H' r, Same H H' → H r = none → H' r = some (.lst (vn ((List.range (n.outs.length + n.nexts.length)).map (seen ss ss.length)))) → Q (.ref r) H'
theorem ok__columns_seen {P : Program} {w : World} {K : PySem.W.Frag} {mg : Str → Option Value} {base : Heap} {f  : Addr} {fd  : FuncData} (F : Fun K "_columns_seen" "_columns_seen" s__columns_seen f fd) (T : Txt K mg) :
    FnOk P w K mg base CX0 1 f fd ["net", "sights"] (sp__columns_seen K) := by
  refine F.ok sc_columns_seen (fun vs H Q E h => ?_) (fun cdv A outer s H vs Q E hr h => ?_)
  · obtain ⟨v, u, n, ss, rfl, _⟩ := h
    rfl
  · obtain ⟨v, u, n, ss, rfl, hn, hss, hl, hw, hok, q⟩ := h
    obtain ⟨a, aS, aG, aN, aO, rfl, hA, hS, hG, hN, hO⟩ := hn.net_inv
    obtain ⟨_, e, hN⟩ := hN.natl_inv
    cases e
    obtain ⟨_, e, hO⟩ := hO.natl_inv
    cases e
    obtain ⟨c, us, rfl, hc, hus⟩ := hss.list_inv
    obtain ⟨W, hW⟩ : ∃ W, W = n.outs.length + n.nexts.length := ⟨_, rfl⟩
    refine ⟨_, (pss_cons (ps_set (i := 2) sc_columns_seen.nd rfl (.inl rfl) (pe_op op_rep (pe_lst (pa_cons pe_int pa_nil)) (pe_op op_add (pe_callB call_len_seq (by rfl) T.m_len (by decide +kernel) (pa_cons (pe_ix (r := rIxT K) ix_tup (pv 0) pe_int (fun _ _ => rfl)) pa_nil)) (pe_callB call_len_seq (by rfl) T.m_len (by decide +kernel) (pa_cons (pe_ix (r := rIxT K) ix_tup (pv 0) pe_int (fun _ _ => rfl)) pa_nil)))))
      (pss_cons (ps_for PassesOwn.never rfl (pi_enum (by rfl) T.m_enumerate (pa_cons (pv 1) pa_nil)) (pg_tup (by rfl) (pgs_cons (pg_name (i := 3) sc_columns_seen.nd rfl (Or.inl rfl)) (pgs_cons (pg_tup (by rfl) (pgs_cons (pg_name (i := 4) sc_columns_seen.nd rfl (Or.inl rfl)) (pgs_cons (pg_tup (by rfl) (pgs_cons (pg_name (i := 5) sc_columns_seen.nd rfl (Or.inl rfl)) (pgs_cons (pg_name (i := 6) sc_columns_seen.nd rfl (Or.inl rfl)) pgs_nil))) pgs_nil))) pgs_nil))) (pss_cons (ps_if (PW.pt (pw_or (pt_cmpR op_ne (pe_callB call_len_seq (by rfl) T.m_len (by decide +kernel) (pa_cons (pv 5) pa_nil)) (pe_callB call_len_seq (by rfl) T.m_len (by decide +kernel) (pa_cons (pe_ix (r := rIxT K) ix_tup (pv 0) pe_int (fun _ _ => rfl)) pa_nil)) (nomark _)) (pw_or1 (pt_cmpR op_ne (pe_callB call_len_seq (by rfl) T.m_len (by decide +kernel) (pa_cons (pv 6) pa_nil)) (pe_callB call_len_seq (by rfl) T.m_len (by decide +kernel) (pa_cons (pe_ix (r := rIxT K) ix_tup (pv 0) pe_int (fun _ _ => rfl)) pa_nil)) (nomark _))))) (pss_one V0.ps_never) pss_nil)
      (pss_one (ps_for PassesOwn.never rfl (pi_enum (by rfl) T.m_enumerate (pa_cons (pe_lst (V0.pa_starK (K := K) rfl (pv 5) (V0.pa_starK (K := K) rfl (pv 6) pa_nil))) pa_nil)) (pg_tup (by rfl) (pgs_cons (pg_name (i := 7) sc_columns_seen.nd rfl (Or.inl rfl)) (pgs_cons (pg_name (i := 8) sc_columns_seen.nd rfl (Or.inl rfl)) pgs_nil))) (pss_one (ps_augS (pv 2) (pv 7) pg_ixL (pe_op op_shl (pv 8) (pv 3)) ip_or set_list))))))
      (pss_one (ps_ret (pv 2))))), ?_⟩
    refine ⟨by show 1 ≤ sizeLine; decide, fun L nL => ?_⟩
    have s1 := same_new (o := .lst [.int 0]) nL
    have eW : V.int ((((vn n.outs).length : Nat) : Int) + (((vn n.nexts).length : Nat) : Int)) = V.int ((W : Nat) : Int) := by
      rw [vn_len, vn_len, hW]
      rfl
    refine ⟨_, rfl, a, _, 5, _, rfl, rfl, SqT.of (s1 _ _ hA), atI_nat (j := 5) rfl, aO, _, rfl, .inl (SqL.of (s1 _ _ hO)), _, rfl, a, _, 4, _, rfl, rfl, SqT.of (s1 _ _ hA), atI_nat (j := 4) rfl, aN, _, rfl, .inl (SqL.of (s1 _ _ hN)), _, _, rfl, rfl, ?_⟩
    simp only [eW]
    refine ⟨L, _, _, rfl, rfl, upd_same, by omega, by omega, by rw [Int.toNat_natCast]; exact Nat.le_of_lt (small64k (by show 1 * W ≤ _; omega)), fun D nD => ?_⟩
    have s2 := s1.trans (same_new (o := .lst (List.replicate ((W : Nat) : Int).toNat [V.int 0]).flatten) nD)
    have e2 : (upd (upd H L (.lst [.int 0])) D (.lst (List.replicate ((W : Nat) : Int).toNat [V.int 0]).flatten)) D = some (.lst (vn ((List.range W).map (seen ss 0)))) := by
      rw [upd_same, rep_fl, Int.toNat_natCast]
      congr 2
      apply List.ext_getElem?
      intro j
      unfold vn
      rw [List.getElem?_map, List.getElem?_map, List.getElem?_replicate]
      by_cases hj : j < W
      · rw [if_pos hj, List.getElem?_range hj]
        rfl
      · rw [if_neg hj, List.getElem?_eq_none (by rw [List.length_range]; omega)]
        rfl
    have nD0 : H D = none := none_of s1 nD
    generalize (upd (upd H L (.lst [.int 0])) D (.lst (List.replicate ((W : Nat) : Int).toNat [V.int 0]).flatten)) = H2 at s2 e2 ⊢
    refine ⟨_, rfl, c, _, rfl, SqL.of (s2 _ _ hc), for_it walk_enum (fun m σ Hx => ∃ y3 y4 y5 y6 y7 y8 : Option V, σ = [some (.ref a), some (.ref c), some (.ref D), y3, y4, y5, y6, y7, y8] ∧ Same H Hx ∧ Hx D = some (.lst (vn ((List.range W).map (seen ss m))))) ⟨none, none, none, none, none, none, rfl, s2, e2⟩ (fun i σ Hx _ ⟨_, _, _, _, _, _, _, s', _⟩ => SqL.of (s' _ _ hc)) ?_ ?_⟩
    · rintro m v σ Hx Hx' hm ⟨y3, y4, y5, y6, y7, y8, rfl, sx, hD⟩ ⟨T1, x, y, rfl, nT, rfl, ex, ey⟩
      cases ex
      have ey : us[m]? = some y := ey
      obtain ⟨sg, hsg, hd⟩ := hus.at ey
      have sok := hok sg (List.mem_of_getElem? hsg)
      obtain ⟨t, u1, u2, rfl, ht, hd1, hd2⟩ := hd.pair_inv
      obtain ⟨t2, w1, w2, rfl, ht2, hd3, hd4⟩ := hd2.pair_inv
      obtain ⟨ao, rfl, hao⟩ := hd3.natl_inv
      obtain ⟨an, rfl, han⟩ := hd4.natl_inv
      have sT := same_new (o := .tup [.int (m : Nat), .ref t]) nT
      have sy := sx.trans sT
      have hDT := sT _ _ hD
      refine ⟨T1, _, rfl, SqT.of upd_same, rfl, _, _, rfl, _, _, rfl, ⟨t, _, rfl, SqT.of (sy _ _ ht), rfl, _, _, rfl, _, _, rfl, ⟨t2, _, rfl, SqT.of (sy _ _ ht2), rfl, _, _, rfl, _, _, rfl, rfl, rfl, rfl, ?_⟩⟩⟩
      have elo : (!decide (V.int (((vn sg.2.1).length : Nat) : Int) = V.int (((vn n.outs).length : Nat) : Int))) = false := by rw [vn_len, vn_len, sok.ol, decide_eq_true rfl]; rfl
      have eln : (!decide (V.int (((vn sg.2.2).length : Nat) : Int) = V.int (((vn n.nexts).length : Nat) : Int))) = false := by rw [vn_len, vn_len, sok.nl, decide_eq_true rfl]; rfl
      refine ⟨_, rfl, ao, _, rfl, .inl (SqL.of (sy _ _ hao)), _, rfl, a, _, 5, _, rfl, rfl, SqT.of (sy _ _ hA), atI_nat (j := 5) rfl, aO, _, rfl, .inl (SqL.of (sy _ _ hO)), rfl, _, rfl, ?_⟩
      rw [elo]
      refine iteF ⟨_, rfl, an, _, rfl, .inl (SqL.of (sy _ _ han)), _, rfl, a, _, 4, _, rfl, rfl, SqT.of (sy _ _ hA), atI_nat (j := 4) rfl, aN, _, rfl, .inl (SqL.of (sy _ _ hN)), rfl, _, rfl, ?_⟩
      rw [eln]
      refine iteF ?_
      have ltold : (told sg).length = W := by
        unfold told
        rw [List.length_append, sok.ol, sok.nl, hW]
      have etold : vn sg.2.1 ++ (vn sg.2.2 ++ []) = vn (told sg) := by
        unfold told vn
        rw [List.append_nil, List.map_append]
      refine ⟨_, rfl, ao, _, rfl, .inr (SqL.of (sy _ _ hao)), _, rfl, an, _, rfl, .inr (SqL.of (sy _ _ han)), ?_, fun L2 nL2 => ?_⟩
      · show ((vn sg.2.1 ++ (vn sg.2.2 ++ [])).length) ≤ sizeLine
        rw [etold, vn_len, ltold]
        exact Nat.le_of_lt (small64k (by omega))
      have sL := same_new (o := .lst (vn sg.2.1 ++ (vn sg.2.2 ++ []))) nL2
      have eL : (upd (upd Hx T1 (.tup [.int (m : Nat), .ref t])) L2 (.lst (vn sg.2.1 ++ (vn sg.2.2 ++ [])))) L2 = some (.lst (vn (told sg))) := by
        rw [upd_same, etold]
      have hDL := sL _ _ hDT
      have nDL : L2 ≠ D := fun e => by rw [e, hDT] at nL2; cases nL2
      have sz := sy.trans sL
      have hml : m < ss.length := by rw [← hus.len]; exact hm
      refine ⟨L2, _, rfl, SqL.of eL, for_it walk_enum (fun k σ Hy => ∃ y7 y8 : Option V, σ = [some (.ref a), some (.ref c), some (.ref D), some (.int (m : Nat)), some u1, some (.ref ao), some (.ref an), y7, y8] ∧ Same H Hy ∧ Hy L2 = some (.lst (vn (told sg))) ∧ Hy D = some (.lst (vn ((List.range W).map fun i => seen ss (if i < k then m + 1 else m) i)))) ⟨_, _, rfl, sz, eL, ?_⟩ (fun i σ Hy _ ⟨_, _, _, _, h, _⟩ => SqL.of h) ?_ ?_⟩
      · rw [hDL]
        rfl
      · rintro k v σ Hy Hy' hk ⟨y7, y8, rfl, sk, hLk, hDk⟩ ⟨T2, x, y, rfl, nT2, rfl, ex, ey⟩
        cases ex
        rw [vn_len, ltold] at hk
        obtain ⟨b, hb, hb2⟩ := told_get sok (i := k) (by omega)
        have ey : (vn (told sg))[k]? = some y := ey
        rw [vn_get hb] at ey
        cases ey
        have sT2 := same_new (o := .tup [.int (k : Nat), .int (b : Nat)]) nT2
        have hDT2 := sT2 _ _ hDk
        have hcur : ((List.range W).map fun i => seen ss (if i < k then m + 1 else m) i)[k]? = some (seen ss m k) := by
          rw [List.getElem?_map, List.getElem?_range hk]
          show some (seen ss (if k < k then m + 1 else m) k) = _
          rw [if_neg (Nat.lt_irrefl k)]
        refine ⟨T2, _, rfl, SqT.of upd_same, rfl, _, _, rfl, _, _, rfl, rfl, ?_⟩
        refine ⟨_, rfl, _, rfl, D, _, _, _, rfl, rfl, SqL.of hDT2, atI_nat (vn_get hcur), _, rfl, _, rfl, _, _, rfl, rfl, cpow2 (by omega) (by omega), _, _, rfl, rfl, D, _, k, k, rfl, rfl, hDT2, ix_nat (by rw [vn_len, List.length_map, List.length_range]; exact hk), ?_⟩
        refine ⟨_, _, rfl, same_mut (sk.trans sT2) nD0, by rw [upd_ne (fun e => nDL (by rw [← e]))]; exact sT2 _ _ hLk, ?_⟩
        rw [upd_same]
        have ev : Builtin.bitOr ((seen ss m k : Nat) : Int) ((b : Int) * 2 ^ ((m : Nat) : Int).toNat) = ((seen ss (m + 1) k : Nat) : Int) := by
          rw [shl_nat, bor]
          congr 1
          unfold seen
          rw [← col_or]
          · show _ = _ ||| (((ss[m]?.map told).getD [])[k]?.getD 0) * 2 ^ m
            rw [hsg]
            show _ = _ ||| (((told sg))[k]?.getD 0) * 2 ^ m
            rw [hb]
            rfl
          · intro i hi
            have hil : i < ss.length := by omega
            rw [List.getElem?_eq_getElem hil]
            obtain ⟨b', hb', hb2'⟩ := told_get (hok _ (List.getElem_mem hil)) (i := k) (by omega)
            show ((told ss[i])[k]?.getD 0) < 2
            rw [hb']
            exact hb2'
        rw [show (V.int (Builtin.bitOr ((seen ss m k : Nat) : Int) ((b : Int) * 2 ^ ((m : Nat) : Int).toNat))) = V.int ((seen ss (m + 1) k : Nat) : Int) by rw [ev], set_vn]
        congr 2
        have h := map_set_range (f := fun i => seen ss (if i < k then m + 1 else m) i) (g := fun i => seen ss (if i < k + 1 then m + 1 else m) i) hk (fun i hi => by
          show seen ss (if i < k then m + 1 else m) i = seen ss (if i < k + 1 then m + 1 else m) i
          by_cases h : i < k
          · rw [if_pos h, if_pos (by omega)]
          · rw [if_neg h, if_neg (by omega)])
        rw [show seen ss (if k < k + 1 then m + 1 else m) k = seen ss (m + 1) k by rw [if_pos (by omega)]] at h
        rw [h]
      · rintro σ Hy ⟨y7, y8, rfl, sk, hLk, hDk⟩
        rw [vn_len, ltold] at hDk
        refine ⟨_, _, _, _, _, _, rfl, sk, ?_⟩
        rw [hDk]
        congr 3
        apply List.map_congr_left
        intro i hi
        show seen ss (if i < W then m + 1 else m) i = _
        rw [if_pos (List.mem_range.mp hi)]
    · rintro σ Hx ⟨y3, y4, y5, y6, y7, y8, rfl, sx, hD⟩
      rw [hus.len] at hD
      exact ⟨_, rfl, q _ D sx nD0 (by rw [← hW]; exact hD)⟩

end K69
namespace K69
open PySem PySem.Spec PyProof.Rows L2 V0
/-! ### what a net with a fault tells -/
def gv (fo : Option (Nat × Nat)) (i v : Nat) : Nat := match fo with
  | none => v
  | some p => if p.1 = i then p.2 else v
def overTo (fo : Option (Nat × Nat)) (k : Nat) (r : List Nat) : List Nat := match fo with
  | none => r
  | some p => if p.1 < k then r.set p.1 p.2 else r
def srow (fo : Option (Nat × Nat)) (gs : List (Nat × Nat)) (r : List Nat) : List Nat := gs.foldl (fun r g => r ++ [gv fo r.length (bitv r g.1 * bitv r g.2)]) r
theorem srow_snoc (fo : Option (Nat × Nat)) (gs : List (Nat × Nat)) (g : Nat × Nat) (r : List Nat) : srow fo (gs ++ [g]) r = srow fo gs r ++ [gv fo (srow fo gs r).length (bitv (srow fo gs r) g.1 * bitv (srow fo gs r) g.2)] := by
  unfold srow
  rw [List.foldl_append]
  rfl
theorem srow_len (fo : Option (Nat × Nat)) (gs : List (Nat × Nat)) (r : List Nat) : (srow fo gs r).length = r.length + gs.length := by
  induction gs generalizing r with
  | nil => rfl
  | cons g gs ih =>
    show (srow fo gs _).length = _
    rw [ih, List.length_append, List.length_cons, List.length_cons, List.length_nil]
    omega
theorem over_len (fo : Option (Nat × Nat)) (k : Nat) (r : List Nat) : (overTo fo k r).length = r.length := by
  unfold overTo
  split
  · rfl
  · split
    · rw [List.length_set]
    · rfl
def FBit (fo : Option (Nat × Nat)) : Prop := ∀ p, fo = some p → p.2 < 2
theorem gv_lt {fo : Option (Nat × Nat)} (hf : FBit fo) {i v : Nat} (h : v < 2) : gv fo i v < 2 := by
  unfold gv
  split
  · exact h
  · split
    · exact hf _ rfl
    · exact h
theorem over_lt {fo : Option (Nat × Nat)} (hf : FBit fo) {k : Nat} {r : List Nat} (h : ∀ b ∈ r, b < 2) : ∀ b ∈ overTo fo k r, b < 2 := by
  unfold overTo
  split
  · exact h
  · split
    · exact mem_set h (hf _ rfl)
    · exact h
theorem srow_lt {fo : Option (Nat × Nat)} (hf : FBit fo) {gs : List (Nat × Nat)} {r : List Nat} (h : ∀ b ∈ r, b < 2) : ∀ b ∈ srow fo gs r, b < 2 := by
  induction gs generalizing r with
  | nil => exact h
  | cons g gs ih =>
    refine ih (r := r ++ [_]) (mem_snoc h (gv_lt hf (mul_lt2 (bitv_lt h _) (bitv_lt h _))))
def row0 (t : Test) : List Nat := 0 :: t.2 ++ t.1
/-- the values of all nodes -/
def stuck (n : Net) (fo : Option (Nat × Nat)) (t : Test) : List Nat := srow fo n.gates (overTo fo (row0 t).length (row0 t))
def ansOf (n : Net) (fo : Option (Nat × Nat)) (t : Test) : Test := (n.outs.map (bitv (stuck n fo t)), n.nexts.map (bitv (stuck n fo t)))
theorem row0_len {n : Net} {t : Test} (h : TestOk n t) : (row0 t).length = n.base := by
  unfold row0 Net.base
  rw [List.length_append, List.length_cons, h.il, h.sl]
  omega
theorem row0_lt {n : Net} {t : Test} (h : TestOk n t) : ∀ b ∈ row0 t, b < 2 := by
  intro b hb
  unfold row0 at hb
  rcases List.mem_append.mp hb with hb | hb
  · rcases List.mem_cons.mp hb with rfl | hb
    · decide
    · exact h.ib b hb
  · exact h.sb b hb
theorem stuck_len {n : Net} {fo : Option (Nat × Nat)} {t : Test} (h : TestOk n t) : (stuck n fo t).length = n.many := by
  unfold stuck Net.many
  rw [srow_len, over_len, row0_len h]
theorem stuck_lt {n : Net} {fo : Option (Nat × Nat)} {t : Test} (hf : FBit fo) (h : TestOk n t) : ∀ b ∈ stuck n fo t, b < 2 := srow_lt hf (over_lt hf (row0_lt h))
theorem bitv_odd {row : List Nat} {l r : Nat} (h : row[l / 2]? = some r) (hr : r < 2) : (l % 2 = 0 → bitv row l = r) ∧ (l % 2 = 1 → ((1 : Int) - (r : Int)) = ((bitv row l : Nat) : Int)) := by
  unfold bitv
  rw [h]
  refine ⟨fun e => by rw [e, Option.getD_some, Nat.xor_zero], fun e => ?_⟩
  rw [e, Option.getD_some]
  have : r = 0 ∨ r = 1 := by omega
  rcases this with rfl | rfl <;> rfl
def sp__law_stuck (K : PySem.W.Frag) : Sp := fun vs H Q _ => ∃ (v fv : V) (n : Net) (fo : Option (Nat × Nat)) (st bt : Addr) (t : Test), vs = [v, fv, .ref st, .ref bt] ∧ Dv H v n ∧ Dv H fv fo ∧ FBit fo ∧ H st = some (.lst (vn t.1)) ∧ H bt = some (.lst (vn t.2)) ∧ TestOk n t ∧ n.many ≤ 1000 ∧ n.outs.length ≤ 1000 ∧ n.nexts.length ≤ 1000 ∧
  (∀ j g, n.gates[j]? = some g → g.1 < 2 * (n.base + j) ∧ g.2 < 2 * (n.base + j)) ∧ (∀ x ∈ n.nexts, x < 2 * n.many) ∧ (∀ x ∈ n.outs, x < 2 * n.many) ∧
  ∀ H' r, Same H H' → H r = none → Dv (fresh H H') (.ref r) (ansOf n fo t) → Q (.ref r) H'
theorem ok__law_stuck {P : Program} {w : World} {K : PySem.W.Frag} {mg : Str → Option Value} {base : Heap} {f  : Addr} {fd  : FuncData} (F : Fun K "_law_stuck" "_law_stuck" s__law_stuck f fd) (T : Txt K mg) :
    FnOk P w K mg base CX0 1 f fd ["net", "fault", "state", "bits"] (sp__law_stuck K) := by
  refine F.ok sc_law_stuck (fun vs H Q E h => ?_) (fun cdv A outer s H vs Q E hr h => ?_)
  · obtain ⟨v, fv, n, fo, st, bt, t, rfl, _⟩ := h
    rfl
  · obtain ⟨v, fv, n, fo, st, bt, t, rfl, hn, hfv, hf, hst, hbt, tok, hm, hol, hnl, hgb, hnx, hox, q⟩ := h
    obtain ⟨a, aS, aG, aN, aO, rfl, hA, hS, hG, hN, hO⟩ := hn.net_inv
    obtain ⟨_, us, e, hGl, hus⟩ := hG.list_inv
    cases e
    obtain ⟨_, e, hN⟩ := hN.natl_inv
    cases e
    obtain ⟨_, e, hO⟩ := hO.natl_inv
    cases e
    have lr0 := row0_len tok
    have hmb : n.base ≤ n.many := by unfold Net.many; omega
    refine ⟨_, (pss_cons (ps_set (i := 4) sc_law_stuck.nd rfl (.inr rfl) (pe_op op_cat (pe_op op_cat (pe_lst (pa_cons pe_int pa_nil)) (pv 3)) (pv 2)))
      (pss_cons (ps_for PassesOwn.never rfl (pi_range1 rfl T.m_range (pa_cons (pe_callB call_len_seq (by rfl) T.m_len (by decide +kernel) (pa_cons (pv 4) pa_nil)) pa_nil)) (pg_name (i := 5) sc_law_stuck.nd rfl (Or.inl rfl)) (pss_one (ps_if (PW.pt (pw_and (pt_cmpR op_notN (pv 1) pe_non (nomark _)) (pw_and1 (pt_cmpR op_eq (pe_ix (r := rIxT K) ix_tup (pv 1) pe_int (fun _ _ => rfl)) (pv 5) (nomark _))))) (pss_one (ps_asg (pe_ix (r := rIxT K) ix_tup (pv 1) pe_int (fun _ _ => rfl)) (pg_sub (pv 4) (pv 5) set_list))) pss_nil)))
      (pss_cons (ps_for PassesOwn.never rfl (pi_list (pe_ix (r := rIxT K) ix_tup (pv 0) pe_int (fun _ _ => rfl))) (pg_tup (by rfl) (pgs_cons (pg_name (i := 6) sc_law_stuck.nd rfl (Or.inl rfl)) (pgs_cons (pg_name (i := 7) sc_law_stuck.nd rfl (Or.inl rfl)) pgs_nil))) (pss_cons (ps_set (i := 8) sc_law_stuck.nd rfl (.inl rfl) (pe_ifExp (pt_cmpR op_eq (pe_op op_modN (pv 6) pe_int) pe_int (nomark _)) (pe_ix (r := rIxL K) ix_list (pv 4) (pe_op op_fdivN (pv 6) pe_int) (fun _ _ => rfl)) (pe_op op_sub pe_int (pe_ix (r := rIxL K) ix_list (pv 4) (pe_op op_fdivN (pv 6) pe_int) (fun _ _ => rfl)))))
      (pss_cons (ps_set (i := 9) sc_law_stuck.nd rfl (.inl rfl) (pe_ifExp (pt_cmpR op_eq (pe_op op_modN (pv 7) pe_int) pe_int (nomark _)) (pe_ix (r := rIxL K) ix_list (pv 4) (pe_op op_fdivN (pv 7) pe_int) (fun _ _ => rfl)) (pe_op op_sub pe_int (pe_ix (r := rIxL K) ix_list (pv 4) (pe_op op_fdivN (pv 7) pe_int) (fun _ _ => rfl)))))
      (pss_one (ps_expr (pe_bm PySem.F.plainAttrs_list PySem.F.slot_list_append PySem.F.type_list_append mt_append (pv 4) (pa_cons (pe_ifExp (PW.pt (pw_and (pt_cmpR op_notN (pv 1) pe_non (nomark _)) (pw_and1 (pt_cmpR op_eq (pe_ix (r := rIxT K) ix_tup (pv 1) pe_int (fun _ _ => rfl)) (pe_callB call_len_seq (by rfl) T.m_len (by decide +kernel) (pa_cons (pv 4) pa_nil)) (nomark _))))) (pe_ix (r := rIxT K) ix_tup (pv 1) pe_int (fun _ _ => rfl)) (pe_op op_mul (pv 8) (pv 9))) pa_nil)))))))
      (pss_cons (ps_setLc (i := 10) (own := [("v", 11)]) (g := gName 11) (tt := tYes) rfl sc_law_stuck.nd rfl rfl (sw_true rfl rfl rfl (by decide +kernel)) (pi_list (pe_ix (r := rIxT K) ix_tup (pv 0) pe_int (fun _ _ => rfl))) (blkOk_by (N := N__law_stuck) (sc := defScope s__law_stuck) (by decide +kernel)) (fun _ _ _ _ _ => (pg_name (i := 11) sc_law_stuck.nd rfl (Or.inl rfl))) (fun _ _ _ _ _ => pts_nil) (fun _ _ _ _ _ => (pe_ifExp (pt_cmpR op_eq (pe_op op_modN (pv 11) pe_int) pe_int (nomark _)) (pe_ix (r := rIxL K) ix_list (pv 4) (pe_op op_fdivN (pv 11) pe_int) (fun _ _ => rfl)) (pe_op op_sub pe_int (pe_ix (r := rIxL K) ix_list (pv 4) (pe_op op_fdivN (pv 11) pe_int) (fun _ _ => rfl))))))
      (pss_one (ps_ret (pe_tup (pa_cons (pv 10) (pa_cons (pe_lc (own := [("v", 11)]) (g := gName 11) (tt := tYes) rfl sc_law_stuck.nd (pi_list (pe_ix (r := rIxT K) ix_tup (pv 0) pe_int (fun _ _ => rfl))) (blkOk_by (N := N__law_stuck) (sc := defScope s__law_stuck) (by decide +kernel)) (fun _ _ _ _ _ => (pg_name (i := 11) sc_law_stuck.nd rfl (Or.inl rfl))) (fun _ _ _ _ _ => pts_nil) (fun _ _ _ _ _ => (pe_ifExp (pt_cmpR op_eq (pe_op op_modN (pv 11) pe_int) pe_int (nomark _)) (pe_ix (r := rIxL K) ix_list (pv 4) (pe_op op_fdivN (pv 11) pe_int) (fun _ _ => rfl)) (pe_op op_sub pe_int (pe_ix (r := rIxL K) ix_list (pv 4) (pe_op op_fdivN (pv 11) pe_int) (fun _ _ => rfl)))))) pa_nil))))))))), ?_⟩
    -- row = [0] + bits + state
    refine ⟨by show 1 ≤ sizeLine; decide, fun L1 nL1 => ?_⟩
    have s1 := same_new (o := .lst [.int 0]) nL1
    have e1 : (upd H L1 (.lst [.int 0])) L1 = some (.lst [.int 0]) := upd_same
    generalize (upd H L1 (.lst [.int 0])) = H1 at s1 e1 ⊢
    have lt1 := tok.il
    have lt2 := tok.sl
    have hbe : n.base = 1 + n.ins + n.starts.length := rfl
    refine ⟨_, rfl, L1, bt, _, _, rfl, rfl, e1, s1 _ _ hbt, ?_, fun L2 nL2 => ?_⟩
    · rw [vn_len]
      exact Nat.le_of_lt (small64k (by show 1 + t.2.length ≤ _; omega))
    have s2 := s1.trans (same_new (o := .lst ([V.int 0] ++ vn t.2)) nL2)
    have e2 : (upd H1 L2 (.lst ([V.int 0] ++ vn t.2))) L2 = some (.lst ([V.int 0] ++ vn t.2)) := upd_same
    generalize (upd H1 L2 (.lst ([V.int 0] ++ vn t.2))) = H2 at s2 e2 ⊢
    refine ⟨_, rfl, L2, st, _, _, rfl, rfl, e2, s2 _ _ hst, ?_, fun D nD => ?_⟩
    · rw [List.length_append, vn_len, vn_len]
      exact Nat.le_of_lt (small64k (by show 1 + t.2.length + t.1.length ≤ _; omega))
    have s3 := s2.trans (same_new (o := .lst ([V.int 0] ++ vn t.2 ++ vn t.1)) nD)
    have e3 : (upd H2 D (.lst ([V.int 0] ++ vn t.2 ++ vn t.1))) D = some (.lst (vn (overTo fo 0 (row0 t)))) := by
      have e0 : overTo fo 0 (row0 t) = row0 t := by
        unfold overTo
        split
        · rfl
        · rw [if_neg (by omega)]
      rw [upd_same, e0]
      unfold row0 vn
      rw [List.map_append]
      rfl
    have nD0 : H D = none := none_of s2 nD
    generalize (upd H2 D (.lst ([V.int 0] ++ vn t.2 ++ vn t.1))) = H3 at s3 e3 ⊢
    have lr3 : (vn (overTo fo 0 (row0 t))).length = n.base := by rw [vn_len, over_len, lr0]
    -- the fault among inputs and flops
    refine ⟨_, rfl, D, _, rfl, .inl (SqL.of e3), _, rfl, by omega, by omega, for_range (n := (vn (overTo fo 0 (row0 t))).length) (fun k σ Hx => ∃ y5 : Option V, σ = [some (.ref a), some fv, some (.ref st), some (.ref bt), some (.ref D), y5, none, none, none, none, none, none] ∧ Same H Hx ∧ Hx D = some (.lst (vn (overTo fo k (row0 t))))) ⟨none, rfl, s3, e3⟩ ?_ ?_⟩
    · rintro k σ Hx hk ⟨y5, rfl, sx, hD⟩
      rw [lr3] at hk
      rw [show (0 : Int) + (k : Int) = (k : Int) by omega]
      have hfx := hfv.same sx
      rcases fo with _ | ⟨x, b⟩
      · obtain rfl := hfx.none_inv
        exact ⟨_, rfl, rfl, _, rfl, iteF ⟨_, rfl, sx, hD⟩⟩
      · obtain ⟨tf, u1, u2, rfl, hT, h1, h2⟩ := hfx.some_inv.pair_inv
        have h1 := h1.nat_inv
        have h2 := h2.nat_inv
        subst h1 h2
        refine ⟨_, rfl, rfl, _, rfl, ?_⟩
        rw [decide_eq_false (by intro z; cases z)]
        refine iteT ⟨_, rfl, tf, _, 0, _, rfl, rfl, SqT.of hT, atI_nat (j := 0) rfl, _, rfl, rfl, _, rfl, ?_⟩
        rw [show decide (V.int ((x : Nat) : Int) = V.int ((k : Nat) : Int)) = decide (x = k) from dec_nat _ _]
        by_cases e : x = k
        · subst e
          rw [decide_eq_true rfl]
          refine iteT ⟨_, rfl, tf, _, 1, _, rfl, rfl, SqT.of hT, atI_nat (j := 1) rfl, _, rfl, _, rfl, D, _, x, x, rfl, rfl, hD, ix_nat (by rw [vn_len, over_len, lr0]; exact hk), ?_⟩
          refine ⟨_, rfl, same_mut sx nD0, ?_⟩
          rw [upd_same]
          show some (HO.lst ((vn (overTo (some (x, b)) x (row0 t))).set x (.int (b : Nat)))) = _
          rw [set_vn]
          unfold overTo
          simp only
          rw [if_neg (by omega), if_pos (by omega)]
        · rw [decide_eq_false e]
          refine iteF ⟨_, rfl, sx, ?_⟩
          rw [hD]
          unfold overTo
          simp only
          by_cases h : x < k
          · rw [if_pos h, if_pos (by omega)]
          · rw [if_neg h, if_neg (by omega)]
    rintro σ Hx ⟨y5, rfl, sx, hD⟩
    rw [lr3, ← lr0] at hD
    -- gates
    refine ⟨_, rfl, a, _, 3, _, rfl, rfl, SqT.of (sx _ _ hA), atI_nat (j := 3) rfl, aG, rfl, ⟨_, SqL.of (sx _ _ hGl)⟩, for_list (xs := us) (fun j σ Hx => ∃ y6 y7 y8 y9 : Option V, σ = [some (.ref a), some fv, some (.ref st), some (.ref bt), some (.ref D), y5, y6, y7, y8, y9, none, none] ∧ Same H Hx ∧ Hx D = some (.lst (vn (srow fo (n.gates.take j) (overTo fo (row0 t).length (row0 t)))))) ⟨none, none, none, none, rfl, sx, hD⟩ (fun j σ Hx _ ⟨_, _, _, _, _, s', _⟩ => SqL.of (s' _ _ hGl)) ?_ ?_⟩
    · rintro j u σ Hx hu ⟨y6, y7, y8, y9, rfl, sxr, hDr⟩
      obtain ⟨⟨x, y⟩, hg1, hd⟩ := hus.at hu
      obtain ⟨tg, u1, u2, rfl, htg, hx, hy⟩ := hd.pair_inv
      have hx := hx.nat_inv
      have hy := hy.nat_inv
      subst hx hy
      have hj : j < n.gates.length := (List.getElem?_eq_some_iff.mp hg1).1
      have hb2 := hgb j _ hg1
      have hb1 : x < 2 * (n.base + j) := hb2.1
      have hb3 : y < 2 * (n.base + j) := hb2.2
      rw [take_snoc hg1, srow_snoc]
      have lrow : (srow fo (n.gates.take j) (overTo fo (row0 t).length (row0 t))).length = n.base + j := by
        rw [srow_len, over_len, lr0, List.length_take]
        omega
      have hlt := srow_lt hf (gs := n.gates.take j) (over_lt hf (k := (row0 t).length) (row0_lt tok))
      generalize srow fo (n.gates.take j) (overTo fo (row0 t).length (row0 t)) = r at hDr lrow hlt ⊢
      have hmj : n.base + j < 60000 := by unfold Net.many at hm; omega
      -- a literal's value
      have lit : ∀ l : Nat, l < 2 * (n.base + j) → ∃ z, r[l / 2]? = some z ∧ (l % 2 = 0 → bitv r l = z) ∧ (l % 2 = 1 → ((1 : Int) - (z : Int)) = ((bitv r l : Nat) : Int)) := fun l hl => by
        have h2 : l / 2 < r.length := by omega
        have h3 := List.getElem?_eq_getElem h2
        exact ⟨_, h3, bitv_odd h3 (hlt _ (List.getElem_mem h2))⟩
      have dm : ∀ l : Nat, decide (V.int ((l : Int).fmod 2) = V.int 0) = decide (l % 2 = 0) := fun l => by
        rw [nfmod2]
        exact dec_nat _ 0
      obtain ⟨zx, hzx, x0, x1⟩ := lit x hb1
      obtain ⟨zy, hzy, y0, y1⟩ := lit y hb3
      refine ⟨tg, _, rfl, SqT.of (sxr _ _ htg), rfl, _, _, rfl, _, _, rfl, rfl, ?_⟩
      -- one
      refine ⟨_, rfl, _, _, rfl, rfl, (show (2 : Int) ≠ 0 by decide), rfl, _, rfl, ?_⟩
      rw [dm]
      refine ifx (fun v Hy => v = .int ((bitv r x : Nat) : Int) ∧ Hx = Hy) (fun e Q hQ => ⟨_, rfl, _, rfl, _, _, rfl, rfl, ⟨by decide, by decide⟩, D, _, _, _, rfl, rfl, SqL.of hDr, (by rw [nfdiv2]; exact atI_nat (vn_get hzx)), hQ _ _ ⟨by rw [x0 (of_decide_eq_true e)], rfl⟩⟩) (fun e Q hQ => ⟨_, rfl, _, rfl, _, _, rfl, rfl, ⟨by decide, by decide⟩, D, _, _, _, rfl, rfl, SqL.of hDr, (by rw [nfdiv2]; exact atI_nat (vn_get hzx)), _, _, rfl, rfl, hQ _ _ ⟨by rw [← x1 (by have := of_decide_eq_false e; omega)], rfl⟩⟩) ?_
      rintro _ _ ⟨rfl, rfl⟩
      -- two
      refine ⟨_, rfl, _, _, rfl, rfl, (show (2 : Int) ≠ 0 by decide), rfl, _, rfl, ?_⟩
      rw [dm]
      refine ifx (fun v Hy => v = .int ((bitv r y : Nat) : Int) ∧ Hx = Hy) (fun e Q hQ => ⟨_, rfl, _, rfl, _, _, rfl, rfl, ⟨by decide, by decide⟩, D, _, _, _, rfl, rfl, SqL.of hDr, (by rw [nfdiv2]; exact atI_nat (vn_get hzy)), hQ _ _ ⟨by rw [y0 (of_decide_eq_true e)], rfl⟩⟩) (fun e Q hQ => ⟨_, rfl, _, rfl, _, _, rfl, rfl, ⟨by decide, by decide⟩, D, _, _, _, rfl, rfl, SqL.of hDr, (by rw [nfdiv2]; exact atI_nat (vn_get hzy)), _, _, rfl, rfl, hQ _ _ ⟨by rw [← y1 (by have := of_decide_eq_false e; omega)], rfl⟩⟩) ?_
      rintro _ _ ⟨rfl, rfl⟩
      have bx := bitv_lt hlt x
      have by_ := bitv_lt hlt y
      -- row.append(..)
      refine ⟨_, rfl, .inl ⟨rfl, _, SqL.of hDr⟩, ?_⟩
      have hfx := hfv.same sxr
      have mul : V.int (((bitv r x : Nat) : Int) * ((bitv r y : Nat) : Int)) = V.int ((bitv r x * bitv r y : Nat) : Int) := by rw [Int.natCast_mul]
      rcases fo with _ | ⟨fx, fb⟩
      obtain rfl := hfx.none_inv
      refine ⟨_, rfl, rfl, _, rfl, iteF ⟨_, rfl, _, rfl, _, _, rfl, rfl, .inl ⟨by omega, by omega⟩, ?_⟩⟩
      simp only [mul]
      rotate_left
      obtain ⟨tf, u1, u2, rfl, hT, h1, h2⟩ := hfx.some_inv.pair_inv
      have h1 := h1.nat_inv
      have h2 := h2.nat_inv
      subst h1 h2
      refine ⟨_, rfl, rfl, _, rfl, ?_⟩
      rw [decide_eq_false (by intro z; cases z)]
      refine iteT ⟨_, rfl, tf, _, 0, _, rfl, rfl, SqT.of hT, atI_nat (j := 0) rfl, _, rfl, D, _, rfl, .inl (SqL.of hDr), rfl, _, rfl, ?_⟩
      rw [vn_len, show decide (V.int ((fx : Nat) : Int) = V.int ((r.length : Nat) : Int)) = decide (fx = r.length) from dec_nat _ _]
      refine ifx (fun v Hy => v = .int ((gv (some (fx, fb)) r.length (bitv r x * bitv r y) : Nat) : Int) ∧ Hx = Hy) (fun e Q hQ => ⟨_, rfl, tf, _, 1, _, rfl, rfl, SqT.of hT, atI_nat (j := 1) rfl, hQ _ _ ⟨by unfold gv; simp only; rw [if_pos (of_decide_eq_true e)], rfl⟩⟩) (fun e Q hQ => ⟨_, rfl, _, rfl, _, _, rfl, rfl, .inl ⟨by omega, by omega⟩, hQ _ _ ⟨by show V.int (((bitv r x : Nat) : Int) * ((bitv r y : Nat) : Int)) = _; rw [mul]; unfold gv; simp only; rw [if_neg (of_decide_eq_false e)], rfl⟩⟩) ?_
      rintro _ _ ⟨rfl, rfl⟩
      all_goals
        refine ⟨D, _, _, rfl, rfl, hDr, by rw [vn_len, lrow]; exact small64k (by omega), ?_⟩
        refine ⟨_, _, _, _, rfl, same_mut sxr nD0, ?_⟩
        rw [upd_same]
        exact congrArg (fun l => some (HO.lst l)) (vn_snoc r _)
    rintro σ Hx ⟨y6, y7, y8, y9, rfl, sx, hD⟩
    rw [hus.len, List.take_length] at hD
    have hD : Hx D = some (.lst (vn (stuck n fo t))) := hD
    have lst := stuck_len (fo := fo) tok
    have hlt := stuck_lt hf tok
    generalize hR : stuck n fo t = r at hD lst hlt
    have lit : ∀ l : Nat, l < 2 * n.many → ∃ z, r[l / 2]? = some z ∧ (l % 2 = 0 → bitv r l = z) ∧ (l % 2 = 1 → ((1 : Int) - (z : Int)) = ((bitv r l : Nat) : Int)) := fun l hl => by
      have h2 : l / 2 < r.length := by omega
      have h3 := List.getElem?_eq_getElem h2
      exact ⟨_, h3, bitv_odd h3 (hlt _ (List.getElem_mem h2))⟩
    have dm : ∀ l : Nat, decide (V.int ((l : Int).fmod 2) = V.int 0) = decide (l % 2 = 0) := fun l => by
      rw [nfmod2]
      exact dec_nat _ 0
    -- outs, nexts
    refine ⟨_, rfl, a, _, 5, _, rfl, rfl, SqT.of (sx _ _ hA), atI_nat (j := 5) rfl, aO, rfl, ⟨_, SqL.of (sx _ _ hO)⟩, fun DO nDO => lc_list (xs := vn n.outs) (fun j Hy => Same Hx Hy ∧ Hy DO = some (.lst (vn ((n.outs.take j).map (bitv r))))) ⟨same_new nDO, upd_same⟩ (fun j Hy _ h => SqL.of (h.1 _ _ (sx _ _ hO))) ?_ ?_⟩
    · rintro j v Hy hv ⟨sy, hDO⟩
      have hj : j < n.outs.length := by
        have h := (List.getElem?_eq_some_iff.mp hv).1
        rw [vn_len] at h
        exact h
      have hx := List.getElem?_eq_getElem hj
      rw [vn_get hx] at hv
      cases hv
      obtain ⟨z, hz, z0, z1⟩ := lit _ (hox _ (List.getElem_mem hj))
      have hDy := sy _ _ hD
      refine ⟨rfl, _, rfl, _, _, rfl, rfl, (show (2 : Int) ≠ 0 by decide), rfl, _, rfl, ?_⟩
      rw [dm]
      refine ifx (fun v Hz => v = .int ((bitv r n.outs[j] : Nat) : Int) ∧ Hy = Hz) (fun e Q hQ => ⟨_, rfl, _, rfl, _, _, rfl, rfl, ⟨by decide, by decide⟩, D, _, _, _, rfl, rfl, SqL.of hDy, (by rw [nfdiv2]; exact atI_nat (vn_get hz)), hQ _ _ ⟨by rw [z0 (of_decide_eq_true e)], rfl⟩⟩) (fun e Q hQ => ⟨_, rfl, _, rfl, _, _, rfl, rfl, ⟨by decide, by decide⟩, D, _, _, _, rfl, rfl, SqL.of hDy, (by rw [nfdiv2]; exact atI_nat (vn_get hz)), _, _, rfl, rfl, hQ _ _ ⟨by rw [← z1 (by have := of_decide_eq_false e; omega)], rfl⟩⟩) ?_
      rintro _ _ ⟨rfl, rfl⟩
      refine ⟨_, hDO, ?_, same_mut sy nDO, ?_⟩
      · rw [vn_len, List.length_map, List.length_take]
        exact small64k (by omega)
      · rw [upd_same, vn_snoc, take_snoc hx, List.map_append]
        rfl
    rintro Hy ⟨sy, hDO⟩
    rw [vn_len, List.take_length] at hDO
    have sxy := sx.trans sy
    have hDO0 : H DO = none := none_of sx nDO
    refine ⟨_, rfl, _, rfl, a, _, 4, _, rfl, rfl, SqT.of (sxy _ _ hA), atI_nat (j := 4) rfl, aN, rfl, ⟨_, SqL.of (sxy _ _ hN)⟩, fun DN nDN => lc_list (xs := vn n.nexts) (fun j Hz => Same Hy Hz ∧ Hz DN = some (.lst (vn ((n.nexts.take j).map (bitv r))))) ⟨same_new nDN, upd_same⟩ (fun j Hz _ h => SqL.of (h.1 _ _ (sxy _ _ hN))) ?_ ?_⟩
    · rintro j v Hz hv ⟨sz, hDN⟩
      have hj : j < n.nexts.length := by
        have h := (List.getElem?_eq_some_iff.mp hv).1
        rw [vn_len] at h
        exact h
      have hx := List.getElem?_eq_getElem hj
      rw [vn_get hx] at hv
      cases hv
      obtain ⟨z, hz, z0, z1⟩ := lit _ (hnx _ (List.getElem_mem hj))
      have hDy := sz _ _ (sy _ _ hD)
      refine ⟨rfl, _, rfl, _, _, rfl, rfl, (show (2 : Int) ≠ 0 by decide), rfl, _, rfl, ?_⟩
      rw [dm]
      refine ifx (fun v Hw => v = .int ((bitv r n.nexts[j] : Nat) : Int) ∧ Hz = Hw) (fun e Q hQ => ⟨_, rfl, _, rfl, _, _, rfl, rfl, ⟨by decide, by decide⟩, D, _, _, _, rfl, rfl, SqL.of hDy, (by rw [nfdiv2]; exact atI_nat (vn_get hz)), hQ _ _ ⟨by rw [z0 (of_decide_eq_true e)], rfl⟩⟩) (fun e Q hQ => ⟨_, rfl, _, rfl, _, _, rfl, rfl, ⟨by decide, by decide⟩, D, _, _, _, rfl, rfl, SqL.of hDy, (by rw [nfdiv2]; exact atI_nat (vn_get hz)), _, _, rfl, rfl, hQ _ _ ⟨by rw [← z1 (by have := of_decide_eq_false e; omega)], rfl⟩⟩) ?_
      rintro _ _ ⟨rfl, rfl⟩
      refine ⟨_, hDN, ?_, same_mut sz nDN, ?_⟩
      · rw [vn_len, List.length_map, List.length_take]
        exact small64k (by omega)
      · rw [upd_same, vn_snoc, take_snoc hx, List.map_append]
        rfl
    rintro Hz ⟨sz, hDN⟩
    rw [vn_len, List.take_length] at hDN
    refine ⟨by show 2 ≤ sizeLine; decide, fun T nT => ?_⟩
    have sT := same_new (o := .tup [.ref DO, .ref DN]) nT
    have hT0 : H T = none := none_of (sxy.trans sz) nT
    have hDN0 : H DN = none := none_of sxy nDN
    refine q _ T ((sxy.trans sz).trans sT) hT0 ?_
    unfold ansOf
    rw [hR]
    exact .pair (fresh_of hT0 upd_same) (.natl (fresh_of hDO0 (sT _ _ (sz _ _ hDO)))) (.natl (fresh_of hDN0 (sT _ _ hDN)))

end K69
namespace K69
open PySem PySem.Spec PyProof.Rows L2 V0
/-! ### all tests, all faults, by the law -/
def RowsOk (k : Nat) (rs : List (List Nat)) : Prop := rs.length = 2 ^ k ∧ ∀ r ∈ rs, r.length = k ∧ ∀ b ∈ r, b < 2
def sp__law_all (K : PySem.W.Frag) : Sp := fun vs H Q _ => ∃ (v : V) (n : Net), vs = [v] ∧ Dv H v n ∧ n.ins + n.starts.length ≤ 7 ∧ ∀ H' r (ts : List Test), Same H H' → H r = none → Dv (fresh H H') (.ref r) ts → 0 < ts.length → ts.length ≤ 128 → (∀ t ∈ ts, TestOk n t) → Q (.ref r) H'
theorem rows_step {k : Nat} {rs : List (List Nat)} (h : RowsOk k rs) : RowsOk (k + 1) (rs.map (· ++ [0]) ++ rs.map (· ++ [1])) := by
  refine ⟨?_, fun r hr => ?_⟩
  · rw [List.length_append, List.length_map, List.length_map, h.1, Nat.pow_succ]
    omega
  · rcases List.mem_append.mp hr with hr | hr
    · obtain ⟨z, hz, rfl⟩ := List.mem_map.mp hr
      have := h.2 z hz
      exact ⟨by rw [List.length_append, this.1]; rfl, mem_snoc this.2 (by decide)⟩
    · obtain ⟨z, hz, rfl⟩ := List.mem_map.mp hr
      have := h.2 z hz
      exact ⟨by rw [List.length_append, this.1]; rfl, mem_snoc this.2 (by decide)⟩
theorem ok__law_all {P : Program} {w : World} {K : PySem.W.Frag} {mg : Str → Option Value} {base : Heap} {f  : Addr} {fd  : FuncData} (F : Fun K "_law_all" "_law_all" s__law_all f fd) (T : Txt K mg) :
    FnOk P w K mg base CX0 1 f fd ["net"] (sp__law_all K) := by
  refine F.ok sc_law_all (fun vs H Q E h => ?_) (fun cdv A outer s H vs Q E hr h => ?_)
  · obtain ⟨v, n, rfl, _⟩ := h
    rfl
  · obtain ⟨v, n, rfl, hn, hk7, q⟩ := h
    obtain ⟨a, aS, aG, aN, aO, rfl, hA, hS, hG, hN, hO⟩ := hn.net_inv
    obtain ⟨_, e, hS⟩ := hS.natl_inv
    cases e
    refine ⟨_, (pss_cons (ps_set (i := 1) sc_law_all.nd rfl (.inl rfl) (pe_lst (pa_cons (pe_lst pa_nil) pa_nil)))
      (pss_cons (ps_for PassesOwn.never rfl (pi_range1 rfl T.m_range (pa_cons (pe_op op_add (pe_ix (r := rIxT K) ix_tup (pv 0) pe_int (fun _ _ => rfl)) (pe_callB call_len_seq (by rfl) T.m_len (by decide +kernel) (pa_cons (pe_ix (r := rIxT K) ix_tup (pv 0) pe_int (fun _ _ => rfl)) pa_nil))) pa_nil)) (pg_name (i := 2) sc_law_all.nd rfl (Or.inl rfl)) (pss_one (ps_set (i := 1) sc_law_all.nd rfl (.inl rfl) (pe_op op_cat (pe_lc (own := [("row", 3)]) (g := gName 3) (tt := tYes) rfl sc_law_all.nd (pi_list (pv 1)) (blkOk_by (N := N__law_all) (sc := defScope s__law_all) (by decide +kernel)) (fun _ _ _ _ _ => (pg_name (i := 3) sc_law_all.nd rfl (Or.inl rfl))) (fun _ _ _ _ _ => pts_nil) (fun _ _ _ _ _ => (pe_op op_cat (pv 3) (pe_lst (pa_cons pe_int pa_nil))))) (pe_lc (own := [("row", 3)]) (g := gName 3) (tt := tYes) rfl sc_law_all.nd (pi_list (pv 1)) (blkOk_by (N := N__law_all) (sc := defScope s__law_all) (by decide +kernel)) (fun _ _ _ _ _ => (pg_name (i := 3) sc_law_all.nd rfl (Or.inl rfl))) (fun _ _ _ _ _ => pts_nil) (fun _ _ _ _ _ => (pe_op op_cat (pv 3) (pe_lst (pa_cons pe_int pa_nil)))))))))
      (pss_one (ps_ret (pe_lc (own := [("row", 3)]) (g := gName 3) (tt := tYes) rfl sc_law_all.nd (pi_list (pv 1)) (blkOk_by (N := N__law_all) (sc := defScope s__law_all) (by decide +kernel)) (fun _ _ _ _ _ => (pg_name (i := 3) sc_law_all.nd rfl (Or.inl rfl))) (fun _ _ _ _ _ => pts_nil) (fun _ _ _ _ _ => (pe_tup (pa_cons (pe_slice (r := rSlL K) sl_list (pv 3) (po_some (pe_ix (r := rIxT K) ix_tup (pv 0) pe_int (fun _ _ => rfl))) po_none) (pa_cons (pe_slice (r := rSlL K) sl_list (pv 3) po_none (po_some (pe_ix (r := rIxT K) ix_tup (pv 0) pe_int (fun _ _ => rfl)))) pa_nil))))))))), ?_⟩
    -- rows = [[]]
    refine ⟨by show 0 ≤ sizeLine; decide, fun L0 nL0 => ?_⟩
    have s1 := same_new (o := .lst []) nL0
    have e1 : (upd H L0 (.lst [])) L0 = some (.lst (vn [])) := upd_same
    generalize (upd H L0 (.lst [])) = H1 at s1 e1 ⊢
    refine ⟨by show 1 ≤ sizeLine; decide, fun R0 nR0 => ?_⟩
    have s2 := s1.trans (same_new (o := .lst [.ref L0]) nR0)
    have nR00 : H R0 = none := none_of s1 nR0
    have d2 : Dv (fresh H (upd H1 R0 (.lst [.ref L0]))) (.ref R0) ([[]] : List (List Nat)) := .list (fresh_of nR00 upd_same) (.cons (.natl (fresh_of nL0 (same_new nR0 _ _ e1))) .nil)
    generalize (upd H1 R0 (.lst [.ref L0])) = H2 at s2 d2 ⊢
    have eK : ((n.ins : Int) + (((vn n.starts).length : Nat) : Int)) = ((n.ins + n.starts.length : Nat) : Int) := by
      rw [vn_len]
      rfl
    obtain ⟨KZ, hKZ⟩ : ∃ z : Int, z = (n.ins : Int) + (((vn n.starts).length : Nat) : Int) := ⟨_, rfl⟩
    have eKZ : KZ = ((n.ins + n.starts.length : Nat) : Int) := hKZ.trans eK
    refine ⟨_, rfl, a, _, 1, _, rfl, rfl, SqT.of (s2 _ _ hA), atI_nat (j := 1) rfl, _, rfl, a, _, 2, _, rfl, rfl, SqT.of (s2 _ _ hA), atI_nat (j := 2) rfl, aS, _, rfl, .inl (SqL.of (s2 _ _ hS)), _, _, rfl, rfl, KZ, by rw [hKZ], by omega, by omega, for_range (n := KZ.toNat) (fun k σ Hx => ∃ (y2 : Option V) (R : Addr) (rs : List (List Nat)), σ = [some (.ref a), some (.ref R), y2, none] ∧ Same H Hx ∧ Dv (fresh H Hx) (.ref R) rs ∧ RowsOk k rs) ⟨none, R0, [[]], rfl, s2, d2, rfl, fun r hr => by rw [List.mem_singleton.mp hr]; exact ⟨rfl, by simp⟩⟩ ?_ ?_⟩
    · rintro k σ Hx hk ⟨y2, R, rs, rfl, sx, dR, rok⟩
      have hk7 : k < 7 := by omega
      have hlr : rs.length ≤ 128 := by
        rw [rok.1]
        exact Nat.le_trans (Nat.pow_le_pow_right (by decide) (show k ≤ 7 by omega)) (by decide)
      -- one half
      have half : ∀ (Hy : Hp), Same Hx Hy → ∀ (c : Nat), ∀ (D : Addr), Hy D = none → ∀ j x Hz, (∃ ws, Same Hy Hz ∧ Hz D = some (.lst ws) ∧ Dvs (hid D (fresh H Hz)) ws ((rs.take j).map (· ++ [c]))) → ∀ us, Hx R = some (.lst us) → us[j]? = some x → ∃ (row : List Nat) (ar : Addr), rs[j]? = some row ∧ x = .ref ar ∧ Hz ar = some (.lst (vn row)) := fun Hy sy c D nD j x Hz ⟨ws, sz, _, _⟩ us hus hx => by
        obtain ⟨_, us', e, hR, hd⟩ := dR.list_inv
        cases e
        have hR' := (fresh_some hR).2
        rw [hus] at hR'
        cases hR'
        obtain ⟨row, hrow, dx⟩ := hd.at hx
        obtain ⟨ar, rfl, har⟩ := dx.natl_inv
        exact ⟨row, ar, hrow, rfl, sz _ _ (sy _ _ (fresh_some har).2)⟩
      obtain ⟨_, us, e, hRf, husf⟩ := dR.list_inv
      cases e
      obtain ⟨nR, hR⟩ := fresh_some hRf
      have lus := husf.len
      have stp : ∀ (c : Nat) (Hy : Hp) (D : Addr) (nD : Hy D = none) (sy : Same Hx Hy) (j : Nat) (Hz : Hp) (row : List Nat) (ws : List V) (L1 L2 : Addr), rs[j]? = some row → Same Hy Hz → Hz D = some (.lst ws) → Dvs (hid D (fresh H Hz)) ws ((rs.take j).map (· ++ [c])) → Hz L1 = none → ∀ H4, H4 = (upd Hz L1 (.lst [.int (c : Nat)])) → H4 L2 = none → ∀ H5, H5 = upd H4 L2 (.lst (vn row ++ [.int (c : Nat)])) →
          ∃ acc, H5 D = some (.lst acc) ∧ acc.length < sizeLine ∧ ∃ ws, Same Hy (upd H5 D (.lst (acc ++ [V.ref L2]))) ∧ (upd H5 D (.lst (acc ++ [V.ref L2]))) D = some (.lst ws) ∧ Dvs (hid D (fresh H (upd H5 D (.lst (acc ++ [V.ref L2]))))) ws ((rs.take (j + 1)).map (· ++ [c])) := fun c Hy D nD sy j Hz row ws L1 L2 hrow sz hD hws nL1 H4 e4 nL2 H5 e5 => by
        have s4 : Same Hz H4 := by rw [e4]; exact same_new nL1
        have s5 : Same H4 H5 := by rw [e5]; exact same_new nL2
        have hD5 := s5 _ _ (s4 _ _ hD)
        have nLD : L2 ≠ D := fun e => by rw [e, s4 _ _ hD] at nL2; cases nL2
        have hL5 : H5 L2 = some (.lst (vn (row ++ [c]))) := by rw [e5, upd_same, vn_snoc]
        have s45 := s4.trans s5
        refine ⟨ws, hD5, ?_, ws ++ [.ref L2], same_mut (sz.trans s45) nD, upd_same, ?_⟩
        · rw [hws.len, List.length_map, List.length_take]
          exact small64k (by omega)
        · rw [take_snoc hrow, List.map_append]
          exact ((hws.same (hid_mono (fresh_post s45))).same hid_fresh_mut).app (.cons (.natl (hid_of nLD (fresh_of (none_of ((sx.trans sy).trans (sz.trans s4)) nL2) (by rw [upd_ne nLD]; exact hL5)))) .nil)
      refine ⟨_, rfl, R, rfl, ⟨_, SqL.of hR⟩, fun D nD => lc_list (xs := us) (fun j Hz => ∃ ws, Same Hx Hz ∧ Hz D = some (.lst ws) ∧ Dvs (hid D (fresh H Hz)) ws ((rs.take j).map (· ++ [0]))) ⟨[], same_new nD, upd_same, .nil⟩ (fun j Hz _ h => by obtain ⟨_, s', _⟩ := h; exact SqL.of (s' _ _ hR)) ?_ ?_⟩
      · rintro j x Hz hx ⟨ws, sz, hD, hws⟩
        obtain ⟨row, ar, hrow, rfl, har⟩ := half Hx (Same.refl _) 0 D nD j x Hz ⟨ws, sz, hD, hws⟩ us hR hx
        refine ⟨rfl, _, rfl, by show 1 ≤ sizeLine; decide, fun L1 nL1 => ⟨ar, L1, _, _, rfl, rfl, same_new nL1 _ _ har, upd_same, ?_, fun L2 nL2 => ?_⟩⟩
        · have := (rok.2 row (List.mem_of_getElem? hrow)).1
          rw [vn_len, this]
          exact Nat.le_of_lt (small64k (by show k + 1 ≤ _; omega))
        · exact stp 0 Hx D nD (Same.refl _) j Hz row ws L1 L2 hrow sz hD hws nL1 _ rfl nL2 _ rfl
      rintro Hy ⟨ws, sy, hD, hws⟩
      rw [lus, List.take_length] at hws
      refine ⟨_, rfl, R, rfl, ⟨_, SqL.of (sy _ _ hR)⟩, fun D2 nD2 => lc_list (xs := us) (fun j Hz => ∃ ws, Same Hy Hz ∧ Hz D2 = some (.lst ws) ∧ Dvs (hid D2 (fresh H Hz)) ws ((rs.take j).map (· ++ [1]))) ⟨[], same_new nD2, upd_same, .nil⟩ (fun j Hz _ h => by obtain ⟨_, s', _⟩ := h; exact SqL.of (s' _ _ (sy _ _ hR))) ?_ ?_⟩
      · rintro j x Hz hx ⟨ws2, sz, hD2, hws2⟩
        obtain ⟨row, ar, hrow, rfl, har⟩ := half Hy sy 1 D2 nD2 j x Hz ⟨ws2, sz, hD2, hws2⟩ us hR hx
        refine ⟨rfl, _, rfl, by show 1 ≤ sizeLine; decide, fun L1 nL1 => ⟨ar, L1, _, _, rfl, rfl, same_new nL1 _ _ har, upd_same, ?_, fun L2 nL2 => ?_⟩⟩
        · have := (rok.2 row (List.mem_of_getElem? hrow)).1
          rw [vn_len, this]
          exact Nat.le_of_lt (small64k (by show k + 1 ≤ _; omega))
        · exact stp 1 Hy D2 nD2 sy j Hz row ws2 L1 L2 hrow sz hD2 hws2 nL1 _ rfl nL2 _ rfl
      rintro Hz ⟨ws2, sz, hD2, hws2⟩
      rw [lus, List.take_length] at hws2
      refine ⟨D, D2, _, _, rfl, rfl, sz _ _ hD, hD2, ?_, fun C nC => ?_⟩
      · rw [hws.len, hws2.len, List.length_map, List.length_map]
        exact Nat.le_of_lt (small64k (by omega))
      have sC := same_new (o := .lst (ws ++ ws2)) nC
      have sxz := (sx.trans sy).trans sz
      refine ⟨_, C, rs.map (· ++ [0]) ++ rs.map (· ++ [1]), rfl, sxz.trans sC, ?_, rows_step rok⟩
      refine .list (fresh_of (none_of sxz nC) upd_same) ?_
      exact ((hws.same (hid_same _ _)).same (fresh_post (sz.trans sC))).app ((hws2.same (hid_same _ _)).same (fresh_post sC))
    rintro σ Hx ⟨y2, R, rs, rfl, sx, dR, rok⟩
    have ekn : KZ.toNat = n.ins + n.starts.length := by omega
    rw [ekn] at rok
    have hlr : rs.length ≤ 128 := by
      rw [rok.1]
      exact Nat.le_trans (Nat.pow_le_pow_right (by decide) hk7) (by decide)
    obtain ⟨_, us, e, hRf, husf⟩ := dR.list_inv
    cases e
    have hR := (fresh_some hRf).2
    have lus := husf.len
    refine ⟨_, rfl, R, rfl, ⟨_, SqL.of hR⟩, fun D nD => lc_list (xs := us) (fun j Hz => ∃ ws, Same Hx Hz ∧ Hz D = some (.lst ws) ∧ Dvs (hid D (fresh H Hz)) ws ((rs.take j).map fun r => (r.drop n.ins, r.take n.ins))) ⟨[], same_new nD, upd_same, .nil⟩ (fun j Hz _ h => by obtain ⟨_, s', _⟩ := h; exact SqL.of (s' _ _ hR)) ?_ ?_⟩
    · rintro j x Hz hx ⟨ws, sz, hD, hws⟩
      obtain ⟨row, hrow, dx⟩ := husf.at hx
      obtain ⟨ar, rfl, har⟩ := dx.natl_inv
      have har := sz _ _ (fresh_some har).2
      have sxz := sx.trans sz
      refine ⟨rfl, _, rfl, _, rfl, a, _, 1, _, rfl, rfl, SqT.of (sxz _ _ hA), atI_nat (j := 1) rfl, _, rfl, ar, _, rfl, SqL.of har, fun S1 nS1 => ?_⟩
      have s1 := same_new (o := .lst (cutV (vn row) (some (n.ins : Nat)) none)) nS1
      have e1 : (upd Hz S1 (.lst (cutV (vn row) (some (n.ins : Nat)) none))) S1 = some (.lst (vn (row.drop n.ins))) := by
        rw [upd_same, cut_from]
        unfold vn
        rw [List.map_drop]
      generalize (upd Hz S1 (.lst (cutV (vn row) (some (n.ins : Nat)) none))) = H3 at s1 e1 ⊢
      refine ⟨_, rfl, _, rfl, a, _, 1, _, rfl, rfl, SqT.of (s1 _ _ (sxz _ _ hA)), atI_nat (j := 1) rfl, _, rfl, ar, _, rfl, SqL.of (s1 _ _ har), fun S2 nS2 => ?_⟩
      have s2 := same_new (o := .lst (cutV (vn row) none (some (n.ins : Nat)))) nS2
      have e2 : (upd H3 S2 (.lst (cutV (vn row) none (some (n.ins : Nat))))) S2 = some (.lst (vn (row.take n.ins))) := by
        rw [upd_same, cut_to']
        unfold vn
        rw [List.map_take]
      have e1 := s2 _ _ e1
      have n1 : H S1 = none := none_of sxz nS1
      have n2 : H S2 = none := none_of (sxz.trans s1) nS2
      have s12 := s1.trans s2
      generalize (upd H3 S2 (.lst (cutV (vn row) none (some (n.ins : Nat))))) = H4 at s12 e1 e2 ⊢
      refine ⟨by show 2 ≤ sizeLine; decide, fun T nT => ?_⟩
      have sT := same_new (o := .tup [.ref S1, .ref S2]) nT
      have nTD : T ≠ D := fun e => by rw [e, s12 _ _ hD] at nT; cases nT
      have n1D : S1 ≠ D := fun e => by rw [e, hD] at nS1; cases nS1
      have n2D : S2 ≠ D := fun e => by rw [e, s1 _ _ hD] at nS2; cases nS2
      have n1D : S1 ≠ D := fun e => by rw [e, hD] at nS1; cases nS1
      have sall := s12.trans sT
      refine ⟨ws, sall _ _ hD, ?_, ws ++ [.ref T], same_mut (sz.trans sall) nD, upd_same, ?_⟩
      · rw [hws.len, List.length_map, List.length_take]
        exact small64k (by omega)
      · rw [take_snoc hrow, List.map_append]
        refine ((hws.same (hid_mono (fresh_post sall))).same hid_fresh_mut).app (.cons (.pair (hid_of nTD (fresh_of (none_of (sxz.trans s12) nT) (by rw [upd_ne nTD]; exact upd_same))) ?_ ?_) .nil)
        · exact .natl (hid_of n1D (fresh_of n1 (by rw [upd_ne n1D]; exact sT _ _ e1)))
        · exact .natl (hid_of n2D (fresh_of n2 (by rw [upd_ne n2D]; exact sT _ _ e2)))
    · rintro Hz ⟨ws, sz, hD, hws⟩
      rw [lus, List.take_length] at hws
      refine q _ D (rs.map fun r => (r.drop n.ins, r.take n.ins)) (sx.trans sz) (none_of sx nD) (.list (fresh_of (none_of sx nD) hD) (hws.same (hid_same _ _))) (by rw [List.length_map, rok.1]; exact Nat.two_pow_pos _) (by rw [List.length_map]; exact hlr) fun t ht => ?_
      obtain ⟨r, hr, rfl⟩ := List.mem_map.mp ht
      have := rok.2 r hr
      exact ⟨by show (r.drop n.ins).length = _; rw [List.length_drop, this.1]; omega, by show (r.take n.ins).length = _; rw [List.length_take, this.1]; omega, fun b hb => this.2 b (List.mem_of_mem_drop hb), fun b hb => this.2 b (List.mem_of_mem_take hb)⟩
def sp__law_faults (K : PySem.W.Frag) : Sp := fun vs H Q _ => ∃ (v : V) (n : Net), vs = [v] ∧ Dv H v n ∧ n.many ≤ 1000 ∧ ∀ H' r, Same H H' → H r = none → Dv (fresh H H') (.ref r) (faultsOf (n.many - 1)) → Q (.ref r) H'
theorem ok__law_faults {P : Program} {w : World} {K : PySem.W.Frag} {mg : Str → Option Value} {base : Heap} {f  : Addr} {fd  : FuncData} (F : Fun K "_law_faults" "_law_faults" s__law_faults f fd) (T : Txt K mg) :
    FnOk P w K mg base CX0 1 f fd ["net"] (sp__law_faults K) := by
  refine F.ok sc_law_faults (fun vs H Q E h => ?_) (fun cdv A outer s H vs Q E hr h => ?_)
  · obtain ⟨v, n, rfl, _⟩ := h
    rfl
  · obtain ⟨v, n, rfl, hn, hm, q⟩ := h
    obtain ⟨a, aS, aG, aN, aO, rfl, hA, hS, hG, hN, hO⟩ := hn.net_inv
    obtain ⟨_, e, hS⟩ := hS.natl_inv
    cases e
    obtain ⟨_, us, e, hGl, hus⟩ := hG.list_inv
    cases e
    refine ⟨_, (pss_cons (ps_set (i := 1) sc_law_faults.nd rfl (.inl rfl) (pe_lst pa_nil))
      (pss_cons (ps_for PassesOwn.never rfl (pi_range2 rfl T.m_range (pa_cons pe_int (pa_cons (pe_op op_add (pe_op op_add (pe_op op_add pe_int (pe_ix (r := rIxT K) ix_tup (pv 0) pe_int (fun _ _ => rfl))) (pe_callB call_len_seq (by rfl) T.m_len (by decide +kernel) (pa_cons (pe_ix (r := rIxT K) ix_tup (pv 0) pe_int (fun _ _ => rfl)) pa_nil))) (pe_callB call_len_seq (by rfl) T.m_len (by decide +kernel) (pa_cons (pe_ix (r := rIxT K) ix_tup (pv 0) pe_int (fun _ _ => rfl)) pa_nil))) pa_nil))) (pg_name (i := 2) sc_law_faults.nd rfl (Or.inl rfl)) (pss_one (ps_set (i := 1) sc_law_faults.nd rfl (.inl rfl) (pe_op op_cat (pv 1) (pe_lst (pa_cons (pe_tup (pa_cons (pv 2) (pa_cons pe_int pa_nil))) (pa_cons (pe_tup (pa_cons (pv 2) (pa_cons pe_int pa_nil))) pa_nil)))))))
      (pss_one (ps_ret (pv 1))))), ?_⟩
    refine ⟨by show 0 ≤ sizeLine; decide, fun R0 nR0 => ?_⟩
    have s2 := same_new (o := .lst []) nR0
    have d2 : Dv (fresh H (upd H R0 (.lst []))) (.ref R0) ([] : List (Nat × Nat)) := .list (fresh_of nR0 upd_same) .nil
    generalize (upd H R0 (.lst [])) = H2 at s2 d2 ⊢
    obtain ⟨KZ, hKZ⟩ : ∃ z : Int, z = (1 : Int) + (n.ins : Int) + (((vn n.starts).length : Nat) : Int) + (((us.length : Nat)) : Int) := ⟨_, rfl⟩
    have hmm : n.many = 1 + n.ins + n.starts.length + n.gates.length := rfl
    have eKZ : KZ = (n.many : Int) := by
      rw [hKZ, vn_len, hus.len, hmm]
      omega
    refine ⟨_, rfl, a, _, 1, _, rfl, rfl, SqT.of (s2 _ _ hA), atI_nat (j := 1) rfl, _, _, rfl, rfl, _, rfl, a, _, 2, _, rfl, rfl, SqT.of (s2 _ _ hA), atI_nat (j := 2) rfl, aS, _, rfl, .inl (SqL.of (s2 _ _ hS)), _, _, rfl, rfl, _, rfl, a, _, 3, _, rfl, rfl, SqT.of (s2 _ _ hA), atI_nat (j := 3) rfl, aG, _, rfl, .inl (SqL.of (s2 _ _ hGl)), _, _, rfl, rfl, 1, KZ, by rw [hKZ], by omega, for_range (lo := 1) (n := (KZ - 1).toNat) (fun k σ Hx => ∃ (y2 : Option V) (R : Addr), σ = [some (.ref a), some (.ref R), y2] ∧ Same H Hx ∧ Dv (fresh H Hx) (.ref R) (faultsOf k)) ⟨none, R0, rfl, s2, d2⟩ ?_ ?_⟩
    · rintro k σ Hx hk ⟨y2, R, rfl, sx, dR⟩
      obtain ⟨_, rs, e, hRf, hrs⟩ := dR.list_inv
      cases e
      obtain ⟨nR, hR⟩ := fresh_some hRf
      have e1k : (1 : Int) + (k : Int) = ((k + 1 : Nat) : Int) := by omega
      rw [e1k]
      refine ⟨_, rfl, _, rfl, by show 2 ≤ sizeLine; decide, fun t1 nt1 => ?_⟩
      have s1 := same_new (o := .tup [.int ((k + 1 : Nat) : Int), .int 0]) nt1
      have et1 : (upd Hx t1 (.tup [.int ((k + 1 : Nat) : Int), .int 0])) t1 = some (.tup [.int ((k + 1 : Nat) : Int), .int 0]) := upd_same
      have nt10 : H t1 = none := none_of sx nt1
      generalize (upd Hx t1 (.tup [.int ((k + 1 : Nat) : Int), .int 0])) = H3 at s1 et1 ⊢
      refine ⟨_, rfl, by show 2 ≤ sizeLine; decide, fun t2 nt2 => ?_⟩
      have s2 := s1.trans (same_new (o := .tup [.int ((k + 1 : Nat) : Int), .int 1]) nt2)
      have et2 : (upd H3 t2 (.tup [.int ((k + 1 : Nat) : Int), .int 1])) t2 = some (.tup [.int ((k + 1 : Nat) : Int), .int 1]) := upd_same
      have et1 := same_new (o := .tup [.int ((k + 1 : Nat) : Int), .int 1]) nt2 _ _ et1
      have nt20 : H t2 = none := none_of (sx.trans s1) nt2
      generalize (upd H3 t2 (.tup [.int ((k + 1 : Nat) : Int), .int 1])) = H4 at s2 et1 et2 ⊢
      refine ⟨by show 2 ≤ sizeLine; decide, fun L nL => ?_⟩
      have sL := s2.trans (same_new (o := .lst [.ref t1, .ref t2]) nL)
      refine ⟨R, L, _, _, rfl, rfl, sL _ _ hR, upd_same, ?_, fun C nC => ?_⟩
      · rw [hrs.len, faults_len]
        exact Nat.le_of_lt (small64k (by show 2 * k + 2 ≤ _; omega))
      have sC := sL.trans (same_new (o := .lst (rs ++ [.ref t1, .ref t2])) nC)
      have s4C := (same_new (o := .lst [.ref t1, .ref t2]) nL).trans (same_new (o := .lst (rs ++ [.ref t1, .ref t2])) nC)
      refine ⟨_, C, rfl, sx.trans sC, ?_⟩
      rw [faults_succ]
      exact .list (fresh_of (none_of (sx.trans sL) nC) upd_same) ((hrs.same (fresh_post sC)).app (.cons (.pair (fresh_of nt10 (s4C _ _ et1)) (Dv.nat (k + 1)) (Dv.nat 0)) (.cons (.pair (fresh_of nt20 (s4C _ _ et2)) (Dv.nat (k + 1)) (Dv.nat 1)) .nil)))
    · rintro σ Hx ⟨y2, R, rfl, sx, dR⟩
      rw [show (KZ - 1).toNat = n.many - 1 by omega] at dR
      obtain ⟨_, rs, e, hRf, _⟩ := dR.list_inv
      cases e
      exact ⟨_, rfl, q _ R sx (fresh_some hRf).1 dR⟩

end K69
namespace K69
open PySem PySem.Spec PyProof.Rows L2 V0
/-! ### columns tell what rows tell -/
theorem srow_low (fo : Option (Nat × Nat)) (gs : List (Nat × Nat)) (r : List Nat) {x : Nat} (h : x < r.length) : (srow fo gs r)[x]? = r[x]? := by
  induction gs generalizing r with
  | nil => rfl
  | cons g gs ih =>
    show (srow fo gs (r ++ [_]))[x]? = _
    rw [ih _ (by rw [List.length_append]; omega), List.getElem?_append_left h]
theorem srow_pre (fo : Option (Nat × Nat)) (gs hs : List (Nat × Nat)) (r : List Nat) : srow fo (gs ++ hs) r = srow fo hs (srow fo gs r) := by
  unfold srow
  rw [List.foldl_append]
theorem srow_gate {fo : Option (Nat × Nat)} {gs : List (Nat × Nat)} {r : List Nat} {j : Nat} {g : Nat × Nat} (hg : gs[j]? = some g) (h1 : g.1 < 2 * (r.length + j)) (h2 : g.2 < 2 * (r.length + j)) :
    (srow fo gs r)[r.length + j]? = some (gv fo (r.length + j) (bitv (srow fo gs r) g.1 * bitv (srow fo gs r) g.2)) := by
  have hj := (List.getElem?_eq_some_iff.mp hg).1
  have e1 : gs = gs.take j ++ [g] ++ gs.drop (j + 1) := by rw [← take_snoc hg, List.take_append_drop]
  have ll : (srow fo (gs.take j) r).length = r.length + j := by
    rw [srow_len, List.length_take]
    omega
  have e2 : srow fo gs r = srow fo (gs.drop (j + 1)) (srow fo (gs.take j) r ++ [gv fo (r.length + j) (bitv (srow fo (gs.take j) r) g.1 * bitv (srow fo (gs.take j) r) g.2)]) := by
    conv => lhs; rw [e1]
    rw [srow_pre, srow_snoc, ll]
  have low : ∀ x, x < r.length + j → (srow fo gs r)[x]? = (srow fo (gs.take j) r)[x]? := fun x hx => by
    rw [e2, srow_low _ _ _ (by rw [List.length_append, ll]; omega), List.getElem?_append_left (by rw [ll]; exact hx)]
  have lit : ∀ l, l < 2 * (r.length + j) → bitv (srow fo (gs.take j) r) l = bitv (srow fo gs r) l := fun l hl => by
    unfold bitv
    rw [low _ (by omega)]
  rw [← lit _ h1, ← lit _ h2]
  conv => lhs; rw [e2]
  rw [srow_low _ _ _ (by rw [List.length_append, ll]; exact Nat.lt_succ_self _), List.getElem?_append_right (by rw [ll]; exact Nat.le_refl _), ll, Nat.sub_self]
  rfl
/-- a node's value in a test -/
def tv (n : Net) (fo : Option (Nat × Nat)) (ts : List Test) (x k : Nat) : Nat := ((ts[k]?.map (stuck n fo)).getD [])[x]?.getD 0
def litv (n : Net) (fo : Option (Nat × Nat)) (ts : List Test) (l k : Nat) : Nat := bitv ((ts[k]?.map (stuck n fo)).getD []) l
section
variable {n : Net} {fo : Option (Nat × Nat)} {ts : List Test}
theorem tv_at {k : Nat} {t : Test} (h : ts[k]? = some t) (x : Nat) : tv n fo ts x k = (stuck n fo t)[x]?.getD 0 := by
  unfold tv
  rw [h]
  rfl
theorem litv_at {k : Nat} {t : Test} (h : ts[k]? = some t) (l : Nat) : litv n fo ts l k = bitv (stuck n fo t) l := by
  unfold litv
  rw [h]
  rfl
theorem litv_eq (l k : Nat) : litv n fo ts l k = tv n fo ts (l / 2) k ^^^ (l % 2) := rfl
theorem tv_lt (hf : FBit fo) (ok : ∀ t ∈ ts, TestOk n t) (x : Nat) : ∀ k, k < ts.length → tv n fo ts x k < 2 := fun k hk => by
  have h := List.getElem?_eq_getElem hk
  rw [tv_at h]
  cases e : (stuck n fo ts[k])[x]? with
  | none => decide
  | some b => exact stuck_lt hf (ok _ (List.getElem_mem hk)) b (List.mem_of_getElem? e)
theorem litv_lt (hf : FBit fo) (ok : ∀ t ∈ ts, TestOk n t) (l : Nat) : ∀ k, k < ts.length → litv n fo ts l k < 2 := fun k hk => Nat.xor_lt_two_pow (n := 1) (tv_lt hf ok _ k hk) (Nat.mod_lt _ (by decide))
def cst (n : Net) (fo : Option (Nat × Nat)) (ts : List Test) (x : Nat) : Nat := colN ts.length (tv n fo ts x)
theorem col_congr {m : Nat} {f g : Nat → Nat} (h : ∀ k, k < m → f k = g k) : colN m f = colN m g := by
  unfold colN
  congr 1
  exact List.map_congr_left fun k hk => h k (List.mem_range.mp hk)
theorem col_zero (m : Nat) : colN m (fun _ => 0) = 0 := by
  induction m with
  | zero => rfl
  | succ m ih => rw [col_succ, ih]; simp
theorem col_ones (m : Nat) : colN m (fun _ => 1) = 2 ^ m - 1 := by
  induction m with
  | zero => rfl
  | succ m ih =>
    rw [col_succ, ih, Nat.pow_succ]
    have := Nat.two_pow_pos m
    omega
theorem colit_cst {F : List Nat} {l : Nat} (hf : FBit fo) (ok : ∀ t ∈ ts, TestOk n t) (h : F[l / 2]? = some (cst n fo ts (l / 2))) : colit (2 ^ ts.length - 1) F l = colN ts.length (litv n fo ts l) := by
  unfold colit
  rw [h]
  show cst n fo ts (l / 2) ^^^ _ = _
  unfold cst
  rw [col_xor (tv_lt hf ok _)]
  rfl
theorem gate_cst {F : List Nat} {a b : Nat} (hf : FBit fo) (ok : ∀ t ∈ ts, TestOk n t) (h1 : F[a / 2]? = some (cst n fo ts (a / 2))) (h2 : F[b / 2]? = some (cst n fo ts (b / 2))) :
    colit (2 ^ ts.length - 1) F a &&& colit (2 ^ ts.length - 1) F b = colN ts.length (fun k => litv n fo ts a k * litv n fo ts b k) := by
  rw [colit_cst hf ok h1, colit_cst hf ok h2, col_and (litv_lt hf ok a) (litv_lt hf ok b)]
/-- a gate's value -/
theorem tv_gate (ok : ∀ t ∈ ts, TestOk n t) {j : Nat} {g : Nat × Nat} (hg : n.gates[j]? = some g) (h1 : g.1 < 2 * (n.base + j)) (h2 : g.2 < 2 * (n.base + j)) {k : Nat} (hk : k < ts.length) :
    tv n fo ts (n.base + j) k = gv fo (n.base + j) (litv n fo ts g.1 k * litv n fo ts g.2 k) := by
  have h := List.getElem?_eq_getElem hk
  have tok := ok _ (List.getElem_mem hk)
  have lo : (overTo fo (row0 ts[k]).length (row0 ts[k])).length = n.base := by rw [over_len, row0_len tok]
  rw [tv_at h, litv_at h, litv_at h]
  have e := srow_gate (fo := fo) (r := overTo fo (row0 ts[k]).length (row0 ts[k])) hg (by rw [lo]; exact h1) (by rw [lo]; exact h2)
  rw [lo] at e
  show (srow fo n.gates (overTo fo (row0 ts[k]).length (row0 ts[k])))[n.base + j]?.getD 0 = _
  rw [e]
  rfl
theorem tv_low (ok : ∀ t ∈ ts, TestOk n t) {x : Nat} (hx : x < n.base) {k : Nat} (hk : k < ts.length) : tv n fo ts x k = (overTo fo (row0 ts[k]).length (row0 ts[k]))[x]?.getD 0 := by
  have h := List.getElem?_eq_getElem hk
  have tok := ok _ (List.getElem_mem hk)
  rw [tv_at h]
  unfold stuck
  rw [srow_low _ _ _ (by rw [over_len, row0_len tok]; exact hx)]
theorem sound_at (ok : ∀ t ∈ ts, TestOk n t) (hgb : ∀ j g, n.gates[j]? = some g → g.1 < 2 * (n.base + j) ∧ g.2 < 2 * (n.base + j)) : ∀ j, j ≤ n.gates.length → ∀ x, x < n.base + j → (wgs (2 ^ ts.length - 1) (n.gates.take j) (0 :: (List.range (n.base - 1)).map (rowcol (inRows ts))))[x]? = some (cst n none ts x) := by
  have hf : FBit none := fun p e => by cases e
  intro j
  induction j with
  | zero =>
    intro _ x hx
    show (0 :: (List.range (n.base - 1)).map (rowcol (inRows ts)))[x]? = _
    cases x with
    | zero =>
      show some 0 = _
      congr 1
      unfold cst
      exact (col_zero ts.length).symm.trans (col_congr fun k hk => by rw [tv_low ok hx hk]; rfl)
    | succ x =>
      show ((List.range (n.base - 1)).map (rowcol (inRows ts)))[x]? = _
      rw [List.getElem?_map, List.getElem?_range (by omega)]
      show some (rowcol (inRows ts) x) = _
      congr 1
      unfold rowcol cst
      have li : (inRows ts).length = ts.length := List.length_map _
      rw [li]
      refine col_congr fun k hk => ?_
      rw [tv_low ok hx hk]
      unfold inRows
      rw [List.getElem?_map, List.getElem?_eq_getElem hk]
      rfl
  | succ j ih =>
    intro hj x hx
    have hg := List.getElem?_eq_getElem (show j < n.gates.length by omega)
    have hb := hgb j _ hg
    have ih := ih (by omega)
    have hb1 : 1 ≤ n.base := by unfold Net.base; omega
    rw [take_snoc hg, wgs_snoc]
    have lf : (wgs (2 ^ ts.length - 1) (n.gates.take j) (0 :: (List.range (n.base - 1)).map (rowcol (inRows ts)))).length = n.base + j := by
      rw [wgs_len, List.length_take, List.length_cons, List.length_map, List.length_range]
      omega
    by_cases e : x < n.base + j
    · rw [List.getElem?_append_left (by omega)]
      exact ih x e
    · have e2 : x = n.base + j := by omega
      rw [List.getElem?_append_right (by omega), lf, e2, Nat.sub_self]
      show some _ = _
      congr 1
      rw [gate_cst hf ok (ih _ (by omega)) (ih _ (by omega))]
      exact col_congr fun k hk => (tv_gate (fo := none) ok hg hb.1 hb.2 hk).symm
theorem sound_len (n : Net) (ts : List Test) : (sound n ts).length = n.many := by
  unfold sound Net.many Net.base
  rw [wgs_len, List.length_cons, List.length_map, List.length_range]
  omega
theorem sound_get (ok : ∀ t ∈ ts, TestOk n t) (hgb : ∀ j g, n.gates[j]? = some g → g.1 < 2 * (n.base + j) ∧ g.2 < 2 * (n.base + j)) {x : Nat} (hx : x < n.many) : (sound n ts)[x]? = some (cst n none ts x) := by
  have h := sound_at ok hgb n.gates.length (Nat.le_refl _) x hx
  rw [List.take_length] at h
  exact h
theorem sound_eqs (ok : ∀ t ∈ ts, TestOk n t) (hgb : ∀ j g, n.gates[j]? = some g → g.1 < 2 * (n.base + j) ∧ g.2 < 2 * (n.base + j)) (j : Nat) (g : Nat × Nat) (hg : n.gates[j]? = some g) :
    (sound n ts)[n.base + j]? = some (colit (2 ^ ts.length - 1) (sound n ts) g.1 &&& colit (2 ^ ts.length - 1) (sound n ts) g.2) := by
  have hf : FBit none := fun p e => by cases e
  have hj := (List.getElem?_eq_some_iff.mp hg).1
  have hb := hgb j g hg
  have hm : n.many = n.base + n.gates.length := rfl
  rw [gate_cst hf ok (sound_get ok hgb (by omega)) (sound_get ok hgb (by omega)), sound_get ok hgb (by omega)]
  congr 1
  exact col_congr fun k hk => tv_gate ok hg hb.1 hb.2 hk
theorem faulty_get {x b : Nat} {F : List Nat} (hb2 : b < 2) (ok : ∀ t ∈ ts, TestOk n t) (hgb : ∀ j g, n.gates[j]? = some g → g.1 < 2 * (n.base + j) ∧ g.2 < 2 * (n.base + j)) (h : FOk n (2 ^ ts.length - 1) (sound n ts) x b F) (hx : x < n.many) :
    ∀ y, y < n.many → F[y]? = some (cst n (some (x, b)) ts y) := by
  have hf : FBit (some (x, b)) := fun p e => by cases e; exact hb2
  have hm : n.many = n.base + n.gates.length := rfl
  intro y
  induction y using Nat.strongRecOn with
  | ind y ih =>
    intro hy
    by_cases e : y = x
    · subst e
      rw [h.at_]
      congr 1
      have : (if b = 1 then 2 ^ ts.length - 1 else 0) = colN ts.length (fun _ => b) := by
        have : b = 0 ∨ b = 1 := by omega
        rcases this with rfl | rfl
        · rw [if_neg (by decide), col_zero]
        · rw [if_pos rfl, col_ones]
      rw [this]
      refine col_congr fun k hk => ?_
      by_cases hlo : y < n.base
      · have lr := row0_len (ok _ (List.getElem_mem hk))
        rw [tv_low ok hlo hk]
        unfold overTo
        simp only
        rw [if_pos (by omega), List.getElem?_set_self (by omega)]
        rfl
      · have hg := List.getElem?_eq_getElem (show y - n.base < n.gates.length by omega)
        have hb := hgb _ _ hg
        have e2 : y = n.base + (y - n.base) := by omega
        rw [e2, tv_gate ok hg hb.1 hb.2 hk]
        unfold gv
        simp only
        rw [if_pos trivial]
    · by_cases hlo : y < n.base
      · rw [h.low y e hlo, sound_get ok hgb hy]
        congr 1
        refine col_congr fun k hk => ?_
        rw [tv_low ok hlo hk, tv_low ok hlo hk]
        unfold overTo
        simp only
        split
        · rw [List.getElem?_set_ne (Ne.symm e)]
        · rfl
      · have hg := List.getElem?_eq_getElem (show y - n.base < n.gates.length by omega)
        have hb := hgb _ _ hg
        have e2 : n.base + (y - n.base) = y := by omega
        have hgt := h.gate _ _ hg (by omega)
        rw [e2] at hgt
        rw [hgt, gate_cst hf ok (ih _ (by omega) (by omega)) (ih _ (by omega) (by omega))]
        congr 1
        refine col_congr fun k hk => ?_
        have ht := tv_gate (fo := some (x, b)) ok hg hb.1 hb.2 hk
        rw [e2] at ht
        rw [ht]
        unfold gv
        simp only
        rw [if_neg (fun z => e z.symm)]
end
/-- what agrees with all sights -/
def Agree (n : Net) (ss : List Sight) (fo : Option (Nat × Nat)) : Prop := ∀ s ∈ ss, ansOf n fo s.1 = s.2
instance (n : Net) (ss : List Sight) (fo : Option (Nat × Nat)) : Decidable (Agree n ss fo) := by
  unfold Agree
  infer_instance
theorem col_inj {m : Nat} {f g : Nat → Nat} (hf : ∀ i, i < m → f i < 2) (hg : ∀ i, i < m → g i < 2) (e : colN m f = colN m g) : ∀ i, i < m → f i = g i := by
  intro i hi
  have h1 := col_testBit hf i
  have h2 := col_testBit hg i
  rw [e, h2, decide_eq_true hi, Bool.true_and, Bool.true_and] at h1
  have a := hf i hi
  have b := hg i hi
  have e1 : f i = 0 ∨ f i = 1 := by omega
  have e2 : g i = 0 ∨ g i = 1 := by omega
  rcases e1 with e1 | e1 <;> rcases e2 with e2 | e2 <;> rw [e1, e2] at h1 ⊢ <;> simp at h1
theorem agree_cols {n : Net} {fo : Option (Nat × Nat)} {ss : List Sight} {F : List Nat} (hf : FBit fo) (ok : ∀ s ∈ ss, SightOk n s) (hnx : ∀ x ∈ n.nexts, x < 2 * n.many) (hox : ∀ x ∈ n.outs, x < 2 * n.many) (hF : ∀ y, y < n.many → F[y]? = some (cst n fo (ss.map (·.1)) y)) :
    decide ((n.outs ++ n.nexts).map (colit (2 ^ ss.length - 1) F) = (List.range (n.outs.length + n.nexts.length)).map (seen ss ss.length)) = decide (Agree n ss fo) := by
  have okt : ∀ t ∈ ss.map (·.1), TestOk n t := fun t ht => by
    obtain ⟨s, hs, rfl⟩ := List.mem_map.mp ht
    exact (ok s hs).t
  have lm : (ss.map (·.1)).length = ss.length := List.length_map _
  have hx : ∀ l ∈ n.outs ++ n.nexts, l < 2 * n.many := fun l hl => by
    rcases List.mem_append.mp hl with hl | hl
    · exact hox l hl
    · exact hnx l hl
  have lit : ∀ l ∈ n.outs ++ n.nexts, colit (2 ^ ss.length - 1) F l = colN ss.length (litv n fo (ss.map (·.1)) l) := fun l hl => by
    have := hx l hl
    have h := colit_cst (l := l) hf okt (hF (l / 2) (by omega))
    rw [lm] at h
    exact h
  have lto : ∀ s ∈ ss, (told s).length = n.outs.length + n.nexts.length := fun s hs => by
    unfold told
    rw [List.length_append, (ok s hs).ol, (ok s hs).nl]
  refine decide_eq_decide.mpr ⟨fun e s hs => ?_, fun ag => ?_⟩
  · obtain ⟨k, hk, es⟩ := List.getElem_of_mem hs
    have hsk : ss[k]? = some s := by rw [List.getElem?_eq_getElem hk, es]
    have htk : (ss.map (·.1))[k]? = some s.1 := by rw [List.getElem?_map, hsk]; rfl
    have all : (n.outs ++ n.nexts).map (bitv (stuck n fo s.1)) = told s := by
      apply List.ext_getElem?
      intro i
      by_cases hi : i < n.outs.length + n.nexts.length
      · have hil : i < (n.outs ++ n.nexts).length := by rw [List.length_append]; exact hi
        have hl := List.getElem?_eq_getElem hil
        have hlm := List.getElem_mem hil
        have e1 := congrArg (fun l => l[i]?) e
        simp only [List.getElem?_map, hl, List.getElem?_range hi, Option.map_some] at e1
        have e1 := Option.some.inj e1
        rw [lit _ hlm] at e1
        unfold seen at e1
        have l2 : ∀ z, z < ss.length → litv n fo (ss.map (·.1)) (n.outs ++ n.nexts)[i] z < 2 := fun z hz => litv_lt hf okt _ z (by rw [lm]; exact hz)
        have e2 := col_inj l2 (fun z hz => by
          rw [List.getElem?_eq_getElem hz]
          obtain ⟨b, hb, hb2⟩ := told_get (ok _ (List.getElem_mem hz)) hi
          show ((told ss[z])[i]?.getD 0) < 2
          rw [hb]
          exact hb2) e1 k hk
        rw [litv_at htk, hsk] at e2
        obtain ⟨b, hb, _⟩ := told_get (ok s hs) hi
        rw [List.getElem?_map, hl, hb]
        show some (bitv (stuck n fo s.1) _) = some b
        rw [e2]
        show some ((told s)[i]?.getD 0) = some b
        rw [hb]
        rfl
      · rw [List.getElem?_eq_none (by rw [List.length_map, List.length_append]; omega), List.getElem?_eq_none (by rw [lto s hs]; omega)]
    rw [List.map_append] at all
    unfold told at all
    obtain ⟨a1, a2⟩ := List.append_inj all (by rw [List.length_map, (ok s hs).ol])
    unfold ansOf
    rw [a1, a2]
  · apply List.ext_getElem?
    intro i
    by_cases hi : i < n.outs.length + n.nexts.length
    · have hil : i < (n.outs ++ n.nexts).length := by rw [List.length_append]; exact hi
      have hl := List.getElem?_eq_getElem hil
      rw [List.getElem?_map, hl, List.getElem?_map, List.getElem?_range hi]
      show some _ = some _
      rw [lit _ (List.getElem_mem hil)]
      congr 1
      unfold seen
      refine col_congr fun k hk => ?_
      have hsk := List.getElem?_eq_getElem hk
      have htk : (ss.map (·.1))[k]? = some ss[k].1 := by rw [List.getElem?_map, hsk]; rfl
      rw [litv_at htk, hsk]
      have a := ag _ (List.getElem_mem hk)
      show _ = (told ss[k])[i]?.getD 0
      have et : told ss[k] = (n.outs ++ n.nexts).map (bitv (stuck n fo ss[k].1)) := by
        unfold told
        rw [← a, List.map_append]
        rfl
      rw [et, List.getElem?_map, hl]
      rfl
    · rw [List.getElem?_eq_none (by rw [List.length_map, List.length_append]; omega), List.getElem?_eq_none (by rw [List.length_map, List.length_range]; omega)]
def cands (n : Net) : List (Option (Nat × Nat)) := none :: (faultsOf (n.many - 1)).map some
def due (n : Net) (ss : List Sight) : List (Option (Nat × Nat)) := (cands n).filter fun fo => decide (Agree n ss fo)
structure NetOk (n : Net) : Prop where
  many : n.many ≤ 100
  wide : n.outs.length + n.nexts.length ≤ 100
  g : ∀ j g, n.gates[j]? = some g → g.1 < 2 * (n.base + j) ∧ g.2 < 2 * (n.base + j)
  nx : ∀ x ∈ n.nexts, x < 2 * n.many
  ox : ∀ x ∈ n.outs, x < 2 * n.many
def sp_agreeing (K : PySem.W.Frag) : Sp := fun vs H Q _ => ∃ (v u : V) (n : Net) (ss : List Sight), vs = [v, u] ∧ Dv H v n ∧ Dv H u ss ∧ ss.length ≤ 50 ∧ NetOk n ∧ (∀ s ∈ ss, SightOk n s) ∧
  ∀ H' r, Same H H' → H r = none → Dv H' (.ref r) (due n ss) → Q (.ref r) H'
theorem ok_agreeing {P : Program} {w : World} {K : PySem.W.Frag} {mg : Str → Option Value} {base : Heap} {f fsound_columns f_columns_seen ffaults fanswer_columns ffaulty_columns : Addr} {fd fdsound_columns fd_columns_seen fdfaults fdanswer_columns fdfaulty_columns : FuncData} (F : Fun K "agreeing" "agreeing" s_agreeing f fd) (T : Txt K mg)
    (G_sound_columns : FnOk P w K mg base CX0 3 fsound_columns fdsound_columns ["net", "tests"] (sp_sound_columns K)) (D_sound_columns : Def K mg "sound_columns" fsound_columns fdsound_columns ["net", "tests"])
    (G__columns_seen : FnOk P w K mg base CX0 1 f_columns_seen fd_columns_seen ["net", "sights"] (sp__columns_seen K)) (D__columns_seen : Def K mg "_columns_seen" f_columns_seen fd_columns_seen ["net", "sights"])
    (G_faults : FnOk P w K mg base CX0 3 ffaults fdfaults ["net"] (sp_faults K)) (D_faults : Def K mg "faults" ffaults fdfaults ["net"])
    (G_answer_columns : FnOk P w K mg base CX0 3 fanswer_columns fdanswer_columns ["net", "columns", "ones"] (sp_answer_columns K)) (D_answer_columns : Def K mg "answer_columns" fanswer_columns fdanswer_columns ["net", "columns", "ones"])
    (G_faulty_columns : FnOk P w K mg base CX0 2 ffaulty_columns fdfaulty_columns ["net", "columns", "fault", "ones"] (sp_faulty_columns K)) (D_faulty_columns : Def K mg "faulty_columns" ffaulty_columns fdfaulty_columns ["net", "columns", "fault", "ones"]) :
    FnOk P w K mg base CX0 4 f fd ["net", "sights"] (sp_agreeing K) := by
  refine F.ok scagreeing (fun vs H Q E h => ?_) (fun cdv A outer s H vs Q E hr h => ?_)
  · obtain ⟨v, u, n, ss, rfl, _⟩ := h
    rfl
  · obtain ⟨v, u, n, ss, rfl, hn, hss, hl, nok, hok, q⟩ := h
    obtain ⟨c, us, rfl, hc, hus⟩ := hss.list_inv
    have lus := hus.len
    have hmany := nok.many
    have hwide := nok.wide
    have lm : (ss.map (·.1)).length = ss.length := List.length_map _
    have okt : ∀ t ∈ ss.map (·.1), TestOk n t := fun t ht => by
      obtain ⟨s, hs, rfl⟩ := List.mem_map.mp ht
      exact (hok s hs).t
    refine ⟨_, (pss_cons (ps_set (i := 2) scagreeing.nd rfl (.inl rfl) (pe_call G_sound_columns (hr.mono (by omega)) (by rfl) D_sound_columns.m D_sound_columns.k D_sound_columns.b .nil pass0 (pa_cons (pv 0) (pa_cons (pe_lc (own := [("test", 7), ("_", 8)]) (g := gTup K 2 (gCons (gName 7) (gCons (gName 8) (gNil)))) (tt := tYes) rfl scagreeing.nd (pi_list (pv 1)) (blkOk_by (N := N_agreeing) (sc := defScope s_agreeing) (by decide +kernel)) (fun _ _ _ _ _ => (pg_tup (by rfl) (pgs_cons (pg_name (i := 7) scagreeing.nd rfl (Or.inl rfl)) (pgs_cons (pg_name (i := 8) scagreeing.nd rfl (Or.inl rfl)) pgs_nil)))) (fun _ _ _ _ _ => pts_nil) (fun _ _ _ _ _ => (pv 7))) pa_nil))))
      (pss_cons (ps_set (i := 3) scagreeing.nd rfl (.inl rfl) (pe_op op_sub (pe_op op_shl pe_int (pe_callB call_len_seq (by rfl) T.m_len (by decide +kernel) (pa_cons (pv 1) pa_nil))) pe_int))
      (pss_cons (ps_set (i := 4) scagreeing.nd rfl (.inl rfl) (pe_call G__columns_seen (hr.mono (by omega)) (by rfl) D__columns_seen.m D__columns_seen.k D__columns_seen.b .nil pass0 (pa_cons (pv 0) (pa_cons (pv 1) pa_nil))))
      (pss_cons (ps_if (pt_cmpR op_isN (pv 4) pe_non (nomark _)) (pss_one (ps_ret (pe_lst pa_nil))) pss_nil)
      (pss_cons (ps_set (i := 5) scagreeing.nd rfl (.inl rfl) (pe_ifExp (pt_cmpR (op_eqD hr.units) (pe_call G_answer_columns (hr.mono (by omega)) (by rfl) D_answer_columns.m D_answer_columns.k D_answer_columns.b .nil pass0 (pa_cons (pv 0) (pa_cons (pv 2) (pa_cons (pv 3) pa_nil)))) (pv 4) (nomark _)) (pe_lst (pa_cons pe_non pa_nil)) (pe_lst pa_nil)))
      (pss_cons (ps_for PassesOwn.never rfl (pi_list (pe_call G_faults (hr.mono (by omega)) (by rfl) D_faults.m D_faults.k D_faults.b .nil pass0 (pa_cons (pv 0) pa_nil))) (pg_name (i := 6) scagreeing.nd rfl (Or.inl rfl)) (pss_one (ps_if (pt_cmpR (op_eqD hr.units) (pe_call G_answer_columns (hr.mono (by omega)) (by rfl) D_answer_columns.m D_answer_columns.k D_answer_columns.b .nil pass0 (pa_cons (pv 0) (pa_cons (pe_call G_faulty_columns (hr.mono (by omega)) (by rfl) D_faulty_columns.m D_faulty_columns.k D_faulty_columns.b .nil pass0 (pa_cons (pv 0) (pa_cons (pv 2) (pa_cons (pv 6) (pa_cons (pv 3) pa_nil))))) (pa_cons (pv 3) pa_nil)))) (pv 4) (nomark _)) (pss_one (ps_expr (pe_bm PySem.F.plainAttrs_list PySem.F.slot_list_append PySem.F.type_list_append mt_append (pv 5) (pa_cons (pv 6) pa_nil)))) pss_nil)))
      (pss_one (ps_ret (pv 5))))))))), ?_⟩
    -- columns
    refine ⟨_, rfl, _, rfl, c, rfl, ⟨_, SqL.of hc⟩, fun D1 nD1 => lc_list (xs := us) (fun j Hz => ∃ ws, Same H Hz ∧ Hz D1 = some (.lst ws) ∧ Dvs (hid D1 Hz) ws ((ss.map (·.1)).take j)) ⟨[], same_new nD1, upd_same, .nil⟩ (fun j Hz _ h => by obtain ⟨_, s', _⟩ := h; exact SqL.of (s' _ _ hc)) ?_ ?_⟩
    · rintro j x Hz hx ⟨ws, sz, hD, hws⟩
      obtain ⟨sg, hsg, hd⟩ := hus.at hx
      obtain ⟨t, u1, u2, rfl, ht, hd1, hd2⟩ := hd.pair_inv
      have hj : j < ss.length := (List.getElem?_eq_some_iff.mp hsg).1
      have hHD : Same H (hid D1 Hz) := fun b o e => hid_of (ne_of_none e nD1) (sz _ _ e)
      refine ⟨t, _, rfl, SqT.of (sz _ _ ht), rfl, _, _, rfl, _, _, rfl, rfl, rfl, _, rfl, ws, hD, ?_, ws ++ [u1], same_mut sz nD1, upd_same, ?_⟩
      · rw [hws.len, List.length_take, lm]
        exact small64k (by omega)
      · have hm : (ss.map (·.1))[j]? = some sg.1 := by rw [List.getElem?_map, hsg]; rfl
        rw [take_snoc hm]
        exact (hws.same hid_mut).app (.cons ((hd1.same hHD).same hid_mut) .nil)
    rintro H1 ⟨ws, s1, hD1, hws⟩
    rw [lus, ← lm, List.take_length] at hws
    have dts : Dv H1 (.ref D1) (ss.map (·.1)) := .list hD1 (hws.same (hid_same _ _))
    refine ⟨v, .ref D1, n, ss.map (·.1), rfl, hn.same s1, dts, by omega, by omega, nok.g, okt, fun H2 C s2 nC hC => ?_⟩
    have s02 := s1.trans s2
    -- ones
    refine ⟨_, rfl, c, _, rfl, .inl (SqL.of (s02 _ _ hc)), _, _, rfl, rfl, by rw [lus]; exact cpow2 (x := 1) (by omega) (by decide), _, _, rfl, rfl, ?_⟩
    obtain ⟨o, ho⟩ : ∃ o, o = 2 ^ ss.length - 1 := ⟨_, rfl⟩
    have eo : V.int ((1 : Int) * 2 ^ (((us.length : Nat) : Int)).toNat - 1) = V.int ((o : Nat) : Int) := by
      rw [shl_one, lus, ho]
      have := Nat.two_pow_pos ss.length
      rw [show ((2 ^ ss.length : Nat) : Int) - 1 = ((2 ^ ss.length - 1 : Nat) : Int) by omega]
    simp only [eo]
    -- wanted
    refine ⟨_, rfl, _, rfl, v, .ref c, n, ss, rfl, hn.same s02, hss.same s02, by omega, by omega, hok, fun H3 W s3 nW hW => ?_⟩
    have s03 := s02.trans s3
    have hC3 := s3 _ _ hC
    refine ⟨_, rfl, rfl, _, rfl, ?_⟩
    rw [decide_eq_false (by intro z; cases z)]
    refine iteF ?_
    have hlo : ∀ (F : List Nat), F.length = n.many → ∀ l ∈ n.outs ++ n.nexts, l / 2 < F.length := fun F hF l hl => by
      have : l < 2 * n.many := by
        rcases List.mem_append.mp hl with h | h
        · exact nok.ox l h
        · exact nok.nx l h
      omega
    have hfn : FBit none := fun p e => by cases e
    have ag0 := agree_cols hfn hok nok.nx nok.ox (fun y hy => sound_get okt nok.g hy)
    rw [← ho] at ag0
    -- found
    refine ⟨_, rfl, _, rfl, _, rfl, v, n, C, sound n (ss.map (·.1)), o, rfl, hn.same s03, hC3, hlo _ (sound_len n _), by rw [List.length_append]; omega, fun H4 R s4 nR hR => ⟨_, rfl, eqD (.natl hR) (.natl (s4 _ _ hW)) (by decide) ?_⟩⟩
    rw [ag0]
    refine ⟨_, rfl, ?_⟩
    have s04 := s03.trans s4
    refine ifx (fun v Hx => ∃ D fs, v = .ref D ∧ Same H4 Hx ∧ H4 D = none ∧ Hx D = some (.lst fs) ∧ Dvs (hid D Hx) fs ([none].filter fun fo => decide (Agree n ss fo))) (fun e Q hQ => ⟨by show 1 ≤ sizeLine; decide, fun D nD => hQ _ _ ⟨D, _, rfl, same_new nD, nD, upd_same, ?_⟩⟩) (fun e Q hQ => ⟨by show 0 ≤ sizeLine; decide, fun D nD => hQ _ _ ⟨D, _, rfl, same_new nD, nD, upd_same, ?_⟩⟩) ?_
    · rw [show ([none].filter fun fo => decide (Agree n ss fo)) = [none] by simp [of_decide_eq_true e]]
      exact .cons .non .nil
    · rw [show ([none].filter fun fo => decide (Agree n ss fo)) = [] by simp [of_decide_eq_false e]]
      exact .nil
    rintro _ H5 ⟨D, fs, rfl, s5, nD, hD5, hfs⟩
    have s05 := s04.trans s5
    have nD0 : H D = none := none_of s04 nD
    -- the faults
    refine ⟨_, rfl, v, n, rfl, hn.same s05, by omega, fun H6 A s6 nA dA => ?_⟩
    obtain ⟨_, as, e, hA, hasf⟩ := dA.list_inv
    cases e
    have hA6 := (fresh_some hA).2
    have hasD : Dvs (hid D H6) as (faultsOf (n.many - 1)) := hasf.same (fresh_hid hD5)
    have nAD : A ≠ D := fun e => by rw [e, hD5] at nA; cases nA
    have las := hasf.len
    rw [faults_len] at las
    have s36 := (s4.trans s5).trans s6
    have s06 := s05.trans s6
    have hfs6 : Dvs (hid D H6) fs ([none].filter fun fo => decide (Agree n ss fo)) := hfs.same (hid_mono s6)
    have k36 : Same H3 (hid D H6) := fun b u hb => hid_of (ne_of_none (s4 _ _ hb) nD) (s36 _ _ hb)
    have hn3 : Dv H3 v n := hn.same s03
    refine ⟨A, rfl, ⟨_, SqL.of hA6⟩, for_list (xs := as) (fun j σ Hx => ∃ (y6 : Option V) (fs : List V), σ = [some v, some (.ref c), some (.ref C), some (.int (o : Nat)), some (.ref W), some (.ref D), y6, none, none] ∧ Same (hid D H6) (hid D Hx) ∧ Hx D = some (.lst fs) ∧ Dvs (hid D Hx) fs ((none :: ((faultsOf (n.many - 1)).take j).map some).filter fun fo => decide (Agree n ss fo))) ⟨none, fs, rfl, Same.refl _, s6 _ _ hD5, hfs6⟩ (fun j σ Hx _ h => by obtain ⟨_, _, _, k, _⟩ := h; exact SqL.of (hid_some (k _ _ (hid_of nAD hA6))).2) ?_ ?_⟩
    · rintro j x σ Hx hx ⟨y6, fs, rfl, kx, hD, hfs⟩
      have up : ∀ {b : Addr} {u : HO}, H3 b = some u → Hx b = some u := fun h => (hid_some (kx _ _ (k36 _ _ h))).2
      obtain ⟨⟨fx, fb⟩, hf, hdx⟩ := hasD.at hx
      have hdx := hdx.same kx
      have fm := faults_mem (List.mem_of_getElem? hf)
      have hfx : fx < n.many := by have := fm.1; have := fm.2.1; show fx < n.many; have h1 : fx ≤ n.many - 1 := fm.2.1; have h2 : 1 ≤ fx := fm.1; omega
      have hfb : fb < 2 := fm.2.2
      have hn6 : Dv Hx v n := hn3.same (fun _ _ h => up h)
      refine ⟨_, rfl, _, rfl, _, rfl, _, rfl, _, rfl, v, x, n, C, sound n (ss.map (·.1)), fx, fb, o, rfl, hn6, up hC3, hdx.same (hid_same _ _), sound_len n _, by omega, hfx, nok.g, (by rw [ho, ← lm]; exact sound_eqs okt nok.g), fun H7 RF F s7 nRF hRF fok => ?_⟩
      have agf := agree_cols (fo := some (fx, fb)) (fun p e => by cases e; exact hfb) hok nok.nx nok.ox (faulty_get hfb okt nok.g (by rw [lm, ← ho]; exact fok) hfx)
      rw [← ho] at agf
      refine ⟨_, rfl, v, n, RF, F, o, rfl, hn6.same s7, hRF, hlo F (fok.len.trans (sound_len n _)), by rw [List.length_append]; omega, fun H8 R2 s8 nR2 hR2 => ⟨_, rfl, eqD (.natl hR2) (.natl (s8 _ _ (s7 _ _ (up hW)))) (by decide) ?_⟩⟩
      rw [agf]
      refine ⟨_, rfl, ?_⟩
      have s78 := s7.trans s8
      have hD8 := s78 _ _ hD
      have lfs := hfs.len
      have ltk : fs.length ≤ 1000 := by
        rw [lfs]
        refine Nat.le_trans (List.length_filter_le _ _) ?_
        rw [List.length_cons, List.length_map, List.length_take, faults_len]
        omega
      have nxt : (none :: ((faultsOf (n.many - 1)).take (j + 1)).map some) = (none :: ((faultsOf (n.many - 1)).take j).map some) ++ [some (fx, fb)] := by
        rw [take_snoc hf, List.map_append]
        rfl
      by_cases ag : Agree n ss (some (fx, fb))
      · rw [decide_eq_true ag]
        refine iteT ⟨_, rfl, .inl ⟨rfl, _, SqL.of hD8⟩, _, rfl, D, _, _, rfl, rfl, hD8, small64k (by omega), ?_⟩
        refine ⟨_, fs ++ [x], rfl, (kx.trans (hid_mono s78)).trans hid_mut, upd_same, ?_⟩
        rw [nxt, List.filter_append, show ([some (fx, fb)].filter fun fo => decide (Agree n ss fo)) = [some (fx, fb)] by simp [ag]]
        exact ((hfs.same (hid_mono s78)).same hid_mut).app (.cons (Dv.some_ ((hdx.same (hid_mono s78)).same hid_mut)) .nil)
      · rw [decide_eq_false ag]
        refine iteF ⟨_, fs, rfl, kx.trans (hid_mono s78), hD8, ?_⟩
        rw [nxt, List.filter_append, show ([some (fx, fb)].filter fun fo => decide (Agree n ss fo)) = [] by simp [ag], List.append_nil]
        exact hfs.same (hid_mono s78)
    · rintro σ Hx ⟨y6, fs, rfl, kx, hD, hfs⟩
      rw [las, ← faults_len, List.take_length] at hfs
      refine ⟨_, rfl, q _ D (fun b u hb => (hid_some (kx _ _ (hid_of (ne_of_none hb nD0) (s06 _ _ hb)))).2) nD0 (.list hD (hfs.same (hid_same _ _)))⟩

end K69
namespace K69
open PySem PySem.Spec PyProof.Rows L2 V0
set_option synthInstance.maxSize 100000
/-! ### the law -/
/-- the heap while sights are drawn -/
structure LS (p c S : Addr) (H0 H : Hp) : Prop where
  dw : Dw H p c
  k : Same (hid S (hid p H0)) (hid S (hid p H))
theorem LS.same {p c S : Addr} {H0 H H' : Hp} (h : LS p c S H0 H) (s : Same H H') : LS p c S H0 H' := ⟨h.dw.same s, h.k.trans (hid_mono (hid_mono s))⟩
theorem LS.go {p c S : Addr} {H0 H H' : Hp} (h : LS p c S H0 H) (g : Gw p c H H') : LS p c S H0 H' := ⟨g.b, h.k.trans (hid_mono g.s)⟩
theorem LS.put {p c S : Addr} {H0 H : Hp} {o : HO} (h : LS p c S H0 H) (np : S ≠ p) (nc : S ≠ c) : LS p c S H0 (upd H S o) := by
  obtain ⟨n, xs, i, b, z, e1, e2, e3⟩ := h.dw
  exact ⟨⟨n, xs, i, b, z, by rw [upd_ne (Ne.symm np)]; exact e1, by rw [upd_ne (Ne.symm nc)]; exact e2, e3⟩, h.k.trans hid2_mut⟩
theorem LS.up {p c S : Addr} {H0 H : Hp} (h : LS p c S H0 H) : Same (hid S (hid p H0)) H := fun b o e => (hid_some (hid_some (h.k _ _ e)).2).2
theorem okd_due : ∀ xs : List (Option (Nat × Nat)), okDs (xs.map PySem.W.Datum.toD)
  | [] => by simp only [List.map_nil, okDs]
  | none :: xs => by
    rw [List.map_cons]
    simp only [okDs]
    refine ⟨?_, okd_due xs⟩
    show okD .none
    simp only [okD]
  | some p :: xs => by
    rw [List.map_cons]
    simp only [okDs]
    refine ⟨?_, okd_due xs⟩
    show okD (.tuple [.int p.1, .int p.2])
    simp only [okD, okDs, List.length_cons, List.length_nil, and_self, and_true]
    decide
theorem okd_list {xs : List (Option (Nat × Nat))} (h : xs.length ≤ 1000) : okD (PySem.W.Datum.toD xs) := by
  show okD (.list (xs.map PySem.W.Datum.toD))
  simp only [okD]
  exact ⟨by rw [List.length_map]; exact h, okd_due xs⟩
theorem ns_small {n : Net} {ss : List Sight} (h : WOk n 9) (hs : ∀ s ∈ ss, SightOk n s) (hl : ss.length ≤ 10) : ∃ m, m ≤ 2 ^ 20 ∧ Sm (PySem.W.Datum.toD (α := Net × List Sight) (n, ss)) m := by
  have h1 := h.ins
  have h2 := h.fl
  have h4 := h.most
  have h6 := h.nl
  have h8 := h.ol
  have hbe : n.base = 1 + n.ins + n.starts.length := rfl
  have hme : n.many = n.base + n.gates.length := rfl
  have hg : ∀ g ∈ n.gates, Sm (PySem.W.Datum.toD g) 82 := fun g hg => by
    obtain ⟨j, hj, e⟩ := List.getElem_of_mem hg
    have h := h.g j g (by rw [List.getElem?_eq_getElem hj, e])
    exact Sm.tup ((SmA.cons (Sm.nat (n := g.1) (by omega)) (SmA.cons (Sm.nat (n := g.2) (by omega)) SmA.nil)))
  have s0 : Sm (.str "net") 40 := ⟨by decide +kernel, by decide +kernel, by decide +kernel⟩
  have e1 := Sm.nat (n := n.ins) (by omega)
  have e2 := Sm.nats (xs := n.starts) fun x hx => by have := h.bits x hx; omega
  have e3 := Sm.of_list hg
  have e4 := Sm.nats (xs := n.nexts) fun x hx => by have := h.nx x hx; omega
  have e5 := Sm.nats (xs := n.outs) fun x hx => by have := h.ox x hx; omega
  have sn : Sm (PySem.W.Datum.toD n) _ := Sm.tup (SmA.cons s0 (SmA.cons e1 (SmA.cons e2 (SmA.cons e3 (SmA.cons e4 (SmA.cons e5 SmA.nil))))))
  have st : ∀ s ∈ ss, Sm (PySem.W.Datum.toD s) 2000 := fun s hm => by
    have o := hs s hm
    have l1 := o.t.sl
    have l2 := o.t.il
    have l3 := o.ol
    have l4 := o.nl
    have a1 := Sm.nats (xs := s.1.1) fun x hx => by have := o.t.sb x hx; omega
    have a2 := Sm.nats (xs := s.1.2) fun x hx => by have := o.t.ib x hx; omega
    have a3 := Sm.nats (xs := s.2.1) fun x hx => by have := o.ob x hx; omega
    have a4 := Sm.nats (xs := s.2.2) fun x hx => by have := o.nb x hx; omega
    exact (Sm.tup (SmA.cons (Sm.tup (SmA.cons a1 (SmA.cons a2 SmA.nil))) (SmA.cons (Sm.tup (SmA.cons a3 (SmA.cons a4 SmA.nil))) SmA.nil))).mono (by omega)
  refine ⟨_, ?_, Sm.tup (SmA.cons sn (SmA.cons (Sm.of_list (xs := ss) st) SmA.nil))⟩
  have : ss.length * (2000 + 1) ≤ 10 * 2001 := Nat.mul_le_mul_right _ hl
  omega
def sp_law (K : PySem.W.Frag) : Sp := fun vs H Q _ => ∃ (a : Addr) (ns : List Int), vs = [.ref a] ∧ SqL K H a (ns.map V.int) ∧ ns.length ≤ 63 ∧ ∀ H', Q (.bl true) H'
theorem ok_law {P : Program} {w : World} {K : PySem.W.Frag} {mg : Str → Option Value} {base : Heap} {f f_law_draws f_law_net f_law_all f_law_faults f_law_draw f_law_stuck f_law_same fagreeing : Addr} {fd fd_law_draws fd_law_net fd_law_all fd_law_faults fd_law_draw fd_law_stuck fd_law_same fdagreeing : FuncData} (F : Fun K "law" "law" s_law f fd) (T : Txt K mg)
    (G__law_draws : FnOk P w K mg base CX0 1 f_law_draws fd_law_draws ["script"] (sp__law_draws K)) (D__law_draws : Def K mg "_law_draws" f_law_draws fd_law_draws ["script"])
    (G__law_net : FnOk P w K mg base CX0 2 f_law_net fd_law_net ["draws", "most"] (sp__law_net K)) (D__law_net : Def K mg "_law_net" f_law_net fd_law_net ["draws", "most"])
    (G__law_all : FnOk P w K mg base CX0 1 f_law_all fd_law_all ["net"] (sp__law_all K)) (D__law_all : Def K mg "_law_all" f_law_all fd_law_all ["net"])
    (G__law_faults : FnOk P w K mg base CX0 1 f_law_faults fd_law_faults ["net"] (sp__law_faults K)) (D__law_faults : Def K mg "_law_faults" f_law_faults fd_law_faults ["net"])
    (G__law_draw : FnOk P w K mg base CX0 1 f_law_draw fd_law_draw ["draws", "limit"] (sp__law_draw K)) (D__law_draw : Def K mg "_law_draw" f_law_draw fd_law_draw ["draws", "limit"])
    (G__law_stuck : FnOk P w K mg base CX0 1 f_law_stuck fd_law_stuck ["net", "fault", "state", "bits"] (sp__law_stuck K)) (D__law_stuck : Def K mg "_law_stuck" f_law_stuck fd_law_stuck ["net", "fault", "state", "bits"])
    (G__law_same : FnOk P w K mg base CX0 30 f_law_same fd_law_same ["actual", "expected"] (sp__law_same K)) (D__law_same : Def K mg "_law_same" f_law_same fd_law_same ["actual", "expected"])
    (G_agreeing : FnOk P w K mg base CX0 4 fagreeing fdagreeing ["net", "sights"] (sp_agreeing K)) (D_agreeing : Def K mg "agreeing" fagreeing fdagreeing ["net", "sights"]) :
    LawOk P w K mg base f fd ["script"] (sp_law K) := by
  refine lawOk F sclaw (k := 31) ⟨rfl, by decide, by decide⟩ (fun vs H Q E h => ?_) (fun cdv A outer s H vs Q E hr hgd h => ?_)
  · obtain ⟨a, ns, rfl, _⟩ := h
    rfl
  · obtain ⟨a, ns, rfl, hSc, hl, q⟩ := h
    refine ⟨_, (pss_cons (ps_set (i := 1) sclaw.nd rfl (.inl rfl) (pe_call G__law_draws (hr.mono (by omega)) (by rfl) D__law_draws.m D__law_draws.k D__law_draws.b .nil pass0 (pa_cons (pv 0) pa_nil)))
      (pss_cons (ps_set (i := 2) sclaw.nd rfl (.inr rfl) (pe_call G__law_net (hr.mono (by omega)) (by rfl) D__law_net.m D__law_net.k D__law_net.b .nil pass0 (pa_cons (pv 1) (pa_cons pe_int pa_nil))))
      (pss_cons (ps_set (i := 3) sclaw.nd rfl (.inl rfl) (pe_call G__law_all (hr.mono (by omega)) (by rfl) D__law_all.m D__law_all.k D__law_all.b .nil pass0 (pa_cons (pv 2) pa_nil)))
      (pss_cons (ps_set (i := 4) sclaw.nd rfl (.inl rfl) (pe_op op_cat (pe_lst (pa_cons pe_non pa_nil)) (pe_call G__law_faults (hr.mono (by omega)) (by rfl) D__law_faults.m D__law_faults.k D__law_faults.b .nil pass0 (pa_cons (pv 2) pa_nil))))
      (pss_cons (ps_set (i := 5) sclaw.nd rfl (.inl rfl) (pe_ifExp (pt_cmpR op_gt (pe_call G__law_draw (hr.mono (by omega)) (by rfl) D__law_draw.m D__law_draw.k D__law_draw.b .nil pass0 (pa_cons (pv 1) (pa_cons pe_int pa_nil))) pe_int (nomark _)) (pe_ix (r := rIxL K) ix_list (pv 4) (pe_call G__law_draw (hr.mono (by omega)) (by rfl) D__law_draw.m D__law_draw.k D__law_draw.b .nil pass0 (pa_cons (pv 1) (pa_cons (pe_callB call_len_seq (by rfl) T.m_len (by decide +kernel) (pa_cons (pv 4) pa_nil)) pa_nil))) (fun _ _ => rfl)) pe_non))
      (pss_cons (ps_set (i := 6) sclaw.nd rfl (.inl rfl) (pe_lst pa_nil))
      (pss_cons (ps_for PassesOwn.never rfl (pi_range1 rfl T.m_range (pa_cons (pe_call G__law_draw (hr.mono (by omega)) (by rfl) D__law_draw.m D__law_draw.k D__law_draw.b .nil pass0 (pa_cons (pv 1) (pa_cons pe_int pa_nil))) pa_nil)) (pg_name (i := 7) sclaw.nd rfl (Or.inl rfl)) (pss_cons (ps_asg (pe_ix (r := rIxL K) ix_list (pv 3) (pe_call G__law_draw (hr.mono (by omega)) (by rfl) D__law_draw.m D__law_draw.k D__law_draw.b .nil pass0 (pa_cons (pv 1) (pa_cons (pe_callB call_len_seq (by rfl) T.m_len (by decide +kernel) (pa_cons (pv 3) pa_nil)) pa_nil))) (fun _ _ => rfl)) (pg_tup (by rfl) (pgs_cons (pg_name (i := 8) sclaw.nd rfl (Or.inl rfl)) (pgs_cons (pg_name (i := 9) sclaw.nd rfl (Or.inl rfl)) pgs_nil))))
      (pss_cons (ps_asg (pe_call G__law_stuck (hr.mono (by omega)) (by rfl) D__law_stuck.m D__law_stuck.k D__law_stuck.b .nil pass0 (pa_cons (pv 2) (pa_cons (pv 5) (pa_cons (pv 8) (pa_cons (pv 9) pa_nil))))) (pg_tup (by rfl) (pgs_cons (pg_name (i := 10) sclaw.nd rfl (Or.inl rfl)) (pgs_cons (pg_name (i := 11) sclaw.nd rfl (Or.inl rfl)) pgs_nil))))
      (C8.pss_cut (ps_if (PW.pt (pw_and (pt_cmpR op_eq (pe_call G__law_draw (hr.mono (by omega)) (by rfl) D__law_draw.m D__law_draw.k D__law_draw.b .nil pass0 (pa_cons (pv 1) (pa_cons pe_int pa_nil))) pe_int (nomark _)) (pw_and1 (pt_cmpR op_gt (pe_callB call_len_seq (by rfl) T.m_len (by decide +kernel) (pa_cons (pv 10) pa_nil)) pe_int (nomark _))))) (pss_one (ps_set (i := 10) sclaw.nd rfl (.inl rfl) (pe_op op_cat (pe_lst (pa_cons (pe_op op_sub pe_int (pe_ix (r := rIxL K) ix_list (pv 10) pe_int (fun _ _ => rfl))) pa_nil)) (pe_slice sl_list (pv 10) (po_some pe_int) po_none)))) pss_nil)
      (pss_one (ps_expr (pe_bm PySem.F.plainAttrs_list PySem.F.slot_list_append PySem.F.type_list_append mt_append (pv 6) (pa_cons (pe_tup (pa_cons (pe_tup (pa_cons (pv 8) (pa_cons (pv 9) pa_nil))) (pa_cons (pe_tup (pa_cons (pv 10) (pa_cons (pv 11) pa_nil))) pa_nil))) pa_nil))))))))
      (pss_cons (ps_set (i := 12) sclaw.nd rfl (.inl rfl) (pe_callB (r := rRepr K) (call_reprD hgd hr.units) (by rfl) T.m_repr (by decide +kernel) (pa_cons (pe_tup (pa_cons (pv 2) (pa_cons (pv 6) pa_nil))) pa_nil)))
      (pss_cons (ps_set (i := 13) sclaw.nd rfl (.inl rfl) (pe_lst pa_nil))
      (pss_cons (ps_for PassesOwn.never rfl (pi_list (pv 4)) (pg_name (i := 14) sclaw.nd rfl (Or.inr rfl)) (pss_one (ps_if (pt_cmpR op_eq (pe_callB call_len_seq (by rfl) T.m_len (by decide +kernel) (pa_cons (pe_lc (own := [("test", 15), ("seen", 16)]) (g := gTup K 2 (gCons (gName 15) (gCons (gName 16) (gNil)))) rfl sclaw.nd (pi_list (pv 6)) (blkOk_by (N := N_law) (sc := defScope s_law) (by decide +kernel)) (fun _ _ _ _ _ => (pg_tup (by rfl) (pgs_cons (pg_name (i := 15) sclaw.nd rfl (Or.inl rfl)) (pgs_cons (pg_name (i := 16) sclaw.nd rfl (Or.inl rfl)) pgs_nil)))) (fun _ _ _ _ _ => (pts_one (pt_cmpR (r := rNeD K) (op_neD hr.units) (pe_call G__law_stuck (hr.mono (by omega)) (by rfl) D__law_stuck.m D__law_stuck.k D__law_stuck.b .nil pass0 (pa_cons (pv 2) (pa_cons (pv 14) (pa_cons (pe_ix (r := rIxT K) ix_tup (pv 15) pe_int (fun _ _ => rfl)) (pa_cons (pe_ix (r := rIxT K) ix_tup (pv 15) pe_int (fun _ _ => rfl)) pa_nil))))) (pv 16) (nomark _)))) (fun _ _ _ _ _ => (pv 15))) pa_nil)) pe_int (nomark _)) (pss_one (ps_expr (pe_bm PySem.F.plainAttrs_list PySem.F.slot_list_append PySem.F.type_list_append mt_append (pv 13) (pa_cons (pv 14) pa_nil)))) pss_nil)))
      (pss_one (ps_ret (pe_and (pe_call G__law_same (hr.mono (by omega)) (by rfl) D__law_same.m D__law_same.k D__law_same.b .nil pass0 (pa_cons (pe_call G_agreeing (hr.mono (by omega)) (by rfl) D_agreeing.m D_agreeing.k D_agreeing.b .nil pass0 (pa_cons (pv 2) (pa_cons (pv 6) pa_nil))) (pa_cons (pv 13) pa_nil))) (pe_one (pe_cmpR op_eq (pe_callB (r := rRepr K) (call_reprD hgd hr.units) (by rfl) T.m_repr (by decide +kernel) (pa_cons (pe_tup (pa_cons (pv 2) (pa_cons (pv 6) pa_nil))) pa_nil)) (pv 12) (nomark _)))))))))))))))), ?_⟩
    refine ⟨_, rfl, a, ns, rfl, hSc, hl, fun H1 p c s1 np dw1 => ?_⟩
    refine ⟨_, rfl, p, c, 9, rfl, dw1, by decide, fun H2 qn n g2 nqn dn2 wok => ?_⟩
    have hbe : n.base = 1 + n.ins + n.starts.length := rfl
    have hme : n.many = n.base + n.gates.length := rfl
    have w1 := wok.ins
    have w2 := wok.fl
    have w4 := wok.most
    have w6 := wok.nl
    have w8 := wok.ol
    have nok : NetOk n := ⟨by omega, by omega, wok.g, wok.nx, wok.ox⟩
    -- every
    refine ⟨_, rfl, .ref qn, n, rfl, dn2.hup, by omega, fun H3 E3 ts s3 nE dE lt0 lt1 okt => ?_⟩
    have dw3 := g2.b.same s3
    have dn3 := dn2.same (hid_mono s3)
    have dE3 : Dv (hid p H3) (.ref E3) ts := dE.same (fresh_hidp g2.b)
    -- rows
    refine ⟨by show 1 ≤ sizeLine; decide, fun L0 nL0 => ?_⟩
    have s4 := same_new (o := .lst [.non]) nL0
    have eL4 : (upd H3 L0 (.lst [.non])) L0 = some (.lst [.non]) := upd_same
    generalize (upd H3 L0 (.lst [.non])) = H4 at s4 eL4 ⊢
    refine ⟨_, rfl, .ref qn, n, rfl, (dn3.same (hid_mono s4)).hup, by omega, fun H5 FA s5 nFA dFA => ?_⟩
    obtain ⟨_, fs, e, hFA, hfs⟩ := dFA.list_inv
    cases e
    have lfs := hfs.len
    rw [faults_len] at lfs
    refine ⟨L0, FA, _, _, rfl, rfl, s5 _ _ eL4, (fresh_some hFA).2, ?_, fun R nR => ?_⟩
    · rw [lfs]
      exact Nat.le_of_lt (small64k (by show 1 + 2 * (n.many - 1) ≤ _; omega))
    have s6 := same_new (o := .lst ([V.non] ++ fs)) nR
    have dw4 := dw3.same s4
    have dw5 := dw4.same s5
    have oR := dw5.off nR
    have dR : Dv (hid p (upd H5 R (.lst ([V.non] ++ fs)))) (.ref R) (cands n) := .list (hid_of oR.1 upd_same) (.cons .non ((hfs.same (fresh_hidp dw4)).same (hid_mono s6)).somes)
    have dw6 := dw5.same s6
    have s36 := (s4.trans s5).trans s6
    have dn6 := dn3.same (hid_mono s36)
    have dE6 := dE3.same (hid_mono s36)
    generalize (upd H5 R (.lst ([V.non] ++ fs))) = H6 at dR dw6 dn6 dE6 ⊢
    clear dFA hFA hfs s6 s36 nR eL4 nL0 s5 s4
    obtain ⟨_, rs, e, hR6, hrs⟩ := dR.list_inv
    cases e
    have lrs : rs.length = 2 * (n.many - 1) + 1 := by
      rw [hrs.len]
      unfold cands
      rw [List.length_cons, List.length_map, faults_len]
    -- fault
    refine ⟨_, rfl, p, c, 4, rfl, dw6, by decide, by decide, fun H7 d1 g7 hd1 => ⟨_, _, rfl, rfl, _, rfl, ?_⟩⟩
    refine ifx (fun v Hx => ∃ fo, fo ∈ cands n ∧ Gw p c H6 Hx ∧ Dv (hid p Hx) v fo) (fun e Q hQ => ?_) (fun e Q hQ => hQ _ _ ⟨none, List.mem_cons_self, g7, .non⟩) ?_
    · refine ⟨_, rfl, _, rfl, _, rfl, R, _, rfl, .inl (SqL.of (g7.up hR6)), p, c, rs.length, rfl, g7.b, by omega, by omega, fun H8 d2 g8 hd2 => ?_⟩
      obtain ⟨fo, hfo, dfo⟩ := hrs.at (List.getElem?_eq_getElem hd2)
      have g68 := g7.trans g8
      exact ⟨R, _, _, _, rfl, rfl, SqL.of (g68.up hR6), atI_nat (List.getElem?_eq_getElem hd2), hQ _ _ ⟨fo, List.mem_of_getElem? hfo, g68, dfo.same g68.s⟩⟩
    rintro fv H8 ⟨fo, hfo, g8, dfo⟩
    have hfb : FBit fo := by
      intro p e
      subst e
      rcases List.mem_cons.mp hfo with h | h
      · cases h
      · obtain ⟨f, hf, e⟩ := List.mem_map.mp h
        cases e
        exact (faults_mem hf).2.2
    have dn8 := dn6.same g8.s
    have dE8 := dE6.same g8.s
    have dR8 := dR.same g8.s
    -- sights
    refine ⟨by show 0 ≤ sizeLine; decide, fun S nS => ?_⟩
    have oS := g8.b.off nS
    have s9 := same_new (o := .lst []) nS
    have k9 : Same (hid p H8) (hid S (hid p (upd H8 S (.lst [])))) := fun b o h => by
      obtain ⟨h1, h2⟩ := hid_some h
      have hb := ne_of_none h2 nS
      exact hid_of hb (hid_of h1 (s9 _ _ h2))
    have dw9 := g8.b.same s9
    have eS9 : (upd H8 S (.lst [])) S = some (.lst []) := upd_same
    have dn9 := dn8.same k9
    have dE9 := dE8.same k9
    have dR9 := dR8.same k9
    have df9 := dfo.same k9
    generalize (upd H8 S (.lst [])) = H9 at k9 dw9 eS9 dn9 dE9 dR9 df9 ⊢
    obtain ⟨_, es, e, hE9, hes⟩ := dE9.list_inv
    cases e
    have les := hes.len
    refine ⟨_, rfl, p, c, 6, rfl, dw9, by decide, by decide, fun H10 dk g10 hdk => ⟨_, rfl, by omega, by omega, for_range (n := dk) (fun i σ Hx => ∃ (y7 y8 y9 y10 y11 : Option V) (us : List V) (ss : List Sight), σ = [some (.ref a), some (.ref p), some (.ref qn), some (.ref E3), some (.ref R), some fv, some (.ref S), y7, y8, y9, y10, y11, none, none, none, none, none] ∧ LS p c S H9 Hx ∧ Hx S = some (.lst us) ∧ Dvs (hid S (hid p Hx)) us ss ∧ ss.length = i ∧ ∀ s ∈ ss, SightOk n s) ⟨none, none, none, none, none, [], [], rfl, ⟨g10.b, hid_mono g10.s⟩, g10.get oS.1 eS9, .nil, rfl, by simp⟩ ?_ ?_⟩⟩
    · rintro i σ Hx hi ⟨y7, y8, y9, y10, y11, us, ss, rfl, ls, hS, hus, lss, oks⟩
      have hfv := df9.same ls.k
      have upE := fun {b : Addr} {o : HO} (h : hid S (hid p H9) b = some o) => ls.up _ _ h
      refine ⟨_, rfl, _, rfl, _, rfl, E3, _, rfl, .inl (SqL.of (upE hE9)), p, c, es.length, rfl, ls.dw, by omega, by omega, fun Ha d1 ga hd1 => ?_⟩
      have la := ls.go ga
      obtain ⟨t, ht, dt⟩ := hes.at (List.getElem?_eq_getElem hd1)
      have tok := okt t (List.mem_of_getElem? ht)
      have dta := dt.same la.k
      refine ⟨E3, _, _, _, rfl, rfl, SqL.of (la.up _ _ hE9), atI_nat (List.getElem?_eq_getElem hd1), ?_⟩
      generalize es[d1] = tv at dta ⊢
      obtain ⟨T, u1, u2, rfl, hT, hx, hy⟩ := dta.pair_inv
      obtain ⟨as, rfl, has⟩ := hx.natl_inv
      obtain ⟨ab, rfl, hab⟩ := hy.natl_inv
      have dta2 : Dv (hid S (hid p Ha)) (.ref as) t.1 ∧ Dv (hid S (hid p Ha)) (.ref ab) t.2 := ⟨.natl has, .natl hab⟩
      have up2 : ∀ {b : Addr} {o : HO}, hid S (hid p Ha) b = some o → Ha b = some o := fun h => (hid_some (hid_some h).2).2
      refine ⟨T, _, rfl, SqT.of (up2 hT), rfl, _, _, rfl, _, _, rfl, rfl, ?_⟩
      have dna := (dn9.same la.k)
      have dfa := (df9.same la.k)
      have flat : Same (hid S (hid p Ha)) Ha := fun b o h => up2 h
      refine ⟨_, rfl, _, rfl, _, rfl, _, rfl, .ref qn, fv, n, fo, as, ab, t, rfl, dna.same flat, dfa.same flat, hfb, up2 has, up2 hab, tok, by omega, by omega, by omega, nok.g, nok.nx, nok.ox, fun Hb r sb nr dr => ?_⟩
      have lb := la.same sb
      have oS1 := (la.dw.off nr)
      have hSa := ga.get oS.1 hS
      have nrS : r ≠ S := fun e => by rw [e, hSa] at nr; cases nr
      have drb : Dv (hid S (hid p Hb)) (.ref r) (ansOf n fo t) := dr.same (fun b o h => by
        obtain ⟨h1, h2⟩ := fresh_some h
        exact hid_of (fun e => by rw [e, hSa] at h1; cases h1) (hid_of (la.dw.off h1).1 h2))
      obtain ⟨T2, u1, u2, e, hT2, hx2, hy2⟩ := drb.pair_inv
      cases e
      obtain ⟨ao, rfl, hao⟩ := hx2.natl_inv
      obtain ⟨an, rfl, han⟩ := hy2.natl_inv
      have up3 : ∀ {b : Addr} {o : HO}, hid S (hid p Hb) b = some o → Hb b = some o := fun h => (hid_some (hid_some h).2).2
      refine ⟨r, _, rfl, SqT.of (up3 hT2), rfl, _, _, rfl, _, _, rfl, rfl, ?_⟩
      have hao : hid S (hid p Hb) ao = some (.lst (vn (ansOf n fo t).1)) := hao
      have lo : (ansOf n fo t).1.length = n.outs.length := List.length_map _
      have ln : (ansOf n fo t).2.length = n.nexts.length := List.length_map _
      have bo : ∀ b ∈ (ansOf n fo t).1, b < 2 := fun b hb => by
        obtain ⟨l, _, rfl⟩ := List.mem_map.mp hb
        exact bitv_lt (stuck_lt hfb tok) l
      have bn : ∀ b ∈ (ansOf n fo t).2, b < 2 := fun b hb => by
        obtain ⟨l, _, rfl⟩ := List.mem_map.mp hb
        exact bitv_lt (stuck_lt hfb tok) l
      generalize (ansOf n fo t).1 = os at hao lo bo
      generalize (ansOf n fo t).2 = ns' at han ln bn
      -- an answer changed
      refine ⟨fun σ Hy => ∃ (A : Addr) (os' : List Nat), σ = [some (.ref a), some (.ref p), some (.ref qn), some (.ref E3), some (.ref R), some fv, some (.ref S), some (.int (0 + (i : Int))), some (.ref as), some (.ref ab), some (.ref A), some (.ref an), none, none, none, none, none] ∧ LS p c S H9 Hy ∧ Hy S = some (.lst us) ∧ Same (hid S (hid p Hb)) (hid S (hid p Hy)) ∧ hid S (hid p Hy) A = some (.lst (vn os')) ∧ os'.length = n.outs.length ∧ ∀ b ∈ os', b < 2, ?_, ?_⟩
      · refine ⟨_, rfl, p, c, 9, rfl, lb.dw, by decide, by decide, fun Hc d2 gc hd2 => ⟨rfl, _, rfl, ?_⟩⟩
        have lc := lb.go gc
        have hSc := gc.get oS.1 (sb _ _ hSa)
        have kc : Same (hid S (hid p Hb)) (hid S (hid p Hc)) := hid_mono gc.s
        rw [show decide (V.int ((d2 : Nat) : Int) = V.int 0) = decide (d2 = 0) from dec_nat _ 0]
        by_cases e0 : d2 = 0
        · rw [decide_eq_true e0]
          have hac := kc _ _ hao
          have up4 : ∀ {b : Addr} {o : HO}, hid S (hid p Hc) b = some o → Hc b = some o := fun h => (hid_some (hid_some h).2).2
          refine iteT ⟨_, rfl, ao, _, rfl, .inl (SqL.of (up4 hac)), _, _, rfl, rfl, _, rfl, ?_⟩
          by_cases el : 0 < os.length
          · rw [decide_eq_true (show (((vn os).length : Nat) : Int) > 0 by rw [vn_len]; omega)]
            have h0 := List.getElem?_eq_getElem el
            have hb0 := bo _ (List.getElem_mem el)
            generalize os[0] = b0 at h0 hb0
            obtain ⟨b1, eb1, hb1⟩ : ∃ b1 : Nat, V.int ((1 : Int) - (b0 : Int)) = V.int (b1 : Int) ∧ b1 < 2 := by
              have : b0 = 0 ∨ b0 = 1 := by omega
              rcases this with rfl | rfl
              · exact ⟨1, rfl, by decide⟩
              · exact ⟨0, rfl, by decide⟩
            refine iteT ⟨_, rfl, ao, _, 0, _, rfl, rfl, SqL.of (up4 hac), atI_nat (j := 0) (vn_get h0), _, _, rfl, rfl, ?_⟩
            simp only [eb1]
            refine ⟨by show 1 ≤ sizeLine; decide, fun L1 nL1 => ?_⟩
            have sd := same_new (o := .lst [.int (b1 : Nat)]) nL1
            have eL1 : (upd Hc L1 (.lst [.int (b1 : Nat)])) L1 = some (.lst [.int (b1 : Nat)]) := upd_same
            generalize (upd Hc L1 (.lst [.int (b1 : Nat)])) = Hd at sd eL1 ⊢
            refine ⟨_, rfl, _, rfl, ao, _, rfl, SqL.of (sd _ _ (up4 hac)), fun L2 nL2 => ?_⟩
            have ec : cutV (vn os) (some 1) none = vn (os.drop 1) := by
              have := cut_from (vn os) 1
              rw [show ((1 : Nat) : Int) = 1 from rfl] at this
              rw [this]
              unfold vn
              rw [List.map_drop]
            have se := sd.trans (same_new (o := .lst (cutV (vn os) (some 1) none)) nL2)
            have eL2 : (upd Hd L2 (.lst (cutV (vn os) (some 1) none))) L2 = some (.lst (vn (os.drop 1))) := by rw [upd_same, ec]
            have eL1 := same_new (o := .lst (cutV (vn os) (some 1) none)) nL2 _ _ eL1
            generalize (upd Hd L2 (.lst (cutV (vn os) (some 1) none))) = He at se eL1 eL2 ⊢
            refine ⟨L1, L2, _, _, rfl, rfl, eL1, eL2, ?_, fun L3 nL3 => ?_⟩
            · rw [vn_len, List.length_drop]
              exact Nat.le_of_lt (small64k (by show 1 + (os.length - 1) ≤ _; omega))
            have sf := se.trans (same_new (o := .lst ([V.int (b1 : Nat)] ++ vn (os.drop 1))) nL3)
            have lf := lc.same sf
            have n3c : Hc L3 = none := none_of se nL3
            have n3S : L3 ≠ S := fun e => by rw [e, hSc] at n3c; cases n3c
            refine ⟨L3, b1 :: os.drop 1, rfl, lf, sf _ _ hSc, kc.trans (hid_mono (hid_mono sf)), hid_of n3S (hid_of (lc.dw.off n3c).1 upd_same), ?_, fun b hb => ?_⟩
            · rw [List.length_cons, List.length_drop]
              omega
            · rcases List.mem_cons.mp hb with rfl | hb
              · exact hb1
              · exact bo b (List.mem_of_mem_drop hb)
          · rw [decide_eq_false (show ¬ (((vn os).length : Nat) : Int) > 0 by rw [vn_len]; omega)]
            exact iteF ⟨ao, os, rfl, lc, hSc, kc, hac, lo, bo⟩
        · rw [decide_eq_false e0]
          exact iteF ⟨ao, os, rfl, lc, hSc, kc, kc _ _ hao, lo, bo⟩
      · rintro σ Hy ⟨A, os', rfl, ly, hSy, ky, hAy, lo', bo'⟩
        have kay : Same (hid S (hid p Ha)) (hid S (hid p Hy)) := (hid_mono (hid_mono sb)).trans ky
        refine ⟨_, rfl, .inl ⟨rfl, _, SqL.of hSy⟩, _, rfl, _, rfl, by show 2 ≤ sizeLine; decide, fun T3 nT3 => ?_⟩
        have s3' := same_new (o := .tup [.ref as, .ref ab]) nT3
        have e3 : (upd Hy T3 (.tup [.ref as, .ref ab])) T3 = some (.tup [.ref as, .ref ab]) := upd_same
        have nT3S : T3 ≠ S := fun e => by rw [e, hSy] at nT3; cases nT3
        have nT3p := (ly.dw.off nT3).1
        generalize (upd Hy T3 (.tup [.ref as, .ref ab])) = Hz at s3' e3 ⊢
        refine ⟨_, rfl, _, rfl, by show 2 ≤ sizeLine; decide, fun T4 nT4 => ?_⟩
        have s4' := s3'.trans (same_new (o := .tup [.ref A, .ref an]) nT4)
        have e4 : (upd Hz T4 (.tup [.ref A, .ref an])) T4 = some (.tup [.ref A, .ref an]) := upd_same
        have e3 := same_new (o := .tup [.ref A, .ref an]) nT4 _ _ e3
        have n4y : Hy T4 = none := none_of s3' nT4
        have nT4S : T4 ≠ S := fun e => by rw [e, hSy] at n4y; cases n4y
        have nT4p := (ly.dw.off n4y).1
        generalize (upd Hz T4 (.tup [.ref A, .ref an])) = Hw at s4' e3 e4 ⊢
        refine ⟨by show 2 ≤ sizeLine; decide, fun T5 nT5 => ?_⟩
        have s5' := s4'.trans (same_new (o := .tup [.ref T3, .ref T4]) nT5)
        have e5 : (upd Hw T5 (.tup [.ref T3, .ref T4])) T5 = some (.tup [.ref T3, .ref T4]) := upd_same
        have e3 := same_new (o := .tup [.ref T3, .ref T4]) nT5 _ _ e3
        have e4 := same_new (o := .tup [.ref T3, .ref T4]) nT5 _ _ e4
        have n5y : Hy T5 = none := none_of s4' nT5
        have nT5S : T5 ≠ S := fun e => by rw [e, hSy] at n5y; cases n5y
        have nT5p := (ly.dw.off n5y).1
        generalize (upd Hw T5 (.tup [.ref T3, .ref T4])) = Hv at s5' e3 e4 e5 ⊢
        have kv : Same (hid S (hid p Hy)) (hid S (hid p Hv)) := hid_mono (hid_mono s5')
        have dsg : Dv (hid S (hid p Hv)) (.ref T5) ((t, (os', ns')) : Sight) := .pair (hid_of nT5S (hid_of nT5p e5)) (.pair (hid_of nT3S (hid_of nT3p e3)) ((dta2.1.same kay).same kv) ((dta2.2.same kay).same kv)) (.pair (hid_of nT4S (hid_of nT4p e4)) (.natl (kv _ _ hAy)) (.natl (kv _ _ (ky _ _ han))))
        have lus := hus.len
        refine ⟨S, _, _, rfl, rfl, s5' _ _ hSy, small64k (by omega), ?_⟩
        refine ⟨_, _, _, _, _, us ++ [.ref T5], ss ++ [(t, (os', ns'))], rfl, (ly.same s5').put oS.1 oS.2, upd_same, ?_, by rw [List.length_append, lss]; rfl, mem_snoc oks ⟨tok, lo', ln, bo', bn⟩⟩
        have kxy : Same (hid S (hid p Hx)) (hid S (hid p Hv)) := ((hid_mono ga.s).trans kay).trans kv
        exact ((hus.same kxy).same hid2_mut).app (.cons (dsg.same hid2_mut) .nil)
    rintro σ Hx ⟨y7, y8, y9, y10, y11, us, ss, rfl, ls, hS, hus, lss, oks⟩
    have hx9 := ls.up
    have dnx := dn9.same hx9
    have dRx := dR9.same hx9
    have flat : Same (hid S (hid p Hx)) Hx := (hid_same _ _).trans (hid_same _ _)
    have dSx : Dv Hx (.ref S) ss := .list hS (hus.same flat)
    obtain ⟨m, hm, small⟩ := ns_small wok oks (by omega)
    -- kept
    refine ⟨_, rfl, _, rfl, by show 2 ≤ sizeLine; decide, fun T nT => ?_⟩
    have sT := same_new (o := .tup [.ref qn, .ref S]) nT
    have dNS : Dv (upd Hx T (.tup [.ref qn, .ref S])) (.ref T) ((n, ss) : Net × List Sight) := .pair upd_same (dnx.same sT) (dSx.same sT)
    have dnx := dnx.same sT
    have dRx := dRx.same sT
    have dSx := dSx.same sT
    generalize (upd Hx T (.tup [.ref qn, .ref S])) = Hk at dNS dnx dRx dSx ⊢
    refine ⟨T, _, rfl, dh_dp _ _ dNS, four _ small hm (by decide), ?_⟩
    clear dNS sT
    generalize hkept : (PySem.W.Datum.toD ((n, ss) : Net × List Sight)).shown = kept
    -- due
    refine ⟨by show 0 ≤ sizeLine; decide, fun P nP => ?_⟩
    have s0 := same_new (o := .lst []) nP
    have eP : (upd Hk P (.lst [])) P = some (.lst []) := upd_same
    generalize (upd Hk P (.lst [])) = H0 at s0 eP ⊢
    obtain ⟨_, rs', e, hRk, hrsk⟩ := dRx.list_inv
    cases e
    obtain ⟨_, us', e, hSk, husk⟩ := dSx.list_inv
    cases e
    have lrsk := hrsk.len
    have lcand : (cands n).length ≤ 200 := by
      unfold cands
      rw [List.length_cons, List.length_map, faults_len]
      omega
    have fbit : ∀ fo ∈ cands n, FBit fo := fun fo hfo p e => by
      subst e
      rcases List.mem_cons.mp hfo with h | h
      · cases h
      · obtain ⟨f, hf, e⟩ := List.mem_map.mp h
        cases e
        exact (faults_mem hf).2.2
    refine ⟨_, rfl, R, rfl, ⟨_, SqL.of (s0 _ _ hRk)⟩, for_list (xs := rs') (fun j σ Hz => ∃ (y14 : Option V) (vs : List V), σ = [some (.ref a), some (.ref p), some (.ref qn), some (.ref E3), some (.ref R), some fv, some (.ref S), y7, y8, y9, y10, y11, some (.str kept), some (.ref P), y14, none, none] ∧ Same Hk Hz ∧ Hz P = some (.lst vs) ∧ Dvs (hid P Hz) vs (((cands n).take j).filter fun fo => decide (Agree n ss fo))) ⟨none, [], rfl, s0, eP, .nil⟩ (fun j σ Hz _ h => by obtain ⟨_, _, _, k, _⟩ := h; exact SqL.of (k _ _ hRk)) ?_ ?_⟩
    · rintro j x σ Hz hx ⟨y14, vs, rfl, kz, hP, hvs⟩
      obtain ⟨fo2, hfo2, dfo2⟩ := hrsk.at hx
      have hfb2 := fbit fo2 (List.mem_of_getElem? hfo2)
      have kP : Same Hk (hid P Hz) := fun b o h => hid_of (ne_of_none h nP) (kz _ _ h)
      refine ⟨_, rfl, S, rfl, ⟨_, SqL.of (kz _ _ hSk)⟩, fun D nD => lc_list (xs := us') (fun i Hw => ∃ acc : List V, Same Hz Hw ∧ Hw D = some (.lst acc) ∧ acc.length ≤ i ∧ (acc = [] ↔ ∀ s ∈ ss.take i, ansOf n fo2 s.1 = s.2)) ⟨[], same_new nD, upd_same, Nat.le_refl _, by simp⟩ (fun i Hw _ h => by obtain ⟨_, s', _⟩ := h; exact SqL.of (s' _ _ (kz _ _ hSk))) ?_ ?_⟩
      · rintro i z Hw hz ⟨acc, sw, hD, lacc, iff⟩
        have kw := kz.trans sw
        obtain ⟨sg, hsg, dsg⟩ := husk.at hz
        have sok := oks sg (List.mem_of_getElem? hsg)
        have hi : i < ss.length := (List.getElem?_eq_some_iff.mp hsg).1
        obtain ⟨Ts, u1, u2, rfl, hTs, hd1, hd2⟩ := (dsg.same kw).pair_inv
        obtain ⟨Tt, w1, w2, rfl, hTt, hd3, hd4⟩ := hd1.pair_inv
        obtain ⟨as, rfl, has⟩ := hd3.natl_inv
        obtain ⟨ab, rfl, hab⟩ := hd4.natl_inv
        refine ⟨Ts, _, rfl, SqT.of hTs, rfl, _, _, rfl, _, _, rfl, rfl, rfl, ?_⟩
        refine ⟨_, rfl, _, rfl, _, rfl, Tt, _, 0, _, rfl, rfl, SqT.of hTt, atI_nat (j := 0) rfl, _, rfl, Tt, _, 1, _, rfl, rfl, SqT.of hTt, atI_nat (j := 1) rfl, .ref qn, x, n, fo2, as, ab, sg.1, rfl, dnx.same kw, dfo2.same kw, hfb2, has, hab, sok.t, by omega, by omega, by omega, nok.g, nok.nx, nok.ox, fun Hv r sv nr dr => ⟨_, rfl, neD (dr.same fresh_same) (hd2.same sv) (by decide) ?_⟩⟩
        refine ⟨_, rfl, ?_⟩
        have nxt : ∀ P : Prop, (P ↔ ∀ s ∈ ss.take i, ansOf n fo2 s.1 = s.2) → ((P ∧ ansOf n fo2 sg.1 = sg.2) ↔ ∀ s ∈ ss.take (i + 1), ansOf n fo2 s.1 = s.2) := fun P h => by
          rw [take_snoc hsg]
          constructor
          · rintro ⟨h1, h2⟩
            exact mem_snoc (h.mp h1) h2
          · intro h3
            exact ⟨h.mpr fun s hs => h3 s (List.mem_append_left _ hs), h3 sg (List.mem_append_right _ (List.mem_singleton.mpr rfl))⟩
        by_cases ea : ansOf n fo2 sg.1 = sg.2
        · rw [decide_eq_true ea]
          refine iteF ⟨acc, sw.trans sv, sv _ _ hD, by omega, ?_⟩
          rw [← nxt _ iff]
          exact ⟨fun h => ⟨h, ea⟩, fun h => h.1⟩
        · rw [decide_eq_false ea]
          refine iteT ⟨_, rfl, acc, sv _ _ hD, small64k (by omega), acc ++ [.ref Tt], same_mut (sw.trans sv) nD, upd_same, by rw [List.length_append]; show acc.length + 1 ≤ i + 1; omega, ?_⟩
          rw [← nxt _ iff]
          exact ⟨fun h => by simp at h, fun h => absurd h.2 ea⟩
      · rintro Hw ⟨acc, sw, hD, lacc, iff⟩
        rw [husk.len, List.take_length] at iff
        refine ⟨D, _, rfl, .inl (SqL.of hD), rfl, _, rfl, ?_⟩
        have ed : decide (V.int ((acc.length : Nat) : Int) = V.int 0) = decide (Agree n ss fo2) := by
          rw [show decide (V.int ((acc.length : Nat) : Int) = V.int 0) = decide (acc.length = 0) from dec_nat _ 0]
          exact decide_eq_decide.mpr (List.length_eq_zero_iff.trans iff)
        rw [ed]
        have kw := kz.trans sw
        have hPw := sw _ _ hP
        have lvs : vs.length ≤ 1000 := by
          rw [hvs.len]
          refine Nat.le_trans (List.length_filter_le _ _) ?_
          rw [List.length_take]
          omega
        have nxt : (cands n).take (j + 1) = (cands n).take j ++ [fo2] := take_snoc hfo2
        by_cases ag : Agree n ss fo2
        · rw [decide_eq_true ag]
          refine iteT ⟨_, rfl, .inl ⟨rfl, _, SqL.of hPw⟩, _, rfl, P, _, _, rfl, rfl, hPw, small64k (by omega), ?_⟩
          refine ⟨_, vs ++ [x], rfl, same_mut kw nP, upd_same, ?_⟩
          rw [nxt, List.filter_append, show ([fo2].filter fun fo => decide (Agree n ss fo)) = [fo2] by simp [ag]]
          exact ((hvs.same (hid_mono sw)).same hid_mut).app (.cons (((dfo2.same kP).same (hid_mono sw)).same hid_mut) .nil)
        · rw [decide_eq_false ag]
          refine iteF ⟨_, vs, rfl, kw, hPw, ?_⟩
          rw [nxt, List.filter_append, show ([fo2].filter fun fo => decide (Agree n ss fo)) = [] by simp [ag], List.append_nil]
          exact hvs.same (hid_mono sw)
    rintro σ Hz ⟨y14, vs, rfl, kz, hP, hvs⟩
    rw [lrsk, List.take_length] at hvs
    have dP : Dv Hz (.ref P) (due n ss) := .list hP (hvs.same (hid_same _ _))
    refine ⟨_, rfl, _, rfl, .ref qn, .ref S, n, ss, rfl, dnx.same kz, dSx.same kz, by omega, nok, oks, fun Hw r sw nr dr => ⟨_, rfl, .ref r, .ref P, _, rfl, dr, dP.same sw, okd_list ?_, ?_, fun Hv sv => ⟨_, rfl, iteT ?_⟩⟩⟩
    · exact Nat.le_trans (List.length_filter_le _ _) (by omega)
    · exact Nat.lt_of_le_of_lt (PySem.W.Datum.depth_le (due n ss)) (by decide)
    have kv := (kz.trans sw).trans sv
    refine ⟨_, rfl, _, rfl, by show 2 ≤ sizeLine; decide, fun T2 nT2 => ?_⟩
    have sT2 := same_new (o := .tup [.ref qn, .ref S]) nT2
    have dNS2 : Dv (upd Hv T2 (.tup [.ref qn, .ref S])) (.ref T2) ((n, ss) : Net × List Sight) := .pair upd_same ((dnx.same kv).same sT2) ((dSx.same kv).same sT2)
    refine ⟨T2, _, rfl, dh_dp _ _ dNS2, four _ small hm (by decide), _, rfl, rfl, ?_⟩
    rw [hkept, decide_eq_true rfl]
    exact q _
end K69
namespace K69
open PySem PySem.Spec PyProof.Rows L2 V0
theorem all_mk {l : PySem.W.OpenLaw} {w : World} {K : PySem.W.Frag} {h : Heap} {mg : Str → Option Value} {fa f1 f2 f3 f4 f5 f6 f7 f8 f9 f10 f11 f12 f13 f14 f15 f16 f17 f18 f19 f20 : Addr} (X : K.In h) (G : h.Ns mainGlobals mg) (hfa : mg "law" = some (.ref fa))
    {od1 an1 od2 an2 od3 an3 od4 an4 od5 an5 od6 an6 od7 an7 od8 an8 od9 an9 od10 an10 od11 an11 od12 an12 od13 an13 od14 an14 od15 an15 od16 an16 od17 an17 od18 an18 od19 an19 od20 an20 : Option Addr} {sl1 sl2 sl3 sl4 sl5 sl6 sl7 sl8 sl9 sl10 sl11 sl12 sl13 sl14 sl15 sl16 sl17 sl18 sl19 sl20 : Array (Option Value)} {oc1 kV1 dc1 pm1 cd1 ct1 oc2 kV2 dc2 pm2 cd2 ct2 oc3 kV3 dc3 pm3 cd3 ct3 oc4 kV4 dc4 pm4 cd4 ct4 oc5 kV5 dc5 pm5 cd5 ct5 oc6 kV6 dc6 pm6 cd6 ct6 oc7 kV7 dc7 pm7 cd7 ct7 oc8 kV8 dc8 pm8 cd8 ct8 oc9 kV9 dc9 pm9 cd9 ct9 oc10 kV10 dc10 pm10 cd10 ct10 oc11 kV11 dc11 pm11 cd11 ct11 oc12 kV12 dc12 pm12 cd12 ct12 oc13 kV13 dc13 pm13 cd13 ct13 oc14 kV14 dc14 pm14 cd14 ct14 oc15 kV15 dc15 pm15 cd15 ct15 oc16 kV16 dc16 pm16 cd16 ct16 oc17 kV17 dc17 pm17 cd17 ct17 oc18 kV18 dc18 pm18 cd18 ct18 oc19 kV19 dc19 pm19 cd19 ct19 oc20 kV20 dc20 pm20 cd20 ct20 : Value}
    (a1 : PySem.W.nsIn K mainGlobals "_law_draws" = some (some (.ref f1))) (l1 : K.lookup f1 = some ⟨oc1, od1, .func (PySem.W.fnOf "_law_draws" "_law_draws" (defArgs s__law_draws) (defBody s__law_draws) (defScope s__law_draws) .none kV1 dc1 pm1 an1 cd1 ct1), sl1⟩) (c1 : PySem.W.codeIn K cd1 "_law_draws" = true) (k1 : PySem.W.keepIn K (.ref f1) = true)
    (a2 : PySem.W.nsIn K mainGlobals "_law_draw" = some (some (.ref f2))) (l2 : K.lookup f2 = some ⟨oc2, od2, .func (PySem.W.fnOf "_law_draw" "_law_draw" (defArgs s__law_draw) (defBody s__law_draw) (defScope s__law_draw) .none kV2 dc2 pm2 an2 cd2 ct2), sl2⟩) (c2 : PySem.W.codeIn K cd2 "_law_draw" = true) (k2 : PySem.W.keepIn K (.ref f2) = true)
    (a3 : PySem.W.nsIn K mainGlobals "_law_net" = some (some (.ref f3))) (l3 : K.lookup f3 = some ⟨oc3, od3, .func (PySem.W.fnOf "_law_net" "_law_net" (defArgs s__law_net) (defBody s__law_net) (defScope s__law_net) .none kV3 dc3 pm3 an3 cd3 ct3), sl3⟩) (c3 : PySem.W.codeIn K cd3 "_law_net" = true) (k3 : PySem.W.keepIn K (.ref f3) = true)
    (a4 : PySem.W.nsIn K mainGlobals "_law_all" = some (some (.ref f4))) (l4 : K.lookup f4 = some ⟨oc4, od4, .func (PySem.W.fnOf "_law_all" "_law_all" (defArgs s__law_all) (defBody s__law_all) (defScope s__law_all) .none kV4 dc4 pm4 an4 cd4 ct4), sl4⟩) (c4 : PySem.W.codeIn K cd4 "_law_all" = true) (k4 : PySem.W.keepIn K (.ref f4) = true)
    (a5 : PySem.W.nsIn K mainGlobals "_law_faults" = some (some (.ref f5))) (l5 : K.lookup f5 = some ⟨oc5, od5, .func (PySem.W.fnOf "_law_faults" "_law_faults" (defArgs s__law_faults) (defBody s__law_faults) (defScope s__law_faults) .none kV5 dc5 pm5 an5 cd5 ct5), sl5⟩) (c5 : PySem.W.codeIn K cd5 "_law_faults" = true) (k5 : PySem.W.keepIn K (.ref f5) = true)
    (a6 : PySem.W.nsIn K mainGlobals "_law_stuck" = some (some (.ref f6))) (l6 : K.lookup f6 = some ⟨oc6, od6, .func (PySem.W.fnOf "_law_stuck" "_law_stuck" (defArgs s__law_stuck) (defBody s__law_stuck) (defScope s__law_stuck) .none kV6 dc6 pm6 an6 cd6 ct6), sl6⟩) (c6 : PySem.W.codeIn K cd6 "_law_stuck" = true) (k6 : PySem.W.keepIn K (.ref f6) = true)
    (a7 : PySem.W.nsIn K mainGlobals "_law_same" = some (some (.ref f7))) (l7 : K.lookup f7 = some ⟨oc7, od7, .func (PySem.W.fnOf "_law_same" "_law_same" (defArgs s__law_same) (defBody s__law_same) (defScope s__law_same) .none kV7 dc7 pm7 an7 cd7 ct7), sl7⟩) (c7 : PySem.W.codeIn K cd7 "_law_same" = true) (k7 : PySem.W.keepIn K (.ref f7) = true)
    (a8 : PySem.W.nsIn K mainGlobals "column_of" = some (some (.ref f8))) (l8 : K.lookup f8 = some ⟨oc8, od8, .func (PySem.W.fnOf "column_of" "column_of" (defArgs s_column_of) (defBody s_column_of) (defScope s_column_of) .none kV8 dc8 pm8 an8 cd8 ct8), sl8⟩) (c8 : PySem.W.codeIn K cd8 "column_of" = true) (k8 : PySem.W.keepIn K (.ref f8) = true)
    (a9 : PySem.W.nsIn K mainGlobals "with_gates" = some (some (.ref f9))) (l9 : K.lookup f9 = some ⟨oc9, od9, .func (PySem.W.fnOf "with_gates" "with_gates" (defArgs s_with_gates) (defBody s_with_gates) (defScope s_with_gates) .none kV9 dc9 pm9 an9 cd9 ct9), sl9⟩) (c9 : PySem.W.codeIn K cd9 "with_gates" = true) (k9 : PySem.W.keepIn K (.ref f9) = true)
    (a10 : PySem.W.nsIn K mainGlobals "columns_of_rows" = some (some (.ref f10))) (l10 : K.lookup f10 = some ⟨oc10, od10, .func (PySem.W.fnOf "columns_of_rows" "columns_of_rows" (defArgs s_columns_of_rows) (defBody s_columns_of_rows) (defScope s_columns_of_rows) .none kV10 dc10 pm10 an10 cd10 ct10), sl10⟩) (c10 : PySem.W.codeIn K cd10 "columns_of_rows" = true) (k10 : PySem.W.keepIn K (.ref f10) = true)
    (a11 : PySem.W.nsIn K mainGlobals "base_of" = some (some (.ref f11))) (l11 : K.lookup f11 = some ⟨oc11, od11, .func (PySem.W.fnOf "base_of" "base_of" (defArgs s_base_of) (defBody s_base_of) (defScope s_base_of) .none kV11 dc11 pm11 an11 cd11 ct11), sl11⟩) (c11 : PySem.W.codeIn K cd11 "base_of" = true) (k11 : PySem.W.keepIn K (.ref f11) = true)
    (a12 : PySem.W.nsIn K mainGlobals "sound_columns" = some (some (.ref f12))) (l12 : K.lookup f12 = some ⟨oc12, od12, .func (PySem.W.fnOf "sound_columns" "sound_columns" (defArgs s_sound_columns) (defBody s_sound_columns) (defScope s_sound_columns) .none kV12 dc12 pm12 an12 cd12 ct12), sl12⟩) (c12 : PySem.W.codeIn K cd12 "sound_columns" = true) (k12 : PySem.W.keepIn K (.ref f12) = true)
    (a13 : PySem.W.nsIn K mainGlobals "_columns_seen" = some (some (.ref f13))) (l13 : K.lookup f13 = some ⟨oc13, od13, .func (PySem.W.fnOf "_columns_seen" "_columns_seen" (defArgs s__columns_seen) (defBody s__columns_seen) (defScope s__columns_seen) .none kV13 dc13 pm13 an13 cd13 ct13), sl13⟩) (c13 : PySem.W.codeIn K cd13 "_columns_seen" = true) (k13 : PySem.W.keepIn K (.ref f13) = true)
    (a14 : PySem.W.nsIn K mainGlobals "many_nodes" = some (some (.ref f14))) (l14 : K.lookup f14 = some ⟨oc14, od14, .func (PySem.W.fnOf "many_nodes" "many_nodes" (defArgs s_many_nodes) (defBody s_many_nodes) (defScope s_many_nodes) .none kV14 dc14 pm14 an14 cd14 ct14), sl14⟩) (c14 : PySem.W.codeIn K cd14 "many_nodes" = true) (k14 : PySem.W.keepIn K (.ref f14) = true)
    (a15 : PySem.W.nsIn K mainGlobals "faults" = some (some (.ref f15))) (l15 : K.lookup f15 = some ⟨oc15, od15, .func (PySem.W.fnOf "faults" "faults" (defArgs s_faults) (defBody s_faults) (defScope s_faults) .none kV15 dc15 pm15 an15 cd15 ct15), sl15⟩) (c15 : PySem.W.codeIn K cd15 "faults" = true) (k15 : PySem.W.keepIn K (.ref f15) = true)
    (a16 : PySem.W.nsIn K mainGlobals "columns_of" = some (some (.ref f16))) (l16 : K.lookup f16 = some ⟨oc16, od16, .func (PySem.W.fnOf "columns_of" "columns_of" (defArgs s_columns_of) (defBody s_columns_of) (defScope s_columns_of) .none kV16 dc16 pm16 an16 cd16 ct16), sl16⟩) (c16 : PySem.W.codeIn K cd16 "columns_of" = true) (k16 : PySem.W.keepIn K (.ref f16) = true)
    (a17 : PySem.W.nsIn K mainGlobals "answer_columns" = some (some (.ref f17))) (l17 : K.lookup f17 = some ⟨oc17, od17, .func (PySem.W.fnOf "answer_columns" "answer_columns" (defArgs s_answer_columns) (defBody s_answer_columns) (defScope s_answer_columns) .none kV17 dc17 pm17 an17 cd17 ct17), sl17⟩) (c17 : PySem.W.codeIn K cd17 "answer_columns" = true) (k17 : PySem.W.keepIn K (.ref f17) = true)
    (a18 : PySem.W.nsIn K mainGlobals "faulty_columns" = some (some (.ref f18))) (l18 : K.lookup f18 = some ⟨oc18, od18, .func (PySem.W.fnOf "faulty_columns" "faulty_columns" (defArgs s_faulty_columns) (defBody s_faulty_columns) (defScope s_faulty_columns) .none kV18 dc18 pm18 an18 cd18 ct18), sl18⟩) (c18 : PySem.W.codeIn K cd18 "faulty_columns" = true) (k18 : PySem.W.keepIn K (.ref f18) = true)
    (a19 : PySem.W.nsIn K mainGlobals "agreeing" = some (some (.ref f19))) (l19 : K.lookup f19 = some ⟨oc19, od19, .func (PySem.W.fnOf "agreeing" "agreeing" (defArgs s_agreeing) (defBody s_agreeing) (defScope s_agreeing) .none kV19 dc19 pm19 an19 cd19 ct19), sl19⟩) (c19 : PySem.W.codeIn K cd19 "agreeing" = true) (k19 : PySem.W.keepIn K (.ref f19) = true)
    (a20 : PySem.W.nsIn K mainGlobals "law" = some (some (.ref f20))) (l20 : K.lookup f20 = some ⟨oc20, od20, .func (PySem.W.fnOf "law" "law" (defArgs s_law) (defBody s_law) (defScope s_law) .none kV20 dc20 pm20 an20 cd20 ct20), sl20⟩) (c20 : PySem.W.codeIn K cd20 "law" = true) (k20 : PySem.W.keepIn K (.ref f20) = true)
    (z_all : PySem.W.nsIn K mainGlobals "all" = some none)
    (z_bool : PySem.W.nsIn K mainGlobals "bool" = some none)
    (z_enumerate : PySem.W.nsIn K mainGlobals "enumerate" = some none)
    (z_int : PySem.W.nsIn K mainGlobals "int" = some none)
    (z_isinstance : PySem.W.nsIn K mainGlobals "isinstance" = some none)
    (z_len : PySem.W.nsIn K mainGlobals "len" = some none)
    (z_list : PySem.W.nsIn K mainGlobals "list" = some none)
    (z_max : PySem.W.nsIn K mainGlobals "max" = some none)
    (z_range : PySem.W.nsIn K mainGlobals "range" = some none)
    (z_repr : PySem.W.nsIn K mainGlobals "repr" = some none)
    (z_str : PySem.W.nsIn K mainGlobals "str" = some none)
    (z_sum : PySem.W.nsIn K mainGlobals "sum" = some none)
    (z_tuple : PySem.W.nsIn K mainGlobals "tuple" = some none) :
    ∃ fd : FuncData, (∀ (s : Shared) (v : Value), BindsTo s fd ⟨[v], []⟩ [("script", v)]) ∧ ∀ base : Heap, K.In base → base.Ns mainGlobals mg → LawOk l.prog w K mg base fa fd ["script"] (sp_law K) := by
  have e := hfa.symm.trans (PySem.W.mg_of X G a20)
  cases e
  have T : Txt K mg := ⟨PySem.W.mg_none_of X G z_all, PySem.W.mg_none_of X G z_bool, PySem.W.mg_none_of X G z_enumerate, PySem.W.mg_none_of X G z_int, PySem.W.mg_none_of X G z_isinstance, PySem.W.mg_none_of X G z_len, PySem.W.mg_none_of X G z_list, PySem.W.mg_none_of X G z_max, PySem.W.mg_none_of X G z_range, PySem.W.mg_none_of X G z_repr, PySem.W.mg_none_of X G z_str, PySem.W.mg_none_of X G z_sum, PySem.W.mg_none_of X G z_tuple⟩
  have F1 := fun_mk (st := s__law_draws) l1 c1 k1
  have D1 : Def K mg "_law_draws" f1 _ ["script"] := ⟨PySem.W.mg_of X G a1, F1.kp, F1.binds (ps := ["script"]) fun _ _ _ _ _ _ us hl => match us, hl with | [_], _ => rfl⟩
  have F2 := fun_mk (st := s__law_draw) l2 c2 k2
  have D2 : Def K mg "_law_draw" f2 _ ["draws", "limit"] := ⟨PySem.W.mg_of X G a2, F2.kp, F2.binds (ps := ["draws", "limit"]) fun _ _ _ _ _ _ us hl => match us, hl with | [_, _], _ => rfl⟩
  have F3 := fun_mk (st := s__law_net) l3 c3 k3
  have D3 : Def K mg "_law_net" f3 _ ["draws", "most"] := ⟨PySem.W.mg_of X G a3, F3.kp, F3.binds (ps := ["draws", "most"]) fun _ _ _ _ _ _ us hl => match us, hl with | [_, _], _ => rfl⟩
  have F4 := fun_mk (st := s__law_all) l4 c4 k4
  have D4 : Def K mg "_law_all" f4 _ ["net"] := ⟨PySem.W.mg_of X G a4, F4.kp, F4.binds (ps := ["net"]) fun _ _ _ _ _ _ us hl => match us, hl with | [_], _ => rfl⟩
  have F5 := fun_mk (st := s__law_faults) l5 c5 k5
  have D5 : Def K mg "_law_faults" f5 _ ["net"] := ⟨PySem.W.mg_of X G a5, F5.kp, F5.binds (ps := ["net"]) fun _ _ _ _ _ _ us hl => match us, hl with | [_], _ => rfl⟩
  have F6 := fun_mk (st := s__law_stuck) l6 c6 k6
  have D6 : Def K mg "_law_stuck" f6 _ ["net", "fault", "state", "bits"] := ⟨PySem.W.mg_of X G a6, F6.kp, F6.binds (ps := ["net", "fault", "state", "bits"]) fun _ _ _ _ _ _ us hl => match us, hl with | [_, _, _, _], _ => rfl⟩
  have F7 := fun_mk (st := s__law_same) l7 c7 k7
  have D7 : Def K mg "_law_same" f7 _ ["actual", "expected"] := ⟨PySem.W.mg_of X G a7, F7.kp, F7.binds (ps := ["actual", "expected"]) fun _ _ _ _ _ _ us hl => match us, hl with | [_, _], _ => rfl⟩
  have F8 := fun_mk (st := s_column_of) l8 c8 k8
  have D8 : Def K mg "column_of" f8 _ ["columns", "literal", "ones"] := ⟨PySem.W.mg_of X G a8, F8.kp, F8.binds (ps := ["columns", "literal", "ones"]) fun _ _ _ _ _ _ us hl => match us, hl with | [_, _, _], _ => rfl⟩
  have F9 := fun_mk (st := s_with_gates) l9 c9 k9
  have D9 : Def K mg "with_gates" f9 _ ["net", "columns", "ones"] := ⟨PySem.W.mg_of X G a9, F9.kp, F9.binds (ps := ["net", "columns", "ones"]) fun _ _ _ _ _ _ us hl => match us, hl with | [_, _, _], _ => rfl⟩
  have F10 := fun_mk (st := s_columns_of_rows) l10 c10 k10
  have D10 : Def K mg "columns_of_rows" f10 _ ["rows", "many"] := ⟨PySem.W.mg_of X G a10, F10.kp, F10.binds (ps := ["rows", "many"]) fun _ _ _ _ _ _ us hl => match us, hl with | [_, _], _ => rfl⟩
  have F11 := fun_mk (st := s_base_of) l11 c11 k11
  have D11 : Def K mg "base_of" f11 _ ["net"] := ⟨PySem.W.mg_of X G a11, F11.kp, F11.binds (ps := ["net"]) fun _ _ _ _ _ _ us hl => match us, hl with | [_], _ => rfl⟩
  have F12 := fun_mk (st := s_sound_columns) l12 c12 k12
  have D12 : Def K mg "sound_columns" f12 _ ["net", "tests"] := ⟨PySem.W.mg_of X G a12, F12.kp, F12.binds (ps := ["net", "tests"]) fun _ _ _ _ _ _ us hl => match us, hl with | [_, _], _ => rfl⟩
  have F13 := fun_mk (st := s__columns_seen) l13 c13 k13
  have D13 : Def K mg "_columns_seen" f13 _ ["net", "sights"] := ⟨PySem.W.mg_of X G a13, F13.kp, F13.binds (ps := ["net", "sights"]) fun _ _ _ _ _ _ us hl => match us, hl with | [_, _], _ => rfl⟩
  have F14 := fun_mk (st := s_many_nodes) l14 c14 k14
  have D14 : Def K mg "many_nodes" f14 _ ["net"] := ⟨PySem.W.mg_of X G a14, F14.kp, F14.binds (ps := ["net"]) fun _ _ _ _ _ _ us hl => match us, hl with | [_], _ => rfl⟩
  have F15 := fun_mk (st := s_faults) l15 c15 k15
  have D15 : Def K mg "faults" f15 _ ["net"] := ⟨PySem.W.mg_of X G a15, F15.kp, F15.binds (ps := ["net"]) fun _ _ _ _ _ _ us hl => match us, hl with | [_], _ => rfl⟩
  have F16 := fun_mk (st := s_columns_of) l16 c16 k16
  have D16 : Def K mg "columns_of" f16 _ ["columns", "literals", "ones"] := ⟨PySem.W.mg_of X G a16, F16.kp, F16.binds (ps := ["columns", "literals", "ones"]) fun _ _ _ _ _ _ us hl => match us, hl with | [_, _, _], _ => rfl⟩
  have F17 := fun_mk (st := s_answer_columns) l17 c17 k17
  have D17 : Def K mg "answer_columns" f17 _ ["net", "columns", "ones"] := ⟨PySem.W.mg_of X G a17, F17.kp, F17.binds (ps := ["net", "columns", "ones"]) fun _ _ _ _ _ _ us hl => match us, hl with | [_, _, _], _ => rfl⟩
  have F18 := fun_mk (st := s_faulty_columns) l18 c18 k18
  have D18 : Def K mg "faulty_columns" f18 _ ["net", "columns", "fault", "ones"] := ⟨PySem.W.mg_of X G a18, F18.kp, F18.binds (ps := ["net", "columns", "fault", "ones"]) fun _ _ _ _ _ _ us hl => match us, hl with | [_, _, _, _], _ => rfl⟩
  have F19 := fun_mk (st := s_agreeing) l19 c19 k19
  have D19 : Def K mg "agreeing" f19 _ ["net", "sights"] := ⟨PySem.W.mg_of X G a19, F19.kp, F19.binds (ps := ["net", "sights"]) fun _ _ _ _ _ _ us hl => match us, hl with | [_, _], _ => rfl⟩
  have F20 := fun_mk (st := s_law) l20 c20 k20
  refine ⟨PySem.W.fnOf "law" "law" (defArgs s_law) (defBody s_law) (defScope s_law) .none kV20 dc20 pm20 an20 cd20 ct20, fun s v => .of_eq rfl, fun base _ _ => ?_⟩
  have G1 : FnOk l.prog w K mg base CX0 1 f1 _ ["script"] (sp__law_draws K) := ok__law_draws F1 T 
  have G2 : FnOk l.prog w K mg base CX0 1 f2 _ ["draws", "limit"] (sp__law_draw K) := ok__law_draw F2 T 
  have G3 : FnOk l.prog w K mg base CX0 2 f3 _ ["draws", "most"] (sp__law_net K) := ok__law_net F3 T G2 D2
  have G4 : FnOk l.prog w K mg base CX0 1 f4 _ ["net"] (sp__law_all K) := ok__law_all F4 T 
  have G5 : FnOk l.prog w K mg base CX0 1 f5 _ ["net"] (sp__law_faults K) := ok__law_faults F5 T 
  have G6 : FnOk l.prog w K mg base CX0 1 f6 _ ["net", "fault", "state", "bits"] (sp__law_stuck K) := ok__law_stuck F6 T 
  have G7 : FnOk l.prog w K mg base CX0 30 f7 _ ["actual", "expected"] (sp__law_same K) := ok__law_same F7 T  D7
  have G8 : FnOk l.prog w K mg base CX0 1 f8 _ ["columns", "literal", "ones"] (sp_column_of K) := ok_column_of F8 T 
  have G9 : FnOk l.prog w K mg base CX0 2 f9 _ ["net", "columns", "ones"] (sp_with_gates K) := ok_with_gates F9 T G8 D8
  have G10 : FnOk l.prog w K mg base CX0 1 f10 _ ["rows", "many"] (sp_columns_of_rows K) := ok_columns_of_rows F10 T 
  have G11 : FnOk l.prog w K mg base CX0 1 f11 _ ["net"] (sp_base_of K) := ok_base_of F11 T 
  have G12 : FnOk l.prog w K mg base CX0 3 f12 _ ["net", "tests"] (sp_sound_columns K) := ok_sound_columns F12 T G9 D9 G10 D10 G11 D11
  have G13 : FnOk l.prog w K mg base CX0 1 f13 _ ["net", "sights"] (sp__columns_seen K) := ok__columns_seen F13 T 
  have G14 : FnOk l.prog w K mg base CX0 2 f14 _ ["net"] (sp_many_nodes K) := ok_many_nodes F14 T G11 D11
  have G15 : FnOk l.prog w K mg base CX0 3 f15 _ ["net"] (sp_faults K) := ok_faults F15 T G14 D14
  have G16 : FnOk l.prog w K mg base CX0 2 f16 _ ["columns", "literals", "ones"] (sp_columns_of K) := ok_columns_of F16 T G8 D8
  have G17 : FnOk l.prog w K mg base CX0 3 f17 _ ["net", "columns", "ones"] (sp_answer_columns K) := ok_answer_columns F17 T G16 D16
  have G18 : FnOk l.prog w K mg base CX0 2 f18 _ ["net", "columns", "fault", "ones"] (sp_faulty_columns K) := ok_faulty_columns F18 T G11 D11 G8 D8
  have G19 : FnOk l.prog w K mg base CX0 4 f19 _ ["net", "sights"] (sp_agreeing K) := ok_agreeing F19 T G12 D12 G13 D13 G15 D15 G17 D17 G18 D18
  exact ok_law F20 T G1 D1 G3 D3 G4 D4 G5 D5 G2 D2 G6 D6 G7 D7 G19 D19
end K69
open PySem PySem.W PyProof.Rows
set_option maxHeartbeats 0 in
theorem PySem.Challenge.cw_cellcloth_k69_agreeing_faults_holds : PySem.Challenge.rw_cellcloth_k69_agreeing_faults.Holds := by
  w_on; o_law; k_head; (case hw => w_witness2)
  k_fill
  refine V0.walk_at (l := PySem.Challenge.rw_cellcloth_k69_agreeing_faults) (n := 63) (x := "script") (sp := K69.sp_law) rfl (by decide) rfl (fun w h Y => PySem.W.kIn_of Y) ?F (fun _ _ a ns hl _ hS => ⟨a, ns, rfl, hS, hl, fun _ => rfl⟩)
  case F =>
    intro w mg fa h KX G hmg
    refine' K69.all_mk KX G hmg ?a1 ?l1 ?c1 ?k1 ?a2 ?l2 ?c2 ?k2 ?a3 ?l3 ?c3 ?k3 ?a4 ?l4 ?c4 ?k4 ?a5 ?l5 ?c5 ?k5 ?a6 ?l6 ?c6 ?k6 ?a7 ?l7 ?c7 ?k7 ?a8 ?l8 ?c8 ?k8 ?a9 ?l9 ?c9 ?k9 ?a10 ?l10 ?c10 ?k10 ?a11 ?l11 ?c11 ?k11 ?a12 ?l12 ?c12 ?k12 ?a13 ?l13 ?c13 ?k13 ?a14 ?l14 ?c14 ?k14 ?a15 ?l15 ?c15 ?k15 ?a16 ?l16 ?c16 ?k16 ?a17 ?l17 ?c17 ?k17 ?a18 ?l18 ?c18 ?k18 ?a19 ?l19 ?c19 ?k19 ?a20 ?l20 ?c20 ?k20 ?z_all ?z_bool ?z_enumerate ?z_int ?z_isinstance ?z_len ?z_list ?z_max ?z_range ?z_repr ?z_str ?z_sum ?z_tuple
    (case a1 => k_is)
    (case l1 => k_is)
    (case c1 => k_is)
    (case k1 => k_is)
    (case a2 => k_is)
    (case l2 => k_is)
    (case c2 => k_is)
    (case k2 => k_is)
    (case a3 => k_is)
    (case l3 => k_is)
    (case c3 => k_is)
    (case k3 => k_is)
    (case a4 => k_is)
    (case l4 => k_is)
    (case c4 => k_is)
    (case k4 => k_is)
    (case a5 => k_is)
    (case l5 => k_is)
    (case c5 => k_is)
    (case k5 => k_is)
    (case a6 => k_is)
    (case l6 => k_is)
    (case c6 => k_is)
    (case k6 => k_is)
    (case a7 => k_is)
    (case l7 => k_is)
    (case c7 => k_is)
    (case k7 => k_is)
    (case a8 => k_is)
    (case l8 => k_is)
    (case c8 => k_is)
    (case k8 => k_is)
    (case a9 => k_is)
    (case l9 => k_is)
    (case c9 => k_is)
    (case k9 => k_is)
    (case a10 => k_is)
    (case l10 => k_is)
    (case c10 => k_is)
    (case k10 => k_is)
    (case a11 => k_is)
    (case l11 => k_is)
    (case c11 => k_is)
    (case k11 => k_is)
    (case a12 => k_is)
    (case l12 => k_is)
    (case c12 => k_is)
    (case k12 => k_is)
    (case a13 => k_is)
    (case l13 => k_is)
    (case c13 => k_is)
    (case k13 => k_is)
    (case a14 => k_is)
    (case l14 => k_is)
    (case c14 => k_is)
    (case k14 => k_is)
    (case a15 => k_is)
    (case l15 => k_is)
    (case c15 => k_is)
    (case k15 => k_is)
    (case a16 => k_is)
    (case l16 => k_is)
    (case c16 => k_is)
    (case k16 => k_is)
    (case a17 => k_is)
    (case l17 => k_is)
    (case c17 => k_is)
    (case k17 => k_is)
    (case a18 => k_is)
    (case l18 => k_is)
    (case c18 => k_is)
    (case k18 => k_is)
    (case a19 => k_is)
    (case l19 => k_is)
    (case c19 => k_is)
    (case k19 => k_is)
    (case a20 => k_is)
    (case l20 => k_is)
    (case c20 => k_is)
    (case k20 => k_is)
    (case z_all => k_is)
    (case z_bool => k_is)
    (case z_enumerate => k_is)
    (case z_int => k_is)
    (case z_isinstance => k_is)
    (case z_len => k_is)
    (case z_list => k_is)
    (case z_max => k_is)
    (case z_range => k_is)
    (case z_repr => k_is)
    (case z_str => k_is)
    (case z_sum => k_is)
    (case z_tuple => k_is)
