import PyProof.Rows.All
import Wide.All
import OpenK.AllK
import Wide.FinOn
import HandS.ForMost
import HandS.Codes
import HandS.IsInst
import HandS.WideBits
import KE.Datum
import PyProof.ReprRoads
import PyProof.ReprLen
import HandS.Star
import HandS.HotCalls
import PyProof.TupleIter
import HandS.ForExc
import HandS.ExcInit
import HandS.ExcField
import HandS.ExcCtx
import HandS.FStr
import KE.KExcIs
import HandS.Iter
import HandS.SetFor
import HandS.Strs
import HandS.More
import HandS.Deep
import HandS.SortInts
import HandS.Small
import HandS.Walk
import HandS.Wide
import PySem.Challenge.RW_cellcloth_k31_faults_of_nets
import HandS.ExcInitHot
set_option Elab.async false
set_option linter.all false
set_option maxRecDepth 100000
set_option maxHeartbeats 4000000
/-! data with a Lean type in the abstract heap: what a value holds, kept by growth; the heap but for what is mutable -/
namespace V0
open PySem PySem.Spec PyProof.Rows L2
open PySem.W (Datum)
/-- a def of the text as callers need it -/
structure Def (K : PySem.W.Frag) (mg : Str → Option Value) (x : Str) (f : Addr) (fd : FuncData) (ps : List Str) : Prop where
  m : mg x = some (.ref f)
  k : PySem.W.keepIn K (.ref f) = true
  b : Binds K fd ps []
abbrev vLen (K : PySem.W.Frag) : List V → Hp → VK → Prop := fun xs H Q => ∃ p ys, xs = [.ref p] ∧ (SqL K H p ys ∨ SqT K H p ys) ∧ Q (.int ys.length) H
abbrev vListOf (K : PySem.W.Frag) : List V → Hp → VK → Prop := fun xs H Q => ∃ p ys, xs = [.ref p] ∧ (SqL K H p ys ∨ SqT K H p ys) ∧ ∀ l, H l = none → Q (.ref l) (upd H l (.lst ys))
abbrev vTupleOf (K : PySem.W.Frag) : List V → Hp → VK → Prop := fun xs H Q => ∃ p ys, xs = [.ref p] ∧ ((SqL K H p ys ∧ ∀ l, H l = none → Q (.ref l) (upd H l (.tup ys))) ∨ (SqT K H p ys ∧ Q (.ref p) H))
/-- a statement that is never reached -/
theorem ps_never {X : Cx} {st : Stmt} : PS X st (fun _ _ _ => False) := ⟨fun _ _ _ _ _ _ h => h.elim⟩
def tTru (K : PySem.W.Frag) (ta : TE) : TT := fun σ H Q => ta σ H fun x H' => ∃ k, TruV K x H' k ∧ Q k H'
/-- as pt_truth, K told -/
theorem pt_truthK {X : Cx} {K : PySem.W.Frag} {a : Expr} {ta : TE} (hK : X.K = K) (ha : PE X a ta) (he : ∀ whole, isTrue a X.env whole = (do let v ← whole; standAt a.pos; holding [v] (truthy v))) :
    PT X a (tTru K ta) := by
  subst hK
  exact pt_truth ha he
theorem hu65 {A : Around} {k : Nat} (hr : Room k A) : A.units + 65 < cLine := by
  have := hr.un
  omega
theorem same_new {H : Hp} {p : Addr} {o : HO} (h : H p = none) : Same H (upd H p o) := fun b x e => by
  rw [upd_ne (ne_of_none e h)]
  exact e
theorem same_mut {H H' : Hp} {p : Addr} {o : HO} (e : Same H H') (h : H p = none) : Same H (upd H' p o) := fun a u ha => by
  rw [upd_ne (ne_of_none ha h)]
  exact e a u ha
theorem tup_same {K : PySem.W.Frag} {H H' : Hp} {a : Addr} {xs : List V} (e : Same H H') (h : SqT K H a xs) : SqT K H' a xs := by
  rcases h with (h | ⟨o, h⟩) | h
  · exact .inl (.inl (e _ _ h))
  · exact .inl (.inr ⟨o, e _ _ h⟩)
  · exact .inr h
theorem map_range_succ {α : Type} (f : Nat → α) (i : Nat) : (List.range (i + 1)).map f = (List.range i).map f ++ [f i] := by
  rw [List.range_succ, List.map_append]
  rfl
/-! ### data -/
class Dm (α : Type) [DecidableEq α] extends Datum α where
  lay : ∀ a : α, (Datum.toD a).canLay0 = true
instance : Dm Int where
  lay _ := by simp only [Datum.toD, PyData.canLay0]
instance : Dm Bool where
  lay _ := by simp only [Datum.toD, PyData.canLay0]
instance : Datum Nat where
  toD n := .int (n : Int)
  plain _ := rfl
  eqv a b := by
    simp only [PyData.eqv]
    rw [PySem.W.beq_decide]
    exact decide_eq_decide.mpr ⟨fun e => by omega, fun e => by rw [e]⟩
  depth := 0
  depth_le _ := Nat.le_refl _
instance : Dm Nat where
  lay _ := by simp only [Datum.toD, PyData.canLay0]
section
variable {α β : Type} [DecidableEq α] [Dm α] [DecidableEq β] [Dm β]
theorem lay_all : ∀ xs : List α, PyData.canLayAll0 (xs.map Datum.toD) = true
  | [] => by simp only [List.map_nil, PyData.canLayAll0]
  | x :: xs => by
    rw [List.map_cons, PyData.canLayAll0, Dm.lay x, lay_all xs]
    rfl
instance : Dm (List α) where
  lay xs := by
    simp only [Datum.toD, PyData.canLay0]
    exact lay_all xs
instance : Dm (α × β) where
  lay p := by
    simp only [Datum.toD, PyData.canLay0, PyData.canLayAll0, Bool.and_true, Bool.and_eq_true]
    exact ⟨Dm.lay p.1, Dm.lay p.2⟩
end
mutual
/-- as Dp, of what stands in the abstract heap alone -/
inductive Dh (H : Hp) : V → PyData → Prop
  | non : Dh H .non .none
  | bl (b : Bool) : Dh H (.bl b) (.bool b)
  | int (i : Int) : Dh H (.int i) (.int i)
  | str (x : Str) : Dh H (.str x) (.str x)
  | lst {a : Addr} {xs : List V} {ds : List PyData} : H a = some (.lst xs) → DhAll H xs ds → Dh H (.ref a) (.list ds)
  | tup {a : Addr} {xs : List V} {ds : List PyData} : H a = some (.tup xs) → DhAll H xs ds → Dh H (.ref a) (.tuple ds)
inductive DhAll (H : Hp) : List V → List PyData → Prop
  | nil : DhAll H [] []
  | cons {v : V} {vs : List V} {d : PyData} {ds : List PyData} : Dh H v d → DhAll H vs ds → DhAll H (v :: vs) (d :: ds)
end
mutual
theorem dh_same {H H' : Hp} (s : Same H H') : ∀ (d : PyData) (v : V), Dh H v d → Dh H' v d
  | .none, _, h => by cases h; exact .non
  | .bool b, _, h => by cases h; exact .bl b
  | .int i, _, h => by cases h; exact .int i
  | .str x, _, h => by cases h; exact .str x
  | .list ds, _, h => by
    cases h with
    | lst h1 h2 => exact .lst (s _ _ h1) (dh_sameAll s ds _ h2)
  | .tuple ds, _, h => by
    cases h with
    | tup h1 h2 => exact .tup (s _ _ h1) (dh_sameAll s ds _ h2)
  | .dict _, _, h => by cases h
theorem dh_sameAll {H H' : Hp} (s : Same H H') : ∀ (ds : List PyData) (vs : List V), DhAll H vs ds → DhAll H' vs ds
  | [], _, h => by cases h; exact .nil
  | d :: ds, _, h => by
    cases h with
    | cons h1 h2 => exact .cons (dh_same s d _ h1) (dh_sameAll s ds _ h2)
end
mutual
theorem dh_dp {K : PySem.W.Frag} {H : Hp} : ∀ (d : PyData) (v : V), Dh H v d → Dp K H v d
  | .none, _, h => by cases h; exact .non
  | .bool b, _, h => by cases h; exact .bl b
  | .int i, _, h => by cases h; exact .int i
  | .str x, _, h => by cases h; exact .str x
  | .list ds, _, h => by
    cases h with
    | lst h1 h2 => exact .lst (SqL.of h1) (dh_dpAll ds _ h2)
  | .tuple ds, _, h => by
    cases h with
    | tup h1 h2 => exact .tup (SqT.of h1) (dh_dpAll ds _ h2)
  | .dict _, _, h => by cases h
theorem dh_dpAll {K : PySem.W.Frag} {H : Hp} : ∀ (ds : List PyData) (vs : List V), DhAll H vs ds → DpAll K H vs ds
  | [], _, h => by cases h; exact .nil
  | d :: ds, _, h => by
    cases h with
    | cons h1 h2 => exact .cons (dh_dp d _ h1) (dh_dpAll ds _ h2)
end
section
variable {α β : Type} [DecidableEq α] [Dm α] [DecidableEq β] [Dm β]
/-- v holds x -/
def Dv (H : Hp) (v : V) (x : α) : Prop := Dh H v (Datum.toD x)
def Dvs (H : Hp) (vs : List V) (xs : List α) : Prop := DhAll H vs (xs.map Datum.toD)
theorem Dv.same {H H' : Hp} {v : V} {x : α} (h : Dv H v x) (s : Same H H') : Dv H' v x := dh_same s _ _ h
theorem Dvs.same {H H' : Hp} {vs : List V} {xs : List α} (h : Dvs H vs xs) (s : Same H H') : Dvs H' vs xs := dh_sameAll s _ _ h
theorem Dv.int {H : Hp} (i : Int) : Dv H (.int i) i := Dh.int i
theorem Dv.nat {H : Hp} (n : Nat) : Dv H (.int (n : Int)) n := Dh.int (n : Int)
theorem Dv.bl {H : Hp} (b : Bool) : Dv H (.bl b) b := Dh.bl b
theorem Dv.int_inv {H : Hp} {v : V} {i : Int} (h : Dv H v i) : v = .int i := by
  unfold Dv at h
  cases h
  rfl
theorem Dv.nat_inv {H : Hp} {v : V} {n : Nat} (h : Dv H v n) : v = .int (n : Int) := by
  unfold Dv at h
  cases h
  rfl
theorem Dvs.nil {H : Hp} : Dvs H [] ([] : List α) := DhAll.nil
theorem Dvs.cons {H : Hp} {v : V} {vs : List V} {x : α} {xs : List α} (h : Dv H v x) (hs : Dvs H vs xs) : Dvs H (v :: vs) (x :: xs) := DhAll.cons h hs
theorem Dvs.cons_inv {H : Hp} {vs : List V} {x : α} {xs : List α} (h : Dvs H vs (x :: xs)) : ∃ v us, vs = v :: us ∧ Dv H v x ∧ Dvs H us xs := by
  unfold Dvs at h
  cases h with
  | cons h1 h2 => exact ⟨_, _, rfl, h1, h2⟩
theorem Dvs.nil_inv {H : Hp} {vs : List V} (h : Dvs H vs ([] : List α)) : vs = [] := by
  unfold Dvs at h
  cases h
  rfl
theorem Dvs.app {H : Hp} : ∀ {vs us : List V} {xs ys : List α}, Dvs H vs xs → Dvs H us ys → Dvs H (vs ++ us) (xs ++ ys)
  | _, _, [], _, h, g => by rw [h.nil_inv]; exact g
  | _, _, _ :: _, _, h, g => by
    obtain ⟨v, us, rfl, h1, h2⟩ := h.cons_inv
    exact .cons h1 (h2.app g)
theorem Dvs.len {H : Hp} : ∀ {vs : List V} {xs : List α}, Dvs H vs xs → vs.length = xs.length
  | _, [], h => by rw [h.nil_inv]; rfl
  | _, _ :: _, h => by
    obtain ⟨v, us, rfl, h1, h2⟩ := h.cons_inv
    rw [List.length_cons, List.length_cons, h2.len]
theorem Dvs.get {H : Hp} : ∀ {vs : List V} {xs : List α} {i : Nat} {x : α}, Dvs H vs xs → xs[i]? = some x → ∃ v, vs[i]? = some v ∧ Dv H v x
  | _, [], i, _, h, e => by simp at e
  | _, _ :: _, 0, _, h, e => by
    obtain ⟨v, us, rfl, h1, h2⟩ := h.cons_inv
    cases e
    exact ⟨_, rfl, h1⟩
  | _, _ :: _, i + 1, _, h, e => by
    obtain ⟨v, us, rfl, h1, h2⟩ := h.cons_inv
    exact h2.get (i := i) e
theorem Dvs.at {H : Hp} {vs : List V} {xs : List α} {i : Nat} {v : V} (h : Dvs H vs xs) (e : vs[i]? = some v) : ∃ x, xs[i]? = some x ∧ Dv H v x := by
  have hi : i < xs.length := by
    rw [← h.len]
    exact (List.getElem?_eq_some_iff.mp e).1
  obtain ⟨u, e2, d⟩ := h.get (List.getElem?_eq_getElem hi)
  rw [e] at e2
  cases e2
  exact ⟨_, List.getElem?_eq_getElem hi, d⟩
theorem Dv.list {H : Hp} {a : Addr} {vs : List V} {xs : List α} (h : H a = some (.lst vs)) (hs : Dvs H vs xs) : Dv H (.ref a) xs := Dh.lst h hs
theorem Dv.list_inv {H : Hp} {v : V} {xs : List α} (h : Dv H v xs) : ∃ a vs, v = .ref a ∧ H a = some (.lst vs) ∧ Dvs H vs xs := by
  unfold Dv at h
  cases h with
  | lst h1 h2 => exact ⟨_, _, rfl, h1, h2⟩
theorem Dv.pair {H : Hp} {a : Addr} {u v : V} {x : α} {y : β} (h : H a = some (.tup [u, v])) (h1 : Dv H u x) (h2 : Dv H v y) : Dv H (.ref a) (x, y) := Dh.tup h (.cons h1 (.cons h2 .nil))
theorem Dv.pair_inv {H : Hp} {v : V} {p : α × β} (h : Dv H v p) : ∃ a u w, v = .ref a ∧ H a = some (.tup [u, w]) ∧ Dv H u p.1 ∧ Dv H w p.2 := by
  unfold Dv at h
  cases h with
  | tup h1 h2 =>
    cases h2 with
    | cons h3 h4 =>
      cases h4 with
      | cons h5 h6 =>
        cases h6
        exact ⟨_, _, _, rfl, h1, h3, h5⟩
abbrev vi (xs : List Int) : List V := xs.map V.int
abbrev vn (xs : List Nat) : List V := xs.map (fun (b : Nat) => V.int (b : Int))
theorem vn_len (xs : List Nat) : (vn xs).length = xs.length := List.length_map _
theorem vn_get {xs : List Nat} {i n : Nat} (h : xs[i]? = some n) : (vn xs)[i]? = some (.int (n : Int)) := by
  rw [List.getElem?_map, h]
  rfl
theorem Dvs.ints_inv {H : Hp} : ∀ {vs : List V} {xs : List Int}, Dvs H vs xs → vs = vi xs
  | _, [], h => h.nil_inv
  | _, _ :: _, h => by
    obtain ⟨v, us, rfl, h1, h2⟩ := h.cons_inv
    rw [h1.int_inv, h2.ints_inv]
    rfl
theorem Dvs.nats_inv {H : Hp} : ∀ {vs : List V} {xs : List Nat}, Dvs H vs xs → vs = vn xs
  | _, [], h => h.nil_inv
  | _, _ :: _, h => by
    obtain ⟨v, us, rfl, h1, h2⟩ := h.cons_inv
    rw [h1.nat_inv, h2.nats_inv]
    rfl
theorem Dvs.ints {H : Hp} : ∀ xs : List Int, Dvs H (vi xs) xs
  | [] => .nil
  | x :: r => .cons (.int x) (Dvs.ints r)
theorem Dvs.nats {H : Hp} : ∀ xs : List Nat, Dvs H (vn xs) xs
  | [] => .nil
  | x :: r => .cons (.nat x) (Dvs.nats r)
theorem Dvs.bls {H : Hp} : ∀ xs : List Bool, Dvs H (xs.map V.bl) xs
  | [] => .nil
  | x :: r => .cons (.bl x) (Dvs.bls r)
/-- a list of whole numbers from 0 on -/
theorem Dv.natl {H : Hp} {a : Addr} {xs : List Nat} (h : H a = some (.lst (vn xs))) : Dv H (.ref a) xs := .list h (Dvs.nats xs)
theorem Dv.natl_inv {H : Hp} {v : V} {xs : List Nat} (h : Dv H v xs) : ∃ a, v = .ref a ∧ H a = some (.lst (vn xs)) := by
  obtain ⟨a, vs, rfl, h1, h2⟩ := h.list_inv
  rw [h2.nats_inv] at h1
  exact ⟨a, rfl, h1⟩
theorem Dv.intl {H : Hp} {a : Addr} {xs : List Int} (h : H a = some (.lst (vi xs))) : Dv H (.ref a) xs := .list h (Dvs.ints xs)
theorem Dv.intl_inv {H : Hp} {v : V} {xs : List Int} (h : Dv H v xs) : ∃ a, v = .ref a ∧ H a = some (.lst (vi xs)) := by
  obtain ⟨a, vs, rfl, h1, h2⟩ := h.list_inv
  rw [h2.ints_inv] at h1
  exact ⟨a, rfl, h1⟩
theorem shaped_of (x : α) (hd : Datum.depth α ≤ 64) : SeqAt.shaped (Datum.toD x) = true := by
  unfold SeqAt.shaped
  rw [Dm.lay x, Bool.true_and]
  exact decide_eq_true (Nat.le_trans (Datum.depth_le x) hd)
theorem eqD {K : PySem.W.Frag} {H : Hp} {x y : V} {Q : VK} {a b : α} (hx : Dv H x a) (hy : Dv H y b) (hd : Datum.depth α ≤ 64) (q : Q (.bl (decide (a = b))) H) : rEqD K x y H Q := by
  refine ⟨_, _, dh_dp _ _ hx, dh_dp _ _ hy, shaped_of a hd, shaped_of b hd, ?_⟩
  rw [Datum.eqv]
  exact q
theorem neD {K : PySem.W.Frag} {H : Hp} {x y : V} {Q : VK} {a b : α} (hx : Dv H x a) (hy : Dv H y b) (hd : Datum.depth α ≤ 64) (q : Q (.bl (!decide (a = b))) H) : rNeD K x y H Q := by
  refine ⟨_, _, dh_dp _ _ hx, dh_dp _ _ hy, shaped_of a hd, shaped_of b hd, ?_⟩
  rw [Datum.eqv]
  exact q
end
/-! ### the heap but for two objects that change -/
def res (p c : Addr) (H : Hp) : Hp := fun b => if b = p ∨ b = c then none else H b
theorem res_eq {p c b : Addr} {H : Hp} (h1 : b ≠ p) (h2 : b ≠ c) : res p c H b = H b := if_neg (fun h => h.elim h1 h2)
theorem res_some {p c b : Addr} {H : Hp} {o : HO} (h : res p c H b = some o) : b ≠ p ∧ b ≠ c ∧ H b = some o := by
  unfold res at h
  by_cases e : b = p ∨ b = c
  · rw [if_pos e] at h
    cases h
  · rw [if_neg e] at h
    exact ⟨fun z => e (.inl z), fun z => e (.inr z), h⟩
theorem res_same (p c : Addr) (H : Hp) : Same (res p c H) H := fun _ _ h => (res_some h).2.2
theorem Same.res {H H' : Hp} (s : Same H H') (p c : Addr) : Same (res p c H) (res p c H') := fun b o h => by
  obtain ⟨h1, h2, h3⟩ := res_some h
  rw [res_eq h1 h2]
  exact s _ _ h3
theorem res_of {p c b : Addr} {H : Hp} {o : HO} (h1 : b ≠ p) (h2 : b ≠ c) (h : H b = some o) : res p c H b = some o := by
  rw [res_eq h1 h2]
  exact h
/-- the heap but for one object -/
def hid (q : Addr) (H : Hp) : Hp := fun b => if b = q then none else H b
theorem hid_eq {q b : Addr} {H : Hp} (h : b ≠ q) : hid q H b = H b := if_neg h
theorem hid_some {q b : Addr} {H : Hp} {o : HO} (h : hid q H b = some o) : b ≠ q ∧ H b = some o := by
  unfold hid at h
  by_cases e : b = q
  · rw [if_pos e] at h
    cases h
  · rw [if_neg e] at h
    exact ⟨e, h⟩
theorem hid_of {q b : Addr} {H : Hp} {o : HO} (h : b ≠ q) (e : H b = some o) : hid q H b = some o := by
  rw [hid_eq h]
  exact e
theorem hid_same (q : Addr) (H : Hp) : Same (hid q H) H := fun _ _ h => (hid_some h).2
theorem hid_mono {q : Addr} {H H' : Hp} (s : Same H H') : Same (hid q H) (hid q H') := fun b o h => by
  obtain ⟨h1, h2⟩ := hid_some h
  exact hid_of h1 (s _ _ h2)
theorem hid_mut {q : Addr} {H : Hp} {o : HO} : Same (hid q H) (hid q (upd H q o)) := fun b u h => by
  obtain ⟨h1, h2⟩ := hid_some h
  exact hid_of h1 (by rw [upd_ne h1]; exact h2)
theorem hid_res_mut {p c q : Addr} {H : Hp} {o : HO} : Same (hid q (res p c H)) (hid q (res p c (upd H q o))) := fun b u h => by
  obtain ⟨h1, h2⟩ := hid_some h
  obtain ⟨h3, h4, h5⟩ := res_some h2
  exact hid_of h1 (res_of h3 h4 (by rw [upd_ne h1]; exact h5))
theorem res_upd {p c q : Addr} {H : Hp} {o : HO} (h1 : q ≠ p) (h2 : q ≠ c) : res p c (upd H q o) q = some o := by
  rw [res_eq h1 h2]
  exact upd_same
theorem res_mut {p c D : Addr} {H H' : Hp} {o : HO} (e : Same (res p c H) (res p c H')) (h : H D = none) : Same (res p c H) (res p c (upd H' D o)) := fun b u hb => by
  obtain ⟨h1, h2, h3⟩ := res_some hb
  have h4 : b ≠ D := fun z => by
    rw [z, h] at h3
    cases h3
  rw [res_eq h1 h2, upd_ne h4]
  exact (res_some (e _ _ hb)).2.2
/-- the state of the draws: the script's numbers, from 0 on, and a seed -/
structure Dr (H : Hp) (p c : Addr) : Prop where
  ne : p ≠ c
  st : ∃ (cs : List Nat) (s : Int), H p = some (.lst [.ref c, .int s]) ∧ H c = some (.lst (vn cs)) ∧ cs.length ≤ 63
theorem Dr.same {H H' : Hp} {p c : Addr} (h : Dr H p c) (s : Same H H') : Dr H' p c := by
  obtain ⟨n, cs, z, h1, h2, h3⟩ := h
  exact ⟨n, cs, z, s _ _ h1, s _ _ h2, h3⟩
theorem Dr.off {H : Hp} {p c q : Addr} (h : Dr H p c) (hq : H q = none) : q ≠ p ∧ q ≠ c := by
  obtain ⟨n, cs, z, h1, h2, h3⟩ := h
  exact ⟨fun e => (by rw [e, h1] at hq; cases hq), fun e => (by rw [e, h2] at hq; cases hq)⟩
/-- from H to H' all but the state of the draws stays -/
structure Go (p c : Addr) (H H' : Hp) : Prop where
  a : Dr H p c
  b : Dr H' p c
  s : Same (res p c H) (res p c H')
theorem Go.refl {p c : Addr} {H : Hp} (h : Dr H p c) : Go p c H H := ⟨h, h, Same.refl _⟩
theorem Go.trans {p c : Addr} {H H1 H2 : Hp} (x : Go p c H H1) (y : Go p c H1 H2) : Go p c H H2 := ⟨x.a, y.b, x.s.trans y.s⟩
theorem Go.of {p c : Addr} {H H' : Hp} (h : Dr H p c) (s : Same H H') : Go p c H H' := ⟨h, h.same s, V0.Same.res s p c⟩
theorem Go.more {p c : Addr} {H H1 H2 : Hp} (x : Go p c H H1) (s : Same H1 H2) : Go p c H H2 := x.trans (Go.of x.b s)
theorem Go.mut {p c D : Addr} {H H' : Hp} {o : HO} (x : Go p c H H') (h : H D = none) : Go p c H (upd H' D o) := by
  refine ⟨x.a, ?_, res_mut x.s h⟩
  obtain ⟨h1, h2⟩ := x.a.off h
  obtain ⟨n, cs, z, e1, e2, e3⟩ := x.b
  exact ⟨n, cs, z, (by rw [upd_ne (fun e => h1 e.symm)]; exact e1), (by rw [upd_ne (fun e => h2 e.symm)]; exact e2), e3⟩
theorem Go.get {p c b : Addr} {H H' : Hp} {o : HO} (x : Go p c H H') (h1 : b ≠ p) (h2 : b ≠ c) (h : H b = some o) : H' b = some o := by
  rw [← res_eq (p := p) (c := c) (H := H) h1 h2] at h
  exact (res_some (x.s _ _ h)).2.2
/-- what was new at H and stands at H1 stands at H' -/
theorem Go.get' {p c b : Addr} {H H1 H' : Hp} {o : HO} (x : Go p c H1 H') (d : Dr H p c) (n : H b = none) (h : H1 b = some o) : H' b = some o := x.get (d.off n).1 (d.off n).2 h
theorem Go.up {p c b : Addr} {H H' : Hp} {o : HO} (x : Go p c H H') (h : res p c H b = some o) : H' b = some o := (res_some (x.s _ _ h)).2.2
theorem Go.none {p c b : Addr} {H H' : Hp} (x : Go p c H H') (h : H' b = none) : H b = none := by
  obtain ⟨h1, h2⟩ := x.b.off h
  cases e : H b with
  | none => rfl
  | some o =>
    rw [x.get h1 h2 e] at h
    cases h
theorem Dv.up {α : Type} [DecidableEq α] [Dm α] {p c : Addr} {H : Hp} {v : V} {x : α} (h : Dv (res p c H) v x) : Dv H v x := h.same (res_same p c H)
theorem Dvs.up {α : Type} [DecidableEq α] [Dm α] {p c : Addr} {H : Hp} {vs : List V} {x : List α} (h : Dvs (res p c H) vs x) : Dvs H vs x := h.same (res_same p c H)
theorem emod_range {x m : Int} (h : 0 < m) : 0 ≤ x.fmod m ∧ x.fmod m < m := by
  rw [Int.fmod_eq_emod_of_nonneg x (by omega)]
  exact ⟨Int.emod_nonneg _ (by omega), Int.emod_lt_of_pos _ h⟩
theorem ix_nat {n j : Nat} (h : j < n) : ixN n (j : Int) = some j := by
  unfold ixN
  rw [if_pos (Int.natCast_nonneg _), if_pos (by omega), Int.toNat_natCast]
/-- what is new at H' -/
def fresh (H H' : Hp) : Hp := fun b => match H b with
  | none => H' b
  | some _ => none
theorem fresh_some {H H' : Hp} {b : Addr} {o : HO} (h : fresh H H' b = some o) : H b = none ∧ H' b = some o := by
  unfold fresh at h
  cases e : H b with
  | none =>
    rw [e] at h
    exact ⟨rfl, h⟩
  | some u =>
    rw [e] at h
    cases h
theorem fresh_of {H H' : Hp} {b : Addr} {o : HO} (h : H b = none) (e : H' b = some o) : fresh H H' b = some o := by
  unfold fresh
  rw [h]
  exact e
theorem fresh_same {H H' : Hp} : Same (fresh H H') H' := fun _ _ h => (fresh_some h).2
theorem fresh_pre {H H1 H' : Hp} (s : Same H H1) : Same (fresh H1 H') (fresh H H') := fun b o h => by
  obtain ⟨h1, h2⟩ := fresh_some h
  refine fresh_of ?_ h2
  cases e : H b with
  | none => rfl
  | some u =>
    rw [s _ _ e] at h1
    cases h1
theorem fresh_post {H H' H2 : Hp} (s : Same H' H2) : Same (fresh H H') (fresh H H2) := fun b o h => by
  obtain ⟨h1, h2⟩ := fresh_some h
  exact fresh_of h1 (s _ _ h2)
theorem fresh_hid {H H' : Hp} {q : Addr} {o : HO} (h : H q = some o) : Same (fresh H H') (hid q H') := fun b u e => by
  obtain ⟨h1, h2⟩ := fresh_some e
  refine hid_of (fun z => ?_) h2
  rw [z, h] at h1
  cases h1
/-- new at H', as H goes to H' by growth -/
theorem none_of {H H' : Hp} {b : Addr} (s : Same H H') (h : H' b = none) : H b = none := by
  cases e : H b with
  | none => rfl
  | some u =>
    rw [s _ _ e] at h
    cases h
theorem upd_id {H : Hp} {a : Addr} {o : HO} (h : H a = some o) : upd H a o = H := funext fun b => by
  by_cases e : b = a
  · rw [e, upd_same, h]
  · rw [upd_ne e]
theorem small64k {n : Nat} (h : n ≤ 65536) : n < sizeLine := Nat.lt_of_le_of_lt h (by decide)
theorem fresh_res {p c : Addr} {H H' : Hp} (d : Dr H p c) : Same (fresh H H') (res p c H') := fun b o h => by
  obtain ⟨h1, h2⟩ := fresh_some h
  obtain ⟨h3, h4⟩ := d.off h1
  exact res_of h3 h4 h2
end V0
/-! nets as data, and what the laws make of them -/
namespace V0
open PySem PySem.Spec PyProof.Rows L2
open PySem.W (Datum)
structure Net where
  ins : Nat
  starts : List Nat
  gates : List (Nat × Nat)
  nexts : List Nat
  outs : List Nat
  deriving DecidableEq
theorem eqv_net (a b : Str) : PyData.eqv (.str a) (.str b) = decide (a = b) := by
  simp only [PyData.eqv]
  exact PySem.W.beq_decide a b
instance : Datum Net where
  toD n := .tuple [.str "net", Datum.toD n.ins, Datum.toD n.starts, Datum.toD n.gates, Datum.toD n.nexts, Datum.toD n.outs]
  plain n := by simp only [PyData.plain, PyData.plainAll, Datum.plain, Bool.and_self]
  eqv a b := by
    simp only [PyData.eqv, PyData.eqvAll, Datum.eqv, Bool.and_true]
    rw [PySem.W.beq_decide, ← Bool.decide_and, ← Bool.decide_and, ← Bool.decide_and, ← Bool.decide_and, ← Bool.decide_and]
    refine decide_eq_decide.mpr ⟨fun ⟨_, h1, h2, h3, h4, h5⟩ => ?_, fun e => by rw [e]; exact ⟨rfl, rfl, rfl, rfl, rfl, rfl⟩⟩
    cases a
    cases b
    simp only at h1 h2 h3 h4 h5
    rw [h1, h2, h3, h4, h5]
  depth := 3
  depth_le n := by
    have h1 := Datum.depth_le n.ins
    have h2 := Datum.depth_le n.starts
    have h3 := Datum.depth_le n.gates
    have h4 := Datum.depth_le n.nexts
    have h5 := Datum.depth_le n.outs
    have e1 : Datum.depth Nat = 0 := rfl
    have e2 : Datum.depth (List Nat) = 1 := rfl
    have e3 : Datum.depth (List (Nat × Nat)) = 2 := rfl
    rw [e1] at h1
    rw [e2] at h2 h4 h5
    rw [e3] at h3
    simp only [PyData.depth, PyData.depthAll]
    omega
instance : Dm Net where
  lay n := by
    have h1 := Dm.lay n.ins
    have h2 := Dm.lay n.starts
    have h3 := Dm.lay n.gates
    have h4 := Dm.lay n.nexts
    have h5 := Dm.lay n.outs
    simp only [Datum.toD] at h1 h2 h3 h4 h5 ⊢
    simp only [PyData.canLay0, PyData.canLayAll0, Bool.and_true] at h1 h2 h3 h4 h5 ⊢
    rw [h2, h3, h4, h5]
    decide +kernel
section
theorem Dv.net_inv {H : Hp} {v : V} {n : Net} (h : Dv H v n) : ∃ a s g x o, v = .ref a ∧ H a = some (.tup [.str "net", .int (n.ins : Int), .ref s, .ref g, .ref x, .ref o]) ∧
    Dv H (.ref s) n.starts ∧ Dv H (.ref g) n.gates ∧ Dv H (.ref x) n.nexts ∧ Dv H (.ref o) n.outs := by
  unfold Dv at h
  cases h with
  | tup h1 h2 =>
    cases h2 with
    | cons a1 h2 =>
      cases h2 with
      | cons a2 h2 =>
        cases h2 with
        | cons a3 h2 =>
          cases h2 with
          | cons a4 h2 =>
            cases h2 with
            | cons a5 h2 =>
              cases h2 with
              | cons a6 h2 =>
                cases h2
                cases a1
                have e2 := Dv.nat_inv (n := n.ins) a2
                subst e2
                obtain ⟨s, _, rfl, _⟩ := Dv.list_inv (xs := n.starts) a3
                obtain ⟨g, _, rfl, _⟩ := Dv.list_inv (xs := n.gates) a4
                obtain ⟨x, _, rfl, _⟩ := Dv.list_inv (xs := n.nexts) a5
                obtain ⟨o, _, rfl, _⟩ := Dv.list_inv (xs := n.outs) a6
                exact ⟨_, _, _, _, _, rfl, h1, a3, a4, a5, a6⟩
theorem Dv.net {H : Hp} {a : Addr} {n : Net} {s g x o : V} (h : H a = some (.tup [.str "net", .int (n.ins : Int), s, g, x, o])) (h1 : Dv H s n.starts) (h2 : Dv H g n.gates) (h3 : Dv H x n.nexts) (h4 : Dv H o n.outs) : Dv H (.ref a) n :=
  Dh.tup h (.cons (.str _) (.cons (.int _) (.cons h1 (.cons h2 (.cons h3 (.cons h4 .nil))))))
end
/-- how many nodes there are behind the inputs and flops -/
def Net.base (n : Net) : Nat := 1 + n.ins + n.starts.length
def Net.many (n : Net) : Nat := n.base + n.gates.length
structure Net.Ok (n : Net) (ins flops most : Nat) : Prop where
  ins : n.ins ≤ ins
  fl : n.starts.length ≤ flops
  bits : ∀ b ∈ n.starts, b < 2
  most : n.gates.length ≤ most
  g : ∀ j g, n.gates[j]? = some g → g.1 < 2 * (n.base + j) ∧ g.2 < 2 * (n.base + j)
  nl : n.nexts.length = n.starts.length
  nx : ∀ x ∈ n.nexts, x < 2 * n.many
  ol : n.outs.length ≤ 3
  ox : ∀ x ∈ n.outs, x < 2 * n.many
/-- a literal's bit in a row of values -/
def bitv (row : List Nat) (l : Nat) : Nat := (row[l / 2]?.getD 0) ^^^ (l % 2)
def rowOf (gs : List (Nat × Nat)) (row : List Nat) : List Nat := gs.foldl (fun r g => r ++ [bitv r g.1 * bitv r g.2]) row
def Net.row (n : Net) (held bits : List Nat) : List Nat := rowOf n.gates (0 :: bits ++ held)
theorem rowOf_len (gs : List (Nat × Nat)) (r : List Nat) : (rowOf gs r).length = r.length + gs.length := by
  induction gs generalizing r with
  | nil => rfl
  | cons g gs ih =>
    show (rowOf gs _).length = _
    rw [ih, List.length_append, List.length_cons, List.length_cons, List.length_nil]
    omega
theorem rowOf_snoc (gs : List (Nat × Nat)) (g : Nat × Nat) (r : List Nat) : rowOf (gs ++ [g]) r = rowOf gs r ++ [bitv (rowOf gs r) g.1 * bitv (rowOf gs r) g.2] := by
  unfold rowOf
  rw [List.foldl_append]
  rfl
theorem bitv_lt {row : List Nat} (h : ∀ b ∈ row, b < 2) (l : Nat) : bitv row l < 2 := by
  have h1 : row[l / 2]?.getD 0 < 2 := by
    cases e : row[l / 2]? with
    | none => decide
    | some x => exact h x (List.mem_of_getElem? e)
  exact Nat.xor_lt_two_pow (n := 1) h1 (Nat.mod_lt _ (by decide))
theorem mul_lt2 {a b : Nat} (ha : a < 2) (hb : b < 2) : a * b < 2 := by
  have : a = 0 ∨ a = 1 := by omega
  rcases this with rfl | rfl <;> omega
theorem rowOf_lt {gs : List (Nat × Nat)} {r : List Nat} (h : ∀ b ∈ r, b < 2) : ∀ b ∈ rowOf gs r, b < 2 := by
  induction gs generalizing r with
  | nil => exact h
  | cons g gs ih =>
    refine ih (r := r ++ [_]) fun b hb => ?_
    rcases List.mem_append.mp hb with hb | hb
    · exact h b hb
    · rw [List.mem_singleton.mp hb]
      exact mul_lt2 (bitv_lt h _) (bitv_lt h _)
theorem take_snoc {α : Type} {xs : List α} {i : Nat} {x : α} (h : xs[i]? = some x) : xs.take (i + 1) = xs.take i ++ [x] := by
  rw [List.take_add_one, h]
  rfl
theorem get_snoc {α : Type} {xs : List α} {x y : α} {k : Nat} (h : (xs ++ [x])[k]? = some y) : (k < xs.length ∧ xs[k]? = some y) ∨ (k = xs.length ∧ y = x) := by
  by_cases hk : k < xs.length
  · rw [List.getElem?_append_left hk] at h
    exact .inl ⟨hk, h⟩
  · rw [List.getElem?_append_right (by omega)] at h
    have e : k - xs.length = 0 := by
      cases e : k - xs.length with
      | zero => rfl
      | succ j =>
        rw [e] at h
        simp at h
    rw [e] at h
    cases h
    exact .inr ⟨by omega, rfl⟩
theorem mem_snoc {α : Type} {P : α → Prop} {xs : List α} {x : α} (h : ∀ y ∈ xs, P y) (hx : P x) : ∀ y ∈ xs ++ [x], P y := by
  intro y hy
  rcases List.mem_append.mp hy with hy | hy
  · exact h y hy
  · rw [List.mem_singleton.mp hy]
    exact hx
theorem vn_snoc (xs : List Nat) (x : Nat) : vn xs ++ [V.int (x : Int)] = vn (xs ++ [x]) := by
  unfold vn
  rw [List.map_append]
  rfl
theorem cut_nn (xs : List Nat) {a b : Nat} (h1 : a ≤ b) (h2 : b ≤ xs.length) : cutV (vn xs) (some (a : Int)) (some (b : Int)) = vn ((xs.drop a).take (b - a)) := by
  unfold cutV
  rw [HT.sIx_nat, HT.sIx_nat, vn_len, Nat.min_eq_left h2, Nat.min_eq_left (Nat.le_trans h1 h2)]
  unfold vn
  rw [← List.map_drop, ← List.map_take]
theorem set_vn (xs : List Nat) (i x : Nat) : (vn xs).set i (.int (x : Int)) = vn (xs.set i x) := by
  unfold vn
  rw [List.map_set]
theorem mem_set {α : Type} {P : α → Prop} {xs : List α} {i : Nat} {x : α} (h : ∀ y ∈ xs, P y) (hx : P x) : ∀ y ∈ xs.set i x, P y := by
  intro y hy
  rcases List.mem_or_eq_of_mem_set hy with hy | rfl
  · exact h y hy
  · exact hx
theorem dec_bool (a b : Bool) : decide (V.bl a = V.bl b) = decide (a = b) := by rw [Bool.eq_iff_iff]; simp
theorem dec_int (a b : Int) : decide (V.int a = V.int b) = decide (a = b) := by rw [Bool.eq_iff_iff]; simp
theorem dec_nat (a b : Nat) : decide (V.int (a : Int) = V.int (b : Int)) = decide (a = b) := by
  rw [dec_int]
  exact decide_eq_decide.mpr ⟨fun e => by omega, fun e => by rw [e]⟩
theorem dec_one (a : Nat) : decide (V.int (a : Int) = V.int 1) = decide (a = 1) := dec_nat a 1
theorem flat_vn : ∀ xs : List Nat, (vn xs).all flatV = true
  | [] => rfl
  | y :: r => by
    show (true && (vn r).all flatV) = true
    rw [flat_vn r]
    rfl
theorem inV_vn (c : Nat) : ∀ xs : List Nat, inV (.int (c : Int)) (vn xs) = decide (c ∈ xs)
  | [] => by rfl
  | y :: r => by
    have ih := inV_vn c r
    show (eqV (.int (y : Int)) (.int (c : Int)) || inV (.int (c : Int)) (vn r)) = _
    rw [ih]
    show (((y : Int) == (c : Int)) || decide (c ∈ r)) = _
    by_cases h : c ∈ r
    · rw [decide_eq_true h, Bool.or_true, decide_eq_true (List.mem_cons_of_mem _ h)]
    · by_cases e : y = c
      · subst e
        rw [beq_self_eq_true, Bool.true_or, decide_eq_true List.mem_cons_self]
      · rw [beq_eq_false_iff_ne.mpr (fun z => e (by omega)), decide_eq_false h, Bool.or_false, decide_eq_false (fun m => ?_)]
        rcases List.mem_cons.mp m with m | m
        · exact e m.symm
        · exact h m
theorem bxor (a b : Nat) : Builtin.bitXor (a : Int) (b : Int) = ((a ^^^ b : Nat) : Int) := by
  rw [Bits.bitXor_pp (Int.natCast_nonneg _) (Int.natCast_nonneg _), Int.toNat_natCast, Int.toNat_natCast]
theorem fdiv_nat (a b : Nat) : ((a : Int)).fdiv (b : Int) = ((a / b : Nat) : Int) := by
  rw [Int.fdiv_eq_ediv_of_nonneg _ (by omega)]
  rfl
theorem fmod_nat (a b : Nat) : ((a : Int)).fmod (b : Int) = ((a % b : Nat) : Int) := by
  rw [Int.fmod_eq_emod_of_nonneg _ (by omega)]
  rfl
theorem nfdiv2 (a : Nat) : ((a : Int)).fdiv 2 = ((a / 2 : Nat) : Int) := fdiv_nat a 2
theorem nfmod2 (a : Nat) : ((a : Int)).fmod 2 = ((a % 2 : Nat) : Int) := fmod_nat a 2
end V0
/-! repr of data, where nothing is being shown; the law's call with what stands around it -/
namespace V0
open PySem PySem.Spec PyProof.Rows L2
open PySem.W (Datum)
def rRepr (K : PySem.W.Frag) : List V → Hp → VK → Prop := fun xs H Q => ∃ (a : Addr) (d : PyData), xs = [.ref a] ∧ Dp K H (.ref a) d ∧ (d.showable = true ∧ d.hasDict = false ∧ d.depth ≤ 60 ∧ d.shown.length ≤ sizeLine) ∧ Q (.str d.shown) H
theorem call_reprD {X : Cx} (hg : X.A.guards = some []) (hu : X.A.units + 64 < cLine) : CallR X (.builtin "repr") (rRepr X.K) := by
  intro pins s σ H xs us Q I r h
  obtain ⟨a, d, rfl, hd, ⟨h1, h2, h3, h4⟩, q⟩ := h
  obtain ⟨u, rfl, rx⟩ := vals1 r
  obtain ⟨as, rd⟩ := Dp.reads I d _ _ hd rx
  obtain rfl : u = Value.ref a := rx
  refine repr_of_reads' rd h1 (PyData.noDict_hsm h2) hg (by omega) (fun _ _ e => e) (fun h' t tk hk => ?_) h4
  exact ⟨.str _, H, I.kept hk, ⟨t, rfl⟩, q⟩
/-- data whose text is short -/
structure Sm (d : PyData) (n : Nat) : Prop where
  sh : d.showable = true
  lv : d.leavesShort 13 = true
  wt : d.weight ≤ n
structure SmA (ds : List PyData) (n : Nat) : Prop where
  sh : PyData.showableAll ds = true
  lv : PyData.leavesShortAll 13 ds = true
  wt : PyData.weightAll ds ≤ n
theorem Sm.mono {d : PyData} {n m : Nat} (h : Sm d n) (l : n ≤ m) : Sm d m := ⟨h.sh, h.lv, Nat.le_trans h.wt l⟩
theorem Sm.int {i : Int} (h : i.natAbs < 10 ^ 12) : Sm (.int i) 40 := by
  have hl : i.natAbs.log2 < 40 := by
    by_cases h0 : i.natAbs = 0
    · rw [h0]
      decide
    · exact (Nat.log2_lt h0).mpr (Nat.lt_trans h (by decide))
  refine ⟨?_, ?_, ?_⟩
  · simp only [PyData.showable, decide_eq_true_eq]
    omega
  · simp only [PyData.leavesShort, decide_eq_true_eq]
    exact PyData.shown_int_le h
  · simp only [PyData.weight]
    split <;> omega
theorem Sm.nat {n : Nat} (h : n < 10 ^ 12) : Sm (.int (n : Int)) 40 := Sm.int (by rw [Int.natAbs_natCast]; exact h)
theorem SmA.nil : SmA [] 0 := ⟨by simp only [PyData.showableAll], by simp only [PyData.leavesShortAll], by simp only [PyData.weightAll]; exact Nat.le_refl _⟩
theorem SmA.cons {d : PyData} {ds : List PyData} {n m : Nat} (h : Sm d n) (hs : SmA ds m) : SmA (d :: ds) (n + 1 + m) :=
  ⟨by simp only [PyData.showableAll, h.sh, hs.sh, Bool.and_self], by simp only [PyData.leavesShortAll, h.lv, hs.lv, Bool.and_self], by simp only [PyData.weightAll]; have := h.wt; have := hs.wt; omega⟩
theorem SmA.all {n : Nat} : ∀ {ds : List PyData}, (∀ d ∈ ds, Sm d n) → SmA ds (ds.length * (n + 1))
  | [], _ => by rw [List.length_nil, Nat.zero_mul]; exact SmA.nil
  | d :: ds, h => by
    have a := SmA.cons (h d List.mem_cons_self) (SmA.all (ds := ds) fun e he => h e (List.mem_cons_of_mem _ he))
    have e : (d :: ds).length * (n + 1) = n + 1 + ds.length * (n + 1) := by
      rw [List.length_cons, Nat.add_mul, Nat.one_mul]
      omega
    rw [e]
    exact a
theorem Sm.list {ds : List PyData} {n : Nat} (h : SmA ds n) : Sm (.list ds) n := ⟨by simp only [PyData.showable, h.sh], by simp only [PyData.leavesShort, h.lv], by simp only [PyData.weight]; exact h.wt⟩
theorem Sm.tup {ds : List PyData} {n : Nat} (h : SmA ds n) : Sm (.tuple ds) n := ⟨by simp only [PyData.showable, h.sh], by simp only [PyData.leavesShort, h.lv], by simp only [PyData.weight]; exact h.wt⟩
theorem Sm.bl (b : Bool) : Sm (.bool b) 0 := ⟨by simp only [PyData.showable], by simp only [PyData.leavesShort], by simp only [PyData.weight]; exact Nat.le_refl _⟩
section
variable {α : Type} [DecidableEq α] [Dm α]
theorem Sm.of_list {xs : List α} {n : Nat} (h : ∀ x ∈ xs, Sm (Datum.toD x) n) : Sm (Datum.toD xs) (xs.length * (n + 1)) := by
  have a := SmA.all (ds := xs.map Datum.toD) (n := n) fun d hd => by
    obtain ⟨x, hx, rfl⟩ := List.mem_map.mp hd
    exact h x hx
  rw [List.length_map] at a
  exact Sm.list a
theorem Sm.nats {xs : List Nat} (h : ∀ x ∈ xs, x < 10 ^ 12) : Sm (Datum.toD xs) (xs.length * 41) := Sm.of_list fun x hx => Sm.nat (h x hx)
theorem Sm.ints {xs : List Int} (h : ∀ x ∈ xs, x.natAbs < 10 ^ 12) : Sm (Datum.toD xs) (xs.length * 41) := Sm.of_list fun x hx => Sm.int (h x hx)
/-- what repr tells of x -/
def txt (x : α) : Str := (Datum.toD x).shown
theorem reprD {K : PySem.W.Frag} {H : Hp} {a : Addr} {x : α} {n : Nat} {Q : VK} (hx : Dv H (.ref a) x) (s : Sm (Datum.toD x) n) (hn : n ≤ 2 ^ 20) (hd : Datum.depth α ≤ 60) (q : Q (.str (txt x)) H) : rRepr K [.ref a] H Q :=
  ⟨a, _, rfl, dh_dp _ _ hx, ⟨s.sh, PyData.hasDict_of_canLay _ (Dm.lay x), Nat.le_trans (Datum.depth_le x) hd, PyData.shown_fits (by decide) (by decide) s.lv (Nat.le_trans s.wt hn)⟩, q⟩
theorem four (x : α) {n : Nat} (s : Sm (Datum.toD x) n) (hn : n ≤ 2 ^ 20) (hd : Datum.depth α ≤ 60) : (Datum.toD x).showable = true ∧ (Datum.toD x).hasDict = false ∧ (Datum.toD x).depth ≤ 60 ∧ (Datum.toD x).shown.length ≤ sizeLine :=
  ⟨s.sh, PyData.hasDict_of_canLay _ (Dm.lay x), Nat.le_trans (Datum.depth_le x) hd, PyData.shown_fits (by decide) (by decide) s.lv (Nat.le_trans s.wt hn)⟩
end
/-! ### the law's call -/
/-- the law's def from where a claim calls it -/
def LawOk (P : Program) (w : World) (K : PySem.W.Frag) (mg : Str → Option Value) (base : Heap) (f : Addr) (fd : FuncData) (ps : List Str) (sp : Sp) : Prop :=
  ∀ (s : Shared) (H : Hp) (args : Args) (us : List Value) (vs : List V) (Q : VK) (E : XK), Env0 P w K mg base callerA [] s H → BindsTo s fd args (ps.zip us) → Vals vs us → sp vs H Q E → codeAny (model P w) callerA (.call (.ref f) args) (CR CX0 [] P w H s Q E) s
theorem lawOk {P : Program} {w : World} {K : PySem.W.Frag} {mg : Str → Option Value} {base : Heap} {x qual : Str} {st : Stmt} {f : Addr} {fd : FuncData} {N ps : List Str} {k : Nat} {sp : Sp} (F : Fun K x qual st f fd) (S : FnScope N ps (defScope st)) (room : Room (k + 1) callerA)
    (len : ∀ vs H Q E, sp vs H Q E → vs.length = ps.length)
    (body : ∀ (cdv : Value) (A : Around) (outer : List Env) (s : Shared) (H : Hp) (vs : List V) (Q : VK) (E : XK), Room k (A.deeper (envOfC qual (defScope st) s.heap.objs.size f cdv)) → (A.deeper (envOfC qual (defScope st) s.heap.objs.size f cdv)).guards = some [] → sp vs H Q E →
      ∃ t, PSs (cxOf CX0 P w K mg base N qual (defScope st) f cdv A outer s H E).nox (defBody st) t ∧ t { nx := fun _ H' => Q .non H', rt := Q } (L2.start N vs) H) : LawOk P w K mg base f fd ps sp := by
  obtain ⟨_, _, _, _, _, _, cdv, _, _, rfl, look, cod⟩ := F.ex
  intro s H args us vs Q E env bind rel want
  have inK : K.In s.heap := env.mod.kin.keeps fun b o g => (env.bs b o g).1
  have free : s.heap.NoLimit := env.mod.nolimit.keeps fun b o g => (env.bs b o g).1
  have vis : ∀ y ∈ ps.zip us, (defScope st).names.lookup y.1 = some .local ∨ ((defScope st).names.lookup y.1 = some .cell ∧ ((cellsFrom (s.heap.objs.size + 1) (defScope st).names []).lookup y.1).isSome = true) := by
    rintro ⟨n, v⟩ hy
    exact (S.par n (List.of_mem_zip hy).1).imp id fun c => ⟨c, PySem.W.cellsFrom_some _ _ _ (.inl c)⟩
  refine codeAny_call_function room.depth (inK _ _ look) rfl S.co S.gen rfl (PySem.W.codeRec_of inK cod) (bind _ _ _ _ ?_)
  refine wpAny_newFunctionEnv_cells S.kind vis fun env1 he s1 made => ?_
  subst he
  refine ⟨free.keeps made.toInCall.keep, codeAny_func ?_⟩
  obtain ⟨t, ht, ok⟩ := body cdv callerA [] s H vs Q E (room.deeper _) rfl want
  have I := inv_start (CX := CX0) (E := E) S room.hd env (len _ _ _ _ want) rel made
  refine wpAny_mono ((ht.nox).run [] s1 (L2.start N vs) H _ I ok) (fun fl s' told => ?_) fun e s' told => told
  cases fl with
  | next =>
    obtain ⟨_, H', J, done⟩ := told
    exact ⟨.non, H', J.os, J.bare, J.base, J.hok, rfl, done⟩
  | ret u =>
    obtain ⟨v, _, H', J, rv, done⟩ := told
    exact ⟨v, H', J.os, J.bare, J.base, J.hok, rv, done⟩
  | brk => exact told.elim fun _ h => h.elim fun _ h => h.2.elim
  | cont => exact told.elim fun _ h => h.elim fun _ h => h.2.elim
theorem law_at {P : Program} {w : World} {K : PySem.W.Frag} {mg mb : Str → Option Value} {f a : Addr} {fd : FuncData} {x : Str} {sp : Sp} {s : Shared} {us : List Value} {ns : List Int}
    (kin : K.In s.heap) (glob : s.heap.Ns mainGlobals mg) (blt : s.heap.Ns builtinsNs mb) (same : ∀ y : Str, y ≠ "__name__" → mb y = bootBuiltins y) (free : s.heap.NoLimit) (gens : s.gens = #[])
    (script : s.heap.get? a = some { cls := .type "list", data := .seq us.toArray }) (whole : IntsAre us ns) (few : ns.length ≤ sizeLine)
    (F : ∀ base : Heap, K.In base → base.Ns mainGlobals mg → LawOk P w K mg base f fd [x] sp) (binds : ∀ (t : Shared) (u : Value), BindsTo t fd ⟨[u], []⟩ [(x, u)])
    (want : ∀ H : Hp, Only H → SqL K H a (ns.map V.int) → sp [.ref a] H (fun v _ => v = .bl true) fun _ _ _ => False) :
    codeAny (model P w) callerA (.call (.ref f) ⟨[.ref a], []⟩) (fun r t => r = .ok (.ret (.bool true)) ∧ OldK s.heap t.heap ∧ t.os = s.os ∧ AllBare t.gens) s := by
  have rel := vals_ints whole
  have long := whole.length
  -- what is tracked at the start: the script, if it is not one of the module's own objects
  obtain ⟨H, only, seq, fits, dom, own⟩ : ∃ H : Hp, Only H ∧ SqL K H a (ns.map V.int) ∧ HOk P w H s.heap ∧ (∀ b o, H b = some o → b = a) ∧ (∀ o, H a = some o → K.lookup a = none) := by
    cases kl : K.lookup a with
    | some o =>
      have g := kin a o kl
      rw [script] at g
      cases g
      refine ⟨fun _ => none, fun _ => .inl rfl, .inr ⟨_, us.toArray, _, kl, rfl, rfl, rfl, ?_, ?_⟩, ?_, ?_, ?_⟩
      · rw [List.size_toArray, long]
        exact few
      · rw [List.toList_toArray]
        exact rel
      · intro b u z
        cases z
      · intro b u z
        cases z
      · intro u z
        cases z
    | none =>
      let fz : HO := .frz { cls := .type "list", data := .seq us.toArray } (.lst (ns.map V.int))
      have at_a : (fun b => if b = a then some fz else none : Hp) a = some fz := if_pos rfl
      have off_a : ∀ {b : Addr}, b ≠ a → (fun b => if b = a then some fz else none : Hp) b = none := fun h => if_neg h
      refine ⟨fun b => if b = a then some fz else none, fun b => ?_, .inl (.inr ⟨_, at_a⟩), fun b u z => ?_, fun b u z => ?_, fun _ _ => rfl⟩
      · by_cases e : b = a
        · subst e
          exact .inr ⟨_, _, at_a⟩
        · exact .inl (off_a e)
      · by_cases e : b = a
        · subst e
          rw [at_a] at z
          cases z
          refine ⟨script, ?_, us, _, rel, script⟩
          rw [List.length_map]
          exact few
        · rw [off_a e] at z
          cases z
      · by_cases e : b = a
        · exact e
        · rw [off_a e] at z
          cases z
  have under : ∀ {b : Addr} {o : Obj}, s.heap.get? b = some o → H b = none → (hidT s.heap H).get? b = some o := fun g n => hidT_get g n
  have dicts : ∀ {b : Addr} {m : Str → Option Value}, s.heap.Ns b m → (hidT s.heap H).Ns b m := by
    rintro b m ⟨o, es, ep, g, d, r⟩
    refine ⟨o, es, ep, under g ?_, d, r⟩
    cases hb : H b with
    | none => rfl
    | some u =>
      obtain rfl := dom b u hb
      rw [script] at g
      cases g
      cases d
  have kinB : K.In (hidT s.heap H) := by
    intro b o kl
    refine under (kin b o kl) ?_
    cases hb : H b with
    | none => rfl
    | some u =>
      obtain rfl := dom b u hb
      rw [own u hb] at kl
      cases kl
  have modB : Mod K mg (hidT s.heap H) := by
    refine ⟨kinB, dicts glob, ⟨mb, dicts blt, same⟩, ?_⟩
    obtain ⟨mc, z1, z2⟩ := free
    exact ⟨mc, dicts z1, z2⟩
  have env : Env0 P w K mg (hidT s.heap H) callerA [] s H :=
    ⟨rfl, modB, fun b o g => of_hidT g, Nat.le_of_eq (hidT_size _ _), trivial, fun b hb => (by cases hb), fits, .of_eq gens⟩
  refine codeAny_mono (F _ kinB (dicts glob) s H ⟨[.ref a], []⟩ [.ref a] [.ref a] _ _ env (binds s (.ref a)) (.cons rfl .nil) (want H only seq)) fun r t told => ?_
  match r, told with
  | .error e, told => exact told.elim
  | .ok .next, told => exact told.elim
  | .ok .brk, told => exact told.elim
  | .ok .cont, told => exact told.elim
  | .ok (.ret u), ⟨v, H', os, bare, un, fits', rv, yes⟩ =>
    have yes' : v = .bl true := yes
    subst yes'
    have eu : u = Value.bool true := rv
    subst eu
    refine ⟨rfl, OldK.of_keep fun b o g => ?_, os, bare⟩
    cases hb : H b with
    | none => exact un.keep b o g hb (fun z => (by cases z)) (by simp)
    | some u2 =>
      rcases only b with z | ⟨ob, xs, z⟩
      · rw [z] at hb
        cases hb
      · obtain ⟨e1, _⟩ := fits b _ z
        obtain ⟨e2, _⟩ := fits' b _ (un.frzs b ob _ z)
        rw [g] at e1
        cases e1
        exact e2
/-- the goal that k_head leaves, where the law's promise is LawOk -/
theorem walk_at {l : PySem.W.OpenLaw} {n : Nat} {q : Program} {loose : List Str} {XP : (Str → Option Value) → Heap → Prop} {YP : World → Heap → Prop} {d : DefRec} {K : Params → PySem.W.Frag} {sp : PySem.W.Frag → Sp} {x : Str}
    (hn : l.most = some n) (hs : n ≤ sizeLine) (plain : d.params.defaults = []) (hY : ∀ (w : World) (h : Heap), YP w h → (K w.params).In h)
    (F : ∀ (w : World) (mg : Str → Option Value) (f : Addr) (h : Heap), (K w.params).In h → h.Ns mainGlobals mg → mg d.name = some (.ref f) →
      ∃ fd : FuncData, (∀ (s : Shared) (u : Value), BindsTo s fd ⟨[u], []⟩ [(x, u)]) ∧ ∀ base : Heap, (K w.params).In base → base.Ns mainGlobals mg → LawOk l.prog w (K w.params) mg base f fd [x] (sp (K w.params)))
    (want : ∀ (K : PySem.W.Frag) (H : Hp) (a : Addr) (ns : List Int), ns.length ≤ n → Only H → SqL K H a (ns.map V.int) → sp K [.ref a] H (fun v _ => v = .bl true) fun _ _ _ => False) :
    PySem.W.WalkO q loose XP YP l.row.toRowW d [] (fun f vs => PySem.call f vs) := by
  refine Att.attach_call hn plain fun w _ s1 mg mb f _ _ _ _ a us ns G Y _ _ _ named obj whole few gens => ?_
  have kin := hY w _ Y
  obtain ⟨fd, binds, told⟩ := F w mg f _ kin G.T.g named
  exact law_at kin G.T.g G.T.b G.T.builtins G.T.nolimit gens obj whole (Nat.le_trans few hs) told binds fun H only seq => want _ H a ns few only seq
end V0
/-! xs[i] op= e; more operators in place; comprehensions of two clauses by an invariant -/
namespace V0
open PySem PySem.Spec PyProof.Rows L2
theorem pg_ixL {X : Cx} : PGet X (rIxL X.K) := by
  intro pins s σ H x y v u Q I rx ry h
  obtain ⟨p, xs, i, z, rfl, rfl, hq, he, q⟩ := h
  cases rx
  obtain ⟨t, rfl⟩ := ry
  obtain ⟨its, r, pl, hz⟩ := I.list hq
  obtain ⟨j, h1, h2, h3, h4, h5⟩ := atI_get he
  obtain ⟨w, ew, rw'⟩ := r.get h2
  have hl := r.length
  have hn := line63
  have fin : EP X pins σ Q w s := ⟨z, H, I, rw', q⟩
  by_cases h0 : 0 ≤ i
  · have hj : i.toNat = j := by
      rw [seqIndex_of h0 h5] at h1
      exact Option.some.inj h1
    exact wpAny_getItem_list pl.isList h0 (by omega) (by rw [hj]; simpa using ew) fin
  · have hj : (i + (its.toArray.size : Int)).toNat = j := by
      rw [seqIndex_neg (by omega) h4] at h1
      rw [List.size_toArray, ← hl]
      exact Option.some.inj h1
    exact wpAny_getItem_list_neg pl.isList (by omega) (by rw [List.size_toArray] <;> omega) (by omega) (by rw [hj]; simpa using ew) fin
theorem ip_or {X : Cx} : PIp X .BitOr (ipI fun i j => Builtin.bitOr i j) := by
  intro pins s σ H x y v u Q I r1 r2 h
  obtain ⟨i, j, e1, e2, q⟩ := h
  subst e1; subst e2
  obtain ⟨t, rfl⟩ := r1
  obtain ⟨t', rfl⟩ := r2
  exact ior_int ⟨.int _, H, I.tok _, ⟨_, rfl⟩, q⟩
/-- a star in a display, K told -/
theorem pa_starK {X : Cx} {K : PySem.W.Frag} {e : Expr} {es : List Expr} {te : TE} {t : TA} {p : Pos} (hK : X.K = K) (he : PE X e te) (hr : PA X es t) (hs : starEach (.Starred e p :: es) X.env = (true, eval e X.env) :: starEach es X.env := by rfl) : PA X (.Starred e p :: es) (StX.tStar K te t) := by
  subst hK
  exact StX.pa_star he hr hs
/-- a if t else b: what both ways give -/
theorem ifx {b : Bool} {A B : VK → Prop} {Q : VK} (R : V → Hp → Prop) (hA : b = true → ∀ Q : VK, (∀ y H', R y H' → Q y H') → A Q) (hB : b = false → ∀ Q : VK, (∀ y H', R y H' → Q y H') → B Q) (fin : ∀ y H', R y H' → Q y H') : if b = true then A Q else B Q := by
  cases b with
  | true => exact iteT (hA rfl Q fin)
  | false => exact iteF (hB rfl Q fin)
/-- a walked thing's number of turns, and what each turn gives -/
structure Wk (J : It) (n : Nat) (Y : Nat → Hp → V → Hp → Prop) (S : Nat → Hp → Prop) : Prop where
  stop : ∀ H, S n H → J.stop n H
  go : ∀ i H, i < n → S i H → J.go i H
  yld : ∀ i H x H', i < n → S i H → J.yld i H x H' → Y i H x H'
theorem wk_range {lo : Int} {n : Nat} : Wk (Itr lo n) n (fun i H x H' => x = .int (lo + i) ∧ H' = H) (fun _ _ => True) := by
  refine ⟨fun H _ => Nat.le_refl _, fun i H h _ => h, fun i H x H' _ _ y => ?_⟩
  obtain ⟨e, y⟩ := y
  exact ⟨y, e⟩
theorem wk_list {K : PySem.W.Frag} {a : Addr} {xs : List V} : Wk (Itl K a) xs.length (fun i H x H' => xs[i]? = some x ∧ H' = H) (fun _ H => SqL K H a xs) := by
  refine ⟨fun H h => ⟨xs, h, Nat.le_refl _⟩, fun i H h s => ⟨xs, xs[i], s, by simp [h]⟩, fun i H x H' _ s y => ?_⟩
  obtain ⟨e, y⟩ := y
  subst e
  exact ⟨y xs s, rfl⟩
theorem wk_tup {K : PySem.W.Frag} {a : Addr} {xs : List V} : Wk (Itt K a) xs.length (fun i H x H' => xs[i]? = some x ∧ H' = H) (fun _ H => SqT K H a xs) := by
  refine ⟨fun H h => ⟨xs, h, Nat.le_refl _⟩, fun i H h s => ⟨xs, xs[i], s, by simp [h]⟩, fun i H x H' _ s y => ?_⟩
  obtain ⟨e, y⟩ := y
  subst e
  exact ⟨y xs s, rfl⟩
/-- the outer clause of a comprehension of two, and its inner one -/
theorem lc2_out {J : It} {n : Nat} {Y : Nat → Hp → V → Hp → Prop} {S : Nat → Hp → Prop} {g : TG} {tt : TT} {inner : L2.St → Hp → (Hp → Prop) → Prop} {vs : List Nat} {σ : L2.St} {H1 : Hp} {Qd : Hp → Prop} (w : Wk J n Y S) (Pv : Nat → Hp → Prop) (h0 : Pv 0 H1) (hl : ∀ i H, i ≤ n → Pv i H → S i H)
    (hs : ∀ i H x H', i < n → Pv i H → Y i H x H' → g x (wipe σ vs) H' fun σ2 H2 => wipe σ2 vs = wipe σ vs ∧ tt σ2 H2 fun b H3 => if b = true then inner σ2 H3 (Pv (i + 1)) else Pv (i + 1) H3) (hd : ∀ H, Pv n H → Qd H) :
    ∃ W : Nat → Nat → Hp → Prop, (∃ m, W 0 m H1) ∧ ∀ i m H, W i m H →
      (J.stop i H ∧ Qd H) ∨ (J.go i H ∧ ∃ Nx : Hp → Prop, (∀ H', Nx H' → ∃ m', m' < m ∧ W (i + 1) m' H') ∧ ∀ x H', J.yld i H x H' → g x (wipe σ vs) H' fun σ2 H2 => wipe σ2 vs = wipe σ vs ∧ tt σ2 H2 fun b H3 =>
        if b = true then inner σ2 H3 Nx else Nx H3) := by
  refine ⟨fun i m H => m = n - i ∧ i ≤ n ∧ Pv i H, ⟨n, by simp, Nat.zero_le _, h0⟩, ?_⟩
  rintro i m H ⟨rfl, hi, p⟩
  by_cases hlt : i < n
  · refine .inr ⟨w.go i H hlt (hl i H hi p), Pv (i + 1), fun H' p' => ⟨n - (i + 1), by omega, rfl, hlt, p'⟩, fun x H' y => ?_⟩
    exact hs i H x H' hlt p (w.yld i H x H' hlt (hl i H hi p) y)
  · have e : i = n := by omega
    subst e
    exact .inl ⟨w.stop H (hl i H hi p), hd H p⟩
end V0
/-! loops over lists and tuples, and tuples taken apart, while an exception is handled -/
namespace V0
open PySem PySem.Spec PyProof.Rows L2 L2H HotX
section
variable {prog : Program} {w : World} {A : Around} {E : Value → Shared → Prop} {s : Shared}
/-- what an iterator leaves at its end, seen from elsewhere -/
def Off (it : Addr) (h h' : Heap) : Prop := ∀ b o, b ≠ it → h.get? b = some o → h'.get? b = some o
theorem listIter_end_hot {it l x1 : Addr} {i : Nat} {arr : Array Value} {Q : Option Value → Shared → Prop} (hot : HotAt A x1 s.heap) (at_ : s.heap.IsListIter it l i) (lst : s.heap.IsList l arr) (out : arr[i]? = none)
    (told : ∀ h', Off it s.heap h' → Q none { s with heap := h' }) : wpAny (model prog w) A (pyNext (.ref it)) Q E s := by
  obtain ⟨hnd, o1, vs1, g1, d1, c1⟩ := hot
  obtain ⟨oi, gi, ci, di⟩ := id at_
  obtain ⟨ol, gl, _, nl, dl⟩ := lst
  have apart : x1 ≠ it := fun e => by
    rw [e, gi] at g1
    cases g1
    rw [di] at d1
    cases d1
    simp at c1
  unfold pyNext
  refine wpAny_bind (wpAny_attempt (wpAny_callSpecial?_slot (name := Str.ofString "__next__") at_.typeIs slot_listiter_next (wpAny_call_entry slot_listiter_next at_.typeIs entry_listiter_next ?_ (args_listiter_next _))))
  show wpAny _ _ (field (.ref it) 0 >>= _) _ _ s
  refine wpAny_bind (wpAny_field gi di (x := Value.ref l) rfl ?_)
  show wpAny _ _ (if (Value.ref l == Value.none) = true then _ else _) _ _ s
  rw [if_neg (by exact Bool.false_ne_true)]
  show wpAny _ _ (field (.ref it) 1 >>= _) _ _ s
  refine wpAny_bind (wpAny_field gi di (x := Value.int i 0) rfl ?_)
  show wpAny _ _ (seqItems? (.ref l) >>= _) _ _ s
  refine wpAny_bind (wpAny_seqItems gl dl ?_)
  simp only [Int.toNat_natCast, out]
  refine wpAny_bind (wpAny_rule (wpAny_bind (wpAny_setField gi di (by simp) ?_)))
  show wpAny _ _ (newExc (.type "StopIteration") [] >>= _) _ _ _
  refine wpAny_bind ?_
  simp only [newExc, newTuple]
  refine wpAny_bind (wpAny_newObj_type ?_ (by size_fits))
  refine wpAny_bind (m := firstArgMember _ _) (wpAny_of_eq (a := Value.none) (by first | rfl | (simp only [firstArgMember]; rfl)) ?_)
  refine wpAny_newObj_type ?_ (by size_fits)
  have keep : ∀ {b : Addr} {o : Obj}, b ≠ it → s.heap.get? b = some o → (s.heap.update it (Obj.mapFields fun x => x.setIfInBounds 0 Value.none)).get? b = some o := fun hb e => (Heap.get?_update_other _ _ (Ne.symm hb)).trans e
  have two := Heap.get?_push_of_some { cls := .type "tuple", data := .seq #[] } (keep apart g1)
  refine raiseNew_hot ⟨hnd, o1, vs1, Heap.get?_push_of_some _ two, d1, c1⟩ (Nat.ne_of_lt (Heap.lt_size two)) (Heap.get?_push_size _ rfl) rfl (by first | (simp; done) | (simp; omega) | (simp only [Array.size_append]; simp; omega)) ?_
  refine wpAny_bind (wpAny_isInstance (T := "StopIteration") (b := true) ⟨_, Heap.get?_update_self _ (Heap.get?_push_size _ rfl) rfl, rfl⟩ isSubtype_stop ?_)
  refine wpAny_pure (told _ fun b o hb e => ?_)
  have e2 := Heap.get?_push_of_some { cls := .type "tuple", data := .seq #[] } (keep hb e)
  exact (Heap.get?_update_other _ _ (Nat.ne_of_gt (Heap.lt_size e2))).trans (Heap.get?_push_of_some _ e2)
theorem tupIter_end_hot {it l x1 : Addr} {i : Nat} {arr : Array Value} {Q : Option Value → Shared → Prop} (hot : HotAt A x1 s.heap) (at_ : s.heap.IsTupleIter it l i) (tup : s.heap.IsTuple l arr) (out : arr[i]? = none)
    (told : ∀ h', Off it s.heap h' → Q none { s with heap := h' }) : wpAny (model prog w) A (pyNext (.ref it)) Q E s := by
  obtain ⟨hnd, o1, vs1, g1, d1, c1⟩ := hot
  obtain ⟨oi, gi, ci, di⟩ := id at_
  obtain ⟨ol, gl, _, nl, dl⟩ := tup
  have apart : x1 ≠ it := fun e => by
    rw [e, gi] at g1
    cases g1
    rw [di] at d1
    cases d1
    simp at c1
  unfold pyNext
  refine wpAny_bind (wpAny_attempt (wpAny_callSpecial?_slot (name := Str.ofString "__next__") at_.typeIs F.slot_tuple_iterator_next (wpAny_call_entry F.slot_tuple_iterator_next at_.typeIs F.entry_tuple_iterator_next ?_ (F.args_tuple_iterator_next_1 _))))
  show wpAny _ _ (field (.ref it) 0 >>= _) _ _ s
  refine wpAny_bind (wpAny_field gi di (x := Value.ref l) rfl ?_)
  show wpAny _ _ (if (Value.ref l == Value.none) = true then _ else _) _ _ s
  rw [if_neg (by exact Bool.false_ne_true)]
  show wpAny _ _ (field (.ref it) 1 >>= _) _ _ s
  refine wpAny_bind (wpAny_field gi di (x := Value.int i 0) rfl ?_)
  show wpAny _ _ (seqItems? (.ref l) >>= _) _ _ s
  refine wpAny_bind (wpAny_seqItems gl dl ?_)
  simp only [Int.toNat_natCast, out]
  refine wpAny_bind (wpAny_rule (wpAny_bind (wpAny_setField gi di (by simp) ?_)))
  show wpAny _ _ (newExc (.type "StopIteration") [] >>= _) _ _ _
  refine wpAny_bind ?_
  simp only [newExc, newTuple]
  refine wpAny_bind (wpAny_newObj_type ?_ (by size_fits))
  refine wpAny_bind (m := firstArgMember _ _) (wpAny_of_eq (a := Value.none) (by first | rfl | (simp only [firstArgMember]; rfl)) ?_)
  refine wpAny_newObj_type ?_ (by size_fits)
  have keep : ∀ {b : Addr} {o : Obj}, b ≠ it → s.heap.get? b = some o → (s.heap.update it (Obj.mapFields fun x => x.setIfInBounds 0 Value.none)).get? b = some o := fun hb e => (Heap.get?_update_other _ _ (Ne.symm hb)).trans e
  have two := Heap.get?_push_of_some { cls := .type "tuple", data := .seq #[] } (keep apart g1)
  refine raiseNew_hot ⟨hnd, o1, vs1, Heap.get?_push_of_some _ two, d1, c1⟩ (Nat.ne_of_lt (Heap.lt_size two)) (Heap.get?_push_size _ rfl) rfl (by first | (simp; done) | (simp; omega) | (simp only [Array.size_append]; simp; omega)) ?_
  refine wpAny_bind (wpAny_isInstance (T := "StopIteration") (b := true) ⟨_, Heap.get?_update_self _ (Heap.get?_push_size _ rfl) rfl, rfl⟩ isSubtype_stop ?_)
  refine wpAny_pure (told _ fun b o hb e => ?_)
  have e2 := Heap.get?_push_of_some { cls := .type "tuple", data := .seq #[] } (keep hb e)
  exact (Heap.get?_update_other _ _ (Nat.ne_of_gt (Heap.lt_size e2))).trans (Heap.get?_push_of_some _ e2)
/-- a tuple taken apart -/
theorem apart_hot {t x1 : Addr} {arr : Array Value} {Q : List Value → Shared → Prop} (hot : HotAt A x1 s.heap) (tup : IsTup s.heap t arr)
    (told : ∀ h', Off s.heap.objs.size s.heap h' → Q arr.toList { s with heap := h' }) : wpAny (model prog w) A (unpackItems (.ref t) arr.size none) Q E s := by
  obtain ⟨hnd, o1, vs1, g1, d1, c1⟩ := hot
  have below : t < s.heap.objs.size := by
    obtain ⟨o, ho, _⟩ := tup
    exact Heap.lt_size ho
  have tn : t ≠ s.heap.objs.size := Nat.ne_of_lt below
  have xn : x1 ≠ s.heap.objs.size := Nat.ne_of_lt (Heap.lt_size g1)
  unfold unpackItems
  refine wpAny_bind ?_
  unfold notIterableAtAll
  refine wpAny_bind (wpAny_specialOf tup.typeIs slot_tuple_iter.lookup (wpAny_pure ?_))
  simp only [Bool.false_eq_true, if_false]
  refine wpAny_bind (wpAny_holding (iter_tuple tup (wpAny_bind (wpAny_holding ?_))))
  refine draw_tuple tn arr.size 0 _ _ ⟨_, Heap.get?_push_size _ rfl, rfl, rfl⟩ (tup.push _) (by omega) fun h1 it1 same1 => ?_
  have whole : List.take arr.size (List.drop 0 arr.toList) = arr.toList := by
    rw [List.drop_zero]
    exact List.take_of_length_le (by simp)
  rw [whole, if_neg (by simp)]
  have tup1 : IsTup h1 t arr := (tup.push _).extBut same1.extBut tn
  have g2 : h1.get? x1 = some o1 := same1.extBut x1 o1 xn (Heap.get?_push_of_some _ g1)
  refine wpAny_bind (wpAny_holding (tupIter_end_hot (it := s.heap.objs.size) (i := 0 + arr.size) ⟨hnd, o1, vs1, g2, d1, c1⟩ it1 tup1 (by simp) fun h2 off => ?_))
  simp only [Option.isSome_none, Bool.false_eq_true, if_false]
  exact wpAny_pure (told h2 fun b o hb e => off b o hb (same1.extBut b o hb (Heap.get?_push_of_some _ e)))
end
theorem turn_listH {P : Program} {w : World} {K : PySem.W.Frag} {tg : Expr} (a it : Addr) : TurnH P w K tg (Itl K a) [it] it (fun i h => h.IsListIter it a i) where
  mem := (turn_list (P := P) (w := w) (K := K) (tg := tg) a it).mem
  obj := (turn_list (P := P) (w := w) (K := K) (tg := tg) a it).obj
  keep := (turn_list (P := P) (w := w) (K := K) (tg := tg) a it).keep
  item := by
    intro X hP hw hK _ i pins s σ H E I fits at_ going
    subst hP hw hK
    obtain ⟨xs, x, hq, hx⟩ := going
    obtain ⟨its, rv, pl, _⟩ := I.list hq
    obtain ⟨u, hu, ru⟩ := rv.get hx
    obtain ⟨k0, k1, k2, k3, k4, k5⟩ := fits it (by simp)
    refine wpAny_pyNext_list_item at_ pl.isList (x := u) (by simpa using hu) fun h' on sb => ?_
    have J : Inv X pins σ H { s with heap := h' } := I.turned (t' := s.toks) (fun b o hb e => (sb.2 b hb).trans e) k0 k1 k3 k4 k5
    obtain ⟨oi, gi, ci, di⟩ := id on
    refine ⟨u, rfl, go_of (s := { s with heap := h' }) gi ci di (by decide) ⟨x, H, J, ru, ⟨rfl, fun ys hy => ?_⟩, on, fun b hb => (fits b hb).1⟩⟩
    rw [I.list_inj hy hq]
    exact hx
  done := by
    intro X hP hw hK hc i pins s σ H E I fits at_ over
    subst hP hw hK
    obtain ⟨xs, hq, hx⟩ := over
    obtain ⟨its, rv, pl, _⟩ := I.list hq
    obtain ⟨k0, k1, k2, k3, k4, k5⟩ := fits it (by simp)
    have hl := rv.length
    obtain ⟨x1, hot⟩ := hc.at I
    exact listIter_end_hot hot at_ pl.isList (by simp; omega) fun h' off => ⟨rfl, I.turned (t' := s.toks) off k0 k1 k3 k4 k5⟩
  self := (turn_list (P := P) (w := w) (K := K) (tg := tg) a it).self
theorem turn_tupH {P : Program} {w : World} {K : PySem.W.Frag} {tg : Expr} (a it : Addr) : TurnH P w K tg (Itt K a) [it] it (fun i h => h.IsTupleIter it a i) where
  mem := (turn_tuple (P := P) (w := w) (K := K) (tg := tg) a it).mem
  obj := (turn_tuple (P := P) (w := w) (K := K) (tg := tg) a it).obj
  keep := (turn_tuple (P := P) (w := w) (K := K) (tg := tg) a it).keep
  item := by
    intro X hP hw hK _ i pins s σ H E I fits at_ going
    subst hP hw hK
    obtain ⟨xs, x, hq, hx⟩ := going
    obtain ⟨its, rv, pl, _⟩ := I.tuple hq
    obtain ⟨u, hu, ru⟩ := rv.get hx
    obtain ⟨k0, k1, k2, k3, k4, k5⟩ := fits it (by simp)
    refine wpAny_pyNext_tuple_item at_ (show s.heap.IsTuple a its.toArray from pl) (x := u) (by simpa using hu) fun h' on sb => ?_
    have J : Inv X pins σ H { s with heap := h' } := I.turned (t' := s.toks) (fun b o hb e => (sb.2 b hb).trans e) k0 k1 k3 k4 k5
    obtain ⟨oi, gi, ci, di⟩ := id on
    refine ⟨u, rfl, go_of (s := { s with heap := h' }) gi ci di (by decide) ⟨x, H, J, ru, ⟨rfl, fun ys hy => ?_⟩, on, fun b hb => (fits b hb).1⟩⟩
    rw [I.tuple_inj hy hq]
    exact hx
  done := by
    intro X hP hw hK hc i pins s σ H E I fits at_ over
    subst hP hw hK
    obtain ⟨xs, hq, hx⟩ := over
    obtain ⟨its, rv, pl, _⟩ := I.tuple hq
    obtain ⟨k0, k1, k2, k3, k4, k5⟩ := fits it (by simp)
    have hl := rv.length
    obtain ⟨x1, hot⟩ := hc.at I
    exact tupIter_end_hot hot at_ (show s.heap.IsTuple a its.toArray from pl) (by simp; omega) fun h' off => ⟨rfl, I.turned (t' := s.toks) off k0 k1 k3 k4 k5⟩
  self := (turn_tuple (P := P) (w := w) (K := K) (tg := tg) a it).self
section
variable {X : Cx} {tg : Expr}
theorem pi_listH {l : Expr} {tl : TE} (hl : PE X l tl) : PIH X tg l (iList X.K tl) := by
  refine ⟨fun pins s σ H R I h => thn (hl.run pins s σ H _ I h) fun v s1 ⟨x, H1, I1, r1, a, e, ⟨xs, hq⟩, q⟩ => ?_⟩
  subst e
  cases r1
  obtain ⟨its, rv, pl, _⟩ := I1.list hq
  refine wpAny_pyIter_list pl.isList ⟨s1.heap.objs.size, [s1.heap.objs.size], _, _, H1, rfl, I1.kept (t' := s1.toks) fun b o e => Heap.get?_push_of_some _ e, turn_listH a _, ⟨_, Heap.get?_push_size _ rfl, rfl, rfl⟩, fun b hb => ?_, q⟩
  obtain rfl : b = s1.heap.objs.size := by simpa using hb
  exact I1.fpOk (Nat.le_refl _) (I1.hok.fresh (Nat.le_refl _))
theorem pi_tupH {l : Expr} {tl : TE} (hl : PE X l tl) : PIH X tg l (iTup X.K tl) := by
  refine ⟨fun pins s σ H R I h => thn (hl.run pins s σ H _ I h) fun v s1 ⟨x, H1, I1, r1, a, e, ⟨xs, hq⟩, q⟩ => ?_⟩
  subst e
  cases r1
  obtain ⟨its, rv, pl, _⟩ := I1.tuple hq
  refine wpAny_pyIter_tuple (show s1.heap.IsTuple a its.toArray from pl) ⟨s1.heap.objs.size, [s1.heap.objs.size], _, _, H1, rfl, I1.kept (t' := s1.toks) fun b o e => Heap.get?_push_of_some _ e, turn_tupH a _, ⟨_, Heap.get?_push_size _ rfl, rfl, rfl⟩, fun b hb => ?_, q⟩
  obtain rfl : b = s1.heap.objs.size := by simpa using hb
  exact I1.fpOk (Nat.le_refl _) (I1.hok.fresh (Nat.le_refl _))
theorem pg_tupH {es : List Expr} {k : Nat} {t : TGs} {n : Nat} {pos : Pos} (hc : HotC X) (h : PGs X es t) (hn : (assignEach es X.env).length = n := by rfl) (hst : (assignEach es X.env).findIdx? (·.1) = none := by rfl) : PG X (.Tuple es k pos) (gTup X.K n t) := by
  refine ⟨fun pins s σ H v u Q I r ⟨a, xs, e, hq, hl, hw⟩ => ?_⟩
  subst e
  cases r
  obtain ⟨its, rv, tup, _⟩ := I.tuple hq
  obtain ⟨x1, hot⟩ := hc.at I
  have many : (assignEach es X.env).length = its.toArray.size := by simp [hn, ← hl, rv.length]
  rw [assign_Tuple]
  refine wpAny_bind (wpAny_standAt ?_)
  unfold unpack
  rw [many, hst]
  refine wpAny_bind (wpAny_holding (apart_hot hot tup fun h' off => ?_))
  have J : Inv X pins σ H { s with heap := h' } := I.kept (t' := s.toks) fun b o e => off b o (Nat.ne_of_lt (Heap.lt_size e)) e
  exact h.run pins _ σ H xs _ Q J (by simpa using rv) hw
end
end V0
/-! own errors with a field, over a base class over ValueError: made, raised, caught, asked, with defs called where they are handled -/
namespace V0
open PySem PySem.Spec PyProof.Rows L2
/-- Base.__init__(self, ..) of an own class over ValueError without an __init__ of its own -/
theorem pe_binit {X : Cx} {x : Str} {B : Addr} {mc : Value} {e : Expr} {es : List Expr} {ta : TA} {pn pa pc : Pos} {pl : Sem Bool} (hg : Gl X x) (hm : X.mg x = some (.ref B))
    (sp : PySem.W.specialIn X.K (.ref B) "__getattribute__" = some (some (.builtin "type.__getattribute__"))) (rd : PySem.W.readsIn X.K B mc = true)
    (fv : PySem.W.findCls X.K (.ref B) mc "__init__" = some (.val (.builtin "ValueError.__init__"))) (ha : PA X (e :: es) ta)
    (hev : eval (.Call (.Attribute (.Name x pn) "__init__" pa) (e :: es) [] pc) X.env =
      (eval (.Name x pn) X.env >>= fun ov => standAt pa.atName >>= fun _ => holding [ov] (getMethod ov "__init__" pl) >>= fun fx => callWith pc fx.1 fx.2 (backTo pc (starEach (e :: es) X.env)) (backToKw pc (keywordEach [] X.env))) := by rfl)
    (hdb : (x == ("__debug__" : Str)) = false := by decide) (hst : starEach (e :: es) X.env = (false, eval e X.env) :: starEach es X.env := by rfl) (hpl : (backTo pc (starEach es X.env)).any (·.1) = false := by rfl) :
    PE X (.Call (.Attribute (.Name x pn) "__init__" pa) (e :: es) [] pc) (tVeI X.K ta) := by
  constructor
  intro pins s σ H Q I h
  refine PySem.W.methodCall_KW (ld_glob I hg hm ?_ hdb) hev
  refine PySem.W.method_cls I.kIn sp (PySem.W.cls_value I.kIn rd fv rfl ?_)
  refine PyProof.Rows.callWith_method1 (thn (ha.run pc pins _ σ H _ (I.tok _) h) fun us s1 hh => ?_) hst hpl
  obtain ⟨vs, H1, I1, r1, a, C, ws, rfl, hl, T, ea, q⟩ := hh
  obtain ⟨u0, ur, rfl, ra, rr⟩ : ∃ u0 ur, us = u0 :: ur ∧ RelV (.ref a) u0 ∧ Vals ws ur := by
    cases r1 with
    | cons ra rr => exact ⟨_, _, rfl, ra, rr⟩
  obtain rfl : u0 = Value.ref a := ra
  have hz : ur.length ≤ sizeLine := by
    have e1 := rr.length
    rw [sizeLine_eq]
    omega
  exact oinit_ok T I1 ea hz fun s2 I2 => ⟨.non, H1, I2, rfl, q⟩
theorem exm_of {K : PySem.W.Frag} {A S : Addr} {b : Bool} (base : PySem.W.subIn K (.ref S) (.type "BaseException") = some true) (cls : PySem.W.isClsIn K S = true) (ty : PySem.W.typeIn K (.ref S) = some (.type "type")) (sub : PySem.W.subIn K (.ref A) (.ref S) = some b) : PySem.W.exmOne K (.ref A) (.ref S) = some b := by
  have c1 : (PySem.W.subIn K (.ref S) (.type "BaseException") == some true) = true := beq_iff_eq.mpr base
  have c2 : ((PySem.W.clsIn K S).isSome && PySem.W.typeIn K (.ref S) == some (.type "type")) = true := Bool.and_eq_true_iff.mpr ⟨cls, beq_iff_eq.mpr ty⟩
  unfold PySem.W.exmOne PySem.W.kitCls
  simp only [c1, if_true]
  exact (if_pos c2).trans sub
/-- an error class of the text, with its __init__ -/
structure Exc (K : PySem.W.Frag) (mg : Str → Option Value) (x : Str) (C fI : Addr) (fd : FuncData) (fld : Str) : Prop where
  m : mg x = some (.ref C)
  oex : OexC K C
  ini : PySem.W.findIn K (.ref C) "__init__" = some (some (.ref fI))
  ty : PySem.W.typeIn K (.ref fI) = some (.type "function")
  b : Binds K fd ["self", fld] []
  no : PySem.W.findIn K (.ref C) fld = some none
  xf : XfC K C
  cl : PySem.W.isClsIn K C = true
  sf : PySem.W.subIn K (.ref C) (.ref C) = some true
theorem Exc.exm {K : PySem.W.Frag} {mg : Str → Option Value} {x fld : Str} {C fI : Addr} {fd : FuncData} (X : Exc K mg x C fI fd fld) {D : Addr} {b : Bool} (h : PySem.W.subIn K (.ref D) (.ref C) = some b) : PySem.W.exmOne K (.ref D) (.ref C) = some b := exm_of X.oex.exC X.cl X.oex.tyC h
/-- the base class of the errors -/
structure ExcB (K : PySem.W.Frag) (mg : Str → Option Value) (x : Str) (B : Addr) (mc : Value) : Prop where
  m : mg x = some (.ref B)
  ga : PySem.W.specialIn K (.ref B) "__getattribute__" = some (some (.builtin "type.__getattribute__"))
  rd : PySem.W.readsIn K B mc = true
  vi : PySem.W.findCls K (.ref B) mc "__init__" = some (.val (.builtin "ValueError.__init__"))
/-- an error's __init__: its field is the text -/
def spExc (K : PySem.W.Frag) (fld : Str) : Sp := fun vs H Q _ => ∃ (a C : Addr) (z : Str), vs = [.ref a, .str z] ∧ OexC K C ∧ PySem.W.findIn K (.ref C) fld = some none ∧ H a = some (exo a C none) ∧ z.length ≤ 1000 ∧
  ∀ dx, H dx = none → dx ≠ a → Q .non (upd (upd H dx (exd dx [(fld, .str z)])) a (exo a C (some dx)))
theorem app_len (a b : Str) : (a ++ b).length = a.length + b.length := by
  show (a.cps ++ b.cps).size = a.cps.size + b.cps.size
  rw [Array.size_append]
theorem small2000 {n : Nat} (h : n ≤ 2000) : n ≤ sizeLine := Nat.le_trans h (by decide)
/-- what a raise of it leaves: its dict, new; all else as it was -/
theorem raised {K : PySem.W.Frag} {mg : Str → Option Value} {C fI : Addr} {fd : FuncData} {x fld z : Str} {H : Hp} {E : XK} (X : Exc K mg x C fI fd fld) (hz : z.length ≤ 1000)
    (q : ∀ d H', Same H H' → H' d = some (.xd [(fld, .str z)]) → E (.ref C) (some d) H') : ∀ a, H a = none → spExc K fld (.ref a :: ([.str z] ++ [])) (upd H a (exo a C none))
      (fun v H2 => v = .non ∧ ∃ (d : Addr) (fs : List (Str × V)), H2 a = some (exo a C (some d)) ∧ H2 d = some (exd d fs) ∧ H d = none ∧ E (.ref C) (some d) (upd (del H2 a) d (.xd fs))) (fun _ _ _ => False) := by
  intro a na
  refine ⟨a, C, z, rfl, X.oex, X.no, upd_same, hz, fun dx ndx ne => ?_⟩
  have nd : H dx = none := by
    rw [upd_ne ne] at ndx
    exact ndx
  refine ⟨rfl, dx, _, upd_same, by rw [upd_ne ne, upd_same], nd, q dx _ (fun b o e => ?_) upd_same⟩
  have nba : b ≠ a := ne_of_none e na
  have nbd : b ≠ dx := ne_of_none e nd
  rw [upd_ne nbd, del_ne nba, upd_ne nba, upd_ne nbd, upd_ne nba]
  exact e
section
variable {P : Program} {w : World} {K : PySem.W.Frag} {mg : Str → Option Value} {base : Heap}
/-- a def that may raise where nothing is handled -/
theorem okN {x qual : Str} {st : Stmt} {f : Addr} {fd : FuncData} {N ps : List Str} {k : Nat} {sp : Sp} (F : Fun K x qual st f fd) (S : FnScope N ps (defScope st)) (len : ∀ vs H Q E, sp vs H Q E → vs.length = ps.length)
    (walk : ∀ (cdv : Value) (A : Around) (outer : List Env) (s : Shared) (H : Hp) (vs : List V) (Q : VK) (E : XK), Room k (A.deeper (envOfC qual (defScope st) s.heap.objs.size f cdv)) → sp vs H Q E →
      ∃ t, PSs (cxOf (L2N.CX P w) P w K mg base N qual (defScope st) f cdv A outer s H E) (defBody st) t ∧ t { nx := fun _ H' => Q .non H', rt := Q } (L2.start N vs) H) : FnOk P w K mg base (L2N.CX P w) (k + 1) f fd ps sp := by
  obtain ⟨_, _, _, _, _, _, cdv, _, _, rfl, look, cod⟩ := F.ex
  exact fn_of look cod S len fun A outer s H vs Q E room told => walk cdv A outer s H vs Q E room told
/-- a def that is called where an error is handled -/
theorem okH {x qual : Str} {st : Stmt} {f : Addr} {fd : FuncData} {N ps : List Str} {k : Nat} {sp : Sp} (F : Fun K x qual st f fd) (S : FnScope N ps (defScope st)) (len : ∀ vs H Q E, sp vs H Q E → vs.length = ps.length)
    (walk : ∀ (cdv : Value) (A : Around) (outer : List Env) (s : Shared) (H : Hp) (vs : List V) (Q : VK) (E : XK) (p : Addr × Obj), L2H.HotC (L2H.cxH CX0 P w K mg base N qual (defScope st) f cdv A outer s H E p) → L2H.RoomH k (A.deeper (envOfC qual (defScope st) s.heap.objs.size f cdv)) → sp vs H Q E →
      ∃ t, PSs (L2H.cxH CX0 P w K mg base N qual (defScope st) f cdv A outer s H E p) (defBody st) t ∧ t { nx := fun _ H' => Q .non H', rt := Q } (L2.start N vs) H) : L2H.FnH P w K mg base CX0 (k + 1) f fd ps sp := by
  obtain ⟨_, _, _, _, _, _, cdv, _, _, rfl, look, cod⟩ := F.ex
  exact L2H.fn_ofH look cod S len fun A outer s H vs Q E p hot room told => walk cdv A outer s H vs Q E p ⟨p, hot, List.mem_cons_self⟩ room told
end
/-- C(e, ..) of such an error, made where nothing is handled -/
theorem pmk_oexN {X : Cx} {CX : CXT} {x : Str} {e : Expr} {es : List Expr} {ta : TA} {p pos : Pos} {C fI : Addr} {k : Nat} {fd : FuncData} {ps : List Str} {sp : Sp} (T : OexC X.K C) (ini : PySem.W.findIn X.K (.ref C) "__init__" = some (some (.ref fI))) (fty : PySem.W.typeIn X.K (.ref fI) = some (.type "function"))
    (G : FnOk X.prog X.w X.K X.mg X.base CX k fI fd ps sp) (room : Room (k + 1) X.A) (bi : Binds X.K fd ps []) (out : Passes CX X (fun _ _ _ => False)) (gl : Gl X x) (named : X.mg x = some (.ref C)) (args : PA X (e :: es) ta)
    (dbg : (x == ("__debug__" : Str)) = false := by decide) (one : starEach (e :: es) X.env = (false, eval e X.env) :: starEach es X.env := by rfl) (plain : (backTo pos (starEach es X.env)).any (·.1) = false := by rfl) :
    L2N.PMk X (.Call (.Name x p) (e :: es) [] pos) (tMkO C sp [] ta) := by
  intro pins s σ H Q I told
  obtain ⟨_, _, _, _, bm, _, _, _, _, _, _, _, _, _, _, there, ve⟩ := T.cls
  refine wpAny_Call_Name_kw (ld_glob I gl named ?_ dbg)
  refine PySem.W.callWith_K (h₀ := X.base) I.ok.mod.kin T.kC (thn (args.run pos pins s σ H _ I told) fun us s1 ⟨vs, H1, J, rv, _, want⟩ => ⟨J.kIn, ?_⟩) one plain
  show wpAny _ _ (call (.ref C) us) _ _ _
  obtain ⟨h1, gens, drawn, toks, os⟩ := s1
  have up : h1.objs.size ≤ h1.objs.size + 1 := Nat.le_succ _
  have asks := want (h1.objs.size + 1) (J.hok.fresh up)
  rw [List.append_nil] at asks
  have old : ∀ b o, h1.get? b = some o → ((h1.push (PySem.W.kdv_tup us)).push (PySem.HandSPX.excO C h1.objs.size)).get? b = some o := fun b o z => Heap.get?_push_of_some _ (Heap.get?_push_of_some _ z)
  have new_ : ((h1.push (PySem.W.kdv_tup us)).push (PySem.HandSPX.excO C h1.objs.size)).get? (h1.objs.size + 1) = some (PySem.HandSPX.excO C h1.objs.size) := by heap_get
  have J2 : Inv X pins σ (upd H1 (h1.objs.size + 1) (exo (h1.objs.size + 1) C none)) ⟨(h1.push (PySem.W.kdv_tup us)).push (PySem.HandSPX.excO C h1.objs.size), gens, drawn, toks, os⟩ :=
    J.laid (t' := toks) (a := h1.objs.size + 1) (o := exo (h1.objs.size + 1) C none) (h' := (h1.push (PySem.W.kdv_tup us)).push (PySem.HandSPX.excO C h1.objs.size)) old up (exo_ok new_)
  have rv2 : Vals (V.ref (h1.objs.size + 1) :: vs) (Value.ref (h1.objs.size + 1) :: us) := .cons rfl rv
  have many : (Value.ref (h1.objs.size + 1) :: us ++ []).length = ps.length := by
    have z := rv2.length
    rw [G.len _ _ _ _ asks] at z
    rw [List.append_nil]
    exact z.symm
  have few : us.length ≤ sizeLine := by
    have z := Paired.length rv
    rw [sizeLine_eq]
    omega
  have bound := bi _ (Value.ref (h1.objs.size + 1) :: us) J2.kIn many
  rw [List.append_nil] at bound
  refine wpAny_call (PySem.HandSPX.call_own F.excBase_ValueError (fun Y => PySem.HandSPX.refsVE_contains Y bm ve) (J.kIn _ _ there) (PySem.W.looks_findIn J.kIn ini) (fun self => PySem.W.bind_fn J.kIn self fty) few
    (codeAny_mono (G.run _ X.stack _ _ ⟨Value.ref (h1.objs.size + 1) :: us, []⟩ (Value.ref (h1.objs.size + 1) :: us) _ _ (fun _ _ _ => False) (room.make C us []) (J2.env0.make C us []) bound rv2 asks) fun r s' fin => ?_))
  match r, fin with
  | .error er, fin => exact out pins σ _ _ er s' J2 fin
  | .ok .next, fin => exact False.elim fin
  | .ok .brk, fin => exact False.elim fin
  | .ok .cont, fin => exact False.elim fin
  | .ok (.ret u), ⟨v, H2, os2, bare2, un2, hok2, rv', ev, d, fs, ea, ed, hd1, q2⟩ =>
    subst ev
    obtain ⟨h2, g2, d2, t2, os'⟩ := s'
    obtain ⟨_, G', J', kG, ge, hoe, na⟩ := mk_end0 (d2 := d2) (t2 := t2) J up old un2 hok2 os2 bare2 ea ed hd1
    refine ⟨rv', h1.objs.size + 1, _, _, ⟨G', g2, d2, t2, os'⟩, _, .ref C, some d, rfl, J', kG, ge, hoe, ⟨rfl, rfl, fun vs hv => ?_⟩, rfl, rfl, na, rfl, bare2, raises_own T.exC T.tyC, q2⟩
    cases hv
    rfl
/-- where a caught error is handled, defs can be called -/
theorem hot_suite {X : Cx} {a : Addr} {oe : Obj} {cls : Value} {d : Option Addr} {pn : List (Addr × Obj)} (hz : L2N.Zn cls d oe) (hf : ∃ vs, oe.data = .fields vs) : L2H.HotC (X.suite a ((a, oe) :: pn)) := by
  obtain ⟨vs, e⟩ := hf
  exact ⟨(a, oe), ⟨rfl, vs, e, hz.2.2 vs e⟩, List.mem_cons_self⟩
/-- isinstance(e, C), e the error that the suite holds, with its own dict -/
def rIsEx (K : PySem.W.Frag) (D a : Addr) (cls : Value) (d : Option Addr) : List V → Hp → VK → Prop := fun xs H Q => ∃ (c : V) (cv : Value) (b : Bool) (dd : Addr) (fs : List (Str × V)), xs = [.ref a, c] ∧ ClsV c cv ∧ cls = .ref D ∧ d = some dd ∧ H dd = some (.xd fs) ∧ PySem.W.kitOne K (.ref D) cv = some b ∧ Q (.bl b) H
/-- what such an error's class must say for isinstance -/
structure ExcI (K : PySem.W.Frag) (D : Addr) : Prop where
  xf : XfC K D
  cl : PySem.W.isClsIn K D = true
  ha : PySem.W.findIn K (.ref D) "__class__" = some (some (.builtin "object.__class__"))
  hn : PySem.W.specialIn K (.builtin "object.__class__") "__get__" = some (some (.builtin "getset_descriptor.__get__"))
  ht : PySem.W.takesIn K (.builtin "object.__class__") = some true
  hm : PySem.W.mroIn K D (.type "object") = some true
theorem call_isEx {X : Cx} {a D : Addr} {oe : Obj} {cls : Value} {d : Option Addr} {pn : List (Addr × Obj)} (C : ExcI X.K D) (hz : Zc cls d oe) (hf : ∃ vs, oe.data = .fields vs) : CallR (X.suite a ((a, oe) :: pn)) (.builtin "isinstance") (rIsEx X.K D a cls d) := by
  intro pins s σ H xs us Q I r told
  obtain ⟨c, cv, b, dd, fs, rfl, kc, rfl, rfl, hd, e, q⟩ := told
  obtain ⟨u1, u2, rfl, r1, r2⟩ := vals2 r
  obtain rfl := kc.eq r2
  obtain rfl : u1 = Value.ref a := r1
  obtain ⟨here, _⟩ := I.pin (a, oe) (List.mem_append_left _ List.mem_cons_self)
  obtain ⟨vs, hv⟩ := hf
  obtain ⟨mA, ns, _⟩ : ObjOk X.prog X.w H s.heap dd (.xd fs) := I.hok dd _ hd
  obtain ⟨od, ho, _⟩ := lookIn_ns ns
  have J : PySem.W.InstAt s.heap a oe D (some od) := ⟨here, hz.1, by unfold PySem.W.notCls; rw [hv] <;> rfl, by rw [hz.2]; exact ho⟩
  exact PySem.W.kia_one (PySem.W.kitx_exc C.cl C.xf.ga C.xf.gg C.xf.exC C.ha C.hn C.ht C.hm) I.kIn J e (fun z => nomatch z) fun tk => ⟨.bl b, H, I.kept (t' := tk) fun _ _ z => z, rfl, q⟩
/-- around a body nothing is let out -/
theorem takes0N {X : Cx} : L2N.Takes X (fun _ _ _ _ => False) := fun _ _ x => by
  obtain ⟨_, _, _, _, _, _, _, _, _, _, _, _, _, _, _, _, z⟩ := x
  exact z.elim
theorem kit_cls_own {K : PySem.W.Frag} {D B : Addr} {b : Bool} (cl : PySem.W.isClsIn K B = true) (ty : PySem.W.typeIn K (.ref B) = some (.type "type")) (ne : D ≠ B) (sub : PySem.W.subIn K (.ref D) (.ref B) = some b) : PySem.W.kitOne K (.ref D) (.ref B) = some b := by
  have c2 : ((PySem.W.clsIn K B).isSome && PySem.W.typeIn K (.ref B) == some (.type "type")) = true := Bool.and_eq_true_iff.mpr ⟨cl, beq_iff_eq.mpr ty⟩
  unfold PySem.W.kitOne PySem.W.kitCls
  rw [if_neg (fun z => ne (Value.ref.inj (beq_iff_eq.mp z)))]
  simp only [c2, if_true]
  exact sub
theorem kit_cls_ty {K : PySem.W.Frag} {D : Addr} {T : String} {b : Bool} (mt : PySem.W.kitMeta T = true) (sub : PySem.W.subIn K (.ref D) (.type T) = some b) : PySem.W.kitOne K (.ref D) (.type T) = some b := by
  unfold PySem.W.kitOne PySem.W.kitCls
  rw [if_neg (by intro z; cases beq_iff_eq.mp z)]
  simp only [mt, if_true]
  exact sub
theorem kit_cls_yes {K : PySem.W.Frag} {D B : Addr} (cl : PySem.W.isClsIn K B = true) (ty : PySem.W.typeIn K (.ref B) = some (.type "type")) (sub : PySem.W.subIn K (.ref D) (.ref B) = some true) : PySem.W.kitOne K (.ref D) (.ref B) = some true := by
  by_cases e : D = B
  · unfold PySem.W.kitOne
    rw [if_pos (beq_iff_eq.mpr (by rw [e]))]
  · exact kit_cls_own cl ty e sub
end V0
namespace K31
open PySem PySem.Spec PyProof.Rows L2 V0
def topS (i : Nat) : Stmt := PySem.Challenge.pw_cellcloth_k31_faults_of_nets.main.body.getD i (.Pass ⟨0, 0, 0, 0⟩)
abbrev s__law_state : Stmt := topS 9
abbrev N__law_state : List Str := ["script", "seed", "cell"]
theorem sc_law_state : FnScope ["script", "seed", "cell"] ["script"] (defScope s__law_state) := ⟨rfl, rfl, rfl, by decide +kernel, rfl, by decide +kernel, by decide +kernel⟩
abbrev s__law_draw : Stmt := topS 10
abbrev N__law_draw : List Str := ["state", "many", "cells", "value", "mixed"]
theorem sc_law_draw : FnScope ["state", "many", "cells", "value", "mixed"] ["state", "many"] (defScope s__law_draw) := ⟨rfl, rfl, rfl, by decide +kernel, rfl, by decide +kernel, by decide +kernel⟩
abbrev s__law_pick : Stmt := topS 11
abbrev N__law_pick : List Str := ["state", "row"]
theorem sc_law_pick : FnScope ["state", "row"] ["state", "row"] (defScope s__law_pick) := ⟨rfl, rfl, rfl, by decide +kernel, rfl, by decide +kernel, by decide +kernel⟩
abbrev s__law_spoilt : Stmt := topS 17
abbrev N__law_spoilt : List Str := ["state", "net", "starts", "gates", "nexts", "outs", "many", "k", "kind", "odd", "at", "own", "pair"]
theorem sc_law_spoilt : FnScope ["state", "net", "starts", "gates", "nexts", "outs", "many", "k", "kind", "odd", "at", "own", "pair"] ["state", "net"] (defScope s__law_spoilt) := ⟨rfl, rfl, rfl, by decide +kernel, rfl, by decide +kernel, by decide +kernel⟩
abbrev s__law_net : Stmt := topS 12
abbrev N__law_net : List Str := ["state", "ins", "flops", "most", "k", "starts", "gates", "many", "low", "nexts"]
theorem sc_law_net : FnScope ["state", "ins", "flops", "most", "k", "starts", "gates", "many", "low", "nexts"] ["state", "ins", "flops", "most"] (defScope s__law_net) := ⟨rfl, rfl, rfl, by decide +kernel, rfl, by decide +kernel, by decide +kernel⟩
abbrev s_base_of : Stmt := topS 6
abbrev N_base_of : List Str := ["net"]
theorem scbase_of : FnScope ["net"] ["net"] (defScope s_base_of) := ⟨rfl, rfl, rfl, by decide +kernel, rfl, by decide +kernel, by decide +kernel⟩
abbrev s_many_nodes : Stmt := topS 7
abbrev N_many_nodes : List Str := ["net"]
theorem scmany_nodes : FnScope ["net"] ["net"] (defScope s_many_nodes) := ⟨rfl, rfl, rfl, by decide +kernel, rfl, by decide +kernel, by decide +kernel⟩
abbrev s_fault_of : Stmt := topS 5
abbrev N_fault_of : List Str := ["net", "_", "starts", "gates", "nexts", "outs", "base", "k", "start", "gate", "literal", "word", "literals"]
theorem scfault_of : FnScope ["net", "_", "starts", "gates", "nexts", "outs", "base", "k", "start", "gate", "literal", "word", "literals"] ["net"] (defScope s_fault_of) := ⟨rfl, rfl, rfl, by decide +kernel, rfl, by decide +kernel, by decide +kernel⟩
abbrev s_check : Stmt := topS 4
abbrev N_check : List Str := ["net", "fault"]
theorem sccheck : FnScope ["net", "fault"] ["net"] (defScope s_check) := ⟨rfl, rfl, rfl, by decide +kernel, rfl, by decide +kernel, by decide +kernel⟩
abbrev s__law_fault : Stmt := topS 18
abbrev N__law_fault : List Str := ["net", "k", "first", "literal", "word", "row"]
theorem sc_law_fault : FnScope ["net", "k", "first", "literal", "word", "row"] ["net"] (defScope s__law_fault) := ⟨rfl, rfl, rfl, by decide +kernel, rfl, by decide +kernel, by decide +kernel⟩
abbrev s_law : Stmt := topS 19
abbrev N_law : List Str := ["script", "state", "net", "told", "e"]
theorem sclaw : FnScope ["script", "state", "net", "told", "e"] ["script"] (defScope s_law) := ⟨rfl, rfl, rfl, by decide +kernel, rfl, by decide +kernel, by decide +kernel⟩
abbrev s_XKindError : Stmt := inClass (topS 2) 0
theorem sc_XKindError : FnScope ["self", "place"] ["self", "place"] (defScope s_XKindError) := ⟨rfl, rfl, rfl, by decide +kernel, rfl, by decide +kernel, by decide +kernel⟩
structure Txt (K : PySem.W.Frag) (mg : Str → Option Value) (C_KindError fI_KindError : Addr) (fd_KindError : FuncData) (B_ : Addr) (mc_ : Value) : Prop where
  xb : ExcB K mg "ClothError" B_ mc_
  bc : PySem.W.isClsIn K B_ = true
  bt : PySem.W.typeIn K (.ref B_) = some (.type "type")
  x_KindError : Exc K mg "KindError" C_KindError fI_KindError fd_KindError "place"
  i_KindError : ExcI K C_KindError
  sb_KindError : PySem.W.subIn K (.ref C_KindError) (.ref B_) = some true
  sv_KindError : PySem.W.subIn K (.ref C_KindError) (.type "ValueError") = some true
  m_ValueError : mg "ValueError" = none
  m_abs : mg "abs" = none
  m_any : mg "any" = none
  m_enumerate : mg "enumerate" = none
  m_int : mg "int" = none
  m_isinstance : mg "isinstance" = none
  m_len : mg "len" = none
  m_list : mg "list" = none
  m_max : mg "max" = none
  m_range : mg "range" = none
  m_str : mg "str" = none
end K31
namespace K31
open PySem PySem.Spec PyProof.Rows L2 V0
theorem ok_XKindError {P : Program} {w : World} {K : PySem.W.Frag} {mg : Str → Option Value} {base : Heap} {C_KindError fI_KindError : Addr} {fd_KindError : FuncData} {B_ : Addr} {mc_ : Value} {f : Addr} {fd : FuncData} (F : Fun K "__init__" "KindError.__init__" s_XKindError f fd) (T : Txt K mg C_KindError fI_KindError fd_KindError B_ mc_) : FnOk P w K mg base CX0 1 f fd ["self", "place"] (spExc K "place") := by
  refine F.ok sc_XKindError (fun vs H Q E h => ?_) (fun cdv A outer s H vs Q E hr h => ?_)
  · obtain ⟨a, C, z, rfl, _⟩ := h
    rfl
  · obtain ⟨a, C, z, rfl, hC, hno, ha, hz, q⟩ := h
    refine ⟨_, pss_cons (ps_expr (pe_binit (by rfl) T.xb.m T.xb.ga T.xb.rd T.xb.vi (pa_cons (pv 0) (pa_cons (pe_joined (PJ.cons pe_str (PJ.cons (pe_fmt (pv 1)) PJ.nil))) pa_nil)))) (pss_one (ps_ost (pv 0) (pv 1))), ?_⟩
    refine ⟨_, rfl, _, rfl, by decide, _, rfl, .inl ⟨z, rfl, small2000 (by omega), z, rfl, ?_, a, C, _, rfl, by show 1 ≤ 1000; decide, hC, ha, ?_⟩⟩
    · rw [app_len]
      refine small2000 ?_
      have : (Str.empty ++ ("not as it has to be: " : Str)).length = 21 := by decide +kernel
      omega
    · exact ⟨_, rfl, _, rfl, a, C, rfl, hC, hno, .inl ⟨ha, fun dx n ne => q dx n ne⟩⟩
end K31
namespace K31
open PySem PySem.Spec PyProof.Rows L2 V0
/-! ### the draws -/
def sp__law_state (K : PySem.W.Frag) : Sp := fun vs H Q _ => ∃ (a : Addr) (ns : List Int), vs = [.ref a] ∧ SqL K H a (vi ns) ∧ ns.length ≤ 63 ∧ ∀ H' p c, Same H H' → Dr H' p c → Q (.ref p) H'
theorem ok__law_state {P : Program} {w : World} {K : PySem.W.Frag} {mg : Str → Option Value} {base : Heap} {C_KindError fI_KindError : Addr} {fd_KindError : FuncData} {B_ : Addr} {mc_ : Value} {f  : Addr} {fd  : FuncData} (F : Fun K "_law_state" "_law_state" s__law_state f fd) (T : Txt K mg C_KindError fI_KindError fd_KindError B_ mc_) :
    FnOk P w K mg base CX0 1 f fd ["script"] (sp__law_state K) := by
  refine F.ok sc_law_state (fun vs H Q E h => ?_) (fun cdv A outer s H vs Q E hr h => ?_)
  · obtain ⟨a, ns, rfl, _⟩ := h
    rfl
  · obtain ⟨a, ns, rfl, hS, hl, q⟩ := h
    refine ⟨_, (pss_cons (ps_set (i := 1) sc_law_state.nd rfl (.inl rfl) pe_int)
      (pss_cons (ps_for PassesOwn.never rfl (pi_list (pv 0)) (pg_name (i := 2) sc_law_state.nd rfl (Or.inl rfl)) (pss_one (ps_set (i := 1) sc_law_state.nd rfl (.inl rfl) (pe_op op_modN (pe_callTy call_int1 (by rfl) T.m_int (by decide +kernel) (pa_cons (pe_op op_add (pe_op op_mul (pv 1) pe_int) (pv 2)) pa_nil)) pe_int))))
      (pss_one (ps_ret (pe_lst (pa_cons (pe_lc (own := [("cell", 2)]) (g := gName 2) (tt := tYes) rfl sc_law_state.nd (pi_list (pv 0)) (blkOk_by (N := N__law_state) (sc := defScope s__law_state) (by decide +kernel)) (fun _ _ _ _ _ => (pg_name (i := 2) sc_law_state.nd rfl (Or.inl rfl))) (fun _ _ _ _ _ => pts_nil) (fun _ _ _ _ _ => (pe_callB call_abs (by rfl) T.m_abs (by decide +kernel) (pa_cons (pe_callTy call_int1 (by rfl) T.m_int (by decide +kernel) (pa_cons (pv 2) pa_nil)) pa_nil)))) (pa_cons (pe_op op_add (pv 1) pe_int) pa_nil))))))), ?_⟩
    refine ⟨_, rfl, a, rfl, ⟨_, hS⟩, for_list (xs := vi ns) (fun _ σ H' => ∃ (z : Int) (y : Option V), σ = [some (.ref a), some (.int z), y] ∧ H' = H) ⟨7, none, rfl, rfl⟩ (fun i σ H' _ h => ?_) ?_ ?_⟩
    · obtain ⟨z, y, _, rfl⟩ := h
      exact hS
    · rintro i v σ H' hv ⟨z, y, rfl, rfl⟩
      obtain ⟨n, hn, rfl⟩ := List.mem_map.mp (List.mem_of_getElem? hv)
      refine ⟨_, rfl, _, _, rfl, rfl, .inr ⟨by decide, by decide⟩, _, rfl, _, _, rfl, rfl, .inl ⟨_, rfl, _, _, rfl, rfl, (show (1000003 : Int) ≠ 0 by decide), ?_⟩⟩
      exact ⟨_, _, rfl, rfl⟩
    · rintro σ H' ⟨z, y, rfl, rfl⟩
      refine ⟨_, rfl, a, rfl, ⟨_, hS⟩, fun D hD => lc_list (xs := vi ns) (fun i H'' => Same H' H'' ∧ H'' D = some (.lst (vn ((ns.take i).map Int.natAbs)))) ⟨same_new hD, upd_same⟩ (fun i H'' _ h => h.1.seq hS) ?_ ?_⟩
      · rintro i v H'' hv ⟨sm, hD'⟩
        have hi : i < ns.length := by
          have h := (List.getElem?_eq_some_iff.mp hv).1
          rw [List.length_map] at h
          exact h
        rw [List.getElem?_map, List.getElem?_eq_getElem hi] at hv
        cases hv
        refine ⟨rfl, _, rfl, .inl ⟨_, rfl, _, rfl, _, hD', ?_, same_mut sm hD, ?_⟩⟩
        · rw [vn_len, List.length_map, List.length_take]
          exact small1000 (by omega)
        · rw [upd_same, List.take_add_one, List.getElem?_eq_getElem hi]
          have e : (if ns[i] < 0 then -ns[i] else ns[i]) = ((ns[i].natAbs : Nat) : Int) := by
            by_cases h : ns[i] < 0
            · rw [if_pos h]
              omega
            · rw [if_neg h]
              omega
          rw [e]
          unfold vn
          rw [List.map_append, List.map_append]
          rfl
      · rintro H'' ⟨sm, hD'⟩
        refine ⟨_, rfl, _, _, rfl, rfl, by show 2 ≤ sizeLine; decide, fun p hp => ?_⟩
        have hDp : D ≠ p := fun e => by
          rw [e, hp] at hD'
          cases hD'
        refine q _ p D (same_mut sm (by rcases hq : H' p with _ | o; rfl; rw [sm _ _ hq] at hp; cases hp)) ⟨fun e => hDp e.symm, (ns.take (vi ns).length).map Int.natAbs, z + 1, upd_same, ?_, ?_⟩
        · rw [upd_ne hDp]
          exact hD'
        · rw [List.length_map, List.length_take]
          omega
def sp__law_draw (K : PySem.W.Frag) : Sp := fun vs H Q _ => ∃ (p c : Addr) (n : Nat), vs = [.ref p, .int n] ∧ Dr H p c ∧ 0 < n ∧ n < 1073741824 ∧ ∀ H' (d : Nat), Go p c H H' → d < n → Q (.int d) H'
theorem ok__law_draw {P : Program} {w : World} {K : PySem.W.Frag} {mg : Str → Option Value} {base : Heap} {C_KindError fI_KindError : Addr} {fd_KindError : FuncData} {B_ : Addr} {mc_ : Value} {f  : Addr} {fd  : FuncData} (F : Fun K "_law_draw" "_law_draw" s__law_draw f fd) (T : Txt K mg C_KindError fI_KindError fd_KindError B_ mc_) :
    FnOk P w K mg base CX0 1 f fd ["state", "many"] (sp__law_draw K) := by
  refine F.ok sc_law_draw (fun vs H Q E h => ?_) (fun cdv A outer s H vs Q E hr h => ?_)
  · obtain ⟨p, c, n, rfl, _⟩ := h
    rfl
  · obtain ⟨p, c, n, rfl, d0, h0, h1, q⟩ := h
    have nz : ((n : Nat) : Int) ≠ 0 := by omega
    have fm : ∀ x : Nat, ((x : Int)).fmod (n : Int) = ((x % n : Nat) : Int) := fun x => by rw [Int.fmod_eq_emod_of_nonneg _ (by omega)]; omega
    obtain ⟨nc, cs0, z0, hp0, hc0, hl0⟩ := d0
    refine ⟨_, (pss_cons (ps_set (i := 2) sc_law_draw.nd rfl (.inl rfl) (pe_ix (r := rIxL K) ix_list (pv 0) pe_int (fun _ _ => rfl)))
      (C8.pss_cut (ps_while PassesOwn.never (PW.pt (pw_and (pt_cmpR op_gt (pe_callB call_len_seq (by rfl) T.m_len (by decide +kernel) (pa_cons (pv 2) pa_nil)) pe_int (nomark _)) (pw_and1 (pt_cmpR op_eq (pe_ix (r := rIxL K) ix_list (pv 2) pe_int (fun _ _ => rfl)) pe_int (nomark _))))) (pss_one (ps_expr (pe_bm PySem.F.plainAttrs_list PySem.F.slot_list_pop PySem.F.type_list_pop mt_popAt (pv 2) (pa_cons pe_int pa_nil)))))
      (pss_cons (ps_if (pt_cmpR op_gt (pe_callB call_len_seq (by rfl) T.m_len (by decide +kernel) (pa_cons (pv 2) pa_nil)) pe_int (nomark _)) (pss_cons (ps_set (i := 3) sc_law_draw.nd rfl (.inl rfl) (pe_ix (r := rIxL K) ix_list (pv 2) pe_int (fun _ _ => rfl)))
      (pss_cons (ps_asg (pe_op op_fdivN (pv 3) (pv 1)) (pg_sub (pv 2) pe_int set_list))
      (pss_one (ps_ret (pe_op op_modN (pe_callTy call_int1 (by rfl) T.m_int (by decide +kernel) (pa_cons (pv 3) pa_nil)) (pv 1)))))) pss_nil)
      (pss_cons (ps_set (i := 4) sc_law_draw.nd rfl (.inl rfl) (pe_op op_modN (pe_callTy call_int1 (by rfl) T.m_int (by decide +kernel) (pa_cons (pe_op op_add (pe_op op_mul (pe_ix (r := rIxL K) ix_list (pv 0) pe_int (fun _ _ => rfl)) pe_int) pe_int) pa_nil)) pe_int))
      (pss_cons (ps_asg (pv 4) (pg_sub (pv 0) pe_int set_list))
      (pss_one (ps_ret (pe_op op_modN (pe_callTy call_int1 (by rfl) T.m_int (by decide +kernel) (pa_cons (pe_op op_fdivN (pv 4) pe_int) pa_nil)) (pv 1))))))))), ?_⟩
    refine ⟨_, rfl, p, _, 0, _, rfl, rfl, SqL.of hp0, atI_nat (j := 0) rfl, ?_⟩
    have go : ∀ (cs : List Nat) (z : Int), cs.length ≤ 63 → Go p c H (upd (upd H c (.lst (vn cs))) p (.lst [.ref c, .int z])) := fun cs z hl =>
      ⟨⟨nc, _, _, hp0, hc0, hl0⟩, ⟨nc, cs, z, upd_same, by rw [upd_ne (fun e => nc e.symm)]; exact upd_same, hl⟩, fun b o hb => by
        obtain ⟨b1, b2, b3⟩ := res_some hb
        rw [res_eq b1 b2, upd_ne b1, upd_ne b2]
        exact b3⟩
    have hpc : ∀ cs : List Nat, (upd H c (.lst (vn cs))) p = some (.lst [.ref c, .int z0]) := fun cs => by
      rw [upd_ne nc]
      exact hp0
    refine ⟨fun σ H' => ∃ cs : List Nat, σ = [some (.ref p), some (.int n), some (.ref c), none, none] ∧ H' = upd H c (.lst (vn cs)) ∧ cs.length ≤ 63, ?_, ?_⟩
    · refine while_by (fun σ H' => ∃ cs : List Nat, σ = [some (.ref p), some (.int n), some (.ref c), none, none] ∧ H' = upd H c (.lst (vn cs)) ∧ cs.length ≤ 63) (fun _ H' => match H' c with | some (.lst xs) => xs.length | _ => 0) ⟨cs0, rfl, (upd_id hc0).symm, hl0⟩ ?_ ?_
      · rintro σ H' ⟨cs, rfl, rfl, hl⟩
        refine ⟨_, rfl, c, _, rfl, .inl (SqL.of upd_same), _, _, rfl, rfl, _, rfl, ?_⟩
        cases cs with
        | nil => exact iteF (iteF ⟨[], rfl, rfl, hl⟩)
        | cons x r =>
          have e : decide ((((vn (x :: r)).length : Nat) : Int) > 0) = true := decide_eq_true (by rw [vn_len, List.length_cons]; omega)
          rw [e]
          refine iteT ?_
          refine ⟨_, rfl, c, _, 0, _, rfl, rfl, SqL.of upd_same, atI_nat (j := 0) rfl, rfl, _, rfl, ?_⟩
          refine ite2 (fun _ => ?_) (fun _ => ⟨x :: r, rfl, rfl, hl⟩)
          refine ⟨_, rfl, .inl ⟨rfl, _, SqL.of upd_same⟩, c, _, 0, 0, _, rfl, rfl, upd_same, by decide, by decide, ?_, rfl, ?_, ?_⟩
          · rw [vn_len, List.length_cons]
            unfold seqIndex?
            simp
          · exact ⟨r, rfl, by rw [upd_upd]; rfl, by rw [List.length_cons] at hl; omega⟩
          · show (match (upd _ c _) c with | some (.lst xs) => xs.length | _ => 0) < (match (upd H c (.lst (vn (x :: r)))) c with | some (.lst xs) => xs.length | _ => 0)
            rw [upd_same, upd_same]
            show ((vn (x :: r)).eraseIdx 0).length < (vn (x :: r)).length
            simp
      · intro σ H' Q Q' hq h
        obtain ⟨x, e1, p', ys, e2, e3, i, j, e4, e5, k, e6, h⟩ := h
        refine ⟨x, e1, p', ys, e2, e3, i, j, e4, e5, k, e6, ?_⟩
        cases k with
        | false => exact iteF (hq _ _ (by rw [if_neg Bool.false_ne_true] at h; exact h))
        | true =>
          rw [if_pos rfl] at h
          obtain ⟨y, f1, l, xs, i2, v, f2, f3, f4, f5, f6, k2, f7, h⟩ := h
          exact iteT ⟨y, f1, l, xs, i2, v, f2, f3, f4, f5, f6, k2, f7, hq _ _ h⟩
    · rintro σ H' ⟨cs, rfl, rfl, hl⟩
      refine ⟨_, rfl, c, _, rfl, .inl (SqL.of upd_same), _, _, rfl, rfl, _, rfl, ?_⟩
      cases cs with
      | nil =>
        refine iteF ?_
        refine ⟨_, rfl, p, _, 1, _, rfl, rfl, SqL.of (hpc []), atI_nat (j := 1) rfl, _, _, rfl, rfl, .inr ⟨by decide, by decide⟩, _, _, rfl, rfl, .inl ⟨_, rfl, _, _, rfl, rfl, (show (2147483647 : Int) ≠ 0 by decide), ?_⟩⟩
        refine ⟨_, rfl, _, rfl, p, _, 1, 1, rfl, rfl, hpc [], rfl, ?_⟩
        have r := emod_range (x := z0 * 48271 + 12345) (show (0 : Int) < 2147483647 by decide)
        refine ⟨_, rfl, _, _, rfl, rfl, ⟨by decide, by decide⟩, .inl ⟨_, rfl, _, rfl, _, _, rfl, rfl, nz, ?_⟩⟩
        obtain ⟨y, hy⟩ : ∃ y : Nat, ((z0 * 48271 + 12345).fmod 2147483647).fdiv 64 = (y : Int) := ⟨_, (Int.toNat_of_nonneg (by
          rw [Int.fdiv_eq_ediv_of_nonneg _ (by decide)]
          omega)).symm⟩
        show Q (V.int ((((z0 * 48271 + 12345).fmod 2147483647).fdiv 64).fmod n)) _
        rw [hy, fm]
        exact q _ _ (go [] _ hl) (Nat.mod_lt _ h0)
      | cons x r =>
        have e : decide ((((vn (x :: r)).length : Nat) : Int) > 0) = true := decide_eq_true (by rw [vn_len, List.length_cons]; omega)
        rw [e]
        refine iteT ?_
        refine ⟨_, rfl, c, _, 0, _, rfl, rfl, SqL.of upd_same, atI_nat (j := 0) rfl, ?_⟩
        refine ⟨_, rfl, _, rfl, _, _, rfl, rfl, ⟨nz, by show ((n : Nat) : Int).natAbs < 1073741824; omega⟩, ?_⟩
        refine ⟨_, rfl, c, _, 0, 0, rfl, rfl, upd_same, ix_nat (j := 0) (by rw [vn_len, List.length_cons]; omega), ?_⟩
        refine ⟨_, rfl, .inl ⟨_, rfl, _, rfl, _, _, rfl, rfl, nz, ?_⟩⟩
        show Q (V.int ((x : Int).fmod n)) _
        rw [fm, upd_upd]
        have ed : (x : Int).fdiv n = ((x / n : Nat) : Int) := by
          rw [Int.fdiv_eq_ediv_of_nonneg _ (by omega)]
          rfl
        show Q _ (upd H c (.lst ((V.int ((x : Int).fdiv n)) :: vn r)))
        rw [ed]
        have g := go (x / n :: r) z0 hl
        rw [upd_id (show (upd H c (.lst (vn (x / n :: r)))) p = _ from hpc _)] at g
        exact q _ _ g (Nat.mod_lt _ h0)
def sp__law_pick (K : PySem.W.Frag) : Sp := fun vs H Q _ => ∃ (p c r : Addr) (us : List V), vs = [.ref p, .ref r] ∧ Dr H p c ∧ r ≠ p ∧ r ≠ c ∧ H r = some (.lst us) ∧ 0 < us.length ∧ us.length ≤ 1000 ∧ ∀ H' v, Go p c H H' → v ∈ us → Q v H'
theorem ok__law_pick {P : Program} {w : World} {K : PySem.W.Frag} {mg : Str → Option Value} {base : Heap} {C_KindError fI_KindError : Addr} {fd_KindError : FuncData} {B_ : Addr} {mc_ : Value} {f f_law_draw : Addr} {fd fd_law_draw : FuncData} (F : Fun K "_law_pick" "_law_pick" s__law_pick f fd) (T : Txt K mg C_KindError fI_KindError fd_KindError B_ mc_)
    (G__law_draw : FnOk P w K mg base CX0 1 f_law_draw fd_law_draw ["state", "many"] (sp__law_draw K)) (D__law_draw : Def K mg "_law_draw" f_law_draw fd_law_draw ["state", "many"]) :
    FnOk P w K mg base CX0 2 f fd ["state", "row"] (sp__law_pick K) := by
  refine F.ok sc_law_pick (fun vs H Q E h => ?_) (fun cdv A outer s H vs Q E hr h => ?_)
  · obtain ⟨p, c, r, us, rfl, _⟩ := h
    rfl
  · obtain ⟨p, c, r, us, rfl, d0, n1, n2, hS, hl0, hl1, q⟩ := h
    refine ⟨_, (pss_one (ps_ret (pe_ix (r := rIxL K) ix_list (pv 1) (pe_call G__law_draw (hr.mono (by omega)) (by rfl) D__law_draw.m D__law_draw.k D__law_draw.b .nil pass0 (pa_cons (pv 0) (pa_cons (pe_callB call_len_seq (by rfl) T.m_len (by decide +kernel) (pa_cons (pv 1) pa_nil)) pa_nil))) (fun _ _ => rfl)))), ?_⟩
    refine ⟨_, rfl, _, rfl, _, rfl, r, _, rfl, .inl (SqL.of hS), p, c, us.length, rfl, d0, hl0, by omega, fun H' d g hd => ?_⟩
    exact ⟨r, _, _, _, rfl, rfl, SqL.of (g.get n1 n2 hS), atI_nat (List.getElem?_eq_getElem hd), q _ _ g (List.getElem_mem hd)⟩

/-! ### drawn nets, their rows -/
def sp__law_net (K : PySem.W.Frag) : Sp := fun vs H Q _ => ∃ (p c : Addr) (i f m : Nat), vs = [.ref p, .int i, .int f, .int m] ∧ Dr H p c ∧ i ≤ 1000 ∧ f ≤ 1000 ∧ m ≤ 1000 ∧ ∀ H' q (n : Net), Go p c H H' → H q = none → Dv (res p c H') (.ref q) n → n.Ok i f m → Q (.ref q) H'
theorem ok__law_net {P : Program} {w : World} {K : PySem.W.Frag} {mg : Str → Option Value} {base : Heap} {C_KindError fI_KindError : Addr} {fd_KindError : FuncData} {B_ : Addr} {mc_ : Value} {f f_law_draw f_law_pick : Addr} {fd fd_law_draw fd_law_pick : FuncData} (F : Fun K "_law_net" "_law_net" s__law_net f fd) (T : Txt K mg C_KindError fI_KindError fd_KindError B_ mc_)
    (G__law_draw : FnOk P w K mg base CX0 1 f_law_draw fd_law_draw ["state", "many"] (sp__law_draw K)) (D__law_draw : Def K mg "_law_draw" f_law_draw fd_law_draw ["state", "many"])
    (G__law_pick : FnOk P w K mg base CX0 2 f_law_pick fd_law_pick ["state", "row"] (sp__law_pick K)) (D__law_pick : Def K mg "_law_pick" f_law_pick fd_law_pick ["state", "row"]) :
    FnOk P w K mg base CX0 3 f fd ["state", "ins", "flops", "most"] (sp__law_net K) := by
  refine F.ok sc_law_net (fun vs H Q E h => ?_) (fun cdv A outer s H vs Q E hr h => ?_)
  · obtain ⟨p, c, i, f, m, rfl, _⟩ := h
    rfl
  · obtain ⟨p, c, i, f, m, rfl, d0, hi, hf, hm, q⟩ := h
    refine ⟨_, (pss_cons (ps_set (i := 1) sc_law_net.nd rfl (.inl rfl) (pe_call G__law_draw (hr.mono (by omega)) (by rfl) D__law_draw.m D__law_draw.k D__law_draw.b .nil pass0 (pa_cons (pv 0) (pa_cons (pe_op op_add (pv 1) pe_int) pa_nil))))
      (pss_cons (ps_setLc (i := 5) (own := [("k", 4)]) (g := gName 4) (tt := tYes) rfl sc_law_net.nd rfl rfl (sw_true rfl rfl rfl (by decide +kernel)) (pi_range1 rfl T.m_range (pa_cons (pe_call G__law_draw (hr.mono (by omega)) (by rfl) D__law_draw.m D__law_draw.k D__law_draw.b .nil pass0 (pa_cons (pv 0) (pa_cons (pe_op op_add (pv 2) pe_int) pa_nil))) pa_nil)) (blkOk_by (N := N__law_net) (sc := defScope s__law_net) (by decide +kernel)) (fun _ _ _ _ _ => (pg_name (i := 4) sc_law_net.nd rfl (Or.inl rfl))) (fun _ _ _ _ _ => pts_nil) (fun _ _ _ _ _ => (pe_call G__law_draw (hr.mono (by omega)) (by rfl) D__law_draw.m D__law_draw.k D__law_draw.b .nil pass0 (pa_cons (pv 0) (pa_cons pe_int pa_nil)))))
      (pss_cons (ps_set (i := 6) sc_law_net.nd rfl (.inl rfl) (pe_lst pa_nil))
      (pss_cons (ps_set (i := 7) sc_law_net.nd rfl (.inr rfl) (pe_op op_add (pe_op op_add pe_int (pv 1)) (pe_callB call_len_seq (by rfl) T.m_len (by decide +kernel) (pa_cons (pv 5) pa_nil))))
      (pss_cons (ps_for PassesOwn.never rfl (pi_range1 rfl T.m_range (pa_cons (pe_call G__law_draw (hr.mono (by omega)) (by rfl) D__law_draw.m D__law_draw.k D__law_draw.b .nil pass0 (pa_cons (pv 0) (pa_cons (pe_op op_add (pv 3) pe_int) pa_nil))) pa_nil)) (pg_name (i := 4) sc_law_net.nd rfl (Or.inl rfl)) (pss_cons (ps_set (i := 8) sc_law_net.nd rfl (.inl rfl) (pe_call G__law_pick (hr.mono (by omega)) (by rfl) D__law_pick.m D__law_pick.k D__law_pick.b .nil pass0 (pa_cons (pv 0) (pa_cons (pe_lst (pa_cons pe_int (pa_cons pe_int (pa_cons (pe_callB (call_max2 (by rfl)) (by rfl) T.m_max (by decide +kernel) (pa_cons pe_int (pa_cons (pe_op op_sub (pv 7) pe_int) pa_nil))) pa_nil)))) pa_nil))))
      (pss_cons (ps_expr (pe_bm PySem.F.plainAttrs_list PySem.F.slot_list_append PySem.F.type_list_append mt_append (pv 6) (pa_cons (pe_tup (pa_cons (pe_op op_add (pe_op op_mul pe_int (pv 8)) (pe_call G__law_draw (hr.mono (by omega)) (by rfl) D__law_draw.m D__law_draw.k D__law_draw.b .nil pass0 (pa_cons (pv 0) (pa_cons (pe_op op_mul pe_int (pe_op op_sub (pv 7) (pv 8))) pa_nil)))) (pa_cons (pe_call G__law_draw (hr.mono (by omega)) (by rfl) D__law_draw.m D__law_draw.k D__law_draw.b .nil pass0 (pa_cons (pv 0) (pa_cons (pe_op op_mul pe_int (pv 7)) pa_nil))) pa_nil))) pa_nil)))
      (pss_one (ps_set (i := 7) sc_law_net.nd rfl (.inr rfl) (pe_op op_add (pv 7) pe_int))))))
      (pss_cons (ps_setLc (i := 9) (own := [("k", 4)]) (g := gName 4) (tt := tYes) rfl sc_law_net.nd rfl rfl (sw_true rfl rfl rfl (by decide +kernel)) (pi_list (pv 5)) (blkOk_by (N := N__law_net) (sc := defScope s__law_net) (by decide +kernel)) (fun _ _ _ _ _ => (pg_name (i := 4) sc_law_net.nd rfl (Or.inl rfl))) (fun _ _ _ _ _ => pts_nil) (fun _ _ _ _ _ => (pe_call G__law_draw (hr.mono (by omega)) (by rfl) D__law_draw.m D__law_draw.k D__law_draw.b .nil pass0 (pa_cons (pv 0) (pa_cons (pe_op op_mul pe_int (pv 7)) pa_nil)))))
      (pss_one (ps_ret (pe_tup (pa_cons pe_str (pa_cons (pv 1) (pa_cons (pv 5) (pa_cons (pv 6) (pa_cons (pv 9) (pa_cons (pe_lc (own := [("k", 4)]) (g := gName 4) (tt := tYes) rfl sc_law_net.nd (pi_range1 rfl T.m_range (pa_cons (pe_call G__law_draw (hr.mono (by omega)) (by rfl) D__law_draw.m D__law_draw.k D__law_draw.b .nil pass0 (pa_cons (pv 0) (pa_cons pe_int pa_nil))) pa_nil)) (blkOk_by (N := N__law_net) (sc := defScope s__law_net) (by decide +kernel)) (fun _ _ _ _ _ => (pg_name (i := 4) sc_law_net.nd rfl (Or.inl rfl))) (fun _ _ _ _ _ => pts_nil) (fun _ _ _ _ _ => (pe_call G__law_draw (hr.mono (by omega)) (by rfl) D__law_draw.m D__law_draw.k D__law_draw.b .nil pass0 (pa_cons (pv 0) (pa_cons (pe_op op_mul pe_int (pv 7)) pa_nil))))) pa_nil))))))))))))))), ?_⟩
    refine ⟨_, rfl, _, rfl, _, _, rfl, rfl, p, c, i + 1, rfl, d0, by omega, by omega, fun H1 ins g1 h1 => ?_⟩
    -- starts
    refine ⟨_, rfl, _, rfl, _, _, rfl, rfl, p, c, f + 1, rfl, g1.b, by omega, by omega, fun H2 fl g2 h2 => ⟨_, rfl, by omega, by omega, fun pS nS => lc_range (n := fl) (fun j H' => ∃ bs : List Nat, Go p c H2 H' ∧ H' pS = some (.lst (vn bs)) ∧ bs.length = j ∧ ∀ b ∈ bs, b < 2) ⟨[], Go.of g2.b (same_new nS), upd_same, rfl, by simp⟩ ?_ ?_⟩⟩
    · rintro j H' hj ⟨bs, g, hp, hl, hb⟩
      refine ⟨rfl, _, rfl, p, c, 2, rfl, g.b, by decide, by decide, fun H'' d g' hd => ⟨_, g'.get' g2.b nS hp, by rw [vn_len]; exact small64k (by omega), bs ++ [d], (g.trans g').mut nS, ?_, by rw [List.length_append, hl]; rfl, ?_⟩⟩
      · rw [upd_same]
        unfold vn
        rw [List.map_append]
        rfl
      · intro b hb'
        rcases List.mem_append.mp hb' with h | h
        · exact hb b h
        · rw [List.mem_singleton.mp h]
          exact hd
    rintro H3 ⟨bs, g3, hS3, hlS, hbS⟩
    have oS := g2.b.off nS
    -- gates, many
    refine ⟨by show 0 ≤ sizeLine; decide, fun pG nG => ?_⟩
    have oG := g3.b.off nG
    have nSG : pS ≠ pG := ne_of_none hS3 nG
    have g4 : Go p c H (upd H3 pG (.lst [])) := ((g1.trans g2).trans g3).more (same_new nG)
    refine ⟨_, rfl, _, _, rfl, rfl, _, rfl, pS, _, rfl, .inl (SqL.of ((same_new nG) _ _ hS3)), _, _, rfl, rfl, ?_⟩
    have eB : (1 : Int) + (ins : Int) + ((vn bs).length : Int) = ((1 + ins + fl : Nat) : Int) := by
      rw [vn_len, hlS]
      omega
    refine ⟨_, rfl, _, rfl, _, _, rfl, rfl, p, c, m + 1, rfl, g4.b, by omega, by omega, fun H5 mg g5 hmg => ⟨_, rfl, by omega, by omega, for_range (n := mg) (fun j σ H' => ∃ (y4 y8 : Option V) (us : List V) (gs : List (Nat × Nat)), σ = [some (.ref p), some (.int ins), some (.int f), some (.int m), y4, some (.ref pS), some (.ref pG), some (.int ((1 + ins + fl + j : Nat) : Int)), y8, none] ∧ Go p c H H' ∧ H' pS = some (.lst (vn bs)) ∧ H' pG = some (.lst us) ∧ Dvs (hid pG (res p c H')) us gs ∧ gs.length = j ∧ ∀ k g, gs[k]? = some g → g.1 < 2 * (1 + ins + fl + k) ∧ g.2 < 2 * (1 + ins + fl + k)) ⟨none, none, [], [], ?_, g4.trans g5, g5.get oS.1 oS.2 ((same_new nG) _ _ hS3), g5.get oG.1 oG.2 upd_same, .nil, rfl, by simp⟩ ?_ ?_⟩⟩
    · show [some (V.ref p), some (V.int ins), some (V.int f), some (V.int m), none, some (V.ref pS), some (V.ref pG), some (V.int ((1 : Int) + (ins : Int) + ((vn bs).length : Int))), none, none] = _
      rw [eB]
      rfl
    · rintro j σ H' hj ⟨y4, y8, us, gs, rfl, g, hS, hG, hus, hlg, hgs⟩
      -- low
      refine ⟨_, rfl, _, rfl, _, _, rfl, rfl, _, _, rfl, by show 3 ≤ sizeLine; decide, fun l nl => ?_⟩
      obtain ⟨x, ex⟩ : ∃ x : Nat, (if ((1 + ins + fl + j : Nat) : Int) - 3 > 0 then ((1 + ins + fl + j : Nat) : Int) - 3 else 0) = (x : Int) ∧ x < 1 + ins + fl + j := by
        by_cases h : ((1 + ins + fl + j : Nat) : Int) - 3 > 0
        · rw [if_pos h]
          exact ⟨1 + ins + fl + j - 3, by omega, by omega⟩
        · rw [if_neg h]
          exact ⟨0, rfl, by omega⟩
      have ol := g.b.off nl
      refine ⟨p, c, l, [.int 0, .int 0, .int (x : Nat)], rfl, g.b.same (same_new nl), ol.1, ol.2, ?_, by show 0 < 3; decide, by show 3 ≤ 1000; decide, fun H6 lowv g6 hlow => ?_⟩
      · rw [upd_same]
        show some (HO.lst [V.int 0, V.int 0, V.int (if ((1 + ins + fl + j : Nat) : Int) - 3 > 0 then ((1 + ins + fl + j : Nat) : Int) - 3 else 0)]) = _
        rw [ex.1]
      obtain ⟨low, rfl, hlow'⟩ : ∃ low : Nat, lowv = .int (low : Nat) ∧ low < 1 + ins + fl + j := by
        simp only [List.mem_cons, List.not_mem_nil, or_false] at hlow
        rcases hlow with rfl | rfl | rfl
        · exact ⟨0, rfl, by omega⟩
        · exact ⟨0, rfl, by omega⟩
        · exact ⟨x, rfl, ex.2⟩
      have g7 : Go p c H' H6 := (Go.of g.b (same_new nl)).trans g6
      -- gates.append((2 * low + draw(2 * (many - low)), draw(2 * many)))
      refine ⟨_, rfl, .inl ⟨rfl, _, SqL.of (g7.get oG.1 oG.2 hG)⟩, ?_⟩
      refine ⟨_, rfl, _, _, rfl, rfl, .inl ⟨by decide, by decide⟩, _, rfl, _, rfl, _, rfl, _, _, rfl, rfl, _, _, rfl, rfl, .inl ⟨by decide, by decide⟩, p, c, 2 * (1 + ins + fl + j - low), ?_, g6.b, by omega, by omega, fun H7 d1 g8 hd1 => ⟨_, _, rfl, rfl, _, rfl, _, rfl, _, _, rfl, rfl, .inl ⟨by decide, by decide⟩, p, c, 2 * (1 + ins + fl + j), ?_, g8.b, by omega, by omega, fun H8 d2 g9 hd2 => ⟨by show 2 ≤ sizeLine; decide, fun t nt => ?_⟩⟩⟩
      · show [V.ref p, V.int (2 * (((1 + ins + fl + j : Nat) : Int) - (low : Int)))] = _
        rw [show (2 * (((1 + ins + fl + j : Nat) : Int) - (low : Int))) = ((2 * (1 + ins + fl + j - low) : Nat) : Int) by omega]
      · rfl
      have g10 : Go p c H' H8 := (g7.trans g8).trans g9
      have ntG : t ≠ pG := ne_of_none (g10.get oG.1 oG.2 hG) nt |>.symm
      have ot := g10.b.off nt
      refine ⟨pG, us, _, rfl, rfl, by rw [upd_ne ntG.symm]; exact g10.get oG.1 oG.2 hG, ?_, ?_⟩
      · rw [hus.len, hlg]
        exact small64k (by omega)
      refine ⟨_, rfl, _, _, rfl, rfl, ?_⟩
      have g11 : Go p c H' (upd H8 t (.tup [.int (2 * (low : Int) + (d1 : Int)), .int d2])) := g10.more (same_new nt)
      refine ⟨some (.int (0 + (j : Int))), some (.int low), us ++ [.ref t], gs ++ [(2 * low + d1, d2)], rfl, ?_, ?_, upd_same, ?_, by rw [List.length_append, hlg]; rfl, ?_⟩
      · exact (g.trans g11).mut (((g1.trans g2).trans g3).none nG)
      · rw [upd_ne nSG]
        exact g11.get oS.1 oS.2 hS
      · refine ((hus.same (hid_mono g11.s)).same hid_res_mut).app (.cons (.pair (hid_of ntG (res_of ot.1 ot.2 (by rw [upd_ne ntG]; exact upd_same))) (Dv.nat (2 * low + d1)) (Dv.nat d2)) .nil)
      · intro k g' hk
        rcases get_snoc hk with ⟨_, h⟩ | ⟨rfl, rfl⟩
        · exact hgs k g' h
        · rw [hlg]
          exact ⟨by show 2 * low + d1 < _; omega, hd2⟩
    · rintro σ H6 ⟨y4, y8, us, gs, rfl, g, hS, hG, hus, hlg, hgs⟩
      -- nexts
      refine ⟨_, rfl, pS, rfl, ⟨_, SqL.of hS⟩, fun pN nN => lc_list (xs := vn bs) (fun j H' => ∃ xs : List Nat, Go p c H6 H' ∧ H' pN = some (.lst (vn xs)) ∧ xs.length = j ∧ ∀ x ∈ xs, x < 2 * (1 + ins + fl + mg)) ⟨[], Go.of g.b (same_new nN), upd_same, rfl, by simp⟩ (fun j H' _ h => ?_) ?_ ?_⟩
      · obtain ⟨xs, g', _⟩ := h
        exact SqL.of (g'.get oS.1 oS.2 hS)
      · rintro j v H' hv ⟨xs, g', hp, hl, hx⟩
        have hj : j < bs.length := by
          have h := (List.getElem?_eq_some_iff.mp hv).1
          rw [vn_len] at h
          exact h
        refine ⟨rfl, _, rfl, _, rfl, _, _, rfl, rfl, .inl ⟨by decide, by decide⟩, p, c, 2 * (1 + ins + fl + mg), rfl, g'.b, by omega, by omega, fun H'' d g'' hd => ⟨_, g''.get' g.b nN hp, by rw [vn_len]; exact small64k (by omega), xs ++ [d], (g'.trans g'').mut nN, ?_, by rw [List.length_append, hl]; rfl, mem_snoc hx hd⟩⟩
        rw [upd_same, vn_snoc]
      · rintro H7 ⟨xs, g7, hN, hlN, hxN⟩
        rw [vn_len] at hlN
        have oN := g.b.off nN
        -- outs and the net
        refine ⟨_, rfl, _, rfl, _, rfl, _, rfl, _, rfl, p, c, 4, rfl, g7.b, by decide, by decide, fun H8 no g8 hno => ⟨_, rfl, by omega, by omega, fun pO nO => lc_range (n := no) (fun j H' => ∃ os : List Nat, Go p c H8 H' ∧ H' pO = some (.lst (vn os)) ∧ os.length = j ∧ ∀ x ∈ os, x < 2 * (1 + ins + fl + mg)) ⟨[], Go.of g8.b (same_new nO), upd_same, rfl, by simp⟩ ?_ ?_⟩⟩
        · rintro j H' hj ⟨os, g', hp, hl, hx⟩
          refine ⟨rfl, _, rfl, _, rfl, _, _, rfl, rfl, .inl ⟨by decide, by decide⟩, p, c, 2 * (1 + ins + fl + mg), rfl, g'.b, by omega, by omega, fun H'' d g'' hd => ⟨_, g''.get' g8.b nO hp, by rw [vn_len]; exact small64k (by omega), os ++ [d], (g'.trans g'').mut nO, ?_, by rw [List.length_append, hl]; rfl, mem_snoc hx hd⟩⟩
          rw [upd_same, vn_snoc]
        · rintro H9 ⟨os, g9, hO, hlO, hxO⟩
          have oO := g8.b.off nO
          refine ⟨by show 6 ≤ sizeLine; decide, fun t nt => ?_⟩
          have ot := g9.b.off nt
          have gE : Go p c H6 (upd H9 t (.tup [.str "net", .int ins, .ref pS, .ref pG, .ref pN, .ref pO])) := ((g7.trans g8).trans g9).more (same_new nt)
          have gT := same_new (o := .tup [.str "net", .int ins, .ref pS, .ref pG, .ref pN, .ref pO]) nt
          refine q _ t ⟨ins, bs, gs, xs, os⟩ (g.trans gE) ((g.trans ((g7.trans g8).trans g9)).none nt) (.net (res_of ot.1 ot.2 upd_same) ?_ ?_ ?_ ?_) ?_
          · exact .natl (res_of oS.1 oS.2 (gE.get oS.1 oS.2 hS))
          · exact .list (res_of oG.1 oG.2 (gE.get oG.1 oG.2 hG)) ((hus.same (hid_same _ _)).same gE.s)
          · exact .natl (res_of oN.1 oN.2 (gT _ _ ((g8.trans g9).get oN.1 oN.2 hN)))
          · exact .natl (res_of oO.1 oO.2 (gT _ _ hO))
          · have eb : Net.base ⟨ins, bs, gs, xs, os⟩ = 1 + ins + fl := by
              show 1 + ins + bs.length = _
              rw [hlS]
            have em : Net.many ⟨ins, bs, gs, xs, os⟩ = 1 + ins + fl + mg := by
              show 1 + ins + bs.length + gs.length = _
              rw [hlS, hlg]
            refine ⟨by show ins ≤ i; omega, by show bs.length ≤ f; omega, hbS, by show gs.length ≤ m; omega, ?_, hlN, ?_, by show os.length ≤ 3; omega, ?_⟩
            · rw [eb]
              exact hgs
            · rw [em]
              exact hxN
            · rw [em]
              exact hxO

end K31
namespace K31
open PySem PySem.Spec PyProof.Rows L2 V0
/-! ### what looks like a net -/
structure INet where
  ins : Nat
  starts : List Int
  gates : List (Int × Int)
  nexts : List Int
  outs : List Int
def INet.base (n : INet) : Nat := 1 + n.ins + n.starts.length
def INet.many (n : INet) : Nat := n.base + n.gates.length
structure IAt (H : Hp) (a s g x o : Addr) (n : INet) : Prop where
  t : H a = some (.tup [.str "net", .int (n.ins : Nat), .ref s, .ref g, .ref x, .ref o])
  s : H s = some (.lst (vi n.starts))
  g : ∃ us, H g = some (.lst us) ∧ Dvs H us n.gates
  x : H x = some (.lst (vi n.nexts))
  o : H o = some (.lst (vi n.outs))
theorem IAt.same {H H' : Hp} {a s g x o : Addr} {n : INet} (h : IAt H a s g x o n) (k : Same H H') : IAt H' a s g x o n := by
  obtain ⟨us, h1, h2⟩ := h.g
  exact ⟨k _ _ h.t, k _ _ h.s, ⟨us, k _ _ h1, h2.same k⟩, k _ _ h.x, k _ _ h.o⟩
theorem vi_get {xs : List Int} {i : Nat} {z : Int} (h : xs[i]? = some z) : (vi xs)[i]? = some (.int z) := by
  unfold vi
  rw [List.getElem?_map, h]
  rfl
theorem vi_len (xs : List Int) : (vi xs).length = xs.length := List.length_map _
/-- the first place from i on whose item is bad -/
def firstB {α : Type} (p : Nat → α → Bool) : Nat → List α → Option Nat
  | _, [] => none
  | i, x :: xs => if p i x = true then some i else firstB p (i + 1) xs
theorem firstB_none {α : Type} {p : Nat → α → Bool} : ∀ {xs : List α} {i : Nat}, (∀ j x, xs[j]? = some x → p (i + j) x = false) → firstB p i xs = none
  | [], _, _ => rfl
  | x :: xs, i, h => by
    unfold firstB
    rw [if_neg (by rw [show p i x = false from h 0 x rfl]; exact Bool.false_ne_true)]
    exact firstB_none fun j y hy => by
      have := h (j + 1) y hy
      rw [show i + 1 + j = i + (j + 1) by omega]
      exact this
theorem firstB_some {α : Type} {p : Nat → α → Bool} : ∀ {xs : List α} {i k : Nat} {z : α}, xs[k]? = some z → p (i + k) z = true → (∀ j x, j < k → xs[j]? = some x → p (i + j) x = false) → firstB p i xs = some (i + k)
  | [], _, _, _, h, _, _ => by simp at h
  | x :: xs, i, 0, z, h, b, _ => by
    cases h
    unfold firstB
    rw [if_pos (show p i x = true from b)]
    rfl
  | x :: xs, i, k + 1, z, h, b, a => by
    unfold firstB
    rw [if_neg (by rw [show p i x = false from a 0 x (by omega) rfl]; exact Bool.false_ne_true)]
    rw [firstB_some (i := i + 1) (k := k) (z := z) h (by rw [show i + 1 + k = i + (k + 1) by omega]; exact b) (fun j y hj hy => by
      have := a (j + 1) y (by omega) hy
      rw [show i + 1 + j = i + (j + 1) by omega]
      exact this)]
    rw [show i + 1 + k = i + (k + 1) by omega]
def badS (_ : Nat) (x : Int) : Bool := !decide (x = 0 ∨ x = 1)
def badL (N : Nat) (x : Int) : Bool := decide (x < 0 ∨ 2 * (N : Int) ≤ x)
def badG (b : Nat) (k : Nat) (g : Int × Int) : Bool := badL (b + k) g.1 || badL (b + k) g.2
def nth (word : Str) (k : Nat) : Str := word ++ (Str.ofString (toString (k : Int)))
def faultI (n : INet) : Option Str := match firstB badS 0 n.starts with
  | some k => some (nth "start " k)
  | none => match firstB (badG n.base) 0 n.gates with
    | some k => some (nth "gate " k)
    | none => if n.nexts.length ≠ n.starts.length then some ("nexts" : Str) else match firstB (fun _ => badL n.many) 0 n.nexts with
      | some k => some (nth "next " k)
      | none => match firstB (fun _ => badL n.many) 0 n.outs with
        | some k => some (nth "out " k)
        | none => none
def ov : Option Str → V
  | none => .non
  | some z => .str z
theorem num_len {k : Nat} (h : k < 10 ^ 12) : (Str.ofString (toString (k : Int))).length ≤ 13 := PyData.shown_int_le (i := (k : Int)) (by rw [Int.natAbs_natCast]; exact h)
theorem str_empty (a : Str) : Str.empty ++ a = a := by
  show Str.mk (#[] ++ a.cps) = a
  rw [Array.empty_append]
theorem log_small {k : Nat} (h : k < 10 ^ 12) : ((k : Int)).natAbs.log2 < 1920 := by
  rw [Int.natAbs_natCast]
  by_cases h0 : k = 0
  · rw [h0]
    decide
  · exact (Nat.log2_lt h0).mpr (Nat.lt_trans h (by decide))
structure Short (n : INet) : Prop where
  s : n.starts.length ≤ 100
  g : n.gates.length ≤ 100
  x : n.nexts.length ≤ 100
  o : n.outs.length ≤ 100
  i : n.ins ≤ 100
def sp_base_of (K : PySem.W.Frag) : Sp := fun vs H Q _ => ∃ (a s g x o : Addr) (n : INet), vs = [.ref a] ∧ IAt H a s g x o n ∧ Q (.int (n.base : Nat)) H
theorem ok_base_of {P : Program} {w : World} {K : PySem.W.Frag} {mg : Str → Option Value} {base : Heap} {C_KindError fI_KindError : Addr} {fd_KindError : FuncData} {B_ : Addr} {mc_ : Value} {f  : Addr} {fd  : FuncData} (F : Fun K "base_of" "base_of" s_base_of f fd) (T : Txt K mg C_KindError fI_KindError fd_KindError B_ mc_) :
    FnOk P w K mg base CX0 1 f fd ["net"] (sp_base_of K) := by
  refine F.ok scbase_of (fun vs H Q E h => ?_) (fun cdv A outer s H vs Q E hr h => ?_)
  · obtain ⟨a, s, g, x, o, n, rfl, _⟩ := h
    rfl
  · obtain ⟨a, s, g, x, o, n, rfl, hn, q⟩ := h
    refine ⟨_, (pss_one (ps_ret (pe_op op_add (pe_op op_add pe_int (pe_ix (r := rIxT K) ix_tup (pv 0) pe_int (fun _ _ => rfl))) (pe_callB call_len_seq (by rfl) T.m_len (by decide +kernel) (pa_cons (pe_ix (r := rIxT K) ix_tup (pv 0) pe_int (fun _ _ => rfl)) pa_nil))))), ?_⟩
    refine ⟨_, rfl, a, _, 1, _, rfl, rfl, SqT.of hn.t, atI_nat (j := 1) rfl, _, _, rfl, rfl, _, rfl, a, _, 2, _, rfl, rfl, SqT.of hn.t, atI_nat (j := 2) rfl, s, _, rfl, .inl (SqL.of hn.s), _, _, rfl, rfl, ?_⟩
    show Q (V.int ((1 : Int) + (n.ins : Int) + ((vi n.starts).length : Int))) H
    rw [vi_len]
    exact q
def sp_many_nodes (K : PySem.W.Frag) : Sp := fun vs H Q _ => ∃ (a s g x o : Addr) (n : INet), vs = [.ref a] ∧ IAt H a s g x o n ∧ Q (.int (n.many : Nat)) H
theorem ok_many_nodes {P : Program} {w : World} {K : PySem.W.Frag} {mg : Str → Option Value} {base : Heap} {C_KindError fI_KindError : Addr} {fd_KindError : FuncData} {B_ : Addr} {mc_ : Value} {f fbase_of : Addr} {fd fdbase_of : FuncData} (F : Fun K "many_nodes" "many_nodes" s_many_nodes f fd) (T : Txt K mg C_KindError fI_KindError fd_KindError B_ mc_)
    (G_base_of : FnOk P w K mg base CX0 1 fbase_of fdbase_of ["net"] (sp_base_of K)) (D_base_of : Def K mg "base_of" fbase_of fdbase_of ["net"]) :
    FnOk P w K mg base CX0 2 f fd ["net"] (sp_many_nodes K) := by
  refine F.ok scmany_nodes (fun vs H Q E h => ?_) (fun cdv A outer s H vs Q E hr h => ?_)
  · obtain ⟨a, s, g, x, o, n, rfl, _⟩ := h
    rfl
  · obtain ⟨a, s, g, x, o, n, rfl, hn, q⟩ := h
    obtain ⟨us, hg, hus⟩ := hn.g
    refine ⟨_, (pss_one (ps_ret (pe_op op_add (pe_call G_base_of (hr.mono (by omega)) (by rfl) D_base_of.m D_base_of.k D_base_of.b .nil pass0 (pa_cons (pv 0) pa_nil)) (pe_callB call_len_seq (by rfl) T.m_len (by decide +kernel) (pa_cons (pe_ix (r := rIxT K) ix_tup (pv 0) pe_int (fun _ _ => rfl)) pa_nil))))), ?_⟩
    refine ⟨_, rfl, a, s, g, x, o, n, rfl, hn, _, rfl, a, _, 3, _, rfl, rfl, SqT.of hn.t, atI_nat (j := 3) rfl, g, _, rfl, .inl (SqL.of hg), _, _, rfl, rfl, ?_⟩
    show Q (V.int ((n.base : Int) + (us.length : Int))) H
    rw [hus.len]
    exact q

end K31
namespace K31
open PySem PySem.Spec PyProof.Rows L2 V0
theorem in01 (x : Int) : inV (.int x) [V.int 0, .int 1] = decide (x = 0 ∨ x = 1) := by
  show (((0 : Int) == x) || (((1 : Int) == x) || false)) = _
  by_cases h0 : x = 0
  · subst h0
    rfl
  · by_cases h1 : x = 1
    · subst h1
      rfl
    · rw [beq_eq_false_iff_ne.mpr (fun z => h0 z.symm), beq_eq_false_iff_ne.mpr (fun z => h1 z.symm), decide_eq_false (fun z => z.elim h0 h1)]
      rfl
theorem nth_small {w : Str} {k : Nat} (hw : w.length ≤ 100) (hk : k < 10 ^ 12) : (nth w k).length ≤ 1000 := by
  unfold nth
  rw [app_len]
  have := num_len hk
  omega
theorem nth_fit {w : Str} {k : Nat} (hw : w.length ≤ 100) (hk : k < 10 ^ 12) : (nth w k).length ≤ sizeLine := small2000 (by have := nth_small hw hk; omega)
theorem fault_start {n : INet} {k : Nat} {x : Int} (h : n.starts[k]? = some x) (b : badS k x = true) (a : ∀ j y, j < k → n.starts[j]? = some y → badS j y = false) : faultI n = some (nth "start " k) := by
  have e := firstB_some (p := badS) (i := 0) h (by rw [Nat.zero_add]; exact b) (fun j y hj hy => by rw [Nat.zero_add]; exact a j y hj hy)
  rw [Nat.zero_add] at e
  unfold faultI
  rw [e]
theorem fault_gate {n : INet} {k : Nat} {g : Int × Int} (s0 : firstB badS 0 n.starts = none) (h : n.gates[k]? = some g) (b : badG n.base k g = true) (a : ∀ j y, j < k → n.gates[j]? = some y → badG n.base j y = false) : faultI n = some (nth "gate " k) := by
  have e := firstB_some (p := badG n.base) (i := 0) h (by rw [Nat.zero_add]; exact b) (fun j y hj hy => by rw [Nat.zero_add]; exact a j y hj hy)
  rw [Nat.zero_add] at e
  unfold faultI
  rw [s0]
  simp only
  rw [e]
theorem fault_many {n : INet} (s0 : firstB badS 0 n.starts = none) (g0 : firstB (badG n.base) 0 n.gates = none) (h : n.nexts.length ≠ n.starts.length) : faultI n = some ("nexts" : Str) := by
  unfold faultI
  rw [s0]
  simp only
  rw [g0]
  simp only
  rw [if_pos h]
theorem fault_next {n : INet} {k : Nat} {x : Int} (s0 : firstB badS 0 n.starts = none) (g0 : firstB (badG n.base) 0 n.gates = none) (l0 : n.nexts.length = n.starts.length) (h : n.nexts[k]? = some x) (b : badL n.many x = true) (a : ∀ j y, j < k → n.nexts[j]? = some y → badL n.many y = false) : faultI n = some (nth "next " k) := by
  have e := firstB_some (p := fun _ => badL n.many) (i := 0) h b (fun j y hj hy => a j y hj hy)
  rw [Nat.zero_add] at e
  unfold faultI
  rw [s0]
  simp only
  rw [g0]
  simp only
  rw [if_neg (fun z => z l0), e]
theorem fault_out {n : INet} {k : Nat} {x : Int} (s0 : firstB badS 0 n.starts = none) (g0 : firstB (badG n.base) 0 n.gates = none) (l0 : n.nexts.length = n.starts.length) (x0 : firstB (fun _ => badL n.many) 0 n.nexts = none) (h : n.outs[k]? = some x) (b : badL n.many x = true) (a : ∀ j y, j < k → n.outs[j]? = some y → badL n.many y = false) : faultI n = some (nth "out " k) := by
  have e := firstB_some (p := fun _ => badL n.many) (i := 0) h b (fun j y hj hy => a j y hj hy)
  rw [Nat.zero_add] at e
  unfold faultI
  rw [s0]
  simp only
  rw [g0]
  simp only
  rw [if_neg (fun z => z l0), x0]
  simp only
  rw [e]
theorem fault_no {n : INet} (s0 : firstB badS 0 n.starts = none) (g0 : firstB (badG n.base) 0 n.gates = none) (l0 : n.nexts.length = n.starts.length) (x0 : firstB (fun _ => badL n.many) 0 n.nexts = none) (o0 : firstB (fun _ => badL n.many) 0 n.outs = none) : faultI n = none := by
  unfold faultI
  rw [s0]
  simp only
  rw [g0]
  simp only
  rw [if_neg (fun z => z l0), x0]
  simp only
  rw [o0]
/-- the lists behind the gates, up to one of them -/
def InvL (n : INet) (j : Nat) : Prop := (1 ≤ j → firstB (fun _ => badL n.many) 0 n.nexts = none) ∧ (2 ≤ j → firstB (fun _ => badL n.many) 0 n.outs = none)
theorem word_next : ((("next" : Str) ++ (" " : Str)) : Str) = "next " := by decide +kernel
theorem word_out : ((("out" : Str) ++ (" " : Str)) : Str) = "out " := by decide +kernel
theorem badL_lt {N : Nat} {l : Int} (h : l < 0) : badL N l = true := decide_eq_true (.inl h)
theorem badL_ge {N : Nat} {l : Int} (h : ¬ l < 0) : badL N l = decide (l ≥ 2 * (N : Int)) := by
  unfold badL
  exact decide_eq_decide.mpr ⟨fun z => z.elim (fun y => absurd y h) id, .inr⟩
def sp_fault_of (K : PySem.W.Frag) : Sp := fun vs H Q _ => ∃ (a s g x o : Addr) (n : INet), vs = [.ref a] ∧ IAt H a s g x o n ∧ Short n ∧ ∀ H', Same H H' → Q (ov (faultI n)) H'
theorem ok_fault_of {P : Program} {w : World} {K : PySem.W.Frag} {mg : Str → Option Value} {base : Heap} {C_KindError fI_KindError : Addr} {fd_KindError : FuncData} {B_ : Addr} {mc_ : Value} {f fbase_of fmany_nodes : Addr} {fd fdbase_of fdmany_nodes : FuncData} (F : Fun K "fault_of" "fault_of" s_fault_of f fd) (T : Txt K mg C_KindError fI_KindError fd_KindError B_ mc_)
    (G_base_of : FnOk P w K mg base CX0 1 fbase_of fdbase_of ["net"] (sp_base_of K)) (D_base_of : Def K mg "base_of" fbase_of fdbase_of ["net"])
    (G_many_nodes : FnOk P w K mg base CX0 2 fmany_nodes fdmany_nodes ["net"] (sp_many_nodes K)) (D_many_nodes : Def K mg "many_nodes" fmany_nodes fdmany_nodes ["net"]) :
    FnOk P w K mg base CX0 3 f fd ["net"] (sp_fault_of K) := by
  refine F.ok scfault_of (fun vs H Q E h => ?_) (fun cdv A outer s H vs Q E hr h => ?_)
  · obtain ⟨a, s, g, x, o, n, rfl, _⟩ := h
    rfl
  · obtain ⟨a, aS, aG, aN, aO, n, rfl, hn, sh, q⟩ := h
    obtain ⟨us, hGl, hus⟩ := hn.g
    have hA := hn.t
    have hS := hn.s
    have hN := hn.x
    have hO := hn.o
    have b1 := sh.s
    have b2 := sh.g
    have b3 := sh.x
    have b4 := sh.o
    refine ⟨_, (pss_cons (ps_asg (pv 0) (pg_tup (by rfl) (pgs_cons (pg_name (i := 1) scfault_of.nd rfl (Or.inl rfl)) (pgs_cons (pg_name (i := 1) scfault_of.nd rfl (Or.inl rfl)) (pgs_cons (pg_name (i := 2) scfault_of.nd rfl (Or.inl rfl)) (pgs_cons (pg_name (i := 3) scfault_of.nd rfl (Or.inl rfl)) (pgs_cons (pg_name (i := 4) scfault_of.nd rfl (Or.inl rfl)) (pgs_cons (pg_name (i := 5) scfault_of.nd rfl (Or.inl rfl)) pgs_nil))))))))
      (pss_cons (ps_set (i := 6) scfault_of.nd rfl (.inr rfl) (pe_call G_base_of (hr.mono (by omega)) (by rfl) D_base_of.m D_base_of.k D_base_of.b .nil pass0 (pa_cons (pv 0) pa_nil)))
      (pss_cons (ps_for PassesOwn.never rfl (pi_enum (by rfl) T.m_enumerate (pa_cons (pv 2) pa_nil)) (pg_tup (by rfl) (pgs_cons (pg_name (i := 7) scfault_of.nd rfl (Or.inr rfl)) (pgs_cons (pg_name (i := 8) scfault_of.nd rfl (Or.inl rfl)) pgs_nil))) (pss_one (ps_if (pt_cmpR (r := rIn K true) op_notIn_seq (pv 8) (pe_tup (pa_cons pe_int (pa_cons pe_int pa_nil))) (by rfl)) (pss_one (ps_ret (pe_joined (PJ.cons pe_str (PJ.cons (pe_fmt (pv 7)) PJ.nil))))) pss_nil)))
      (pss_cons (ps_for PassesOwn.never rfl (pi_enum (by rfl) T.m_enumerate (pa_cons (pv 3) pa_nil)) (pg_tup (by rfl) (pgs_cons (pg_name (i := 7) scfault_of.nd rfl (Or.inr rfl)) (pgs_cons (pg_name (i := 9) scfault_of.nd rfl (Or.inl rfl)) pgs_nil))) (pss_one (ps_if (pt_val (pe_callB (cr_any (by rfl)) (by rfl) T.m_any (by decide +kernel) (pa_cons (pe_lc (own := [("literal", 10)]) (g := gName 10) (tt := tYes) rfl scfault_of.nd (pi_tup (pv 9)) (blkOk_by (N := N_fault_of) (sc := defScope s_fault_of) (by decide +kernel)) (fun _ _ _ _ _ => (pg_name (i := 10) scfault_of.nd rfl (Or.inl rfl))) (fun _ _ _ _ _ => pts_nil) (fun _ _ _ _ _ => (pe_or (pe_cmpR op_lt (pv 10) pe_int (nomark _)) (pe_one (pe_cmpR op_ge (pv 10) (pe_op op_mul pe_int (pe_op op_add (pv 6) (pv 7))) (nomark _)))))) pa_nil))) (pss_one (ps_ret (pe_joined (PJ.cons pe_str (PJ.cons (pe_fmt (pv 7)) PJ.nil))))) pss_nil)))
      (pss_cons (ps_if (pt_cmpR op_ne (pe_callB call_len_seq (by rfl) T.m_len (by decide +kernel) (pa_cons (pv 4) pa_nil)) (pe_callB call_len_seq (by rfl) T.m_len (by decide +kernel) (pa_cons (pv 2) pa_nil)) (nomark _)) (pss_one (ps_ret pe_str)) pss_nil)
      (pss_cons (ps_for PassesOwn.never rfl (pi_tup (pe_tup (pa_cons (pe_tup (pa_cons pe_str (pa_cons (pv 4) pa_nil))) (pa_cons (pe_tup (pa_cons pe_str (pa_cons (pv 5) pa_nil))) pa_nil)))) (pg_tup (by rfl) (pgs_cons (pg_name (i := 11) scfault_of.nd rfl (Or.inl rfl)) (pgs_cons (pg_name (i := 12) scfault_of.nd rfl (Or.inl rfl)) pgs_nil))) (pss_one (ps_for PassesOwn.never rfl (pi_enum (by rfl) T.m_enumerate (pa_cons (pv 12) pa_nil)) (pg_tup (by rfl) (pgs_cons (pg_name (i := 7) scfault_of.nd rfl (Or.inr rfl)) (pgs_cons (pg_name (i := 10) scfault_of.nd rfl (Or.inl rfl)) pgs_nil))) (pss_one (ps_if (PW.pt (pw_or (pt_cmpR op_lt (pv 10) pe_int (nomark _)) (pw_or1 (pt_cmpR op_ge (pv 10) (pe_op op_mul pe_int (pe_call G_many_nodes (hr.mono (by omega)) (by rfl) D_many_nodes.m D_many_nodes.k D_many_nodes.b .nil pass0 (pa_cons (pv 0) pa_nil))) (nomark _))))) (pss_one (ps_ret (pe_joined (PJ.cons (pe_fmt (pv 11)) (PJ.cons pe_str (PJ.cons (pe_fmt (pv 7)) PJ.nil)))))) pss_nil)))))
      (pss_one (ps_ret pe_non)))))))), ?_⟩
    refine ⟨_, rfl, a, _, rfl, SqT.of hA, rfl, _, _, rfl, _, _, rfl, _, _, rfl, _, _, rfl, _, _, rfl, _, _, rfl, rfl, ?_⟩
    refine ⟨_, rfl, a, aS, aG, aN, aO, n, rfl, hn, ?_⟩
    -- starts
    refine ⟨_, rfl, aS, _, rfl, SqL.of hS, for_it walk_enum (fun i σ Hx => ∃ y7 y8 : Option V, σ = [some (.ref a), some (.int (n.ins : Nat)), some (.ref aS), some (.ref aG), some (.ref aN), some (.ref aO), some (.int (n.base : Nat)), y7, y8, none, none, none, none] ∧ Same H Hx ∧ ∀ j y, j < i → n.starts[j]? = some y → badS j y = false) ⟨none, none, rfl, fun _ _ h => h, by omega⟩ (fun i σ Hx _ ⟨_, _, _, s', _⟩ => SqL.of (s' _ _ hS)) ?_ ?_⟩
    · rintro i v σ Hx Hx' hi ⟨y7, y8, rfl, sx, good⟩ ⟨T1, x, y, rfl, nT, rfl, ex, ey⟩
      cases ex
      rw [vi_len] at hi
      have hx := List.getElem?_eq_getElem hi
      have ey : (vi n.starts)[i]? = some y := ey
      rw [vi_get hx] at ey
      cases ey
      generalize n.starts[i] = z at hx
      have sT := same_new (o := .tup [.int (i : Nat), .int z]) nT
      refine ⟨T1, _, rfl, SqT.of upd_same, rfl, _, _, rfl, _, _, rfl, rfl, ?_⟩
      refine ⟨_, rfl, by show 2 ≤ sizeLine; decide, fun T2 nT2 => ?_⟩
      refine ⟨T2, _, rfl, .inr (SqT.of upd_same), rfl, rfl, _, rfl, ?_⟩
      show if (if true = true then !inV (.int z) [V.int 0, .int 1] else inV (.int z) [V.int 0, .int 1]) = true then _ else _
      rw [if_pos rfl, in01]
      by_cases hb : badS i z = true
      · rw [show (!decide (z = 0 ∨ z = 1)) = true from hb]
        refine iteT ⟨_, rfl, by decide, _, rfl, .inr ⟨_, rfl, log_small (by omega), _, rfl, ?_, ?_⟩⟩
        · rw [str_empty]
          exact nth_fit (w := "start ") (by decide) (by omega)
        · have e := fault_start hx hb good
          have h := q _ (sx.trans (sT.trans (same_new (o := .tup [.int 0, .int 1]) nT2)))
          rw [e] at h
          rw [str_empty]
          exact h
      · rw [show (!decide (z = 0 ∨ z = 1)) = false from by simpa [badS] using hb]
        refine iteF ⟨_, _, rfl, sx.trans (sT.trans (same_new nT2)), fun j y hj hy => ?_⟩
        by_cases e : j < i
        · exact good j y e hy
        · have : j = i := by omega
          subst this
          rw [hx] at hy
          cases hy
          exact Bool.eq_false_iff.mpr hb
    rintro σ Hx ⟨y7, y8, rfl, sx, good⟩
    have s0 : firstB badS 0 n.starts = none := firstB_none fun j y hy => by
      rw [Nat.zero_add]
      refine good j y ?_ hy
      rw [vi_len]
      exact (List.getElem?_eq_some_iff.mp hy).1
    -- gates
    refine ⟨_, rfl, aG, _, rfl, SqL.of (sx _ _ hGl), for_it walk_enum (fun i σ Hx => ∃ y7 y8 y9 y10 : Option V, σ = [some (.ref a), some (.int (n.ins : Nat)), some (.ref aS), some (.ref aG), some (.ref aN), some (.ref aO), some (.int (n.base : Nat)), y7, y8, y9, y10, none, none] ∧ Same H Hx ∧ ∀ j y, j < i → n.gates[j]? = some y → badG n.base j y = false) ⟨_, _, _, _, rfl, sx, by omega⟩ (fun i σ Hx _ ⟨_, _, _, _, _, s', _⟩ => SqL.of (s' _ _ hGl)) ?_ ?_⟩
    · rintro i v σ Hx Hx' hi ⟨y7, y8, y9, y10, rfl, sx, good⟩ ⟨T1, x, y, rfl, nT, rfl, ex, ey⟩
      cases ex
      have ey : us[i]? = some y := ey
      obtain ⟨g, hg, hd⟩ := hus.at ey
      obtain ⟨t, u1, u2, rfl, ht, hx1, hx2⟩ := hd.pair_inv
      have hx1 := hx1.int_inv
      have hx2 := hx2.int_inv
      subst hx1 hx2
      have hil : i < n.gates.length := (List.getElem?_eq_some_iff.mp hg).1
      have sT := same_new (o := .tup [.int (i : Nat), .ref t]) nT
      have sy := sx.trans sT
      refine ⟨T1, _, rfl, SqT.of upd_same, rfl, _, _, rfl, _, _, rfl, rfl, ?_⟩
      refine ⟨_, rfl, t, rfl, ⟨_, SqT.of (sy _ _ ht)⟩, fun D nD => lc_tup (xs := [.int g.1, .int g.2]) (fun j Hz => Same (upd Hx T1 (.tup [.int (i : Nat), .ref t])) Hz ∧ Hz D = some (.lst ((([badL (n.base + i) g.1, badL (n.base + i) g.2] : List Bool).take j).map V.bl))) ⟨same_new nD, upd_same⟩ (fun j Hz _ h => SqT.of (h.1 _ _ (sy _ _ ht))) ?_ ?_⟩
      · rintro j v Hz hv ⟨sz, hp⟩
        obtain ⟨l, rfl, hl, hj2⟩ : ∃ l : Int, v = V.int l ∧ ([badL (n.base + i) g.1, badL (n.base + i) g.2] : List Bool)[j]? = some (badL (n.base + i) l) ∧ j < 2 := by
          have hj : j = 0 ∨ j = 1 := by
            have h : j < 2 := (List.getElem?_eq_some_iff.mp hv).1
            omega
          rcases hj with rfl | rfl
          · cases hv
            exact ⟨g.1, rfl, rfl, by decide⟩
          · cases hv
            exact ⟨g.2, rfl, rfl, by decide⟩
        refine ⟨rfl, _, rfl, _, _, rfl, rfl, _, rfl, ?_⟩
        by_cases hneg : l < 0
        · rw [decide_eq_true hneg]
          refine iteT ⟨_, hp, by rw [List.length_map, List.length_take]; exact small1000 (by show min j 2 ≤ _; omega), same_mut sz nD, ?_⟩
          rw [upd_same, take_snoc hl, badL_lt hneg, List.map_append]
          rfl
        · rw [decide_eq_false hneg]
          refine iteF ⟨_, rfl, _, rfl, _, rfl, _, _, rfl, rfl, _, _, rfl, rfl, .inl ⟨by decide, by decide⟩, _, _, rfl, rfl, ?_⟩
          refine ⟨_, hp, by rw [List.length_map, List.length_take]; exact small1000 (by show min j 2 ≤ _; omega), same_mut sz nD, ?_⟩
          rw [upd_same, take_snoc hl, badL_ge hneg, List.map_append]
          rfl
      · rintro Hz ⟨sz, hp⟩
        refine ⟨D, _, rfl, SqL.of hp, _, rfl, ?_⟩
        have ea : ((([badL (n.base + i) g.1, badL (n.base + i) g.2] : List Bool).take [V.int g.1, V.int g.2].length).any id) = badG n.base i g := by
          show (badL (n.base + i) g.1 || (badL (n.base + i) g.2 || false)) = _
          rw [Bool.or_false]
          rfl
        rw [ea]
        by_cases hb : badG n.base i g = true
        · rw [hb]
          refine iteT ⟨_, rfl, by decide, _, rfl, .inr ⟨_, rfl, log_small (by omega), _, rfl, ?_, ?_⟩⟩
          · rw [str_empty]
            exact nth_fit (w := "gate ") (by decide) (by omega)
          · have e := fault_gate s0 hg hb good
            have h := q _ (sy.trans sz)
            rw [e] at h
            rw [str_empty]
            exact h
        · rw [Bool.eq_false_iff.mpr hb]
          refine iteF ⟨_, _, _, _, rfl, sy.trans sz, fun j y hj hy => ?_⟩
          by_cases e : j < i
          · exact good j y e hy
          · have : j = i := by omega
            subst this
            rw [hg] at hy
            cases hy
            exact Bool.eq_false_iff.mpr hb
    rintro σ Hx ⟨y7, y8, y9, y10, rfl, sx, good⟩
    have g0 : firstB (badG n.base) 0 n.gates = none := firstB_none fun j y hy => by
      rw [Nat.zero_add]
      refine good j y ?_ hy
      rw [hus.len]
      exact (List.getElem?_eq_some_iff.mp hy).1
    refine ⟨_, rfl, aN, _, rfl, .inl (SqL.of (sx _ _ hN)), _, rfl, aS, _, rfl, .inl (SqL.of (sx _ _ hS)), rfl, _, rfl, ?_⟩
    rw [vi_len, vi_len, show decide (V.int ((n.nexts.length : Nat) : Int) = V.int ((n.starts.length : Nat) : Int)) = decide (n.nexts.length = n.starts.length) from dec_nat _ _]
    by_cases l0 : n.nexts.length = n.starts.length
    · rw [decide_eq_true l0]
      refine iteF ?_
      refine ⟨_, rfl, by show 2 ≤ sizeLine; decide, fun t1 nt1 => ?_⟩
      have s1 := sx.trans (same_new (o := .tup [.str "next", .ref aN]) nt1)
      have e1 : (upd Hx t1 (.tup [.str "next", .ref aN])) t1 = some (.tup [.str "next", .ref aN]) := upd_same
      generalize (upd Hx t1 (.tup [.str "next", .ref aN])) = H1 at s1 e1 ⊢
      refine ⟨_, rfl, by show 2 ≤ sizeLine; decide, fun t2 nt2 => ?_⟩
      have s2 := same_new (o := .tup [.str "out", .ref aO]) nt2
      have e2 : (upd H1 t2 (.tup [.str "out", .ref aO])) t2 = some (.tup [.str "out", .ref aO]) := upd_same
      have e1 := s2 _ _ e1
      have s2 := s1.trans s2
      generalize (upd H1 t2 (.tup [.str "out", .ref aO])) = H2 at s2 e2 e1 ⊢
      refine ⟨by show 2 ≤ sizeLine; decide, fun t3 nt3 => ?_⟩
      have s3 := same_new (o := .tup [.ref t1, .ref t2]) nt3
      have e3 : (upd H2 t3 (.tup [.ref t1, .ref t2])) t3 = some (.tup [.ref t1, .ref t2]) := upd_same
      have e1 := s3 _ _ e1
      have e2 := s3 _ _ e2
      have s3 := s2.trans s3
      generalize (upd H2 t3 (.tup [.ref t1, .ref t2])) = H3 at s3 e3 e1 e2 ⊢
      refine ⟨t3, rfl, ⟨_, SqT.of e3⟩, for_tup (xs := [.ref t1, .ref t2]) (fun j σ Hy => ∃ y7 y8 y9 y10 y11 y12 : Option V, σ = [some (.ref a), some (.int (n.ins : Nat)), some (.ref aS), some (.ref aG), some (.ref aN), some (.ref aO), some (.int (n.base : Nat)), y7, y8, y9, y10, y11, y12] ∧ Same H3 Hy ∧ InvL n j) ⟨_, _, _, _, _, _, rfl, fun _ _ h => h, by omega, by omega⟩ (fun j σ Hy _ ⟨_, _, _, _, _, _, _, s', _⟩ => SqT.of (s' _ _ e3)) ?_ ?_⟩
      · rintro j v σ Hy hv ⟨y7, y8, y9, y10, y11, y12, rfl, sy, il⟩
        obtain ⟨wd, tt, ls, hls, rfl, et, el, llen, ret, nxt, wlen⟩ : ∃ (wd : Str) (tt ls : Addr) (xs : List Int), v = V.ref tt ∧ H3 tt = some (.tup [.str wd, .ref ls]) ∧ H3 ls = some (.lst (vi xs)) ∧ xs.length ≤ 100 ∧
            (∀ k z, xs[k]? = some z → badL n.many z = true → (∀ j y, j < k → xs[j]? = some y → badL n.many y = false) → faultI n = some (nth (wd ++ " ") k)) ∧ (firstB (fun _ => badL n.many) 0 xs = none → InvL n (j + 1)) ∧ (wd ++ (" " : Str)).length ≤ 100 := by
          have hj : j = 0 ∨ j = 1 := by
            have h : j < 2 := (List.getElem?_eq_some_iff.mp hv).1
            omega
          rcases hj with rfl | rfl
          · cases hv
            refine ⟨"next", t1, aN, n.nexts, rfl, e1, s3 _ _ hN, b3, fun k z h b a => ?_, fun h => ⟨fun _ => h, by omega⟩, by rw [word_next]; decide +kernel⟩
            rw [word_next]
            exact fault_next s0 g0 l0 h b a
          · cases hv
            refine ⟨"out", t2, aO, n.outs, rfl, e2, s3 _ _ hO, b4, fun k z h b a => ?_, fun h => ⟨fun _ => il.1 (by omega), fun _ => h⟩, by rw [word_out]; decide +kernel⟩
            rw [word_out]
            exact fault_out s0 g0 l0 (il.1 (by omega)) h b a
        refine ⟨tt, _, rfl, SqT.of (sy _ _ et), rfl, _, _, rfl, _, _, rfl, rfl, ?_⟩
        refine ⟨_, rfl, ls, _, rfl, SqL.of (sy _ _ el), for_it walk_enum (fun i σ Hz => ∃ y7 y10 : Option V, σ = [some (.ref a), some (.int (n.ins : Nat)), some (.ref aS), some (.ref aG), some (.ref aN), some (.ref aO), some (.int (n.base : Nat)), y7, y8, y9, y10, some (.str wd), some (.ref ls)] ∧ Same H3 Hz ∧ ∀ j y, j < i → hls[j]? = some y → badL n.many y = false) ⟨_, _, rfl, sy, by omega⟩ (fun i σ Hz _ ⟨_, _, _, s', _⟩ => SqL.of (s' _ _ el)) ?_ ?_⟩
        · rintro i v σ Hz Hz' hi ⟨y7, y10, rfl, sz, good⟩ ⟨T1, x, y, rfl, nT, rfl, ex, ey⟩
          cases ex
          rw [vi_len] at hi
          have hx := List.getElem?_eq_getElem hi
          have ey : (vi hls)[i]? = some y := ey
          rw [vi_get hx] at ey
          cases ey
          generalize hls[i] = l at hx
          have sT := same_new (o := .tup [.int (i : Nat), .int l]) nT
          have s4 := sz.trans sT
          have bad : badL n.many l = true → Q (ov (faultI n)) (upd Hz T1 (.tup [.int (i : Nat), .int l])) → Q (.str ((((Str.empty ++ wd) ++ " ") ++ (Str.ofString (toString (i : Int)))) : Str)) (upd Hz T1 (.tup [.int (i : Nat), .int l])) := fun hb h => by
            rw [ret i l hx hb good] at h
            rw [str_empty]
            exact h
          have fit : ((((Str.empty ++ wd) ++ (" " : Str)) ++ (Str.ofString (toString (i : Int)))) : Str).length ≤ sizeLine := by
            rw [str_empty]
            exact nth_fit (w := wd ++ " ") wlen (by omega)
          have w1 : wd.length ≤ 100 := by
            rw [app_len] at wlen
            omega
          have f1 : (Str.empty ++ wd).length ≤ sizeLine := by rw [str_empty]; exact small2000 (by omega)
          have f2 : ((Str.empty ++ wd) ++ (" " : Str)).length ≤ sizeLine := by rw [str_empty]; exact small2000 (by omega)
          have h9 := q _ (s3.trans s4)
          have nb : IAt (upd Hz T1 (.tup [.int (i : Nat), .int l])) a aS aG aN aO n := (hn.same s3).same s4
          refine ⟨T1, _, rfl, SqT.of upd_same, rfl, _, _, rfl, _, _, rfl, rfl, ?_⟩
          refine ⟨_, rfl, _, _, rfl, rfl, _, rfl, ?_⟩
          by_cases hneg : l < 0
          · rw [decide_eq_true hneg]
            exact iteT ⟨_, rfl, .inl ⟨wd, rfl, small2000 (by omega), _, rfl, f1, _, rfl, f2, _, rfl, .inr ⟨_, rfl, log_small (by omega), _, rfl, fit, bad (badL_lt hneg) h9⟩⟩⟩
          · rw [decide_eq_false hneg]
            refine iteF ⟨_, rfl, _, rfl, a, aS, aG, aN, aO, n, rfl, nb, _, _, rfl, rfl, .inl ⟨by decide, by decide⟩, _, _, rfl, rfl, _, rfl, ?_⟩
            by_cases hb : badL n.many l = true
            · rw [show decide (l ≥ 2 * (n.many : Int)) = true from (badL_ge hneg).symm.trans hb]
              exact iteT ⟨_, rfl, .inl ⟨wd, rfl, small2000 (by omega), _, rfl, f1, _, rfl, f2, _, rfl, .inr ⟨_, rfl, log_small (by omega), _, rfl, fit, bad hb h9⟩⟩⟩
            · rw [show decide (l ≥ 2 * (n.many : Int)) = false from (badL_ge hneg).symm.trans (Bool.eq_false_iff.mpr hb)]
              refine iteF ⟨_, _, rfl, s4, fun j y hj hy => ?_⟩
              by_cases e : j < i
              · exact good j y e hy
              · have : j = i := by omega
                subst this
                rw [hx] at hy
                cases hy
                exact Bool.eq_false_iff.mpr hb
        · rintro σ Hz ⟨y7, y10, rfl, sz, good⟩
          exact ⟨_, _, _, _, _, _, rfl, sz, nxt (firstB_none fun j y hy => good j y (by rw [vi_len]; exact (List.getElem?_eq_some_iff.mp hy).1) hy)⟩
      rintro σ Hy ⟨y7, y8, y9, y10, y11, y12, rfl, sy, il⟩
      have h := q Hy (s3.trans sy)
      rw [fault_no s0 g0 l0 (il.1 (by show 1 ≤ 2; decide)) (il.2 (by show 2 ≤ 2; decide))] at h
      exact h
    · rw [decide_eq_false l0]
      refine iteT ?_
      have h := q _ sx
      rw [fault_many s0 g0 l0] at h
      exact h

end K31
namespace K31
open PySem PySem.Spec PyProof.Rows L2 V0
theorem firstB_lt {α : Type} {p : Nat → α → Bool} : ∀ {xs : List α} {i k : Nat}, firstB p i xs = some k → k < i + xs.length
  | [], _, _, h => by cases h
  | x :: xs, i, k, h => by
    unfold firstB at h
    by_cases b : p i x = true
    · rw [if_pos b] at h
      cases h
      show i < i + (xs.length + 1)
      omega
    · rw [if_neg b] at h
      have := firstB_lt h
      show k < i + (xs.length + 1)
      omega
theorem faultI_len {n : INet} {z : Str} (sh : Short n) (h : faultI n = some z) : z.length ≤ 1000 := by
  have b1 := sh.s
  have b2 := sh.g
  have b3 := sh.x
  have b4 := sh.o
  have f : ∀ {w : Str} {k : Nat}, w.length ≤ 100 → k < 100 → some (nth w k) = some z → z.length ≤ 1000 := fun hw hk e => by
    cases e
    exact nth_small hw (by omega)
  unfold faultI at h
  split at h
  · rename_i k e
    exact f (by decide) (by have := firstB_lt e; omega) h
  · split at h
    · rename_i k e
      exact f (by decide) (by have := firstB_lt e; omega) h
    · split at h
      · cases h
        decide
      · split at h
        · rename_i k e
          exact f (by decide) (by have := firstB_lt e; omega) h
        · split at h
          · rename_i k e
            exact f (by decide) (by have := firstB_lt e; omega) h
          · cases h
def sp_check (K : PySem.W.Frag) (C : Addr) : Sp := fun vs H Q E => ∃ (a s g x o : Addr) (n : INet), vs = [.ref a] ∧ IAt H a s g x o n ∧ Short n ∧
  (faultI n = none → ∀ H', Same H H' → Q .non H') ∧ ∀ z, faultI n = some z → ∀ d H', Same H H' → H' d = some (.xd [("place", .str z)]) → E (.ref C) (some d) H'
theorem ok_check {P : Program} {w : World} {K : PySem.W.Frag} {mg : Str → Option Value} {base : Heap} {C_KindError fI_KindError : Addr} {fd_KindError : FuncData} {B_ : Addr} {mc_ : Value} {f ffault_of : Addr} {fd fdfault_of : FuncData} (F : Fun K "check" "check" s_check f fd) (T : Txt K mg C_KindError fI_KindError fd_KindError B_ mc_)
    (G_fault_of : FnOk P w K mg base CX0 3 ffault_of fdfault_of ["net"] (sp_fault_of K)) (D_fault_of : Def K mg "fault_of" ffault_of fdfault_of ["net"])
    (G_KindError : FnOk P w K mg base CX0 1 fI_KindError fd_KindError ["self", "place"] (spExc K "place")) :
    FnOk P w K mg base (L2N.CX P w) 4 f fd ["net"] (sp_check K C_KindError) := by
  refine okN F sccheck (fun vs H Q E h => ?_) (fun cdv A outer s H vs Q E hr h => ?_)
  · obtain ⟨a, s, g, x, o, n, rfl, _⟩ := h
    rfl
  · obtain ⟨a, aS, aG, aN, aO, n, rfl, hn, sh, q, e⟩ := h
    refine ⟨_, (pss_cons (ps_set (i := 1) sccheck.nd rfl (.inl rfl) (pe_call G_fault_of (hr.mono (by omega)) (by rfl) D_fault_of.m D_fault_of.k D_fault_of.b .nil pass0 (pa_cons (pv 0) pa_nil)))
      (pss_one (ps_if (pt_cmpR op_notN (pv 1) pe_non (nomark _)) (pss_one (L2N.ps_raise rfl (L2N.takes_of rfl rfl rfl rfl) (pmk_oexN T.x_KindError.oex T.x_KindError.ini T.x_KindError.ty G_KindError (hr.mono (by omega)) T.x_KindError.b pass0 (by rfl) T.x_KindError.m (pa_cons (pv 1) pa_nil)))) pss_nil))), ?_⟩
    refine ⟨_, rfl, a, aS, aG, aN, aO, n, rfl, hn, sh, fun H' s' => ?_⟩
    refine ⟨_, rfl, rfl, _, rfl, ?_⟩
    rcases hf : faultI n with _ | z
    · exact iteF (q hf H' s')
    · refine iteT ⟨_, rfl, ?_⟩
      exact ⟨by show 1 ≤ 1000; decide, raised T.x_KindError (faultI_len sh hf) fun d H2 s2 e2 => e z hf d H2 (s'.trans s2) e2⟩

end K31
namespace K31
open PySem PySem.Spec PyProof.Rows L2 V0
theorem badL_half {N : Nat} {l : Int} (h : ¬ l < 0) : decide (l.fdiv 2 ≥ (N : Int)) = badL N l := by
  rw [badL_ge h, Int.fdiv_eq_ediv_of_nonneg _ (by decide)]
  exact decide_eq_decide.mpr ⟨fun z => by omega, fun z => by omega⟩
theorem nth_fit2 {w : Str} {k : Nat} (hw : w.length ≤ 100) (hk : k < 10 ^ 12) : w.length + (Str.ofString (toString (k : Int))).length ≤ sizeLine := by
  have h := nth_fit hw hk
  unfold nth at h
  rw [app_len] at h
  exact h
theorem ne_dec {x y : Int} (h : x ≠ y) : decide (V.int x = V.int y) = false := decide_eq_false fun e => h (V.int.inj e)
def sp__law_fault (K : PySem.W.Frag) : Sp := fun vs H Q _ => ∃ (a s g x o : Addr) (n : INet), vs = [.ref a] ∧ IAt H a s g x o n ∧ Short n ∧ ∀ H', Same H H' → Q (ov (faultI n)) H'
theorem ok__law_fault {P : Program} {w : World} {K : PySem.W.Frag} {mg : Str → Option Value} {base : Heap} {C_KindError fI_KindError : Addr} {fd_KindError : FuncData} {B_ : Addr} {mc_ : Value} {f  : Addr} {fd  : FuncData} (F : Fun K "_law_fault" "_law_fault" s__law_fault f fd) (T : Txt K mg C_KindError fI_KindError fd_KindError B_ mc_) :
    FnOk P w K mg base CX0 1 f fd ["net"] (sp__law_fault K) := by
  refine F.ok sc_law_fault (fun vs H Q E h => ?_) (fun cdv A outer s H vs Q E hr h => ?_)
  · obtain ⟨a, s, g, x, o, n, rfl, _⟩ := h
    rfl
  · obtain ⟨a, aS, aG, aN, aO, n, rfl, hn, sh, q⟩ := h
    obtain ⟨us, hGl, hus⟩ := hn.g
    have hA := hn.t
    have hS := hn.s
    have hN := hn.x
    have hO := hn.o
    have b1 := sh.s
    have b2 := sh.g
    have b3 := sh.x
    have b4 := sh.o
    refine ⟨_, (pss_cons (ps_for PassesOwn.never rfl (pi_range1 rfl T.m_range (pa_cons (pe_callB call_len_seq (by rfl) T.m_len (by decide +kernel) (pa_cons (pe_ix (r := rIxT K) ix_tup (pv 0) pe_int (fun _ _ => rfl)) pa_nil)) pa_nil)) (pg_name (i := 1) sc_law_fault.nd rfl (Or.inl rfl)) (pss_one (ps_if (PW.pt (pw_and (pt_cmpR op_ne (pe_ix (r := rIxL K) ix_list (pe_ix (r := rIxT K) ix_tup (pv 0) pe_int (fun _ _ => rfl)) (pv 1) (fun _ _ => rfl)) pe_int (nomark _)) (pw_and1 (pt_cmpR op_ne (pe_ix (r := rIxL K) ix_list (pe_ix (r := rIxT K) ix_tup (pv 0) pe_int (fun _ _ => rfl)) (pv 1) (fun _ _ => rfl)) pe_int (nomark _))))) (pss_one (ps_ret (pe_op op_add_str pe_str (pe_callTy call_str_int (by rfl) T.m_str (by decide +kernel) (pa_cons (pv 1) pa_nil))))) pss_nil)))
      (pss_cons (ps_set (i := 2) sc_law_fault.nd rfl (.inl rfl) (pe_op op_add (pe_op op_add pe_int (pe_ix (r := rIxT K) ix_tup (pv 0) pe_int (fun _ _ => rfl))) (pe_callB call_len_seq (by rfl) T.m_len (by decide +kernel) (pa_cons (pe_ix (r := rIxT K) ix_tup (pv 0) pe_int (fun _ _ => rfl)) pa_nil))))
      (pss_cons (ps_for PassesOwn.never rfl (pi_range1 rfl T.m_range (pa_cons (pe_callB call_len_seq (by rfl) T.m_len (by decide +kernel) (pa_cons (pe_ix (r := rIxT K) ix_tup (pv 0) pe_int (fun _ _ => rfl)) pa_nil)) pa_nil)) (pg_name (i := 1) sc_law_fault.nd rfl (Or.inl rfl)) (pss_one (ps_for PassesOwn.never rfl (pi_tup (pe_ix (r := rIxL K) ix_list (pe_ix (r := rIxT K) ix_tup (pv 0) pe_int (fun _ _ => rfl)) (pv 1) (fun _ _ => rfl))) (pg_name (i := 3) sc_law_fault.nd rfl (Or.inl rfl)) (pss_one (ps_if (PW.pt (pw_or (pt_cmpR op_lt (pv 3) pe_int (nomark _)) (pw_or1 (pt_cmpR op_ge (pe_op op_fdivN (pv 3) pe_int) (pe_op op_add (pv 2) (pv 1)) (nomark _))))) (pss_one (ps_ret (pe_op op_add_str pe_str (pe_callTy call_str_int (by rfl) T.m_str (by decide +kernel) (pa_cons (pv 1) pa_nil))))) pss_nil)))))
      (pss_cons (ps_if (pt_cmpR op_ne (pe_callB call_len_seq (by rfl) T.m_len (by decide +kernel) (pa_cons (pe_ix (r := rIxT K) ix_tup (pv 0) pe_int (fun _ _ => rfl)) pa_nil)) (pe_callB call_len_seq (by rfl) T.m_len (by decide +kernel) (pa_cons (pe_ix (r := rIxT K) ix_tup (pv 0) pe_int (fun _ _ => rfl)) pa_nil)) (nomark _)) (pss_one (ps_ret pe_str)) pss_nil)
      (pss_cons (ps_for PassesOwn.never rfl (pi_list (pe_lst (pa_cons (pe_tup (pa_cons pe_str (pa_cons (pe_ix (r := rIxT K) ix_tup (pv 0) pe_int (fun _ _ => rfl)) pa_nil))) (pa_cons (pe_tup (pa_cons pe_str (pa_cons (pe_ix (r := rIxT K) ix_tup (pv 0) pe_int (fun _ _ => rfl)) pa_nil))) pa_nil)))) (pg_tup (by rfl) (pgs_cons (pg_name (i := 4) sc_law_fault.nd rfl (Or.inl rfl)) (pgs_cons (pg_name (i := 5) sc_law_fault.nd rfl (Or.inl rfl)) pgs_nil))) (pss_one (ps_for PassesOwn.never rfl (pi_range1 rfl T.m_range (pa_cons (pe_callB call_len_seq (by rfl) T.m_len (by decide +kernel) (pa_cons (pv 5) pa_nil)) pa_nil)) (pg_name (i := 1) sc_law_fault.nd rfl (Or.inl rfl)) (pss_one (ps_if (PW.pt (pw_or (pt_cmpR op_lt (pe_ix (r := rIxL K) ix_list (pv 5) (pv 1) (fun _ _ => rfl)) pe_int (nomark _)) (pw_or1 (pt_cmpR op_ge (pe_op op_fdivN (pe_ix (r := rIxL K) ix_list (pv 5) (pv 1) (fun _ _ => rfl)) pe_int) (pe_op op_add (pv 2) (pe_callB call_len_seq (by rfl) T.m_len (by decide +kernel) (pa_cons (pe_ix (r := rIxT K) ix_tup (pv 0) pe_int (fun _ _ => rfl)) pa_nil))) (nomark _))))) (pss_one (ps_ret (pe_op op_add_str (pv 4) (pe_callTy call_str_int (by rfl) T.m_str (by decide +kernel) (pa_cons (pv 1) pa_nil))))) pss_nil)))))
      (pss_one (ps_ret pe_non))))))), ?_⟩
    -- starts
    refine ⟨_, rfl, a, _, 2, _, rfl, rfl, SqT.of hA, atI_nat (j := 2) rfl, aS, _, rfl, .inl (SqL.of hS), ?_⟩
    rw [vi_len]
    refine ⟨_, rfl, by omega, by omega, for_range (n := n.starts.length) (fun i σ Hx => ∃ y1 : Option V, σ = [some (.ref a), y1, none, none, none, none] ∧ Same H Hx ∧ ∀ j y, j < i → n.starts[j]? = some y → badS j y = false) ⟨none, rfl, fun _ _ h => h, by omega⟩ ?_ ?_⟩
    · rintro i σ Hx hi ⟨y1, rfl, sx, good⟩
      have hx := List.getElem?_eq_getElem hi
      generalize n.starts[i] = z at hx
      rw [Int.zero_add]
      refine ⟨_, rfl, a, _, 2, _, rfl, rfl, SqT.of (sx _ _ hA), atI_nat (j := 2) rfl, _, rfl, aS, _, _, _, rfl, rfl, SqL.of (sx _ _ hS), atI_nat (vi_get hx), rfl, _, rfl, ?_⟩
      have gd : badS i z = false → ∀ j y, j < i + 1 → n.starts[j]? = some y → badS j y = false := fun hb j y hj hy => by
        by_cases e : j < i
        · exact good j y e hy
        · have : j = i := by omega
          subst this
          rw [hx] at hy
          cases hy
          exact hb
      by_cases h0 : z = 0
      · subst h0
        exact iteF ⟨_, rfl, sx, gd rfl⟩
      rw [ne_dec h0]
      refine iteT ⟨_, rfl, a, _, 2, _, rfl, rfl, SqT.of (sx _ _ hA), atI_nat (j := 2) rfl, _, rfl, aS, _, _, _, rfl, rfl, SqL.of (sx _ _ hS), atI_nat (vi_get hx), rfl, _, rfl, ?_⟩
      by_cases h1 : z = 1
      · subst h1
        exact iteF ⟨_, rfl, sx, gd rfl⟩
      rw [ne_dec h1]
      refine iteT ⟨_, rfl, _, rfl, log_small (by omega), _, _, rfl, rfl, nth_fit2 (by decide) (by omega), ?_⟩
      have h := q _ sx
      rw [fault_start hx (by unfold badS; rw [decide_eq_false (fun e => e.elim h0 h1)]; rfl) good] at h
      exact h
    rintro σ Hx ⟨y1, rfl, sx, good⟩
    have s0 : firstB badS 0 n.starts = none := firstB_none fun j y hy => by
      rw [Nat.zero_add]
      exact good j y (List.getElem?_eq_some_iff.mp hy).1 hy
    refine ⟨_, rfl, a, _, 1, _, rfl, rfl, SqT.of (sx _ _ hA), atI_nat (j := 1) rfl, _, _, rfl, rfl, _, rfl, a, _, 2, _, rfl, rfl, SqT.of (sx _ _ hA), atI_nat (j := 2) rfl, aS, _, rfl, .inl (SqL.of (sx _ _ hS)), _, _, rfl, rfl, ?_⟩
    rw [vi_len]
    -- gates
    refine ⟨_, rfl, a, _, 3, _, rfl, rfl, SqT.of (sx _ _ hA), atI_nat (j := 3) rfl, aG, _, rfl, .inl (SqL.of (sx _ _ hGl)), ?_⟩
    rw [hus.len]
    refine ⟨_, rfl, by omega, by omega, for_range (n := n.gates.length) (fun i σ Hx => ∃ y1 y3 : Option V, σ = [some (.ref a), y1, some (.int (n.base : Nat)), y3, none, none] ∧ Same H Hx ∧ ∀ j y, j < i → n.gates[j]? = some y → badG n.base j y = false) ⟨_, _, rfl, sx, by omega⟩ ?_ ?_⟩
    · rintro i σ Hx hi ⟨y1, y3, rfl, sx, good⟩
      have hg := List.getElem?_eq_getElem hi
      generalize n.gates[i] = g at hg
      obtain ⟨v, hv, hd⟩ := hus.get hg
      obtain ⟨t, u1, u2, rfl, ht, hx1, hx2⟩ := hd.pair_inv
      have hx1 := hx1.int_inv
      have hx2 := hx2.int_inv
      subst hx1 hx2
      rw [Int.zero_add]
      refine ⟨_, rfl, a, _, 3, _, rfl, rfl, SqT.of (sx _ _ hA), atI_nat (j := 3) rfl, _, rfl, aG, _, _, _, rfl, rfl, SqL.of (sx _ _ hGl), atI_nat hv, ?_⟩
      refine ⟨t, rfl, ⟨_, SqT.of (sx _ _ ht)⟩, for_tup (xs := [.int g.1, .int g.2]) (fun j σ Hz => ∃ y3 : Option V, σ = [some (.ref a), some (.int (i : Nat)), some (.int (n.base : Nat)), y3, none, none] ∧ Same H Hz ∧ (1 ≤ j → badL (n.base + i) g.1 = false) ∧ (2 ≤ j → badL (n.base + i) g.2 = false)) ⟨_, rfl, sx, by omega, by omega⟩ (fun j σ Hz _ ⟨_, _, s', _⟩ => SqT.of (s' _ _ ht)) ?_ ?_⟩
      · rintro j v σ Hz hv ⟨y3, rfl, sz, g1, g2⟩
        obtain ⟨l, rfl, hl, nxt⟩ : ∃ l : Int, v = V.int l ∧ (badL (n.base + i) l = true → badG n.base i g = true) ∧ (badL (n.base + i) l = false → (1 ≤ j + 1 → badL (n.base + i) g.1 = false) ∧ (2 ≤ j + 1 → badL (n.base + i) g.2 = false)) := by
          have hj : j = 0 ∨ j = 1 := by
            have h : j < 2 := (List.getElem?_eq_some_iff.mp hv).1
            omega
          rcases hj with rfl | rfl
          · cases hv
            exact ⟨g.1, rfl, fun h => by unfold badG; rw [h]; rfl, fun h => ⟨fun _ => h, by omega⟩⟩
          · cases hv
            exact ⟨g.2, rfl, fun h => by unfold badG; rw [h, Bool.or_true], fun h => ⟨fun _ => g1 (Nat.le_refl 1), fun _ => h⟩⟩
        have ret : badL (n.base + i) l = true → Q (.str (nth "gate " i)) Hz := fun hb => by
          have h := q _ sz
          rw [fault_gate s0 hg (hl hb) good] at h
          exact h
        refine ⟨_, rfl, _, _, rfl, rfl, _, rfl, ?_⟩
        by_cases hneg : l < 0
        · rw [decide_eq_true hneg]
          exact iteT ⟨_, rfl, _, rfl, log_small (by omega), _, _, rfl, rfl, nth_fit2 (by decide) (by omega), ret (badL_lt hneg)⟩
        · rw [decide_eq_false hneg]
          refine iteF ⟨_, rfl, _, _, rfl, rfl, ⟨by decide, by decide⟩, _, rfl, _, rfl, _, _, rfl, rfl, _, _, rfl, rfl, _, rfl, ?_⟩
          rw [show decide (l.fdiv 2 ≥ (n.base : Int) + (i : Int)) = badL (n.base + i) l from badL_half hneg]
          by_cases hb : badL (n.base + i) l = true
          · rw [hb]
            exact iteT ⟨_, rfl, _, rfl, log_small (by omega), _, _, rfl, rfl, nth_fit2 (by decide) (by omega), ret hb⟩
          · rw [Bool.eq_false_iff.mpr hb]
            exact iteF ⟨_, rfl, sz, nxt (Bool.eq_false_iff.mpr hb)⟩
      · rintro σ Hz ⟨y3, rfl, sz, g1, g2⟩
        refine ⟨_, _, rfl, sz, fun j y hj hy => ?_⟩
        by_cases e : j < i
        · exact good j y e hy
        · have : j = i := by omega
          subst this
          rw [hg] at hy
          cases hy
          unfold badG
          rw [g1 (by show 1 ≤ 2; decide), g2 (by show 2 ≤ 2; decide)]
          rfl
    rintro σ Hx ⟨y1, y3, rfl, sx, good⟩
    have g0 : firstB (badG n.base) 0 n.gates = none := firstB_none fun j y hy => by
      rw [Nat.zero_add]
      exact good j y (List.getElem?_eq_some_iff.mp hy).1 hy
    refine ⟨_, rfl, a, _, 4, _, rfl, rfl, SqT.of (sx _ _ hA), atI_nat (j := 4) rfl, aN, _, rfl, .inl (SqL.of (sx _ _ hN)), _, rfl, a, _, 2, _, rfl, rfl, SqT.of (sx _ _ hA), atI_nat (j := 2) rfl, aS, _, rfl, .inl (SqL.of (sx _ _ hS)), rfl, _, rfl, ?_⟩
    rw [vi_len, vi_len, show decide (V.int ((n.nexts.length : Nat) : Int) = V.int ((n.starts.length : Nat) : Int)) = decide (n.nexts.length = n.starts.length) from dec_nat _ _]
    by_cases l0 : n.nexts.length = n.starts.length
    · rw [decide_eq_true l0]
      refine iteF ?_
      refine ⟨_, rfl, a, _, 4, _, rfl, rfl, SqT.of (sx _ _ hA), atI_nat (j := 4) rfl, by show 2 ≤ sizeLine; decide, fun t1 nt1 => ?_⟩
      have s1 := sx.trans (same_new (o := .tup [.str "next ", .ref aN]) nt1)
      have e1 : (upd Hx t1 (.tup [.str "next ", .ref aN])) t1 = some (.tup [.str "next ", .ref aN]) := upd_same
      generalize (upd Hx t1 (.tup [.str "next ", .ref aN])) = H1 at s1 e1 ⊢
      refine ⟨_, rfl, a, _, 5, _, rfl, rfl, SqT.of (s1 _ _ hA), atI_nat (j := 5) rfl, by show 2 ≤ sizeLine; decide, fun t2 nt2 => ?_⟩
      have s2 := same_new (o := .tup [.str "out ", .ref aO]) nt2
      have e2 : (upd H1 t2 (.tup [.str "out ", .ref aO])) t2 = some (.tup [.str "out ", .ref aO]) := upd_same
      have e1 := s2 _ _ e1
      have s2 := s1.trans s2
      generalize (upd H1 t2 (.tup [.str "out ", .ref aO])) = H2 at s2 e2 e1 ⊢
      refine ⟨by show 2 ≤ sizeLine; decide, fun t3 nt3 => ?_⟩
      have s3 := same_new (o := .lst [.ref t1, .ref t2]) nt3
      have e3 : (upd H2 t3 (.lst [.ref t1, .ref t2])) t3 = some (.lst [.ref t1, .ref t2]) := upd_same
      have e1 := s3 _ _ e1
      have e2 := s3 _ _ e2
      have s3 := s2.trans s3
      generalize (upd H2 t3 (.lst [.ref t1, .ref t2])) = H3 at s3 e3 e1 e2 ⊢
      refine ⟨t3, rfl, ⟨_, SqL.of e3⟩, for_list (xs := [.ref t1, .ref t2]) (fun j σ Hy => ∃ y1 y3 y4 y5 : Option V, σ = [some (.ref a), y1, some (.int (n.base : Nat)), y3, y4, y5] ∧ Same H3 Hy ∧ InvL n j) ⟨_, _, _, _, rfl, fun _ _ h => h, by omega, by omega⟩ (fun j σ Hy _ ⟨_, _, _, _, _, s', _⟩ => SqL.of (s' _ _ e3)) ?_ ?_⟩
      · rintro j v σ Hy hv ⟨y1, y3, y4, y5, rfl, sy, il⟩
        obtain ⟨wd, tt, ls, hls, rfl, et, el, llen, ret, nxt, wlen⟩ : ∃ (wd : Str) (tt ls : Addr) (xs : List Int), v = V.ref tt ∧ H3 tt = some (.tup [.str wd, .ref ls]) ∧ H3 ls = some (.lst (vi xs)) ∧ xs.length ≤ 100 ∧
            (∀ k z, xs[k]? = some z → badL n.many z = true → (∀ j y, j < k → xs[j]? = some y → badL n.many y = false) → faultI n = some (nth wd k)) ∧ (firstB (fun _ => badL n.many) 0 xs = none → InvL n (j + 1)) ∧ wd.length ≤ 100 := by
          have hj : j = 0 ∨ j = 1 := by
            have h : j < 2 := (List.getElem?_eq_some_iff.mp hv).1
            omega
          rcases hj with rfl | rfl
          · cases hv
            exact ⟨"next ", t1, aN, n.nexts, rfl, e1, s3 _ _ hN, b3, fun k z h b a => fault_next s0 g0 l0 h b a, fun h => ⟨fun _ => h, by omega⟩, by decide⟩
          · cases hv
            exact ⟨"out ", t2, aO, n.outs, rfl, e2, s3 _ _ hO, b4, fun k z h b a => fault_out s0 g0 l0 (il.1 (by omega)) h b a, fun h => ⟨fun _ => il.1 (by omega), fun _ => h⟩, by decide⟩
        refine ⟨tt, _, rfl, SqT.of (sy _ _ et), rfl, _, _, rfl, _, _, rfl, rfl, ?_⟩
        refine ⟨_, rfl, ls, _, rfl, .inl (SqL.of (sy _ _ el)), ?_⟩
        rw [vi_len]
        refine ⟨_, rfl, by omega, by omega, for_range (n := hls.length) (fun i σ Hz => ∃ y1 : Option V, σ = [some (.ref a), y1, some (.int (n.base : Nat)), y3, some (.str wd), some (.ref ls)] ∧ Same H3 Hz ∧ ∀ j y, j < i → hls[j]? = some y → badL n.many y = false) ⟨_, rfl, sy, by omega⟩ ?_ ?_⟩
        · rintro i σ Hz hi ⟨y1, rfl, sz, good⟩
          have hx := List.getElem?_eq_getElem hi
          generalize hls[i] = l at hx
          rw [Int.zero_add]
          have bad : badL n.many l = true → Q (.str (nth wd i)) Hz := fun hb => by
            have h := q _ (s3.trans sz)
            rw [ret i l hx hb good] at h
            exact h
          refine ⟨_, rfl, _, rfl, ls, _, _, _, rfl, rfl, SqL.of (sz _ _ el), atI_nat (vi_get hx), _, _, rfl, rfl, _, rfl, ?_⟩
          by_cases hneg : l < 0
          · rw [decide_eq_true hneg]
            exact iteT ⟨_, rfl, _, rfl, _, rfl, log_small (by omega), _, _, rfl, rfl, nth_fit2 wlen (by omega), bad (badL_lt hneg)⟩
          · rw [decide_eq_false hneg]
            refine iteF ⟨_, rfl, _, rfl, ls, _, _, _, rfl, rfl, SqL.of (sz _ _ el), atI_nat (vi_get hx), _, _, rfl, rfl, ⟨by decide, by decide⟩, _, rfl, _, rfl, a, _, 3, _, rfl, rfl, SqT.of (sz _ _ (s3 _ _ hA)), atI_nat (j := 3) rfl, aG, _, rfl, .inl (SqL.of (sz _ _ (s3 _ _ hGl))), _, _, rfl, rfl, _, _, rfl, rfl, _, rfl, ?_⟩
            rw [hus.len, show decide (l.fdiv 2 ≥ (n.base : Int) + (n.gates.length : Int)) = badL n.many l from badL_half hneg]
            by_cases hb : badL n.many l = true
            · rw [hb]
              exact iteT ⟨_, rfl, _, rfl, _, rfl, log_small (by omega), _, _, rfl, rfl, nth_fit2 wlen (by omega), bad hb⟩
            · rw [Bool.eq_false_iff.mpr hb]
              refine iteF ⟨_, rfl, sz, fun j y hj hy => ?_⟩
              by_cases e : j < i
              · exact good j y e hy
              · have : j = i := by omega
                subst this
                rw [hx] at hy
                cases hy
                exact Bool.eq_false_iff.mpr hb
        · rintro σ Hz ⟨y1, rfl, sz, good⟩
          exact ⟨_, _, _, _, rfl, sz, nxt (firstB_none fun j y hy => good j y (List.getElem?_eq_some_iff.mp hy).1 hy)⟩
      rintro σ Hy ⟨y1, y3, y4, y5, rfl, sy, il⟩
      have h := q Hy (s3.trans sy)
      rw [fault_no s0 g0 l0 (il.1 (by show 1 ≤ 2; decide)) (il.2 (by show 2 ≤ 2; decide))] at h
      exact h
    · rw [decide_eq_false l0]
      refine iteT ?_
      have h := q _ sx
      rw [fault_many s0 g0 l0] at h
      exact h

end K31
namespace K31
open PySem PySem.Spec PyProof.Rows L2 V0
theorem okH__law_fault {P : Program} {w : World} {K : PySem.W.Frag} {mg : Str → Option Value} {base : Heap} {C_KindError fI_KindError : Addr} {fd_KindError : FuncData} {B_ : Addr} {mc_ : Value} {f  : Addr} {fd  : FuncData} (F : Fun K "_law_fault" "_law_fault" s__law_fault f fd) (T : Txt K mg C_KindError fI_KindError fd_KindError B_ mc_) :
    L2H.FnH P w K mg base CX0 1 f fd ["net"] (sp__law_fault K) := by
  refine okH F sc_law_fault (fun vs H Q E h => ?_) (fun cdv A outer s H vs Q E p hc hr h => ?_)
  · obtain ⟨a, s, g, x, o, n, rfl, _⟩ := h
    rfl
  · obtain ⟨a, aS, aG, aN, aO, n, rfl, hn, sh, q⟩ := h
    obtain ⟨us, hGl, hus⟩ := hn.g
    have hA := hn.t
    have hS := hn.s
    have hN := hn.x
    have hO := hn.o
    have b1 := sh.s
    have b2 := sh.g
    have b3 := sh.x
    have b4 := sh.o
    refine ⟨_, (pss_cons (L2H.ps_forH (passes_of rfl) hc (L2H.pi_range1H rfl T.m_range (pa_cons (pe_callB call_len_seq (by rfl) T.m_len (by decide +kernel) (pa_cons (pe_ix (r := rIxT K) ix_tup (pv 0) pe_int (fun _ _ => rfl)) pa_nil)) pa_nil)) (pg_name (i := 1) sc_law_fault.nd rfl (Or.inl rfl)) (pss_one (ps_if (PW.pt (pw_and (pt_cmpR op_ne (pe_ix (r := rIxL K) ix_list (pe_ix (r := rIxT K) ix_tup (pv 0) pe_int (fun _ _ => rfl)) (pv 1) (fun _ _ => rfl)) pe_int (nomark _)) (pw_and1 (pt_cmpR op_ne (pe_ix (r := rIxL K) ix_list (pe_ix (r := rIxT K) ix_tup (pv 0) pe_int (fun _ _ => rfl)) (pv 1) (fun _ _ => rfl)) pe_int (nomark _))))) (pss_one (ps_ret (pe_op op_add_str pe_str (pe_callTy call_str_int (by rfl) T.m_str (by decide +kernel) (pa_cons (pv 1) pa_nil))))) pss_nil)))
      (pss_cons (ps_set (i := 2) sc_law_fault.nd rfl (.inl rfl) (pe_op op_add (pe_op op_add pe_int (pe_ix (r := rIxT K) ix_tup (pv 0) pe_int (fun _ _ => rfl))) (pe_callB call_len_seq (by rfl) T.m_len (by decide +kernel) (pa_cons (pe_ix (r := rIxT K) ix_tup (pv 0) pe_int (fun _ _ => rfl)) pa_nil))))
      (pss_cons (L2H.ps_forH (passes_of rfl) hc (L2H.pi_range1H rfl T.m_range (pa_cons (pe_callB call_len_seq (by rfl) T.m_len (by decide +kernel) (pa_cons (pe_ix (r := rIxT K) ix_tup (pv 0) pe_int (fun _ _ => rfl)) pa_nil)) pa_nil)) (pg_name (i := 1) sc_law_fault.nd rfl (Or.inl rfl)) (pss_one (L2H.ps_forH (passes_of rfl) hc (V0.pi_tupH (pe_ix (r := rIxL K) ix_list (pe_ix (r := rIxT K) ix_tup (pv 0) pe_int (fun _ _ => rfl)) (pv 1) (fun _ _ => rfl))) (pg_name (i := 3) sc_law_fault.nd rfl (Or.inl rfl)) (pss_one (ps_if (PW.pt (pw_or (pt_cmpR op_lt (pv 3) pe_int (nomark _)) (pw_or1 (pt_cmpR op_ge (pe_op op_fdivN (pv 3) pe_int) (pe_op op_add (pv 2) (pv 1)) (nomark _))))) (pss_one (ps_ret (pe_op op_add_str pe_str (pe_callTy call_str_int (by rfl) T.m_str (by decide +kernel) (pa_cons (pv 1) pa_nil))))) pss_nil)))))
      (pss_cons (ps_if (pt_cmpR op_ne (pe_callB call_len_seq (by rfl) T.m_len (by decide +kernel) (pa_cons (pe_ix (r := rIxT K) ix_tup (pv 0) pe_int (fun _ _ => rfl)) pa_nil)) (pe_callB call_len_seq (by rfl) T.m_len (by decide +kernel) (pa_cons (pe_ix (r := rIxT K) ix_tup (pv 0) pe_int (fun _ _ => rfl)) pa_nil)) (nomark _)) (pss_one (ps_ret pe_str)) pss_nil)
      (pss_cons (L2H.ps_forH (passes_of rfl) hc (V0.pi_listH (pe_lst (pa_cons (pe_tup (pa_cons pe_str (pa_cons (pe_ix (r := rIxT K) ix_tup (pv 0) pe_int (fun _ _ => rfl)) pa_nil))) (pa_cons (pe_tup (pa_cons pe_str (pa_cons (pe_ix (r := rIxT K) ix_tup (pv 0) pe_int (fun _ _ => rfl)) pa_nil))) pa_nil)))) (V0.pg_tupH hc (pgs_cons (pg_name (i := 4) sc_law_fault.nd rfl (Or.inl rfl)) (pgs_cons (pg_name (i := 5) sc_law_fault.nd rfl (Or.inl rfl)) pgs_nil)) (by rfl)) (pss_one (L2H.ps_forH (passes_of rfl) hc (L2H.pi_range1H rfl T.m_range (pa_cons (pe_callB call_len_seq (by rfl) T.m_len (by decide +kernel) (pa_cons (pv 5) pa_nil)) pa_nil)) (pg_name (i := 1) sc_law_fault.nd rfl (Or.inl rfl)) (pss_one (ps_if (PW.pt (pw_or (pt_cmpR op_lt (pe_ix (r := rIxL K) ix_list (pv 5) (pv 1) (fun _ _ => rfl)) pe_int (nomark _)) (pw_or1 (pt_cmpR op_ge (pe_op op_fdivN (pe_ix (r := rIxL K) ix_list (pv 5) (pv 1) (fun _ _ => rfl)) pe_int) (pe_op op_add (pv 2) (pe_callB call_len_seq (by rfl) T.m_len (by decide +kernel) (pa_cons (pe_ix (r := rIxT K) ix_tup (pv 0) pe_int (fun _ _ => rfl)) pa_nil))) (nomark _))))) (pss_one (ps_ret (pe_op op_add_str (pv 4) (pe_callTy call_str_int (by rfl) T.m_str (by decide +kernel) (pa_cons (pv 1) pa_nil))))) pss_nil)))))
      (pss_one (ps_ret pe_non))))))), ?_⟩
    -- starts
    refine ⟨_, rfl, a, _, 2, _, rfl, rfl, SqT.of hA, atI_nat (j := 2) rfl, aS, _, rfl, .inl (SqL.of hS), ?_⟩
    rw [vi_len]
    refine ⟨_, rfl, by omega, by omega, for_range (n := n.starts.length) (fun i σ Hx => ∃ y1 : Option V, σ = [some (.ref a), y1, none, none, none, none] ∧ Same H Hx ∧ ∀ j y, j < i → n.starts[j]? = some y → badS j y = false) ⟨none, rfl, fun _ _ h => h, by omega⟩ ?_ ?_⟩
    · rintro i σ Hx hi ⟨y1, rfl, sx, good⟩
      have hx := List.getElem?_eq_getElem hi
      generalize n.starts[i] = z at hx
      rw [Int.zero_add]
      refine ⟨_, rfl, a, _, 2, _, rfl, rfl, SqT.of (sx _ _ hA), atI_nat (j := 2) rfl, _, rfl, aS, _, _, _, rfl, rfl, SqL.of (sx _ _ hS), atI_nat (vi_get hx), rfl, _, rfl, ?_⟩
      have gd : badS i z = false → ∀ j y, j < i + 1 → n.starts[j]? = some y → badS j y = false := fun hb j y hj hy => by
        by_cases e : j < i
        · exact good j y e hy
        · have : j = i := by omega
          subst this
          rw [hx] at hy
          cases hy
          exact hb
      by_cases h0 : z = 0
      · subst h0
        exact iteF ⟨_, rfl, sx, gd rfl⟩
      rw [ne_dec h0]
      refine iteT ⟨_, rfl, a, _, 2, _, rfl, rfl, SqT.of (sx _ _ hA), atI_nat (j := 2) rfl, _, rfl, aS, _, _, _, rfl, rfl, SqL.of (sx _ _ hS), atI_nat (vi_get hx), rfl, _, rfl, ?_⟩
      by_cases h1 : z = 1
      · subst h1
        exact iteF ⟨_, rfl, sx, gd rfl⟩
      rw [ne_dec h1]
      refine iteT ⟨_, rfl, _, rfl, log_small (by omega), _, _, rfl, rfl, nth_fit2 (by decide) (by omega), ?_⟩
      have h := q _ sx
      rw [fault_start hx (by unfold badS; rw [decide_eq_false (fun e => e.elim h0 h1)]; rfl) good] at h
      exact h
    rintro σ Hx ⟨y1, rfl, sx, good⟩
    have s0 : firstB badS 0 n.starts = none := firstB_none fun j y hy => by
      rw [Nat.zero_add]
      exact good j y (List.getElem?_eq_some_iff.mp hy).1 hy
    refine ⟨_, rfl, a, _, 1, _, rfl, rfl, SqT.of (sx _ _ hA), atI_nat (j := 1) rfl, _, _, rfl, rfl, _, rfl, a, _, 2, _, rfl, rfl, SqT.of (sx _ _ hA), atI_nat (j := 2) rfl, aS, _, rfl, .inl (SqL.of (sx _ _ hS)), _, _, rfl, rfl, ?_⟩
    rw [vi_len]
    -- gates
    refine ⟨_, rfl, a, _, 3, _, rfl, rfl, SqT.of (sx _ _ hA), atI_nat (j := 3) rfl, aG, _, rfl, .inl (SqL.of (sx _ _ hGl)), ?_⟩
    rw [hus.len]
    refine ⟨_, rfl, by omega, by omega, for_range (n := n.gates.length) (fun i σ Hx => ∃ y1 y3 : Option V, σ = [some (.ref a), y1, some (.int (n.base : Nat)), y3, none, none] ∧ Same H Hx ∧ ∀ j y, j < i → n.gates[j]? = some y → badG n.base j y = false) ⟨_, _, rfl, sx, by omega⟩ ?_ ?_⟩
    · rintro i σ Hx hi ⟨y1, y3, rfl, sx, good⟩
      have hg := List.getElem?_eq_getElem hi
      generalize n.gates[i] = g at hg
      obtain ⟨v, hv, hd⟩ := hus.get hg
      obtain ⟨t, u1, u2, rfl, ht, hx1, hx2⟩ := hd.pair_inv
      have hx1 := hx1.int_inv
      have hx2 := hx2.int_inv
      subst hx1 hx2
      rw [Int.zero_add]
      refine ⟨_, rfl, a, _, 3, _, rfl, rfl, SqT.of (sx _ _ hA), atI_nat (j := 3) rfl, _, rfl, aG, _, _, _, rfl, rfl, SqL.of (sx _ _ hGl), atI_nat hv, ?_⟩
      refine ⟨t, rfl, ⟨_, SqT.of (sx _ _ ht)⟩, for_tup (xs := [.int g.1, .int g.2]) (fun j σ Hz => ∃ y3 : Option V, σ = [some (.ref a), some (.int (i : Nat)), some (.int (n.base : Nat)), y3, none, none] ∧ Same H Hz ∧ (1 ≤ j → badL (n.base + i) g.1 = false) ∧ (2 ≤ j → badL (n.base + i) g.2 = false)) ⟨_, rfl, sx, by omega, by omega⟩ (fun j σ Hz _ ⟨_, _, s', _⟩ => SqT.of (s' _ _ ht)) ?_ ?_⟩
      · rintro j v σ Hz hv ⟨y3, rfl, sz, g1, g2⟩
        obtain ⟨l, rfl, hl, nxt⟩ : ∃ l : Int, v = V.int l ∧ (badL (n.base + i) l = true → badG n.base i g = true) ∧ (badL (n.base + i) l = false → (1 ≤ j + 1 → badL (n.base + i) g.1 = false) ∧ (2 ≤ j + 1 → badL (n.base + i) g.2 = false)) := by
          have hj : j = 0 ∨ j = 1 := by
            have h : j < 2 := (List.getElem?_eq_some_iff.mp hv).1
            omega
          rcases hj with rfl | rfl
          · cases hv
            exact ⟨g.1, rfl, fun h => by unfold badG; rw [h]; rfl, fun h => ⟨fun _ => h, by omega⟩⟩
          · cases hv
            exact ⟨g.2, rfl, fun h => by unfold badG; rw [h, Bool.or_true], fun h => ⟨fun _ => g1 (Nat.le_refl 1), fun _ => h⟩⟩
        have ret : badL (n.base + i) l = true → Q (.str (nth "gate " i)) Hz := fun hb => by
          have h := q _ sz
          rw [fault_gate s0 hg (hl hb) good] at h
          exact h
        refine ⟨_, rfl, _, _, rfl, rfl, _, rfl, ?_⟩
        by_cases hneg : l < 0
        · rw [decide_eq_true hneg]
          exact iteT ⟨_, rfl, _, rfl, log_small (by omega), _, _, rfl, rfl, nth_fit2 (by decide) (by omega), ret (badL_lt hneg)⟩
        · rw [decide_eq_false hneg]
          refine iteF ⟨_, rfl, _, _, rfl, rfl, ⟨by decide, by decide⟩, _, rfl, _, rfl, _, _, rfl, rfl, _, _, rfl, rfl, _, rfl, ?_⟩
          rw [show decide (l.fdiv 2 ≥ (n.base : Int) + (i : Int)) = badL (n.base + i) l from badL_half hneg]
          by_cases hb : badL (n.base + i) l = true
          · rw [hb]
            exact iteT ⟨_, rfl, _, rfl, log_small (by omega), _, _, rfl, rfl, nth_fit2 (by decide) (by omega), ret hb⟩
          · rw [Bool.eq_false_iff.mpr hb]
            exact iteF ⟨_, rfl, sz, nxt (Bool.eq_false_iff.mpr hb)⟩
      · rintro σ Hz ⟨y3, rfl, sz, g1, g2⟩
        refine ⟨_, _, rfl, sz, fun j y hj hy => ?_⟩
        by_cases e : j < i
        · exact good j y e hy
        · have : j = i := by omega
          subst this
          rw [hg] at hy
          cases hy
          unfold badG
          rw [g1 (by show 1 ≤ 2; decide), g2 (by show 2 ≤ 2; decide)]
          rfl
    rintro σ Hx ⟨y1, y3, rfl, sx, good⟩
    have g0 : firstB (badG n.base) 0 n.gates = none := firstB_none fun j y hy => by
      rw [Nat.zero_add]
      exact good j y (List.getElem?_eq_some_iff.mp hy).1 hy
    refine ⟨_, rfl, a, _, 4, _, rfl, rfl, SqT.of (sx _ _ hA), atI_nat (j := 4) rfl, aN, _, rfl, .inl (SqL.of (sx _ _ hN)), _, rfl, a, _, 2, _, rfl, rfl, SqT.of (sx _ _ hA), atI_nat (j := 2) rfl, aS, _, rfl, .inl (SqL.of (sx _ _ hS)), rfl, _, rfl, ?_⟩
    rw [vi_len, vi_len, show decide (V.int ((n.nexts.length : Nat) : Int) = V.int ((n.starts.length : Nat) : Int)) = decide (n.nexts.length = n.starts.length) from dec_nat _ _]
    by_cases l0 : n.nexts.length = n.starts.length
    · rw [decide_eq_true l0]
      refine iteF ?_
      refine ⟨_, rfl, a, _, 4, _, rfl, rfl, SqT.of (sx _ _ hA), atI_nat (j := 4) rfl, by show 2 ≤ sizeLine; decide, fun t1 nt1 => ?_⟩
      have s1 := sx.trans (same_new (o := .tup [.str "next ", .ref aN]) nt1)
      have e1 : (upd Hx t1 (.tup [.str "next ", .ref aN])) t1 = some (.tup [.str "next ", .ref aN]) := upd_same
      generalize (upd Hx t1 (.tup [.str "next ", .ref aN])) = H1 at s1 e1 ⊢
      refine ⟨_, rfl, a, _, 5, _, rfl, rfl, SqT.of (s1 _ _ hA), atI_nat (j := 5) rfl, by show 2 ≤ sizeLine; decide, fun t2 nt2 => ?_⟩
      have s2 := same_new (o := .tup [.str "out ", .ref aO]) nt2
      have e2 : (upd H1 t2 (.tup [.str "out ", .ref aO])) t2 = some (.tup [.str "out ", .ref aO]) := upd_same
      have e1 := s2 _ _ e1
      have s2 := s1.trans s2
      generalize (upd H1 t2 (.tup [.str "out ", .ref aO])) = H2 at s2 e2 e1 ⊢
      refine ⟨by show 2 ≤ sizeLine; decide, fun t3 nt3 => ?_⟩
      have s3 := same_new (o := .lst [.ref t1, .ref t2]) nt3
      have e3 : (upd H2 t3 (.lst [.ref t1, .ref t2])) t3 = some (.lst [.ref t1, .ref t2]) := upd_same
      have e1 := s3 _ _ e1
      have e2 := s3 _ _ e2
      have s3 := s2.trans s3
      generalize (upd H2 t3 (.lst [.ref t1, .ref t2])) = H3 at s3 e3 e1 e2 ⊢
      refine ⟨t3, rfl, ⟨_, SqL.of e3⟩, for_list (xs := [.ref t1, .ref t2]) (fun j σ Hy => ∃ y1 y3 y4 y5 : Option V, σ = [some (.ref a), y1, some (.int (n.base : Nat)), y3, y4, y5] ∧ Same H3 Hy ∧ InvL n j) ⟨_, _, _, _, rfl, fun _ _ h => h, by omega, by omega⟩ (fun j σ Hy _ ⟨_, _, _, _, _, s', _⟩ => SqL.of (s' _ _ e3)) ?_ ?_⟩
      · rintro j v σ Hy hv ⟨y1, y3, y4, y5, rfl, sy, il⟩
        obtain ⟨wd, tt, ls, hls, rfl, et, el, llen, ret, nxt, wlen⟩ : ∃ (wd : Str) (tt ls : Addr) (xs : List Int), v = V.ref tt ∧ H3 tt = some (.tup [.str wd, .ref ls]) ∧ H3 ls = some (.lst (vi xs)) ∧ xs.length ≤ 100 ∧
            (∀ k z, xs[k]? = some z → badL n.many z = true → (∀ j y, j < k → xs[j]? = some y → badL n.many y = false) → faultI n = some (nth wd k)) ∧ (firstB (fun _ => badL n.many) 0 xs = none → InvL n (j + 1)) ∧ wd.length ≤ 100 := by
          have hj : j = 0 ∨ j = 1 := by
            have h : j < 2 := (List.getElem?_eq_some_iff.mp hv).1
            omega
          rcases hj with rfl | rfl
          · cases hv
            exact ⟨"next ", t1, aN, n.nexts, rfl, e1, s3 _ _ hN, b3, fun k z h b a => fault_next s0 g0 l0 h b a, fun h => ⟨fun _ => h, by omega⟩, by decide⟩
          · cases hv
            exact ⟨"out ", t2, aO, n.outs, rfl, e2, s3 _ _ hO, b4, fun k z h b a => fault_out s0 g0 l0 (il.1 (by omega)) h b a, fun h => ⟨fun _ => il.1 (by omega), fun _ => h⟩, by decide⟩
        refine ⟨tt, _, rfl, SqT.of (sy _ _ et), rfl, _, _, rfl, _, _, rfl, rfl, ?_⟩
        refine ⟨_, rfl, ls, _, rfl, .inl (SqL.of (sy _ _ el)), ?_⟩
        rw [vi_len]
        refine ⟨_, rfl, by omega, by omega, for_range (n := hls.length) (fun i σ Hz => ∃ y1 : Option V, σ = [some (.ref a), y1, some (.int (n.base : Nat)), y3, some (.str wd), some (.ref ls)] ∧ Same H3 Hz ∧ ∀ j y, j < i → hls[j]? = some y → badL n.many y = false) ⟨_, rfl, sy, by omega⟩ ?_ ?_⟩
        · rintro i σ Hz hi ⟨y1, rfl, sz, good⟩
          have hx := List.getElem?_eq_getElem hi
          generalize hls[i] = l at hx
          rw [Int.zero_add]
          have bad : badL n.many l = true → Q (.str (nth wd i)) Hz := fun hb => by
            have h := q _ (s3.trans sz)
            rw [ret i l hx hb good] at h
            exact h
          refine ⟨_, rfl, _, rfl, ls, _, _, _, rfl, rfl, SqL.of (sz _ _ el), atI_nat (vi_get hx), _, _, rfl, rfl, _, rfl, ?_⟩
          by_cases hneg : l < 0
          · rw [decide_eq_true hneg]
            exact iteT ⟨_, rfl, _, rfl, _, rfl, log_small (by omega), _, _, rfl, rfl, nth_fit2 wlen (by omega), bad (badL_lt hneg)⟩
          · rw [decide_eq_false hneg]
            refine iteF ⟨_, rfl, _, rfl, ls, _, _, _, rfl, rfl, SqL.of (sz _ _ el), atI_nat (vi_get hx), _, _, rfl, rfl, ⟨by decide, by decide⟩, _, rfl, _, rfl, a, _, 3, _, rfl, rfl, SqT.of (sz _ _ (s3 _ _ hA)), atI_nat (j := 3) rfl, aG, _, rfl, .inl (SqL.of (sz _ _ (s3 _ _ hGl))), _, _, rfl, rfl, _, _, rfl, rfl, _, rfl, ?_⟩
            rw [hus.len, show decide (l.fdiv 2 ≥ (n.base : Int) + (n.gates.length : Int)) = badL n.many l from badL_half hneg]
            by_cases hb : badL n.many l = true
            · rw [hb]
              exact iteT ⟨_, rfl, _, rfl, _, rfl, log_small (by omega), _, _, rfl, rfl, nth_fit2 wlen (by omega), bad hb⟩
            · rw [Bool.eq_false_iff.mpr hb]
              refine iteF ⟨_, rfl, sz, fun j y hj hy => ?_⟩
              by_cases e : j < i
              · exact good j y e hy
              · have : j = i := by omega
                subst this
                rw [hx] at hy
                cases hy
                exact Bool.eq_false_iff.mpr hb
        · rintro σ Hz ⟨y1, rfl, sz, good⟩
          exact ⟨_, _, _, _, rfl, sz, nxt (firstB_none fun j y hy => good j y (List.getElem?_eq_some_iff.mp hy).1 hy)⟩
      rintro σ Hy ⟨y1, y3, y4, y5, rfl, sy, il⟩
      have h := q Hy (s3.trans sy)
      rw [fault_no s0 g0 l0 (il.1 (by show 1 ≤ 2; decide)) (il.2 (by show 2 ≤ 2; decide))] at h
      exact h
    · rw [decide_eq_false l0]
      refine iteT ?_
      have h := q _ sx
      rw [fault_many s0 g0 l0] at h
      exact h

end K31
namespace K31
open PySem PySem.Spec PyProof.Rows L2 V0
/-! ### a net with faults -/
def GT (H : Hp) (v : V) (g : Int × Int) : Prop := ∃ t, v = .ref t ∧ H t = some (.tup [.int g.1, .int g.2])
def GL (H : Hp) (us : List V) (gs : List (Int × Int)) : Prop := us.length = gs.length ∧ ∀ (i : Nat) (g : Int × Int), gs[i]? = some g → ∃ v, us[i]? = some v ∧ GT H v g
def Tups (H H' : Hp) : Prop := ∀ t xs, H t = some (.tup xs) → H' t = some (.tup xs)
theorem GL.tups {H H' : Hp} {us : List V} {gs : List (Int × Int)} (h : GL H us gs) (k : Tups H H') : GL H' us gs := ⟨h.1, fun i g e => by
  obtain ⟨v, e1, t, e2, e3⟩ := h.2 i g e
  exact ⟨v, e1, t, e2, k _ _ e3⟩⟩
theorem GL.set {H : Hp} {us : List V} {gs : List (Int × Int)} {v : V} {g : Int × Int} (h : GL H us gs) (k : GT H v g) (i : Nat) : GL H (us.set i v) (gs.set i g) := by
  refine ⟨by rw [List.length_set, List.length_set]; exact h.1, fun j x e => ?_⟩
  by_cases hj : i = j
  · subst hj
    have hi : i < gs.length := by
      have := (List.getElem?_eq_some_iff.mp e).1
      rw [List.length_set] at this
      exact this
    rw [List.getElem?_set_self hi] at e
    cases e
    exact ⟨v, List.getElem?_set_self (by rw [h.1]; exact hi), k⟩
  · rw [List.getElem?_set_ne hj] at e
    rw [List.getElem?_set_ne hj]
    exact h.2 j x e
theorem GL.dvs {H : Hp} : ∀ {us : List V} {gs : List (Int × Int)}, GL H us gs → Dvs H us gs
  | [], [], _ => .nil
  | [], _ :: _, h => by simp [GL] at h
  | _ :: _, [], h => by simp [GL] at h
  | u :: us, g :: gs, h => by
    obtain ⟨v, e1, t, rfl, e3⟩ := h.2 0 g rfl
    cases e1
    exact .cons (.pair e3 (.int _) (.int _)) (GL.dvs ⟨Nat.succ.inj h.1, fun i x e => h.2 (i + 1) x e⟩)
def pairsI (gs : List (Nat × Nat)) : List (Int × Int) := gs.map fun g => ((g.1 : Int), (g.2 : Int))
theorem gl_nats {H : Hp} {us : List V} {gs : List (Nat × Nat)} (h : Dvs H us gs) : GL H us (pairsI gs) := by
  refine ⟨by rw [h.len]; exact (List.length_map _).symm, fun i g e => ?_⟩
  unfold pairsI at e
  rw [List.getElem?_map] at e
  cases hg : gs[i]? with
  | none =>
    rw [hg] at e
    cases e
  | some x =>
    rw [hg] at e
    cases e
    obtain ⟨v, hv, hd⟩ := h.get hg
    obtain ⟨t, u1, u2, rfl, ht, h1, h2⟩ := hd.pair_inv
    have h1 := h1.nat_inv
    have h2 := h2.nat_inv
    subst h1 h2
    exact ⟨_, hv, t, rfl, ht⟩
theorem vn_vi (xs : List Nat) : vn xs = vi (xs.map fun (x : Nat) => (x : Int)) := by
  unfold vn vi
  rw [List.map_map]
  rfl
theorem vi_set (xs : List Int) (i : Nat) (z : Int) : (vi xs).set i (.int z) = vi (xs.set i z) := by
  unfold vi
  rw [List.map_set]
theorem Same.tups {H H' : Hp} (s : Same H H') : Tups H H' := fun t xs h => s _ _ h
theorem go_tups {p c : Addr} {H H' : Hp} (g : Go p c H H') : Tups H H' := fun t xs h => by
  obtain ⟨n, cs, z, h1, h2, h3⟩ := g.a
  refine g.get (fun e => ?_) (fun e => ?_) h
  · rw [e, h1] at h
    cases h
  · rw [e, h2] at h
    cases h
theorem upd_tups {H : Hp} {D : Addr} {ys zs : List V} (h : H D = some (.lst ys)) : Tups H (upd H D (.lst zs)) := fun t xs e => by
  have : t ≠ D := fun z => by
    rw [z, h] at e
    cases e
  rw [upd_ne this]
  exact e
theorem cut_vi (xs : List Int) (lo hi : Option Int) : ∃ ys : List Int, cutV (vi xs) lo hi = vi ys ∧ ys.length ≤ xs.length := by
  refine ⟨(xs.drop (HT.sIx (vi xs).length 0 lo)).take (HT.sIx (vi xs).length (vi xs).length hi - HT.sIx (vi xs).length 0 lo), ?_, ?_⟩
  · unfold cutV vi
    rw [List.map_take, List.map_drop]
  · rw [List.length_take, List.length_drop]
    omega
structure SI (H H' : Hp) (p c S G X O : Addr) (us : List V) (m : INet) : Prop where
  go : Go p c H H'
  nS : H S = none
  nG : H G = none
  nX : H X = none
  nO : H O = none
  SG : S ≠ G
  SX : S ≠ X
  SO : S ≠ O
  GX : G ≠ X
  GO : G ≠ O
  XO : X ≠ O
  s : H' S = some (.lst (vi m.starts))
  g : H' G = some (.lst us)
  gl : GL H' us m.gates
  x : H' X = some (.lst (vi m.nexts))
  o : H' O = some (.lst (vi m.outs))
section
variable {H H1 H2 : Hp} {p c S G X O : Addr} {us : List V} {m : INet}
theorem SI.draw (h : SI H H1 p c S G X O us m) (g : Go p c H1 H2) : SI H H2 p c S G X O us m :=
  ⟨h.go.trans g, h.nS, h.nG, h.nX, h.nO, h.SG, h.SX, h.SO, h.GX, h.GO, h.XO, g.get' h.go.a h.nS h.s, g.get' h.go.a h.nG h.g, h.gl.tups (go_tups g), g.get' h.go.a h.nX h.x, g.get' h.go.a h.nO h.o⟩
theorem SI.same (h : SI H H1 p c S G X O us m) (s : Same H1 H2) : SI H H2 p c S G X O us m := h.draw (Go.of h.go.b s)
theorem SI.setS (h : SI H H1 p c S G X O us m) (ss : List Int) : SI H (upd H1 S (.lst (vi ss))) p c S G X O us { m with starts := ss } :=
  ⟨h.go.mut h.nS, h.nS, h.nG, h.nX, h.nO, h.SG, h.SX, h.SO, h.GX, h.GO, h.XO, upd_same, by rw [upd_ne h.SG.symm]; exact h.g, h.gl.tups (upd_tups h.s), by rw [upd_ne h.SX.symm]; exact h.x, by rw [upd_ne h.SO.symm]; exact h.o⟩
theorem SI.setG (h : SI H H1 p c S G X O us m) {us' : List V} {gs : List (Int × Int)} (k : GL H1 us' gs) : SI H (upd H1 G (.lst us')) p c S G X O us' { m with gates := gs } :=
  ⟨h.go.mut h.nG, h.nS, h.nG, h.nX, h.nO, h.SG, h.SX, h.SO, h.GX, h.GO, h.XO, by rw [upd_ne h.SG]; exact h.s, upd_same, k.tups (upd_tups h.g), by rw [upd_ne h.GX.symm]; exact h.x, by rw [upd_ne h.GO.symm]; exact h.o⟩
theorem SI.setX (h : SI H H1 p c S G X O us m) (xs : List Int) : SI H (upd H1 X (.lst (vi xs))) p c S G X O us { m with nexts := xs } :=
  ⟨h.go.mut h.nX, h.nS, h.nG, h.nX, h.nO, h.SG, h.SX, h.SO, h.GX, h.GO, h.XO, by rw [upd_ne h.SX]; exact h.s, by rw [upd_ne h.GX]; exact h.g, h.gl.tups (upd_tups h.x), upd_same, by rw [upd_ne h.XO.symm]; exact h.o⟩
theorem SI.setO (h : SI H H1 p c S G X O us m) (os : List Int) : SI H (upd H1 O (.lst (vi os))) p c S G X O us { m with outs := os } :=
  ⟨h.go.mut h.nO, h.nS, h.nG, h.nX, h.nO, h.SG, h.SX, h.SO, h.GX, h.GO, h.XO, by rw [upd_ne h.SO]; exact h.s, by rw [upd_ne h.GO]; exact h.g, h.gl.tups (upd_tups h.o), by rw [upd_ne h.XO]; exact h.x, upd_same⟩
theorem SI.newX (h : SI H H1 p c S G X O us m) {Y : Addr} {xs : List Int} (nY : H Y = none) (e : H1 Y = some (.lst (vi xs))) (yS : Y ≠ S) (yG : Y ≠ G) (yO : Y ≠ O) : SI H H1 p c S G Y O us { m with nexts := xs } :=
  ⟨h.go, h.nS, h.nG, nY, h.nO, h.SG, yS.symm, h.SO, yG.symm, h.GO, yO, h.s, h.g, h.gl, e, h.o⟩
end
structure Bd (i : Nat) (n : Net) (m : INet) : Prop where
  e : m.ins = n.ins
  s : m.starts.length ≤ 3
  g : m.gates.length ≤ 8
  x : m.nexts.length ≤ 3 + i
  o : m.outs.length ≤ 3
abbrev Md (H : Hp) (p c q S G O : Addr) (n : Net) (M : Int) (kind : Nat) (odd : Int) (i : Nat) (σ : L2.St) (Hx : Hp) : Prop :=
  ∃ (X : Addr) (us : List V) (m : INet) (y7 y10 y11 y12 : Option V), σ = [some (.ref p), some (.ref q), some (.ref S), some (.ref G), some (.ref X), some (.ref O), some (.int M), y7, some (.int (kind : Nat)), some (.int odd), y10, y11, y12] ∧ SI H Hx p c S G X O us m ∧ Bd i n m
theorem Bd.up {i : Nat} {n : Net} {m : INet} (h : Bd i n m) : Bd (i + 1) n m := ⟨h.e, h.s, h.g, Nat.le_trans h.x (by omega), h.o⟩
def sp__law_spoilt (K : PySem.W.Frag) : Sp := fun vs H Q _ => ∃ (p c q : Addr) (n : Net), vs = [.ref p, .ref q] ∧ Dr H p c ∧ Dv (res p c H) (.ref q) n ∧ n.Ok 3 3 8 ∧ ∀ H' r s g x o (m : INet), Go p c H H' → IAt H' r s g x o m → Short m → Q (.ref r) H'
theorem ok__law_spoilt {P : Program} {w : World} {K : PySem.W.Frag} {mg : Str → Option Value} {base : Heap} {C_KindError fI_KindError : Addr} {fd_KindError : FuncData} {B_ : Addr} {mc_ : Value} {f f_law_draw f_law_pick : Addr} {fd fd_law_draw fd_law_pick : FuncData} (F : Fun K "_law_spoilt" "_law_spoilt" s__law_spoilt f fd) (T : Txt K mg C_KindError fI_KindError fd_KindError B_ mc_)
    (G__law_draw : FnOk P w K mg base CX0 1 f_law_draw fd_law_draw ["state", "many"] (sp__law_draw K)) (D__law_draw : Def K mg "_law_draw" f_law_draw fd_law_draw ["state", "many"])
    (G__law_pick : FnOk P w K mg base CX0 2 f_law_pick fd_law_pick ["state", "row"] (sp__law_pick K)) (D__law_pick : Def K mg "_law_pick" f_law_pick fd_law_pick ["state", "row"]) :
    FnOk P w K mg base CX0 3 f fd ["state", "net"] (sp__law_spoilt K) := by
  refine F.ok sc_law_spoilt (fun vs H Q E h => ?_) (fun cdv A outer s H vs Q E hr h => ?_)
  · obtain ⟨p, c, q, n, rfl, _⟩ := h
    rfl
  · obtain ⟨p, c, q, n, rfl, d0, hn, ok, fin⟩ := h
    obtain ⟨_, aS, aG, aN, aO, e, hA, hS, hG, hN, hO⟩ := hn.net_inv
    cases e
    obtain ⟨_, us, e, hGl, hus⟩ := hG.list_inv
    cases e
    obtain ⟨_, e, hS⟩ := hS.natl_inv
    cases e
    obtain ⟨_, e, hN⟩ := hN.natl_inv
    cases e
    obtain ⟨_, e, hO⟩ := hO.natl_inv
    cases e
    have rs := res_same p c H
    obtain ⟨q1, q2, qA⟩ := res_some hA
    have hS := rs _ _ hS
    have hGl := rs _ _ hGl
    have hN := rs _ _ hN
    have hO := rs _ _ hO
    have hus := gl_nats (hus.same rs)
    refine ⟨_, (pss_cons (ps_asg (pe_tup (pa_cons (pe_callTy call_list_of (by rfl) T.m_list (by decide +kernel) (pa_cons (pe_ix (r := rIxT K) ix_tup (pv 1) pe_int (fun _ _ => rfl)) pa_nil)) (pa_cons (pe_callTy call_list_of (by rfl) T.m_list (by decide +kernel) (pa_cons (pe_ix (r := rIxT K) ix_tup (pv 1) pe_int (fun _ _ => rfl)) pa_nil)) (pa_cons (pe_callTy call_list_of (by rfl) T.m_list (by decide +kernel) (pa_cons (pe_ix (r := rIxT K) ix_tup (pv 1) pe_int (fun _ _ => rfl)) pa_nil)) (pa_cons (pe_callTy call_list_of (by rfl) T.m_list (by decide +kernel) (pa_cons (pe_ix (r := rIxT K) ix_tup (pv 1) pe_int (fun _ _ => rfl)) pa_nil)) pa_nil))))) (pg_tup (by rfl) (pgs_cons (pg_name (i := 2) sc_law_spoilt.nd rfl (Or.inl rfl)) (pgs_cons (pg_name (i := 3) sc_law_spoilt.nd rfl (Or.inl rfl)) (pgs_cons (pg_name (i := 4) sc_law_spoilt.nd rfl (Or.inl rfl)) (pgs_cons (pg_name (i := 5) sc_law_spoilt.nd rfl (Or.inl rfl)) pgs_nil))))))
      (pss_cons (ps_set (i := 6) sc_law_spoilt.nd rfl (.inl rfl) (pe_op op_add (pe_op op_add (pe_op op_add pe_int (pe_ix (r := rIxT K) ix_tup (pv 1) pe_int (fun _ _ => rfl))) (pe_callB call_len_seq (by rfl) T.m_len (by decide +kernel) (pa_cons (pv 2) pa_nil))) (pe_callB call_len_seq (by rfl) T.m_len (by decide +kernel) (pa_cons (pv 3) pa_nil))))
      (pss_cons (ps_for PassesOwn.never rfl (pi_range1 rfl T.m_range (pa_cons (pe_call G__law_draw (hr.mono (by omega)) (by rfl) D__law_draw.m D__law_draw.k D__law_draw.b .nil pass0 (pa_cons (pv 0) (pa_cons pe_int pa_nil))) pa_nil)) (pg_name (i := 7) sc_law_spoilt.nd rfl (Or.inl rfl)) (pss_cons (ps_set (i := 8) sc_law_spoilt.nd rfl (.inl rfl) (pe_call G__law_draw (hr.mono (by omega)) (by rfl) D__law_draw.m D__law_draw.k D__law_draw.b .nil pass0 (pa_cons (pv 0) (pa_cons pe_int pa_nil))))
      (pss_cons (ps_set (i := 9) sc_law_spoilt.nd rfl (.inl rfl) (pe_call G__law_pick (hr.mono (by omega)) (by rfl) D__law_pick.m D__law_pick.k D__law_pick.b .nil pass0 (pa_cons (pv 0) (pa_cons (pe_lst (pa_cons (pe_un un_neg pe_int) (pa_cons (pe_op op_mul pe_int (pv 6)) (pa_cons (pe_op op_add (pe_op op_mul pe_int (pv 6)) pe_int) (pa_cons (pe_op op_add (pe_op op_mul pe_int (pv 6)) pe_int) (pa_cons (pe_un un_neg pe_int) (pa_cons (pe_op op_sub (pe_op op_mul pe_int (pv 6)) pe_int) pa_nil))))))) pa_nil))))
      (C8.pss_cut (ps_if (PW.pt (pw_and (pt_cmpR op_eq (pv 8) pe_int (nomark _)) (pw_and1 (pt_cmpR op_gt (pe_callB call_len_seq (by rfl) T.m_len (by decide +kernel) (pa_cons (pv 2) pa_nil)) pe_int (nomark _))))) (pss_one (ps_asg (pe_call G__law_pick (hr.mono (by omega)) (by rfl) D__law_pick.m D__law_pick.k D__law_pick.b .nil pass0 (pa_cons (pv 0) (pa_cons (pe_lst (pa_cons pe_int (pa_cons (pe_un un_neg pe_int) (pa_cons pe_int pa_nil)))) pa_nil))) (pg_sub (pv 2) (pe_call G__law_draw (hr.mono (by omega)) (by rfl) D__law_draw.m D__law_draw.k D__law_draw.b .nil pass0 (pa_cons (pv 0) (pa_cons (pe_callB call_len_seq (by rfl) T.m_len (by decide +kernel) (pa_cons (pv 2) pa_nil)) pa_nil))) set_list))) pss_nil)
      (C8.pss_cut (ps_if (PW.pt (pw_and (pt_cmpR op_eq (pv 8) pe_int (nomark _)) (pw_and1 (pt_cmpR op_gt (pe_callB call_len_seq (by rfl) T.m_len (by decide +kernel) (pa_cons (pv 3) pa_nil)) pe_int (nomark _))))) (pss_cons (ps_set (i := 10) sc_law_spoilt.nd rfl (.inl rfl) (pe_call G__law_draw (hr.mono (by omega)) (by rfl) D__law_draw.m D__law_draw.k D__law_draw.b .nil pass0 (pa_cons (pv 0) (pa_cons (pe_callB call_len_seq (by rfl) T.m_len (by decide +kernel) (pa_cons (pv 3) pa_nil)) pa_nil))))
      (pss_cons (ps_set (i := 11) sc_law_spoilt.nd rfl (.inl rfl) (pe_op op_mul pe_int (pe_op op_add (pe_op op_add (pe_op op_add pe_int (pe_ix (r := rIxT K) ix_tup (pv 1) pe_int (fun _ _ => rfl))) (pe_callB call_len_seq (by rfl) T.m_len (by decide +kernel) (pa_cons (pv 2) pa_nil))) (pv 10))))
      (pss_cons (ps_set (i := 12) sc_law_spoilt.nd rfl (.inl rfl) (pe_lst (pa_cons (pe_ix (r := rIxT K) ix_tup (pe_ix (r := rIxL K) ix_list (pv 3) (pv 10) (fun _ _ => rfl)) pe_int (fun _ _ => rfl)) (pa_cons (pe_call G__law_pick (hr.mono (by omega)) (by rfl) D__law_pick.m D__law_pick.k D__law_pick.b .nil pass0 (pa_cons (pv 0) (pa_cons (pe_lst (pa_cons (pv 11) (pa_cons (pe_op op_add (pv 11) pe_int) (pa_cons (pe_op op_sub (pv 11) pe_int) (pa_cons (pe_un un_neg pe_int) (pa_cons (pv 9) pa_nil)))))) pa_nil))) pa_nil))))
      (pss_one (ps_asg (pe_ifExp (pt_cmpR op_eq (pe_call G__law_draw (hr.mono (by omega)) (by rfl) D__law_draw.m D__law_draw.k D__law_draw.b .nil pass0 (pa_cons (pv 0) (pa_cons pe_int pa_nil))) pe_int (nomark _)) (pe_tup (pa_cons (pe_ix (r := rIxL K) ix_list (pv 12) pe_int (fun _ _ => rfl)) (pa_cons (pe_ix (r := rIxL K) ix_list (pv 12) pe_int (fun _ _ => rfl)) pa_nil))) (pe_tup (pa_cons (pe_ix (r := rIxL K) ix_list (pv 12) pe_int (fun _ _ => rfl)) (pa_cons (pe_ix (r := rIxL K) ix_list (pv 12) pe_int (fun _ _ => rfl)) pa_nil)))) (pg_sub (pv 3) (pv 10) set_list)))))) pss_nil)
      (C8.pss_cut (ps_if (pt_cmpR op_eq (pv 8) pe_int (nomark _)) (pss_one (ps_set (i := 4) sc_law_spoilt.nd rfl (.inl rfl) (pe_call G__law_pick (hr.mono (by omega)) (by rfl) D__law_pick.m D__law_pick.k D__law_pick.b .nil pass0 (pa_cons (pv 0) (pa_cons (pe_lst (pa_cons (pe_op op_cat (pv 4) (pe_lst (pa_cons pe_int pa_nil))) (pa_cons (pe_slice sl_list (pv 4) po_none (po_some (pe_un un_neg pe_int))) pa_nil))) pa_nil))))) pss_nil)
      (C8.pss_cut (ps_if (PW.pt (pw_and (pt_cmpR op_eq (pv 8) pe_int (nomark _)) (pw_and1 (pt_cmpR op_gt (pe_callB call_len_seq (by rfl) T.m_len (by decide +kernel) (pa_cons (pv 4) pa_nil)) pe_int (nomark _))))) (pss_one (ps_asg (pv 9) (pg_sub (pv 4) (pe_call G__law_draw (hr.mono (by omega)) (by rfl) D__law_draw.m D__law_draw.k D__law_draw.b .nil pass0 (pa_cons (pv 0) (pa_cons (pe_callB call_len_seq (by rfl) T.m_len (by decide +kernel) (pa_cons (pv 4) pa_nil)) pa_nil))) set_list))) pss_nil)
      (pss_one (ps_if (PW.pt (pw_and (pt_cmpR op_eq (pv 8) pe_int (nomark _)) (pw_and1 (pt_cmpR op_gt (pe_callB call_len_seq (by rfl) T.m_len (by decide +kernel) (pa_cons (pv 5) pa_nil)) pe_int (nomark _))))) (pss_one (ps_asg (pv 9) (pg_sub (pv 5) (pe_call G__law_draw (hr.mono (by omega)) (by rfl) D__law_draw.m D__law_draw.k D__law_draw.b .nil pass0 (pa_cons (pv 0) (pa_cons (pe_callB call_len_seq (by rfl) T.m_len (by decide +kernel) (pa_cons (pv 5) pa_nil)) pa_nil))) set_list))) pss_nil)))))))))
      (pss_one (ps_ret (pe_tup (pa_cons pe_str (pa_cons (pe_ix (r := rIxT K) ix_tup (pv 1) pe_int (fun _ _ => rfl)) (pa_cons (pv 2) (pa_cons (pv 3) (pa_cons (pv 4) (pa_cons (pv 5) pa_nil)))))))))))), ?_⟩
    refine ⟨_, rfl, q, _, 2, _, rfl, rfl, SqT.of qA, atI_nat (j := 2) rfl, aS, _, rfl, .inl (SqL.of hS), fun S nS => ?_⟩
    have s1 := same_new (o := .lst (vn n.starts)) nS
    have eS : (upd H S (.lst (vn n.starts))) S = some (.lst (vn n.starts)) := upd_same
    generalize (upd H S (.lst (vn n.starts))) = H1 at s1 eS ⊢
    refine ⟨_, rfl, q, _, 3, _, rfl, rfl, SqT.of (s1 _ _ qA), atI_nat (j := 3) rfl, aG, _, rfl, .inl (SqL.of (s1 _ _ hGl)), fun G nG => ?_⟩
    have SG : S ≠ G := ne_of_none eS nG
    have s2 := same_new (o := .lst us) nG
    have eG : (upd H1 G (.lst us)) G = some (.lst us) := upd_same
    have eS := s2 _ _ eS
    have nG := none_of s1 nG
    have s2 := s1.trans s2
    generalize (upd H1 G (.lst us)) = H2 at s2 eS eG ⊢
    refine ⟨_, rfl, q, _, 4, _, rfl, rfl, SqT.of (s2 _ _ qA), atI_nat (j := 4) rfl, aN, _, rfl, .inl (SqL.of (s2 _ _ hN)), fun X nX => ?_⟩
    have SX : S ≠ X := ne_of_none eS nX
    have GX : G ≠ X := ne_of_none eG nX
    have s3 := same_new (o := .lst (vn n.nexts)) nX
    have eX : (upd H2 X (.lst (vn n.nexts))) X = some (.lst (vn n.nexts)) := upd_same
    have eS := s3 _ _ eS
    have eG := s3 _ _ eG
    have nX := none_of s2 nX
    have s3 := s2.trans s3
    generalize (upd H2 X (.lst (vn n.nexts))) = H3 at s3 eS eG eX ⊢
    refine ⟨_, rfl, q, _, 5, _, rfl, rfl, SqT.of (s3 _ _ qA), atI_nat (j := 5) rfl, aO, _, rfl, .inl (SqL.of (s3 _ _ hO)), fun O nO => ?_⟩
    have SO : S ≠ O := ne_of_none eS nO
    have GO : G ≠ O := ne_of_none eG nO
    have XO : X ≠ O := ne_of_none eX nO
    have s4 := same_new (o := .lst (vn n.outs)) nO
    have eO : (upd H3 O (.lst (vn n.outs))) O = some (.lst (vn n.outs)) := upd_same
    have eS := s4 _ _ eS
    have eG := s4 _ _ eG
    have eX := s4 _ _ eX
    have nO := none_of s3 nO
    have s4 := s3.trans s4
    generalize (upd H3 O (.lst (vn n.outs))) = H4 at s4 eS eG eX eO ⊢
    refine ⟨by show 4 ≤ sizeLine; decide, fun T nT => ?_⟩
    have s5 := same_new (o := .tup [.ref S, .ref G, .ref X, .ref O]) nT
    refine ⟨T, _, rfl, SqT.of upd_same, rfl, _, _, rfl, _, _, rfl, _, _, rfl, _, _, rfl, rfl, ?_⟩
    have si : SI H (upd H4 T (.tup [.ref S, .ref G, .ref X, .ref O])) p c S G X O us ⟨n.ins, n.starts.map fun (x : Nat) => (x : Int), pairsI n.gates, n.nexts.map fun (x : Nat) => (x : Int), n.outs.map fun (x : Nat) => (x : Int)⟩ := by
      refine SI.same (H1 := H4) ⟨Go.of d0 s4, nS, nG, nX, nO, SG, SX, SO, GX, GO, XO, ?_, eG, hus.tups (Same.tups s4), ?_, ?_⟩ s5
      · rw [eS, vn_vi]
      · rw [eX, vn_vi]
      · rw [eO, vn_vi]
    have bd : Bd 0 n ⟨n.ins, n.starts.map fun (x : Nat) => (x : Int), pairsI n.gates, n.nexts.map fun (x : Nat) => (x : Int), n.outs.map fun (x : Nat) => (x : Int)⟩ :=
      ⟨rfl, by show (List.map _ _).length ≤ 3; rw [List.length_map]; exact ok.fl, by show (List.map _ _).length ≤ 8; rw [List.length_map]; exact ok.most, by show (List.map _ _).length ≤ 3 + 0; rw [List.length_map, ok.nl]; exact ok.fl, by show (List.map _ _).length ≤ 3; rw [List.length_map]; exact ok.ol⟩
    generalize (upd H4 T (.tup [.ref S, .ref G, .ref X, .ref O])) = H5 at si ⊢
    generalize (INet.mk n.ins (n.starts.map fun (x : Nat) => (x : Int)) (pairsI n.gates) (n.nexts.map fun (x : Nat) => (x : Int)) (n.outs.map fun (x : Nat) => (x : Int))) = m at si bd ⊢
    refine ⟨_, rfl, q, _, 1, _, rfl, rfl, SqT.of (si.go.get q1 q2 qA), atI_nat (j := 1) rfl, _, _, rfl, rfl, _, rfl, S, _, rfl, .inl (SqL.of si.s), _, _, rfl, rfl, _, rfl, G, _, rfl, .inl (SqL.of si.g), _, _, rfl, rfl, ?_⟩
    refine ⟨_, rfl, p, c, 4, rfl, si.go.b, by decide, by decide, fun H6 nk g6 hk => ⟨_, rfl, by omega, by omega, for_range (n := nk) (fun i σ Hx => ∃ (M : Int) (X : Addr) (us : List V) (m : INet) (y7 y8 y9 y10 y11 y12 : Option V), σ = [some (.ref p), some (.ref q), some (.ref S), some (.ref G), some (.ref X), some (.ref O), some (.int M), y7, y8, y9, y10, y11, y12] ∧ SI H Hx p c S G X O us m ∧ Bd i n m) ⟨_, X, us, m, _, _, _, _, _, _, rfl, si.draw g6, bd⟩ ?_ ?_⟩⟩
    · rintro i σ Hx hi ⟨M, X, us, m, y7, y8, y9, y10, y11, y12, rfl, si, bd⟩
      refine ⟨_, rfl, p, c, 5, rfl, si.go.b, by decide, by decide, fun H7 kind g7 hk7 => ?_⟩
      have si := si.draw g7
      refine ⟨_, rfl, _, rfl, _, rfl, _, _, rfl, rfl, .inl ⟨by decide, by decide⟩, _, rfl, _, _, rfl, rfl, .inl ⟨by decide, by decide⟩, _, _, rfl, rfl, _, rfl, _, _, rfl, rfl, .inl ⟨by decide, by decide⟩, _, _, rfl, rfl, _, rfl, _, rfl, _, _, rfl, rfl, .inl ⟨by decide, by decide⟩, _, _, rfl, rfl, by show 6 ≤ sizeLine; decide, fun L nL => ?_⟩
      have oL := si.go.b.off nL
      have sj := fun (o : HO) => si.same (same_new (o := o) nL)
      refine ⟨p, c, L, _, rfl, (sj _).go.b, oL.1, oL.2, upd_same, by show 0 < 6; decide, by show 6 ≤ 1000; decide, fun H8 v g8 hv => ?_⟩
      obtain ⟨odd, rfl⟩ : ∃ z, v = V.int z := by
        simp only [List.mem_cons, List.not_mem_nil, or_false] at hv
        rcases hv with rfl | rfl | rfl | rfl | rfl | rfl <;> exact ⟨_, rfl⟩
      have si := (sj _).draw g8
      clear oL sj
      have b2 := bd.s
      have b3 := bd.g
      have b4 := bd.x
      have b5 := bd.o
      -- starts
      refine ⟨Md H p c q S G O n M kind odd i, ⟨_, rfl, rfl, _, rfl, ?_⟩, ?_⟩
      · cases decide (V.int (kind : Int) = V.int 0) with
        | false => exact iteF ⟨X, us, m, _, _, _, _, rfl, si, bd⟩
        | true =>
          refine iteT ⟨_, rfl, S, _, rfl, .inl (SqL.of si.s), _, _, rfl, rfl, _, rfl, ?_⟩
          rw [vi_len]
          by_cases h0 : 0 < m.starts.length
          · rw [decide_eq_true (show ((m.starts.length : Nat) : Int) > 0 by omega)]
            refine iteT ⟨_, rfl, _, rfl, by show 3 ≤ sizeLine; decide, fun L nL => ?_⟩
            have oL := si.go.b.off nL
            have sj := fun (o : HO) => si.same (same_new (o := o) nL)
            refine ⟨p, c, L, _, rfl, (sj _).go.b, oL.1, oL.2, upd_same, by show 0 < 3; decide, by show 3 ≤ 1000; decide, fun H9 v g9 hv => ?_⟩
            obtain ⟨z, rfl⟩ : ∃ z, v = V.int z := by
              simp only [List.mem_cons, List.not_mem_nil, or_false] at hv
              rcases hv with rfl | rfl | rfl <;> exact ⟨_, rfl⟩
            have si := (sj _).draw g9
            refine ⟨_, rfl, _, rfl, _, rfl, S, _, rfl, .inl (SqL.of si.s), p, c, m.starts.length, by rw [vi_len]; rfl, si.go.b, h0, by omega, fun Ha d ga hd => ?_⟩
            have si := si.draw ga
            refine ⟨S, _, _, d, rfl, rfl, si.s, ix_nat (by rw [vi_len]; exact hd), ?_⟩
            rw [vi_set]
            exact ⟨X, us, _, _, _, _, _, rfl, si.setS _, bd.e, by show (List.set _ _ _).length ≤ 3; rw [List.length_set]; exact b2, b3, b4, b5⟩
          · rw [decide_eq_false (show ¬ ((m.starts.length : Nat) : Int) > 0 by omega)]
            exact iteF ⟨X, us, m, _, _, _, _, rfl, si, bd⟩
      clear si bd b2 b3 b4 b5
      -- gates
      rintro σ Hx ⟨X, us, m, y7, y10, y11, y12, rfl, si, bd⟩
      have b2 := bd.s
      have b3 := bd.g
      have b4 := bd.x
      have b5 := bd.o
      refine ⟨Md H p c q S G O n M kind odd i, ⟨_, rfl, rfl, _, rfl, ?_⟩, ?_⟩
      · cases decide (V.int (kind : Int) = V.int 1) with
        | false => exact iteF ⟨X, us, m, _, _, _, _, rfl, si, bd⟩
        | true =>
          refine iteT ⟨_, rfl, G, _, rfl, .inl (SqL.of si.g), _, _, rfl, rfl, _, rfl, ?_⟩
          rw [si.gl.1]
          by_cases h0 : 0 < m.gates.length
          · rw [decide_eq_true (show ((m.gates.length : Nat) : Int) > 0 by omega)]
            refine iteT ⟨_, rfl, _, rfl, G, _, rfl, .inl (SqL.of si.g), p, c, m.gates.length, by rw [si.gl.1]; rfl, si.go.b, h0, by omega, fun Ha at_ ga hat => ?_⟩
            have si := si.draw ga
            refine ⟨_, rfl, q, _, 1, _, rfl, rfl, SqT.of (si.go.get q1 q2 qA), atI_nat (j := 1) rfl, _, _, rfl, rfl, _, rfl, S, _, rfl, .inl (SqL.of si.s), _, _, rfl, rfl, _, rfl, _, _, rfl, rfl, _, _, rfl, rfl, .inl ⟨by decide, by decide⟩, ?_⟩
            obtain ⟨v, hv, t, rfl, ht⟩ := si.gl.2 at_ _ (List.getElem?_eq_getElem hat)
            generalize (m.gates[at_]).1 = z1 at ht
            refine ⟨_, rfl, _, rfl, G, _, _, _, rfl, rfl, SqL.of si.g, atI_nat hv, t, _, 0, _, rfl, rfl, SqT.of ht, atI_nat (j := 0) rfl, ?_⟩
            refine ⟨_, rfl, _, rfl, _, rfl, _, _, rfl, rfl, _, rfl, _, _, rfl, rfl, _, rfl, _, rfl, by show 5 ≤ sizeLine; decide, fun L nL => ?_⟩
            have oL := si.go.b.off nL
            have sj := fun (o : HO) => si.same (same_new (o := o) nL)
            refine ⟨p, c, L, _, rfl, (sj _).go.b, oL.1, oL.2, upd_same, by show 0 < 5; decide, by show 5 ≤ 1000; decide, fun H9 v g9 hv => ?_⟩
            obtain ⟨z2, rfl⟩ : ∃ z, v = V.int z := by
              simp only [List.mem_cons, List.not_mem_nil, or_false] at hv
              rcases hv with rfl | rfl | rfl | rfl | rfl <;> exact ⟨_, rfl⟩
            have si := (sj _).draw g9
            refine ⟨by show 2 ≤ sizeLine; decide, fun P nP => ?_⟩
            have oP := si.go.b.off nP
            have si := si.same (same_new (o := .lst [.int z1, .int z2]) nP)
            have eP : (upd H9 P (.lst [.int z1, .int z2])) P = some (.lst [.int z1, .int z2]) := upd_same
            generalize (upd H9 P (.lst [.int z1, .int z2])) = Hb at si eP ⊢
            refine ⟨_, rfl, p, c, 2, rfl, si.go.b, by decide, by decide, fun Hc d gd hd => ⟨rfl, _, rfl, ?_⟩⟩
            have si := si.draw gd
            have eP := gd.get oP.1 oP.2 eP
            refine ifx (fun v Hy => ∃ g', GT Hy v g' ∧ SI H Hy p c S G X O us m) (fun _ Q hQ => ?_) (fun _ Q hQ => ?_) ?_
            · exact ⟨_, rfl, P, _, 0, _, rfl, rfl, SqL.of eP, atI_nat (j := 0) rfl, _, rfl, P, _, 1, _, rfl, rfl, SqL.of eP, atI_nat (j := 1) rfl, by show 2 ≤ sizeLine; decide, fun t nt => hQ _ _ ⟨(z1, z2), ⟨t, rfl, upd_same⟩, si.same (same_new nt)⟩⟩
            · exact ⟨_, rfl, P, _, 1, _, rfl, rfl, SqL.of eP, atI_nat (j := 1) rfl, _, rfl, P, _, 0, _, rfl, rfl, SqL.of eP, atI_nat (j := 0) rfl, by show 2 ≤ sizeLine; decide, fun t nt => hQ _ _ ⟨(z2, z1), ⟨t, rfl, upd_same⟩, si.same (same_new nt)⟩⟩
            · rintro v Hy ⟨g', hg', si⟩
              refine ⟨_, rfl, _, rfl, G, _, _, at_, rfl, rfl, si.g, ix_nat (by rw [si.gl.1]; exact hat), ?_⟩
              exact ⟨X, _, _, _, _, _, _, rfl, si.setG (si.gl.set hg' at_), bd.e, b2, by show (List.set _ _ _).length ≤ 8; rw [List.length_set]; exact b3, b4, b5⟩
          · rw [decide_eq_false (show ¬ ((m.gates.length : Nat) : Int) > 0 by omega)]
            exact iteF ⟨X, us, m, _, _, _, _, rfl, si, bd⟩
      clear si bd b2 b3 b4 b5
      -- nexts
      rintro σ Hx ⟨X, us, m, y7, y10, y11, y12, rfl, si, bd⟩
      have b2 := bd.s
      have b3 := bd.g
      have b4 := bd.x
      have b5 := bd.o
      refine ⟨Md H p c q S G O n M kind odd (i + 1), ⟨_, rfl, rfl, _, rfl, ?_⟩, ?_⟩
      · cases decide (V.int (kind : Int) = V.int 2) with
        | false => exact iteF ⟨X, us, m, _, _, _, _, rfl, si, bd.up⟩
        | true =>
          refine iteT ⟨_, rfl, _, rfl, by show 1 ≤ sizeLine; decide, fun Z nZ => ?_⟩
          have XZ : X ≠ Z := ne_of_none si.x nZ
          have si := si.same (same_new (o := .lst [.int 0]) nZ)
          have eZ : (upd Hx Z (.lst [.int 0])) Z = some (.lst [.int 0]) := upd_same
          generalize (upd Hx Z (.lst [.int 0])) = Ha at si eZ ⊢
          refine ⟨X, Z, _, _, rfl, rfl, si.x, eZ, by rw [vi_len]; exact Nat.le_of_lt (small1000 (by show m.nexts.length + 1 ≤ 1000; omega)), fun N1 nN1 => ?_⟩
          have d1 : N1 ≠ S ∧ N1 ≠ G ∧ N1 ≠ O := ⟨(ne_of_none si.s nN1).symm, (ne_of_none si.g nN1).symm, (ne_of_none si.o nN1).symm⟩
          have f1 := si.go.none nN1
          have si := si.same (same_new (o := .lst (vi m.nexts ++ [.int 0])) nN1)
          have e1 : (upd Ha N1 (.lst (vi m.nexts ++ [.int 0]))) N1 = some (.lst (vi m.nexts ++ [.int 0])) := upd_same
          generalize (upd Ha N1 (.lst (vi m.nexts ++ [.int 0]))) = Hb at si e1 ⊢
          obtain ⟨ys, ey, ly⟩ := cut_vi m.nexts none (some (-1))
          refine ⟨_, rfl, _, rfl, _, rfl, X, _, rfl, SqL.of si.x, fun N2 nN2 => ?_⟩
          rw [ey]
          have d2 : N2 ≠ S ∧ N2 ≠ G ∧ N2 ≠ O := ⟨(ne_of_none si.s nN2).symm, (ne_of_none si.g nN2).symm, (ne_of_none si.o nN2).symm⟩
          have f2 := si.go.none nN2
          have si := si.same (same_new (o := .lst (vi ys)) nN2)
          have e1 := same_new (o := .lst (vi ys)) nN2 _ _ e1
          have e2 : (upd Hb N2 (.lst (vi ys))) N2 = some (.lst (vi ys)) := upd_same
          generalize (upd Hb N2 (.lst (vi ys))) = Hc at si e1 e2 ⊢
          refine ⟨by show 2 ≤ sizeLine; decide, fun L nL => ?_⟩
          have oL := si.go.b.off nL
          have sj := si.same (same_new (o := .lst [.ref N1, .ref N2]) nL)
          have e1 := same_new (o := .lst [.ref N1, .ref N2]) nL _ _ e1
          have e2 := same_new (o := .lst [.ref N1, .ref N2]) nL _ _ e2
          refine ⟨p, c, L, _, rfl, sj.go.b, oL.1, oL.2, upd_same, by show 0 < 2; decide, by show 2 ≤ 1000; decide, fun H9 v g9 hv => ?_⟩
          have e1 := g9.get' d0 f1 e1
          have e2 := g9.get' d0 f2 e2
          have si := sj.draw g9
          simp only [List.mem_cons, List.not_mem_nil, or_false] at hv
          rcases hv with rfl | rfl
          · refine ⟨N1, us, _, _, _, _, _, rfl, si.newX (xs := m.nexts ++ [0]) f1 (by rw [e1]; unfold vi; rw [List.map_append]; rfl) d1.1 d1.2.1 d1.2.2, bd.e, b2, b3, ?_, b5⟩
            show (m.nexts ++ [0]).length ≤ 3 + (i + 1)
            rw [List.length_append]
            show m.nexts.length + 1 ≤ _
            omega
          · refine ⟨N2, us, _, _, _, _, _, rfl, si.newX (xs := ys) f2 e2 d2.1 d2.2.1 d2.2.2, bd.e, b2, b3, ?_, b5⟩
            show ys.length ≤ 3 + (i + 1)
            omega
      clear si bd b2 b3 b4 b5
      -- a next
      rintro σ Hx ⟨X, us, m, y7, y10, y11, y12, rfl, si, bd⟩
      have b2 := bd.s
      have b3 := bd.g
      have b4 := bd.x
      have b5 := bd.o
      refine ⟨Md H p c q S G O n M kind odd (i + 1), ⟨_, rfl, rfl, _, rfl, ?_⟩, ?_⟩
      · cases decide (V.int (kind : Int) = V.int 3) with
        | false => exact iteF ⟨X, us, m, _, _, _, _, rfl, si, bd⟩
        | true =>
          refine iteT ⟨_, rfl, X, _, rfl, .inl (SqL.of si.x), _, _, rfl, rfl, _, rfl, ?_⟩
          rw [vi_len]
          by_cases h0 : 0 < m.nexts.length
          · rw [decide_eq_true (show ((m.nexts.length : Nat) : Int) > 0 by omega)]
            refine iteT ⟨_, rfl, _, rfl, _, rfl, _, rfl, X, _, rfl, .inl (SqL.of si.x), p, c, m.nexts.length, by rw [vi_len]; rfl, si.go.b, h0, by omega, fun Ha d ga hd => ?_⟩
            have si := si.draw ga
            refine ⟨X, _, _, d, rfl, rfl, si.x, ix_nat (by rw [vi_len]; exact hd), ?_⟩
            rw [vi_set]
            exact ⟨X, us, _, _, _, _, _, rfl, si.setX _, bd.e, b2, b3, by show (List.set _ _ _).length ≤ 3 + (i + 1); rw [List.length_set]; exact b4, b5⟩
          · rw [decide_eq_false (show ¬ ((m.nexts.length : Nat) : Int) > 0 by omega)]
            exact iteF ⟨X, us, m, _, _, _, _, rfl, si, bd⟩
      clear si bd b2 b3 b4 b5
      -- an out
      rintro σ Hx ⟨X, us, m, y7, y10, y11, y12, rfl, si, bd⟩
      have b2 := bd.s
      have b3 := bd.g
      have b4 := bd.x
      have b5 := bd.o
      refine ⟨_, rfl, rfl, _, rfl, ?_⟩
      · cases decide (V.int (kind : Int) = V.int 4) with
        | false => exact iteF ⟨M, X, us, m, _, _, _, _, _, _, rfl, si, bd⟩
        | true =>
          refine iteT ⟨_, rfl, O, _, rfl, .inl (SqL.of si.o), _, _, rfl, rfl, _, rfl, ?_⟩
          rw [vi_len]
          by_cases h0 : 0 < m.outs.length
          · rw [decide_eq_true (show ((m.outs.length : Nat) : Int) > 0 by omega)]
            refine iteT ⟨_, rfl, _, rfl, _, rfl, _, rfl, O, _, rfl, .inl (SqL.of si.o), p, c, m.outs.length, by rw [vi_len]; rfl, si.go.b, h0, by omega, fun Ha d ga hd => ?_⟩
            have si := si.draw ga
            refine ⟨O, _, _, d, rfl, rfl, si.o, ix_nat (by rw [vi_len]; exact hd), ?_⟩
            rw [vi_set]
            exact ⟨M, X, us, _, _, _, _, _, _, _, rfl, si.setO _, bd.e, b2, b3, b4, by show (List.set _ _ _).length ≤ 3; rw [List.length_set]; exact b5⟩
          · rw [decide_eq_false (show ¬ ((m.outs.length : Nat) : Int) > 0 by omega)]
            exact iteF ⟨M, X, us, m, _, _, _, _, _, _, rfl, si, bd⟩
    · rintro σ Hx ⟨M, X, us, m, y7, y8, y9, y10, y11, y12, rfl, si, bd⟩
      refine ⟨_, rfl, q, _, 1, _, rfl, rfl, SqT.of (si.go.get q1 q2 qA), atI_nat (j := 1) rfl, _, rfl, _, rfl, _, rfl, _, rfl, by show 6 ≤ sizeLine; decide, fun r nr => ?_⟩
      have si := si.same (same_new (o := .tup [.str "net", .int (n.ins : Nat), .ref S, .ref G, .ref X, .ref O]) nr)
      have b2 := bd.s
      have b3 := bd.g
      have b4 := bd.x
      have b5 := bd.o
      have b6 := ok.ins
      refine fin _ r S G X O m si.go ⟨by rw [upd_same, bd.e], si.s, ⟨us, si.g, si.gl.dvs⟩, si.x, si.o⟩ ⟨by omega, by omega, by omega, by omega, by rw [bd.e]; omega⟩

end K31
namespace K31
open PySem PySem.Spec PyProof.Rows L2 V0
def sp_law (K : PySem.W.Frag) : Sp := fun vs H Q _ => ∃ (a : Addr) (ns : List Int), vs = [.ref a] ∧ SqL K H a (vi ns) ∧ ns.length ≤ 63 ∧ ∀ H', Q (.bl true) H'
theorem ok_law {P : Program} {w : World} {K : PySem.W.Frag} {mg : Str → Option Value} {base : Heap} {C_KindError fI_KindError : Addr} {fd_KindError : FuncData} {B_ : Addr} {mc_ : Value} {f f_law_state f_law_spoilt f_law_net fcheck f_law_fault : Addr} {fd fd_law_state fd_law_spoilt fd_law_net fdcheck fd_law_fault : FuncData} (F : Fun K "law" "law" s_law f fd) (T : Txt K mg C_KindError fI_KindError fd_KindError B_ mc_)
    (G__law_state : FnOk P w K mg base CX0 1 f_law_state fd_law_state ["script"] (sp__law_state K)) (D__law_state : Def K mg "_law_state" f_law_state fd_law_state ["script"])
    (G__law_spoilt : FnOk P w K mg base CX0 3 f_law_spoilt fd_law_spoilt ["state", "net"] (sp__law_spoilt K)) (D__law_spoilt : Def K mg "_law_spoilt" f_law_spoilt fd_law_spoilt ["state", "net"])
    (G__law_net : FnOk P w K mg base CX0 3 f_law_net fd_law_net ["state", "ins", "flops", "most"] (sp__law_net K)) (D__law_net : Def K mg "_law_net" f_law_net fd_law_net ["state", "ins", "flops", "most"])
    (G_check : FnOk P w K mg base (L2N.CX P w) 4 fcheck fdcheck ["net"] (sp_check K C_KindError)) (D_check : Def K mg "check" fcheck fdcheck ["net"])
    (G__law_fault : FnOk P w K mg base CX0 1 f_law_fault fd_law_fault ["net"] (sp__law_fault K)) (D__law_fault : Def K mg "_law_fault" f_law_fault fd_law_fault ["net"])
    (GH__law_fault : L2H.FnH P w K mg base CX0 1 f_law_fault fd_law_fault ["net"] (sp__law_fault K)) :
    FnOk P w K mg base CX0 5 f fd ["script"] (sp_law K) := by
  refine F.ok sclaw (fun vs H Q E h => ?_) (fun cdv A outer s H vs Q E hr h => ?_)
  · obtain ⟨a, ns, rfl, _⟩ := h
    rfl
  · obtain ⟨a, ns, rfl, hS, hl, q⟩ := h
    refine ⟨_, (pss_cons (ps_set (i := 1) sclaw.nd rfl (.inl rfl) (pe_call G__law_state (hr.mono (by omega)) (by rfl) D__law_state.m D__law_state.k D__law_state.b .nil pass0 (pa_cons (pv 0) pa_nil)))
      (pss_cons (ps_set (i := 2) sclaw.nd rfl (.inl rfl) (pe_call G__law_spoilt (hr.mono (by omega)) (by rfl) D__law_spoilt.m D__law_spoilt.k D__law_spoilt.b .nil pass0 (pa_cons (pv 1) (pa_cons (pe_call G__law_net (hr.mono (by omega)) (by rfl) D__law_net.m D__law_net.k D__law_net.b .nil pass0 (pa_cons (pv 1) (pa_cons pe_int (pa_cons pe_int (pa_cons pe_int pa_nil))))) pa_nil))))
      (pss_cons (L2N.ps_try_as (i := 4) (n := "e") (c := .ref C_KindError) (Wout := fun _ _ _ _ => False) rfl rfl sclaw.nd rfl rfl ⟨rfl, by decide, .inl T.x_KindError.m⟩ takes0N (fun W pn xe tk _ => (pss_one (ps_set (i := 3) sclaw.nd rfl (.inl rfl) (by exact (pe_callS G_check (hr.mono (by omega)) (by rfl) D_check.m D_check.k D_check.b (fun σ => L2N.passAt tk σ) (by exact (pa_cons (pv 2) pa_nil))))))) (fun a oe cls d pn hz hf => (pss_one (ps_ret (pe_and (pe_callB (call_isEx T.i_KindError hz.zc hf) (by rfl) T.m_isinstance (by decide +kernel) (pa_cons (pv 4) (pa_cons (pe_glob (v := .ref B_) rfl T.xb.m rfl) pa_nil))) (pe_and (pe_callB (call_isEx T.i_KindError hz.zc hf) (by rfl) T.m_isinstance (by decide +kernel) (pa_cons (pv 4) (pa_cons (pe_bltn (v := .ty "ValueError") (u := .type "ValueError") (by rfl) T.m_ValueError (by decide +kernel) rfl) pa_nil))) (pe_one (pe_cmpR op_eq (pe_xf T.x_KindError.xf T.x_KindError.no hz.zc hf (pv 4)) (L2H.pe_callH (E := fun _ => E0) GH__law_fault (L2H.roomH_mark (hr.mono (by omega)) _) (hot_suite hz hf) (by rfl) D__law_fault.m D__law_fault.k D__law_fault.b (fun _ _ _ _ _ _ _ h => h.elim) (pa_cons (pv 2) pa_nil)) (nomark _)))))))))
      (pss_one (ps_ret (pe_and (pe_cmpR op_isN (pv 3) pe_non (nomark _)) (pe_one (pe_cmpR op_isN (pe_call G__law_fault (hr.mono (by omega)) (by rfl) D__law_fault.m D__law_fault.k D__law_fault.b .nil pass0 (pa_cons (pv 2) pa_nil)) pe_non (nomark _))))))))), ?_⟩
    refine ⟨_, rfl, a, ns, rfl, hS, hl, fun H1 p c s1 d1 => ?_⟩
    refine ⟨_, rfl, _, rfl, p, c, 3, 3, 8, rfl, d1, by decide, by decide, by decide, fun H2 q2 n g2 nq hn ok => ?_⟩
    refine ⟨p, c, q2, n, rfl, g2.b, hn, ok, fun H3 r s g x o m g3 im sh => ?_⟩
    refine ⟨_, rfl, r, s, g, x, o, m, rfl, im, sh, fun hf H' s' => ?_, fun z hf d H' s' e => ⟨true, T.x_KindError.exm T.x_KindError.sf, fun _ b nb => ?_, fun h => by cases h⟩⟩
    · refine ⟨_, rfl, rfl, _, rfl, iteT ⟨_, rfl, r, s, g, x, o, m, rfl, im.same s', sh, fun H'' s'' => ?_⟩⟩
      rw [hf]
      exact ⟨rfl, q _⟩
    · refine ⟨_, rfl, _, _, true, d, _, rfl, .own B_, rfl, rfl, e, kit_cls_yes T.bc T.bt T.sb_KindError, _, rfl, iteT ?_⟩
      refine ⟨_, rfl, _, _, true, d, _, rfl, .ty "ValueError", rfl, rfl, e, kit_cls_ty (by decide +kernel) T.sv_KindError, _, rfl, iteT ?_⟩
      refine ⟨_, rfl, rfl, rfl, d, _, .str z, rfl, e, by rfl, _, rfl, r, s, g, x, o, m, rfl, im.same s', sh, fun H'' s'' => ?_⟩
      rw [hf]
      refine ⟨rfl, ?_⟩
      rw [show decide (V.str z = ov (some z)) = true from decide_eq_true rfl]
      exact q _
end K31
namespace K31
open PySem PySem.Spec PyProof.Rows L2 V0
theorem all_mk {l : PySem.W.OpenLaw} {w : World} {K : PySem.W.Frag} {h : Heap} {mg : Str → Option Value} {fa f1 f2 f3 f4 f5 f6 f7 f8 f9 f10 f11 : Addr} {C_KindError fI_KindError : Addr} {B_ : Addr} (X : K.In h) (G : h.Ns mainGlobals mg) (hfa : mg "law" = some (.ref fa))
    {od_KindError an_KindError : Option Addr} {sl_KindError : Array (Option Value)} {oc_KindError kV_KindError dc_KindError pm_KindError cd_KindError ct_KindError : Value}
    {nm_KindError qn_KindError : Str} {N_KindError : Addr} {bs_KindError bm_KindError su_KindError : List Value} {sn_KindError : List Str} {ab_KindError : Bool} {co_KindError : Option Bool} {dd_KindError : Option Addr} {ka_KindError kb_KindError kc_KindError kd_KindError ke_KindError : Option Value}
    {od1 an1 od2 an2 od3 an3 od4 an4 od5 an5 od6 an6 od7 an7 od8 an8 od9 an9 od10 an10 od11 an11 : Option Addr} {sl1 sl2 sl3 sl4 sl5 sl6 sl7 sl8 sl9 sl10 sl11 : Array (Option Value)} {oc1 kV1 dc1 pm1 cd1 ct1 oc2 kV2 dc2 pm2 cd2 ct2 oc3 kV3 dc3 pm3 cd3 ct3 oc4 kV4 dc4 pm4 cd4 ct4 oc5 kV5 dc5 pm5 cd5 ct5 oc6 kV6 dc6 pm6 cd6 ct6 oc7 kV7 dc7 pm7 cd7 ct7 oc8 kV8 dc8 pm8 cd8 ct8 oc9 kV9 dc9 pm9 cd9 ct9 oc10 kV10 dc10 pm10 cd10 ct10 oc11 kV11 dc11 pm11 cd11 ct11 : Value}
    (aB_ : PySem.W.nsIn K mainGlobals "ClothError" = some (some (.ref B_))) (gB_ : PySem.W.specialIn K (.ref B_) "__getattribute__" = some (some (.builtin "type.__getattribute__"))) (rB_ : PySem.W.readsIn K B_ (.type "type") = true) (vB_ : PySem.W.findCls K (.ref B_) (.type "type") "__init__" = some (.val (.builtin "ValueError.__init__"))) (qB_ : PySem.W.isClsIn K B_ = true) (yB_ : PySem.W.typeIn K (.ref B_) = some (.type "type"))
    (m_KindError : PySem.W.nsIn K mainGlobals "KindError" = some (some (.ref C_KindError))) (o_KindError : K.lookup C_KindError = some (excClassObj nm_KindError qn_KindError C_KindError N_KindError bs_KindError bm_KindError true sn_KindError su_KindError ab_KindError co_KindError dd_KindError ka_KindError kb_KindError kc_KindError kd_KindError ke_KindError "ValueError.__new__")) (v_KindError : PySem.HandSPX.refsVE bm_KindError = true)
    (i_KindError : PySem.W.findIn K (.ref C_KindError) "__init__" = some (some (.ref fI_KindError))) (l_KindError : K.lookup fI_KindError = some ⟨oc_KindError, od_KindError, .func (PySem.W.fnOf "__init__" "KindError.__init__" (defArgs s_XKindError) (defBody s_XKindError) (defScope s_XKindError) .none kV_KindError dc_KindError pm_KindError an_KindError cd_KindError ct_KindError), sl_KindError⟩) (c_KindError : PySem.W.codeIn K cd_KindError "KindError.__init__" = true) (k_KindError : PySem.W.keepIn K (.ref fI_KindError) = true) (t_KindError : PySem.W.typeIn K (.ref fI_KindError) = some (.type "function"))
    (s_KindError : PySem.W.findIn K (.ref C_KindError) "__setattr__" = some (some (.builtin "object.__setattr__"))) (e_KindError : PySem.W.subIn K (.ref C_KindError) (.type "BaseException") = some true) (y_KindError : PySem.W.typeIn K (.ref C_KindError) = some (.type "type")) (p_KindError : PySem.W.keepIn K (.ref C_KindError) = true) (n_KindError : PySem.W.findIn K (.ref C_KindError) "place" = some none)
    (u_KindError : PySem.W.findIn K (.ref C_KindError) "__getattribute__" = some (some (.builtin "BaseException.__getattribute__"))) (w_KindError : PySem.W.findIn K (.ref C_KindError) "__getattr__" = some none) (d_KindError : PySem.W.hasDictIn K C_KindError = true) (q_KindError : PySem.W.isClsIn K C_KindError = true) (xx_KindError : PySem.W.subIn K (.ref C_KindError) (.ref C_KindError) = some true) (sb_KindError : PySem.W.subIn K (.ref C_KindError) (.ref B_) = some true) (sv_KindError : PySem.W.subIn K (.ref C_KindError) (.type "ValueError") = some true)
    (ca_KindError : PySem.W.findIn K (.ref C_KindError) "__class__" = some (some (.builtin "object.__class__"))) (ch_KindError : PySem.W.mroIn K C_KindError (.type "object") = some true)
    (cn_ : PySem.W.specialIn K (.builtin "object.__class__") "__get__" = some (some (.builtin "getset_descriptor.__get__"))) (ct_ : PySem.W.takesIn K (.builtin "object.__class__") = some true)
    (a1 : PySem.W.nsIn K mainGlobals "_law_state" = some (some (.ref f1))) (l1 : K.lookup f1 = some ⟨oc1, od1, .func (PySem.W.fnOf "_law_state" "_law_state" (defArgs s__law_state) (defBody s__law_state) (defScope s__law_state) .none kV1 dc1 pm1 an1 cd1 ct1), sl1⟩) (c1 : PySem.W.codeIn K cd1 "_law_state" = true) (k1 : PySem.W.keepIn K (.ref f1) = true)
    (a2 : PySem.W.nsIn K mainGlobals "_law_draw" = some (some (.ref f2))) (l2 : K.lookup f2 = some ⟨oc2, od2, .func (PySem.W.fnOf "_law_draw" "_law_draw" (defArgs s__law_draw) (defBody s__law_draw) (defScope s__law_draw) .none kV2 dc2 pm2 an2 cd2 ct2), sl2⟩) (c2 : PySem.W.codeIn K cd2 "_law_draw" = true) (k2 : PySem.W.keepIn K (.ref f2) = true)
    (a3 : PySem.W.nsIn K mainGlobals "_law_pick" = some (some (.ref f3))) (l3 : K.lookup f3 = some ⟨oc3, od3, .func (PySem.W.fnOf "_law_pick" "_law_pick" (defArgs s__law_pick) (defBody s__law_pick) (defScope s__law_pick) .none kV3 dc3 pm3 an3 cd3 ct3), sl3⟩) (c3 : PySem.W.codeIn K cd3 "_law_pick" = true) (k3 : PySem.W.keepIn K (.ref f3) = true)
    (a4 : PySem.W.nsIn K mainGlobals "_law_spoilt" = some (some (.ref f4))) (l4 : K.lookup f4 = some ⟨oc4, od4, .func (PySem.W.fnOf "_law_spoilt" "_law_spoilt" (defArgs s__law_spoilt) (defBody s__law_spoilt) (defScope s__law_spoilt) .none kV4 dc4 pm4 an4 cd4 ct4), sl4⟩) (c4 : PySem.W.codeIn K cd4 "_law_spoilt" = true) (k4 : PySem.W.keepIn K (.ref f4) = true)
    (a5 : PySem.W.nsIn K mainGlobals "_law_net" = some (some (.ref f5))) (l5 : K.lookup f5 = some ⟨oc5, od5, .func (PySem.W.fnOf "_law_net" "_law_net" (defArgs s__law_net) (defBody s__law_net) (defScope s__law_net) .none kV5 dc5 pm5 an5 cd5 ct5), sl5⟩) (c5 : PySem.W.codeIn K cd5 "_law_net" = true) (k5 : PySem.W.keepIn K (.ref f5) = true)
    (a6 : PySem.W.nsIn K mainGlobals "base_of" = some (some (.ref f6))) (l6 : K.lookup f6 = some ⟨oc6, od6, .func (PySem.W.fnOf "base_of" "base_of" (defArgs s_base_of) (defBody s_base_of) (defScope s_base_of) .none kV6 dc6 pm6 an6 cd6 ct6), sl6⟩) (c6 : PySem.W.codeIn K cd6 "base_of" = true) (k6 : PySem.W.keepIn K (.ref f6) = true)
    (a7 : PySem.W.nsIn K mainGlobals "many_nodes" = some (some (.ref f7))) (l7 : K.lookup f7 = some ⟨oc7, od7, .func (PySem.W.fnOf "many_nodes" "many_nodes" (defArgs s_many_nodes) (defBody s_many_nodes) (defScope s_many_nodes) .none kV7 dc7 pm7 an7 cd7 ct7), sl7⟩) (c7 : PySem.W.codeIn K cd7 "many_nodes" = true) (k7 : PySem.W.keepIn K (.ref f7) = true)
    (a8 : PySem.W.nsIn K mainGlobals "fault_of" = some (some (.ref f8))) (l8 : K.lookup f8 = some ⟨oc8, od8, .func (PySem.W.fnOf "fault_of" "fault_of" (defArgs s_fault_of) (defBody s_fault_of) (defScope s_fault_of) .none kV8 dc8 pm8 an8 cd8 ct8), sl8⟩) (c8 : PySem.W.codeIn K cd8 "fault_of" = true) (k8 : PySem.W.keepIn K (.ref f8) = true)
    (a9 : PySem.W.nsIn K mainGlobals "check" = some (some (.ref f9))) (l9 : K.lookup f9 = some ⟨oc9, od9, .func (PySem.W.fnOf "check" "check" (defArgs s_check) (defBody s_check) (defScope s_check) .none kV9 dc9 pm9 an9 cd9 ct9), sl9⟩) (c9 : PySem.W.codeIn K cd9 "check" = true) (k9 : PySem.W.keepIn K (.ref f9) = true)
    (a10 : PySem.W.nsIn K mainGlobals "_law_fault" = some (some (.ref f10))) (l10 : K.lookup f10 = some ⟨oc10, od10, .func (PySem.W.fnOf "_law_fault" "_law_fault" (defArgs s__law_fault) (defBody s__law_fault) (defScope s__law_fault) .none kV10 dc10 pm10 an10 cd10 ct10), sl10⟩) (c10 : PySem.W.codeIn K cd10 "_law_fault" = true) (k10 : PySem.W.keepIn K (.ref f10) = true)
    (a11 : PySem.W.nsIn K mainGlobals "law" = some (some (.ref f11))) (l11 : K.lookup f11 = some ⟨oc11, od11, .func (PySem.W.fnOf "law" "law" (defArgs s_law) (defBody s_law) (defScope s_law) .none kV11 dc11 pm11 an11 cd11 ct11), sl11⟩) (c11 : PySem.W.codeIn K cd11 "law" = true) (k11 : PySem.W.keepIn K (.ref f11) = true)
    (z_ValueError : PySem.W.nsIn K mainGlobals "ValueError" = some none)
    (z_abs : PySem.W.nsIn K mainGlobals "abs" = some none)
    (z_any : PySem.W.nsIn K mainGlobals "any" = some none)
    (z_enumerate : PySem.W.nsIn K mainGlobals "enumerate" = some none)
    (z_int : PySem.W.nsIn K mainGlobals "int" = some none)
    (z_isinstance : PySem.W.nsIn K mainGlobals "isinstance" = some none)
    (z_len : PySem.W.nsIn K mainGlobals "len" = some none)
    (z_list : PySem.W.nsIn K mainGlobals "list" = some none)
    (z_max : PySem.W.nsIn K mainGlobals "max" = some none)
    (z_range : PySem.W.nsIn K mainGlobals "range" = some none)
    (z_str : PySem.W.nsIn K mainGlobals "str" = some none) :
    ∃ fd : FuncData, (∀ (s : Shared) (v : Value), BindsTo s fd ⟨[v], []⟩ [("script", v)]) ∧ ∀ base : Heap, K.In base → base.Ns mainGlobals mg → FnOk l.prog w K mg base CX0 5 fa fd ["script"] (sp_law K) := by
  have e := hfa.symm.trans (PySem.W.mg_of X G a11)
  cases e
  have FX_KindError := fun_mk (st := s_XKindError) l_KindError c_KindError k_KindError
  have XX_KindError : Exc K mg "KindError" C_KindError fI_KindError _ "place" := ⟨PySem.W.mg_of X G m_KindError, ⟨⟨nm_KindError, qn_KindError, N_KindError, bs_KindError, bm_KindError, sn_KindError, su_KindError, ab_KindError, co_KindError, dd_KindError, ka_KindError, kb_KindError, kc_KindError, kd_KindError, ke_KindError, o_KindError, v_KindError⟩, s_KindError, e_KindError, y_KindError, p_KindError⟩, i_KindError, t_KindError, FX_KindError.binds (ps := ["self", "place"]) fun _ _ _ _ _ _ us hl => match us, hl with | [_, _], _ => rfl, n_KindError, ⟨u_KindError, w_KindError, e_KindError, d_KindError⟩, q_KindError, xx_KindError⟩
  have T : Txt K mg C_KindError fI_KindError _ B_ (.type "type") := ⟨⟨PySem.W.mg_of X G aB_, gB_, rB_, vB_⟩, qB_, yB_, XX_KindError, ⟨⟨u_KindError, w_KindError, e_KindError, d_KindError⟩, q_KindError, ca_KindError, cn_, ct_, ch_KindError⟩, sb_KindError, sv_KindError, PySem.W.mg_none_of X G z_ValueError, PySem.W.mg_none_of X G z_abs, PySem.W.mg_none_of X G z_any, PySem.W.mg_none_of X G z_enumerate, PySem.W.mg_none_of X G z_int, PySem.W.mg_none_of X G z_isinstance, PySem.W.mg_none_of X G z_len, PySem.W.mg_none_of X G z_list, PySem.W.mg_none_of X G z_max, PySem.W.mg_none_of X G z_range, PySem.W.mg_none_of X G z_str⟩
  have F1 := fun_mk (st := s__law_state) l1 c1 k1
  have D1 : Def K mg "_law_state" f1 _ ["script"] := ⟨PySem.W.mg_of X G a1, F1.kp, F1.binds (ps := ["script"]) fun _ _ _ _ _ _ us hl => match us, hl with | [_], _ => rfl⟩
  have F2 := fun_mk (st := s__law_draw) l2 c2 k2
  have D2 : Def K mg "_law_draw" f2 _ ["state", "many"] := ⟨PySem.W.mg_of X G a2, F2.kp, F2.binds (ps := ["state", "many"]) fun _ _ _ _ _ _ us hl => match us, hl with | [_, _], _ => rfl⟩
  have F3 := fun_mk (st := s__law_pick) l3 c3 k3
  have D3 : Def K mg "_law_pick" f3 _ ["state", "row"] := ⟨PySem.W.mg_of X G a3, F3.kp, F3.binds (ps := ["state", "row"]) fun _ _ _ _ _ _ us hl => match us, hl with | [_, _], _ => rfl⟩
  have F4 := fun_mk (st := s__law_spoilt) l4 c4 k4
  have D4 : Def K mg "_law_spoilt" f4 _ ["state", "net"] := ⟨PySem.W.mg_of X G a4, F4.kp, F4.binds (ps := ["state", "net"]) fun _ _ _ _ _ _ us hl => match us, hl with | [_, _], _ => rfl⟩
  have F5 := fun_mk (st := s__law_net) l5 c5 k5
  have D5 : Def K mg "_law_net" f5 _ ["state", "ins", "flops", "most"] := ⟨PySem.W.mg_of X G a5, F5.kp, F5.binds (ps := ["state", "ins", "flops", "most"]) fun _ _ _ _ _ _ us hl => match us, hl with | [_, _, _, _], _ => rfl⟩
  have F6 := fun_mk (st := s_base_of) l6 c6 k6
  have D6 : Def K mg "base_of" f6 _ ["net"] := ⟨PySem.W.mg_of X G a6, F6.kp, F6.binds (ps := ["net"]) fun _ _ _ _ _ _ us hl => match us, hl with | [_], _ => rfl⟩
  have F7 := fun_mk (st := s_many_nodes) l7 c7 k7
  have D7 : Def K mg "many_nodes" f7 _ ["net"] := ⟨PySem.W.mg_of X G a7, F7.kp, F7.binds (ps := ["net"]) fun _ _ _ _ _ _ us hl => match us, hl with | [_], _ => rfl⟩
  have F8 := fun_mk (st := s_fault_of) l8 c8 k8
  have D8 : Def K mg "fault_of" f8 _ ["net"] := ⟨PySem.W.mg_of X G a8, F8.kp, F8.binds (ps := ["net"]) fun _ _ _ _ _ _ us hl => match us, hl with | [_], _ => rfl⟩
  have F9 := fun_mk (st := s_check) l9 c9 k9
  have D9 : Def K mg "check" f9 _ ["net"] := ⟨PySem.W.mg_of X G a9, F9.kp, F9.binds (ps := ["net"]) fun _ _ _ _ _ _ us hl => match us, hl with | [_], _ => rfl⟩
  have F10 := fun_mk (st := s__law_fault) l10 c10 k10
  have D10 : Def K mg "_law_fault" f10 _ ["net"] := ⟨PySem.W.mg_of X G a10, F10.kp, F10.binds (ps := ["net"]) fun _ _ _ _ _ _ us hl => match us, hl with | [_], _ => rfl⟩
  have F11 := fun_mk (st := s_law) l11 c11 k11
  refine ⟨PySem.W.fnOf "law" "law" (defArgs s_law) (defBody s_law) (defScope s_law) .none kV11 dc11 pm11 an11 cd11 ct11, fun s v => .of_eq rfl, fun base _ _ => ?_⟩
  have GX_KindError : FnOk l.prog w K mg base CX0 1 fI_KindError _ ["self", "place"] (spExc K "place") := ok_XKindError FX_KindError T
  have G1 : FnOk l.prog w K mg base CX0 1 f1 _ ["script"] (sp__law_state K) := ok__law_state F1 T 
  have G2 : FnOk l.prog w K mg base CX0 1 f2 _ ["state", "many"] (sp__law_draw K) := ok__law_draw F2 T 
  have G3 : FnOk l.prog w K mg base CX0 2 f3 _ ["state", "row"] (sp__law_pick K) := ok__law_pick F3 T G2 D2
  have G4 : FnOk l.prog w K mg base CX0 3 f4 _ ["state", "net"] (sp__law_spoilt K) := ok__law_spoilt F4 T G2 D2 G3 D3
  have G5 : FnOk l.prog w K mg base CX0 3 f5 _ ["state", "ins", "flops", "most"] (sp__law_net K) := ok__law_net F5 T G2 D2 G3 D3
  have G6 : FnOk l.prog w K mg base CX0 1 f6 _ ["net"] (sp_base_of K) := ok_base_of F6 T 
  have G7 : FnOk l.prog w K mg base CX0 2 f7 _ ["net"] (sp_many_nodes K) := ok_many_nodes F7 T G6 D6
  have G8 : FnOk l.prog w K mg base CX0 3 f8 _ ["net"] (sp_fault_of K) := ok_fault_of F8 T G6 D6 G7 D7
  have G9 : FnOk l.prog w K mg base (L2N.CX l.prog w) 4 f9 _ ["net"] (sp_check K C_KindError) := ok_check F9 T G8 D8 GX_KindError
  have G10 : FnOk l.prog w K mg base CX0 1 f10 _ ["net"] (sp__law_fault K) := ok__law_fault F10 T 
  have GH10 : L2H.FnH l.prog w K mg base CX0 1 f10 _ ["net"] (sp__law_fault K) := okH__law_fault F10 T 
  exact ok_law F11 T G1 D1 G4 D4 G5 D5 G9 D9 G10 D10 GH10
end K31
open PySem PySem.W PyProof.Rows
set_option maxHeartbeats 0 in
theorem PySem.Challenge.cw_cellcloth_k31_faults_of_nets_holds : PySem.Challenge.rw_cellcloth_k31_faults_of_nets.Holds := by
  w_on; o_law; k_head; (case hw => w_witness2)
  k_fill
  refine L2.walk_of (l := PySem.Challenge.rw_cellcloth_k31_faults_of_nets) (n := 63) (k := 5) (x := "script") (CX := fun _ => L2.CX0) (sp := fun w => K31.sp_law _) rfl (by decide) rfl ⟨rfl, by decide, by decide⟩ (fun w h Y => PySem.W.kIn_of Y) ?F (fun _ _ a ns hl _ hS => ⟨a, ns, rfl, hS, hl, fun _ => rfl⟩) (fun _ _ _ _ _ h => h)
  case F =>
    intro w mg fa h KX G hmg
    refine' K31.all_mk KX G hmg ?aB_ ?gB_ ?rB_ ?vB_ ?qB_ ?yB_ ?m_KindError ?o_KindError ?v_KindError ?i_KindError ?l_KindError ?c_KindError ?k_KindError ?t_KindError ?s_KindError ?e_KindError ?y_KindError ?p_KindError ?n_KindError ?u_KindError ?w_KindError ?d_KindError ?q_KindError ?xx_KindError ?sb_KindError ?sv_KindError ?ca_KindError ?ch_KindError ?cn_ ?ct_ ?a1 ?l1 ?c1 ?k1 ?a2 ?l2 ?c2 ?k2 ?a3 ?l3 ?c3 ?k3 ?a4 ?l4 ?c4 ?k4 ?a5 ?l5 ?c5 ?k5 ?a6 ?l6 ?c6 ?k6 ?a7 ?l7 ?c7 ?k7 ?a8 ?l8 ?c8 ?k8 ?a9 ?l9 ?c9 ?k9 ?a10 ?l10 ?c10 ?k10 ?a11 ?l11 ?c11 ?k11 ?z_ValueError ?z_abs ?z_any ?z_enumerate ?z_int ?z_isinstance ?z_len ?z_list ?z_max ?z_range ?z_str
    (case aB_ => k_is)
    (case gB_ => k_is)
    (case rB_ => k_is)
    (case vB_ => k_is)
    (case qB_ => k_is)
    (case yB_ => k_is)
    (case m_KindError => k_is)
    (case o_KindError => k_is)
    (case v_KindError => exact rfl)
    (case i_KindError => k_is)
    (case l_KindError => k_is)
    (case c_KindError => k_is)
    (case k_KindError => k_is)
    (case t_KindError => k_is)
    (case s_KindError => k_is)
    (case e_KindError => k_is)
    (case y_KindError => k_is)
    (case p_KindError => k_is)
    (case n_KindError => k_is)
    (case u_KindError => k_is)
    (case w_KindError => k_is)
    (case d_KindError => k_is)
    (case q_KindError => k_is)
    (case xx_KindError => k_is)
    (case sb_KindError => k_is)
    (case sv_KindError => k_is)
    (case ca_KindError => k_is)
    (case ch_KindError => k_is)
    (case cn_ => k_is)
    (case ct_ => k_is)
    (case a1 => k_is)
    (case l1 => k_is)
    (case c1 => k_is)
    (case k1 => k_is)
    (case a2 => k_is)
    (case l2 => k_is)
    (case c2 => k_is)
    (case k2 => k_is)
    (case a3 => k_is)
    (case l3 => k_is)
    (case c3 => k_is)
    (case k3 => k_is)
    (case a4 => k_is)
    (case l4 => k_is)
    (case c4 => k_is)
    (case k4 => k_is)
    (case a5 => k_is)
    (case l5 => k_is)
    (case c5 => k_is)
    (case k5 => k_is)
    (case a6 => k_is)
    (case l6 => k_is)
    (case c6 => k_is)
    (case k6 => k_is)
    (case a7 => k_is)
    (case l7 => k_is)
    (case c7 => k_is)
    (case k7 => k_is)
    (case a8 => k_is)
    (case l8 => k_is)
    (case c8 => k_is)
    (case k8 => k_is)
    (case a9 => k_is)
    (case l9 => k_is)
    (case c9 => k_is)
    (case k9 => k_is)
    (case a10 => k_is)
    (case l10 => k_is)
    (case c10 => k_is)
    (case k10 => k_is)
    (case a11 => k_is)
    (case l11 => k_is)
    (case c11 => k_is)
    (case k11 => k_is)
    (case z_ValueError => k_is)
    (case z_abs => k_is)
    (case z_any => k_is)
    (case z_enumerate => k_is)
    (case z_int => k_is)
    (case z_isinstance => k_is)
    (case z_len => k_is)
    (case z_list => k_is)
    (case z_max => k_is)
    (case z_range => k_is)
    (case z_str => k_is)
